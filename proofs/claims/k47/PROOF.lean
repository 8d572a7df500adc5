import PyProof.Rows.All
import Wide.All
import OpenK.AllK
import Wide.FinOn
import Lean
import PyProof.EqAt
import PyProof.EqKinds
import PyProof.TupleCall
import PySem.Str
import PyProof.ZipIter
import PyProof.IsiBase
import KE.KItemsList
import KE.KIsAll
import OpenK.KOwn
import KE.KSortAsk
import PyProof.StrBlockI
import PyProof.Rows.EqDataRows
import PyProof.Rows.InDataRows
import PyProof.SumWalkG
import PyProof.ConsumeWalk
import PyProof.WalksMore
import KE.KSortTup
import PyProof.ListMulRoad
import PyProof.EnumFor
import PyProof.Rows.EnumRows
import PyProof.StrBlockL
import PyProof.JoinWalk
import PyProof.NsDelKeeps
import KE.KTryDeep
import PyProof.InstStoreFacts
import PyProof.NsCount
import PyProof.ExcClass2
import PyProof.Rows.FStr
import PyProof.StationsW
import PyProof.Rows.Catch
import KE.KRevIter
import PyProof.CollectIter
import PyProof.TupleOfGen
import PyProof.Rows.Tup
import PyProof.Draws
import PyProof.EnumMake
import PyProof.StrWalks
import PyProof.SliceStr2
import PyProof.ListNew
import KE.KDictOf
import PyProof.ListRange
import PyProof.Rows.GenSrcRange
import PyProof.ListCopy
import PyProof.AttrMissHeap
import PyProof.DictWalks
import PyProof.FactsDict
import KE.KSortKey
import PyProof.TableCode
import PyProof.Rows.KernelRfl
import PySem.Challenge.RW_barsplit_k47_whole_parted_or_stuck
open PySem.Challenge renaming rw_barsplit_k47_whole_parted_or_stuck → zcI
open List renaming getElem?_cons_zero → zcJ, getElem?_cons_succ → zcK, range → zcP, set_cons_zero → zcQ, set_cons_succ → zcR, replicate → zcS, length_cons → zcU, size_toArray → zcV, length_nil → zcW, mem_cons → zcY, mem_range → zc1, getElem?_set_ne → zc2, not_mem_nil → zc3, getElem?_eq_getElem → zc7, getElem?_eq_some_iff → zc9, eq_nil_of_length_eq_zero → zdd, mem_cons_self → zdm, map_cons → zdn, mem_cons_of_mem → zdp, all_eq_true → zdr, getElem?_set_self → zdv, lookup_cons → zdw, getElem?_map → zdx, mem_append_right → zdz, map_congr_left → zdA, getElem?_append_right → zdI, range_eq_range' → zdJ, length_append → zdK, getElem?_append_left → zdV, mem_filter → zdW, map_append → zdX, length_map → zdY, range'_succ → zd2, replicate_succ → zd7, append_nil → zei, range_succ → zeq, length_singleton → zes, flatten_cons → zeu, getD_eq_getElem?_getD → zev, mem_of_getElem? → zey, range' → zeB, getElem?_replicate → zeH, length_take → zeN, nodup_cons → zeT, forIn_cons → zeU, forIn_nil → ze1, drop_eq_getElem_cons → ze2, length_range → ze9, take_of_length_le → zfh, nil_append → zfk, map_nil → zfl, getElem?_range → zfw, filterMap_cons → zfx, zip_map' → zfD, flatten_replicate_singleton → zfG, foldl → zfK, mem_map → zfO, map_map → zfP
open Option renaming bind_some → zcL, map_some → zcN, some → zec, isSome_iff_exists → zeg, map → zfC
open PySem renaming wpAny_bind → zcM, wpAny_pure → zcT, wpAny_callSpecial?_slot → zde, wpAny_field → zdk, wpAny_call_entry → zds, wpAny_setField_rec → zdG, wpAny_seqItems → zdO, wpAny_newObj_type → zdZ, wpAny_attempt → zd1, wpAny_holding → zd8, wpAny_loadPart' → zeb, wpAny_truthy_bool → zej, call_meets → zep, mem_of_lookup → zez, Builtin → zeF, wpAny_Call_Name_kw → zeK, wpAny_mono → zeO, wpAny_updateSeq → ze3, wpAny_passesOwn → ze4, pushCells_keeps → ze6, wpAny_typeOf → zfd, wpAny_pyIter_tuple → zfe, wpAny_rule → zfi, wpAny_isInstance → zfs, wpAny_updateSeq_pair → zfE, isSubtype_stop → zfJ, wpAny_letGo → zfL, wpAny_onRaise → zfS, typeIs_int → zfU, concat_meets → zfV, codeAny_mono → zfW, wpAny_pyIter_zip → zfX, noFill_tuple_add → zfY
open PySem.Heap renaming get?_push_of_some → zcO, lt_size → zcX, get?_push_size → zc5, push → zdc, size_push → zdg, get?_update_other → zdD, get?_update_self → zed, SameBut → zeL, get?_none_of_le → zft
open Nat renaming le_refl → zcZ, zero_add → zc0, reduceAdd → zc4, lt_of_lt_of_le → zc8, ne_of_lt → zda, le_add_right → zdj, lt_succ_of_lt → zdB, not_lt_zero → zdM, lt_irrefl → zdN, le_trans → zdP, lt_succ_self → zdR, ne_of_gt → zd0, zero_le → zef, succ_mul → zfo, mul_comm → zfp, lt_or_ge → zfq, mul_le_mul_right → zfu, le_of_lt → zfR
open PySem.Builtin.SmallTypes renaming nextOf → zc6, ownedTupleIsFree → zdb, ownedTupleHandOut → zdU, ownedTupleFields → zeY
open Int renaming toNat_natCast → zdf, mul_emod → zdo, emod_lt_of_pos → zdE, emod_nonneg → zdQ, add_emod → zdS, mul_zero → zd6, emod_emod → zek, sub_emod → zet, emod_eq_of_lt → zew, mul_comm → zeE, natCast_mul → zeI, eq_ofNat_of_zero_le → zfg, natCast_add → zfr, mul_one → zfB, add_assoc → zfH
open PySem.W renaming kia_one → zdh, mg_none_of → zdq, kitOne → zd4, cellsFrom_some → zeG, nsIn → zff, typeIn → zfj, methodObj → zfy, kitx_list → zfz, kitx_dict → zfA
open Bool renaming false_ne_true → zdi, or_eq_true → zdL, false_eq_true → zeo, eq_iff_iff → zeV, not_eq_true' → zfa
open PyProof.Rows renaming callWith_type1 → zdl, slot_tuple_getitem → zdF, boot_list → zeW, slot_tupleiter_next → ze5, tupleItemsOf_ → zfm, callWith_builtin1 → zfn
open PySem.F renaming slot_zip_next → zdt, args_zip_next_1 → zd9, entry_zip_next → zee, slot_enumerate_next → zex, slot_tuple_mul → zeQ, args_tuple_add_2 → zeZ, plain_extend_loop → ze0, plainAttrs_list → ze7, entry_tuple_add → ze8, slot_tuple_add → zfb, slot_int_rmul → zfv, args_tuple_mul_2 → zfQ, entry_tuple_mul → zfT
open PySem.Value renaming ref → zdu, type → zd5, none → zel
open Ne renaming symm → zdy
open PySem.Str renaming ofString → zdC, join → zfF
open Option.some renaming inj → zdH
open PySem.Builtin.Tuple renaming tupleExact → zdT, tupleIsExact → zem
open PySem.Builtin.List renaming listExtendWith → zd3, listTooLong → zea, listItems → zeA, listSameRef → zeP
open PySem.NameKind renaming cell → zeh
open PySem.Builtin.Slice renaming slicePlaces → zen, sliceAdjust → zeM
open False renaming elim → zeC
open PySem.Obj renaming mapSeq → zeD
open True renaming intro → zeJ
open Classical renaming byContradiction → zeR
open Array renaming length_toList → zeS
open PySem.Calls renaming spliced_cons → zeX, spliced_nil → zfI
open ForInStep renaming yield → zfc
open Sum renaming inr → zfM, inl → zfN
local macro_rules | `(⋯) => `(by first | decide +kernel | omega | simp)
noncomputable section
set_option Elab.async false
set_option linter.all false
set_option maxRecDepth 100000
set_option maxHeartbeats 4000000
namespace L2
open PySem PySem.Spec PyProof.Rows
abbrev Key:=Sum Int Str
def W1:Key->Value->Bool
 | .inl k,v=>Value.isInt k v
 | .inr x,v=>Value.isStrOf x v
def zcs(w:World):Key->Int
 | .inl k=>hashInt k
 | .inr x=>hashStr w x
theorem j6 : ∀{k:Key} {v:Value},W1 k v=true->(∃i t,k=zfN i/\v=Value.int i t)\/(∃x t,k=zfM x/\v=Value.str x t)
 | .inl i,v,h=>by
  obtain⟨t,e⟩:=Value.isInt_shape (k:=i) (v:=v) h;exact .inl ⟨i,t,rfl,e⟩
 | .inr x,v,h=>by
  obtain⟨t,e⟩:=Value.isStrOf_shape (x:=x) (v:=v) h;exact .inr ⟨x,t,rfl,e⟩
theorem W0(a b:Int):decide ((zfN a:Key)=zfN b)=(a==b):=by
 by_cases e:a=b
 ·subst e;simp
 ·have h : ¬(zfN a:Key)=zfN b:=λq=>e (zfN.inj q)
  rw [decide_eq_false h];exact(beq_eq_false_iff_ne.mpr e).symm
theorem WX(a b:Str):decide ((zfM a:Key)=zfM b)=decide (a=b):=by
 by_cases e:a=b
 ·subst e;simp
 ·have h : ¬(zfM a:Key)=zfM b:=λq=>e (zfM.inj q)
  rw [decide_eq_false h,decide_eq_false e]
theorem WZ(a:Int)(b:Str):decide ((zfN a:Key)=zfM b)=false:=decide_eq_false (λq=>nomatch q)
theorem WY(a:Str)(b:Int):decide ((zfM a:Key)=zfN b)=false:=decide_eq_false (λq=>nomatch q)
def ZJ(prog:Program)(w:World):PySem.KeyKind prog w Key where
 is:=W1
 hash:=zcs w
 inj:=λv a b ha O=>by
  rcases j6 ha with⟨i,t,rfl,rfl⟩ | ⟨x,t,rfl,rfl⟩
  ·rcases j6 O with⟨j,u,rfl,e⟩ | ⟨y,u,rfl,e⟩
   ·injection e with e1 _;rw [e1]
   ·exact nomatch e
  ·rcases j6 O with⟨j,u,rfl,e⟩ | ⟨y,u,rfl,e⟩
   ·exact nomatch e
   ·injection e with e1 _;rw [e1]
 byValue:=λk v h=>by
  rcases j6 h with⟨i,t,rfl,rfl⟩ | ⟨x,t,rfl,rfl⟩<;>rfl
 pyHash:=λI h=>by
  rcases j6 I with⟨i,t,rfl,rfl⟩ | ⟨x,t,rfl,rfl⟩
  ·exact wpAny_pyHash_int h
  ·exact wpAny_pyHash_str h
 eqBool:=λU I h=>by
  rcases j6 U with⟨i,t,rfl,rfl⟩ | ⟨x,t,rfl,rfl⟩
  ·rcases j6 I with⟨j,u,rfl,rfl⟩ | ⟨y,u,rfl,rfl⟩
   ·rw [W0]at h;exact wpAny_eqBool_int h
   ·rw [WZ]at h;exact SeqAt.EqAt.int_str i t y u _ _ _ _ h
  ·rcases j6 I with⟨j,u,rfl,rfl⟩ | ⟨y,u,rfl,rfl⟩
   ·rw [WY]at h;exact SeqAt.EqAt.str_int x t j u _ _ _ _ h
   ·rw [WX]at h;exact wpAny_eqBool_str h
 «strs» :=λk x t v h=>by
  rcases j6 h with⟨i,u,rfl,e⟩ | ⟨y,u,rfl,e⟩
  ·exact nomatch e
  ·injection e with e1 _
   subst e1;cases v<;>rfl
inductive V where
 | non | bl (b:Bool) | int (i:Int) | str (x:Str) | byt (b:Array UInt8) | flt (b:UInt64) | ref (a:Addr) | ty (n:String)
 deriving DecidableEq
def RelV:V->Value->Prop
 | .non,u=>u=zel
 | .bl b,u=>u=Value.bool b
 | .int i,u=>∃t,u=Value.int i t
 | .str x,u=>∃t,u=Value.str x t
 | .byt b,u=>∃t,u=Value.bytes b t
 | .flt b,u=>∃t,u=Value.float b t
 | .ref a,u=>u=zdu a
 | .ty n,u=>u=zd5 n
abbrev Vals:List V->List Value->Prop:=Paired RelV
theorem Vals.length{xs:List V}{us:List Value}(r:Vals xs us):xs.length=us.length:=Paired.length r
theorem Vals.get : ∀{xs:List V} {us:List Value} {i:Nat} {x:V},Vals xs us->xs[i]? = some x->∃u,us[i]? = some u/\RelV x u
 | _,_,_,_,.nil,e=>by simp at e
 | _,_,0,_,.cons r _,e=>by simp at e;subst e;exact⟨_,rfl,r⟩
 | _,_,i+1,x,.cons _ t,e=>by
  obtain⟨u,h1,h2⟩:=Vals.get (i:=i) (x:=x) t (by simpa using e);exact⟨u,by simpa using h1,h2⟩
theorem Vals.set{x:V}{u:Value}(r:RelV x u) : ∀{xs:List V} {us:List Value} (i:Nat),Vals xs us->Vals (xs.set i x) (us.set i u)
 | _,_,_,.nil=> .nil
 | _,_,0,.cons _ t=> .cons r t
 | _,_,i+1,.cons q t=> .cons q (Vals.set r i t)
theorem Vals.append : ∀{xs ys:List V} {us ws:List Value},Vals xs us->Vals ys ws->Vals (xs++ys) (us++ws)
 | _,_,_,_,.nil,s=>s
 | _,_,_,_,.cons r t,s=> .cons r (Vals.append t s)
theorem Vals.take : ∀{xs:List V} {us:List Value} (n:Nat),Vals xs us->Vals (xs.take n) (us.take n)
 | _,_,0,_=> .nil
 | _,_,_+1,.nil=> .nil
 | _,_,n+1,.cons r t=> .cons r (Vals.take n t)
theorem Vals.drop : ∀{xs:List V} {us:List Value} (n:Nat),Vals xs us->Vals (xs.drop n) (us.drop n)
 | _,_,0,r=>r
 | _,_,_+1,.nil=> .nil
 | _,_,n+1,.cons _ t=>Vals.drop n t
def zbO:Option V->Option Value->Prop
 | some v,some u=>RelV v u
 | none,none=>True
 | _,_=>False
def KV{κ:Type}:List (κ×V)->List (κ×Value)->Prop:=Paired λ(p:κ×V) (q:κ×Value)=>p.1=q.1/\RelV p.2 q.2
def kV:Key->V
 | .inl i=> .int i
 | .inr x=> .str x
inductive HO where
 | lst (xs:List V)
 | tup (xs:List V)
 | dK (kvs:List (Key×V)) | dT (kvs:List (List Key×V))
 | set (S:Int->Bool) (n:Nat)
 | ins (C dx:Addr) (fs:List (Str×V))
 | own (x:Addr)
 | xd (fs:List (Str×V))
 | met (f x:Addr)
 | rng (lo hi:Int)
 | frz (o:Obj) (u:HO)
 | tbl (ps:Array Value)
 | ext (φ:Heap->Prop)
abbrev Hp:=Addr->Option HO
def upd(H:Hp)(a:Addr)(o:HO):Hp:=λb=>if b=a then some o else H b
theorem zR{H:Hp}{a:Addr}{o:HO}:upd H a o a=some o:=by unfold upd;rw [if_pos rfl]
theorem zS{H:Hp}{a b:Addr}{o:HO}(h:b≠a):upd H a o b=H b:=by unfold upd;rw [if_neg h]
theorem vN{H:Hp}{a:Addr}{o u:HO}:upd (upd H a o) a u=upd H a u:=by
 funext b;unfold upd;split<;>rfl
theorem jZ{H:Hp}{a b:Addr}{o:HO}(h:H a=some o)(h':H b=none):a≠b:=by
 intro e;subst e;rw [h]at h';cases h'
def IsTupD(h:Heap)(a:Addr)(y:Array Value):Prop:=∃o,h.get? a=some o/\(o.cls,o.dict)=(zd5 "tuple",none)/\∃n,o.data = .seq y n
theorem IsTupD.new(h:Heap)(y:Array Value):IsTupD (h.push {cls:= .type "tuple",data:= .seq y}) h.objs.size y:=⟨_,zc5 _ rfl,rfl,_,rfl⟩
theorem IsTupD.tup{h:Heap}{a:Addr}{y:Array Value}(x:IsTupD h a y):IsTup h a y:=let ⟨o,e,c,r⟩:=x;⟨o,e,(Prod.mk.inj c).1,r⟩
section
variable(P:Program)(w:World)
def ObjOk(H:Hp)(h:Heap)(a:Addr):HO->Prop
 | .lst xs=>xs.length<=sizeLine/\∃(its:List Value) (n:Nat),Vals xs its/\h.get? a=some {cls:= .type "list",data:= .seq its.toArray n}
 | .tup xs=>xs.length<=sizeLine/\∃its:List Value,Vals xs its/\IsTupD h a its.toArray
 | .dK kvs=>kvs.length<=sizeLine/\(a==sysModules)=false/\∃vs,KV kvs vs/\h.DictOf (ZJ P w) a vs
 | .dT kvs=>kvs.length<=sizeLine/\(a==sysModules)=false/\∃xs:List (List Key×Addr×Value),
  Paired (λ(p:List Key×V) (q:List Key×Addr×Value)=>p.1=q.1/\H q.2.1=some (.tup (p.1.map kV))/\RelV p.2 q.2.2) kvs xs/\
  ∃o es y,h.get? a=some o/\o.ExactDict/\o.data = .dict es y/\es.toList=xs.map (entryOfKey (tupleKind (ZJ P w)))/\(xs.map (·.1)).Nodup
 | .set S n=>h.SetOf (intKind P w) a S n
 | .ins C dx fs=>H dx=some (.own a)/\fs.length<=1000/\dx≠a/\h.get? a=some (PySem.W.instObj C dx)/\
  ∃mA,h.Ns1 dx mA/\(∀f,zbO (fs.lookup f) (mA f))/\PySem.Within mA (fs.map (·.1))
 | .own _=>∃o,h.get? a=some o
 | .xd fs=>∃mA,h.Ns1 a mA/\∀f,zbO (fs.lookup f) (mA f)
 | .rng lo hi=>∃t u v,h.get? a=some {cls:= .type "range",data:= .fields #[.int lo t,.int hi u,.int 1 v]}
 | .frz o u=>h.get? a=some o/\ObjOk H h a u
 | .tbl ps=>h.get? a=some {cls:= .none,data:= .fields ps}
 | .met f x=>h.get? a=some (zfy (.ref f) (.ref x))
 | .ext φ=>φ h/\(∃o,h.get? a=some o)/\∀h1 h2:Heap,φ h1->(∀o,h1.get? a=some o->h2.get? a=some o)->φ h2
def HOk(H:Hp)(h:Heap):Prop:=∀a o,H a=some o->ObjOk P w H h a o
end
section
variable{P:Program}{w:World}{H H':Hp}{h h':Heap}{a:Addr}{o:HO}
theorem ObjOk.lt(x:ObjOk P w H h a o):a<h.objs.size:=by
 cases o with
 | lst xs=>obtain⟨_,_,_,_,e⟩:=x;exact zcX e
 | tup xs=>obtain⟨_,_,_,p⟩:=x;exact p.tup.lt
 | dK kvs=>obtain⟨_,_,_,_,o,_,_,e,_⟩:=x;exact zcX e
 | dT kvs=>obtain⟨_,_,_,_,o,_,_,e,_⟩:=x;exact zcX e
 | set S n=>obtain⟨o,_,_,_,e,_⟩:=x;exact zcX e
 | ins C dx fs=>obtain⟨_,_,_,e,_⟩:=x;exact zcX e
 | own y=>obtain⟨_,e⟩:=x;exact zcX e
 | xd fs=>obtain⟨_,⟨_,_,_,e,_⟩,_⟩:=x;exact zcX e
 | rng lo hi=>obtain⟨_,_,_,e⟩:=x;exact zcX e
 | frz I u=>obtain⟨e,_⟩:=x;exact zcX e
 | tbl ps=>exact zcX (show h.get? a=some _ from x)
 | met f y=>exact zcX (show h.get? a=some _ from x)
 | ext φ=>obtain⟨_,⟨_,e⟩,_⟩:=x;exact zcX e
theorem Paired.mapP{α β:Type}{F G:α->β->Prop} : ∀{y:List α} {I:List β},Paired F y I->(∀a b,F a b->G a b)->Paired G y I
 | _,_,.nil,_=> .nil
 | _,_,.cons r t,f=> .cons (f _ _ r) (Paired.mapP t f)
theorem ObjOk.stay(x:ObjOk P w H h a o)(k : ∀b u,(b=a\/H b=some (.own a))->h.get? b=some u->h'.get? b=some u)
 (U : ∀b,H b=some (.own a)->H' b=some (.own a)) (Y : ∀b xs,H b=some (.tup xs)->H' b=some (.tup xs)):ObjOk P w H' h' a o:=by
 induction o with
 | lst xs=>obtain⟨z,its,n,r,e⟩:=x;exact⟨z,its,n,r,k _ _ (.inl rfl) e⟩
 | tup xs=>obtain⟨z,its,r,I,e,c⟩:=x;exact⟨z,its,r,I,k _ _ (.inl rfl) e,c⟩
 | dK kvs=>obtain⟨z,y,vs,r,I,es,O,e,c⟩:=x;exact⟨z,y,vs,r,I,es,O,k _ _ (.inl rfl) e,c⟩
 | dT kvs=>
  obtain⟨z,y,xs,r,I,es,O,e,c⟩:=x;exact⟨z,y,xs,Paired.mapP r λp q z=>⟨z.1,Y _ _ z.2.1,z.2.2⟩,I,es,O,k _ _ (.inl rfl) e,c⟩
 | set S n=>obtain⟨I,es,O,t,e,c⟩:=x;exact⟨I,es,O,t,k _ _ (.inl rfl) e,c⟩
 | ins C dx fs=>
  obtain⟨d,z,ne,e,mA,⟨od,es,O,e2,c⟩,r⟩:=x;exact⟨U _ d,z,ne,k _ _ (.inl rfl) e,mA,⟨od,es,O,k _ _ (.inr d) e2,c⟩,r⟩
 | own y=>obtain⟨I,e⟩:=x;exact⟨I,k _ _ (.inl rfl) e⟩
 | xd fs=>obtain⟨mA,⟨od,es,O,e,c⟩,r⟩:=x;exact⟨mA,⟨od,es,O,k _ _ (.inl rfl) e,c⟩,r⟩
 | rng lo hi=>obtain⟨t,u,v,e⟩:=x;exact⟨t,u,v,k _ _ (.inl rfl) e⟩
 | frz I u ih=>obtain⟨e,q⟩:=x;exact⟨k _ _ (.inl rfl) e,ih q⟩
 | tbl ps=>
  have e:h.get? a=some {cls:= .none,data:= .fields ps}:=x;show h'.get? a=some {cls:= .none,data:= .fields ps};exact k a _ (.inl rfl) e
 | met f y=>
  have e:h.get? a=some (zfy (.ref f) (.ref y)):=x;show h'.get? a=some (zfy (.ref f) (.ref y));exact k a _ (.inl rfl) e
 | ext φ=>obtain⟨p,⟨o,e⟩,st⟩:=x;exact⟨st _ _ p λo q=>k _ _ (.inl rfl) q,⟨o,k _ _ (.inl rfl) e⟩,st⟩
theorem HOk.lt(x:HOk P w H h)(e:H a=some o):a<h.objs.size:=(x a o e).lt
theorem HOk.fresh(x:HOk P w H h)(e:h.objs.size<=a):H a=none:=by
 cases q:H a with
 | none=>rfl
 | some u=>exact absurd (zc8 (x.lt q) e) (zdN _)
theorem HOk.kept(x:HOk P w H h)(k : ∀b u,h.get? b=some u->h'.get? b=some u):HOk P w H h':=λa o e=>
 (x a o e).stay (λb u _ q=>k b u q) (λ_ q=>q) λ_ _ q=>q
theorem HOk.laid(x:HOk P w H h)(k : ∀b u,h.get? b=some u->h'.get? b=some u)(I:h.objs.size<=a)(new:ObjOk P w (upd H a o) h' a o):HOk P w (upd H a o) h':=λb u e=>by
 have hn:=x.fresh I;by_cases y:b=a
 ·subst y;rw [zR]at e;cases e;exact new
 ·rw [zS y]at e
  exact(x b u e).stay (λc v _ q=>k c v q) (λc q=>by rw [zS (jZ q hn)];exact q) λc xs q=>by rw [zS (jZ q hn)];exact q
end
def Rd(H:Hp)(a:Addr)(u:HO):Prop:=H a=some u\/∃o,H a=some (.frz o u)
theorem Rd.ok{P:Program}{w:World}{H:Hp}{h:Heap}{a:Addr}{u:HO}(r:Rd H a u)(x:HOk P w H h):ObjOk P w H h a u:=by
 rcases r with r | ⟨o,r⟩
 ·exact x a u r
 ·obtain⟨_,q⟩:=x a _ r
  exact q
def Mut:Option HO->Prop
 | some (.lst _)=>True
 | some (.dK _)=>True
 | some (.dT _)=>True
 | some (.set _ _)=>True
 | some (.ins _ _ _)=>True
 | some (.ext _)=>True
 | _=>False
section
variable{P:Program}{w:World}{H:Hp}{h h':Heap}{x e:Addr}{o':HO}
theorem HOk.write(ok:HOk P w H h)(I:Mut (H x))(he:e=x\/H e=some (.own x))(k : ∀b u,b≠e->h.get? b=some u->h'.get? b=some u)(a3 : ∃u,h'.get? e=some u)
 (new:ObjOk P w (upd H x o') h' x o'):HOk P w (upd H x o') h':=λb u q=>by
 have a1 : ∀c y,H c=some (.own y)->c≠x:=λc y r z=>by subst z;rw [r]at I;exact I
 have a4 : ∀c xs,H c=some (.tup xs)->c≠x:=λc xs r z=>by subst z;rw [r]at I;exact I
 by_cases O:b=x
 ·subst O;rw [zR]at q;cases q;exact new
 ·rw [zS O]at q
  by_cases U:b=e
  ·have q':H b=some (.own x):=by
    rcases he with z | z
    ·exact absurd (U.trans z) O
    ·rw [U];exact z
   rw [q]at q';cases q';obtain⟨v,hv⟩:=a3;exact⟨v,by rw [U];exact hv⟩
  ·refine(ok b u q).stay (λc v Y r=>k c v ?_ r) (λc r=>by rw [zS (a1 c b r)];exact r) λc xs r=>by rw [zS (a4 c xs r)];exact r
   rcases Y with rfl | Y
   ·exact U
   ·rintro rfl
    rcases he with z | z
    ·exact a1 c b Y z
    ·rw [Y]at z;cases z;exact O rfl
end
structure Un(fs ex:List Addr)(H H':Hp)(h h':Heap):Prop where
 keep : ∀b o,h.get? b=some o->H b=none->b∉fs->b∉ex->h'.get? b=some o
 slot : ∀b o,h.get? b=some o->H b=none->b∈fs->b∉ex->∃sl,h'.get? b=some {o with slots:=sl}
 free : ∀b o,h.get? b=some o->H b=none->b∉ex->H' b=none
 there : ∀b o,h.get? b=some o->b∉ex->∃o',h'.get? b=some o'
 tups : ∀b xs,H b=some (.tup xs)->H' b=some (.tup xs)
 frzs : ∀b o u,H b=some (.frz o u)->H' b=some (.frz o u)
 tbls : ∀b ps,H b=some (.tbl ps)->∃more,H' b=some (.tbl (ps++more))
section
variable{fs fs' ex ex':List Addr}{H H1 H2:Hp}{h h1 h2 h':Heap}{a x e:Addr}{o:HO}
theorem Un.any(u:Un fs ex H H1 h h1){b:Addr}{y:Obj}(q:h.get? b=some y)(n:H b=none)(I:b∉ex) : ∃sl,h1.get? b=some {y with slots:=sl}:=by
 by_cases O:b∈fs
 ·exact u.slot b y q n O I
 ·exact⟨y.slots,u.keep b y q n O I⟩
theorem Un.kept(k : ∀b u,h.get? b=some u->h'.get? b=some u):Un fs ex H H h h':=
 ⟨λb y q _ _ _=>k b y q,λb y q _ _ _=>⟨y.slots,k b y q⟩,λ_ _ _ n _=>n,λb y q _=>⟨y,k b y q⟩,λ_ _ q=>q,λ_ _ _ q=>q,λ_ ps q=>⟨#[],by rw [q];simp⟩⟩
theorem Un.refl:Un fs ex H H h h:=Un.kept λ_ _ q=>q
theorem Un.laid(k : ∀b u,h.get? b=some u->h'.get? b=some u)(y:h.objs.size<=a)(hn:H a=none):Un fs ex H (upd H a o) h h' where
 keep:=λb u q _ _ _=>k b u q
 slot:=λb u q _ _ _=>⟨u.slots,k b u q⟩
 free:=λb u q n _=>by rw [zS (zda (zc8 (zcX q) y))];exact n
 there:=λb u q _=>⟨u,k b u q⟩
 tups:=λb xs q=>by rw [zS (jZ q hn)];exact q
 frzs:=λb u xs q=>by rw [zS (jZ q hn)];exact q
 tbls:=λb ps q=>⟨#[],by rw [zS (jZ q hn),q];simp⟩
theorem Un.write(y:Mut (H x))(Y:e=x\/H e=some (.own x))(k : ∀b u,b≠e->h.get? b=some u->h'.get? b=some u)(a0 : ∃u,h'.get? e=some u):Un fs ex H (upd H x o) h h':=by
 have I : ∀b,H b=none->b≠x:=λb n z=>by subst z;rw [n]at y;exact y
 have O : ∀b,H b=none->b≠e:=λb n z=>by
  subst z;rcases Y with r | r
  ·exact I b n r
  ·rw [n]at r;cases r
 have hm : ∀b u,H b=some u->¬Mut (some u)->b≠x:=λb u q nm z=>by subst z;rw [q]at y;exact nm y
 refine⟨λb u q n _ _=>k b u (O b n) q,λb u q n _ _=>⟨u.slots,k b u (O b n) q⟩,λb u q n _=>by rw [zS (I b n)];exact n,λb u q _=>?_,
  λb xs q=>by rw [zS (hm b _ q λz=>z)];exact q,λb u xs q=>by rw [zS (hm b _ q λz=>z)];exact q,λb ps q=>⟨#[],by rw [zS (hm b _ q λz=>z),q];simp⟩⟩
 by_cases U:b=e
 ·subst U;exact a0
 ·exact⟨u,k b u U q⟩
end
def trk(h:Heap)(H:Hp):List Addr:=(zcP h.objs.size).filter λa=>(H a).isSome
def Kk(h:Heap)(H:Hp):Heap:=PySem.W.hideAll h (trk h H)
theorem QR(h:Heap)(H:Hp):(Kk h H).objs.size=h.objs.size:=PySem.W.hideAll_size _ _
theorem Kj{h:Heap}{H:Hp}{b:Addr}{o:Obj}(e:h.get? b=some o)(n:H b=none):(Kk h H).get? b=some o:=
 PySem.W.hideAll_get _ e λhm=>by
  have q:(H b).isSome=true:=(zdW.mp hm).2;rw [n]at q;simp at q
theorem Va{h:Heap}{H:Hp}{b:Addr}{o:Obj}(e:(Kk h H).get? b=some o):h.get? b=some o/\H b=none:=by
 have y:h.get? b=some o:=PySem.W.of_hideAll (trk h H) e;refine⟨y,?_⟩;cases q:H b with
 | none=>rfl
 | some x=>
  have hm:b∈trk h H:=zdW.mpr ⟨zc1.mpr (zcX y),by simp [q]⟩;have z:(Kk h H).get? b=none:=PySem.W.hideAll_none (trk h H) hm;rw [z]at e;cases e
def VH(g h:Heap)(L:Addr):List (Addr×Obj):=(zcP h.objs.size).filterMap λa=>if a=L\/(g.get? a).isSome=true then none else (h.get? a).map λo=>(a,o)
def xA(g h:Heap)(L d:Addr):List (Addr×Obj):=(VH g h L).filter λp=>decide (p.1≠d)
structure Mod(K:PySem.W.Frag)(mg:Str->Option Value)(base:Heap):Prop where
 kin:K.In base
 glob:base.Ns mainGlobals mg
 blt : ∃mb,base.Ns builtinsNs mb/\∀x:Str,x ≠ "__name__"->mb x=bootBuiltins x
 nolimit:base.NoLimit
structure Cx where
 prog:Program
 w:World
 K:PySem.W.Frag
 mg:Str->Option Value
 base:Heap
 A:Around
 N:List Str
 s₀:Shared
 H₀:Hp
 env:Env
 outer:List Env
 stack:List Env
 ex:List Addr
 fn:Str->Bool
 calm:Bool
 pn:List (Addr×Obj)
 xe:Value->Shared->Prop
def frs(l:List Env):List Addr:=l.filterMap (·.frame)
abbrev Cx.fs(X:Cx):List Addr:=frs X.outer
def Vis(sc:Scope)(x:Str):Prop:=sc.names.lookup x=some .local\/sc.names.lookup x=some .cell\/sc.names.lookup x=some .free
def Loc(sc:Scope)(x:Str):Prop:=sc.names.lookup x=some .local\/sc.names.lookup x=some .cell
def Look(env:Env)(h:Heap)(m:Str->Option Value)(x:Str)(u:Value):Prop:=
 (env.kindOf x=some .local/\m x=some u)\/((env.kindOf x=some .cell\/env.kindOf x=some .free)/\∃c,env.cells.lookup x=some c/\h.IsCell c (some u))
structure Cx.Ok(X:Cx):Prop where
 mod:Mod X.K X.mg X.base
 kind:X.env.scope.kind = .function
 glob:X.env.globals=mainGlobals
 blt:X.env.builtins=builtinsNs
 above:X.s₀.heap.objs.size<=X.env.locals
 inj : ∀x y c,X.env.cells.lookup x=some c->X.env.cells.lookup y=some c->x=y
 has : ∀x,(X.env.kindOf x=some .cell\/X.env.kindOf x=some .free)->∃c,X.env.cells.lookup x=some c
 cab : ∀x c,X.fn x=true->X.env.cells.lookup x=some c->X.s₀.heap.objs.size<=c
 hd:X.calm=true->X.A.handled=none
 frames:X.A.frames=some X.stack
 stk:X.stack=X.outer\/(X.stack=X.env::X.outer/\X.env.frame=some X.env.locals)
 exf : ∀b∈X.ex,b≠X.env.locals/\∀x c,X.env.cells.lookup x=some c->c≠b
 bs : ∀b o,X.base.get? b=some o->X.s₀.heap.get? b=some o/\X.H₀ b=none
 bsz:X.base.objs.size<=X.s₀.heap.objs.size
 noex : ∀b o,X.base.get? b=some o->b∉X.ex
 exfs : ∀b∈X.ex,b∉X.fs
 funs:X.s₀.heap.FunFrames X.base X.outer
 frf : ∀b∈X.fs,X.H₀ b=none
structure Inv(X:Cx)(pins:List (Addr×Obj))(σ:List (Option V))(H:Hp)(s:Shared):Prop where
 ok:X.Ok
 os:s.os=X.s₀.os
 bare:AllBare s.gens
 base:Un X.fs X.ex X.H₀ H X.s₀.heap s.heap
 loc : ∃m,s.heap.Ns X.env.locals m/\∀(i:Nat) (x:Str) (v:V),X.N[i]? = some x->σ[i]? = some (some v)->Vis X.env.scope x->∃u,RelV v u/\Look X.env s.heap m x u
 cell : ∀x c,X.env.cells.lookup x=some c->∃v,s.heap.IsCell c v
 free:H X.env.locals=none
 freeC : ∀x c,X.env.cells.lookup x=some c->H c=none
 pin : ∀p∈X.pn++pins,s.heap.get? p.1=some p.2/\H p.1=none/\p.1≠X.env.locals/\p.1∉X.fs/\∀v,p.2.data ≠ .cell v
 hok:HOk X.prog X.w H s.heap
 len:σ.length=X.N.length
section
variable{X:Cx}{pins:List (Addr×Obj)}{σ:List (Option V)}{H H':Hp}{s:Shared}{h':Heap}
theorem Cx.Ok.nofr(ok:X.Ok){b:Addr}{o:Obj}(e:X.base.get? b=some o):b∉X.fs:=λy=>by
 have:=(ok.funs.mem y).1;rw [e]at this;cases this
theorem Inv.bs(I:Inv X pins σ H s) : ∀b o,X.base.get? b=some o->s.heap.get? b=some o/\H b=none:=λb o e=>
 ⟨I.base.keep b o (I.ok.bs b o e).1 (I.ok.bs b o e).2 (I.ok.nofr e) (I.ok.noex b o e),I.base.free b o (I.ok.bs b o e).1 (I.ok.bs b o e).2 (I.ok.noex b o e)⟩
theorem Inv.bk(I:Inv X pins σ H s) : ∀b o,X.base.get? b=some o->s.heap.get? b=some o:=λb o e=>(I.bs b o e).1
theorem Inv.mod(I:Inv X pins σ H s):Mod X.K X.mg X.base:=I.ok.mod
theorem Inv.kIn(I:Inv X pins σ H s):X.K.In s.heap:=I.ok.mod.kin.keeps I.bk
theorem Inv.lt(I:Inv X pins σ H s):X.env.locals<s.heap.objs.size:=let ⟨_,hn,_⟩:=I.loc;hn.lt
theorem Inv.sz(I:Inv X pins σ H s):X.s₀.heap.objs.size<=s.heap.objs.size:=zdP I.ok.above (zfR I.lt)
theorem Inv.nofs(I:Inv X pins σ H s){a:Addr}(h:s.heap.objs.size<=a):a∉X.fs:=λy=>by
 obtain⟨_,o,O,_⟩:=I.ok.funs.mem y;exact absurd (zc8 (zcX O) (zdP I.sz h)) (zdN _)
theorem Inv.cne(I:Inv X pins σ H s) : ∀x c,X.env.cells.lookup x=some c->c≠X.env.locals:=λx c e z=>by
 obtain⟨v,o,y,hd⟩:=I.cell x c e;obtain⟨m,⟨o',es,Y,O,U,_⟩,_⟩:=I.loc;rw [z,O]at y;cases y;rw [U]at hd;cases hd
theorem Inv.funs(I:Inv X pins σ H s):s.heap.FunFrames X.base X.outer:=by
 have all : ∀(l:List Env),(∀b∈frs l,b∈X.fs)->X.s₀.heap.FunFrames X.base l->s.heap.FunFrames X.base l:=by
  intro l
  induction l with
  | nil=>intro _ _;trivial
  | cons env r Y=>
   intro hs hl;obtain⟨hk,⟨L,o,y,hn,ho,hd⟩,hr⟩:=hl;have O:L∈X.fs:=hs L (by unfold frs;rw [zfx,y];exact zdm);obtain⟨sl,e⟩:=I.base.slot L o ho (I.ok.frf L O) O λz=>I.ok.exfs L z O;exact⟨hk,⟨L,_,y,hn,e,hd⟩,Y (λb U=>hs b (by unfold frs;rw [zfx,y];exact zdp _ U)) hr⟩
 exact all X.outer (λ_ U=>U) I.ok.funs
theorem Inv.stack(I:Inv X pins σ H s):s.heap.FunFrames X.base X.stack:=by
 rcases I.ok.stk with e | ⟨e,y⟩
 ·rw [e];exact I.funs
 ·rw [e]
  obtain⟨m,hn,_⟩:=I.loc;refine .cons (by rw [I.ok.kind];decide) y hn ?_ I.funs;exact zft (zdP I.ok.bsz I.ok.above)
theorem Inv.stkSub(I:Inv X pins σ H s) : ∀b∈frs X.stack,b∈X.env.locals::X.fs:=λb y=>by
 rcases I.ok.stk with e | ⟨e,O⟩
 ·rw [e]at y;exact zdp _ y
 ·rw [e]at y
  unfold frs at y;rw [zfx,O]at y;exact y
theorem Inv.stkFree(I:Inv X pins σ H s) : ∀b∈frs X.stack,H b=none:=λb y=>by
 rcases zcY.mp (I.stkSub b y)with e | y
 ·rw [e];exact I.free
 ·obtain⟨_,o,O,_⟩:=I.ok.funs.mem y
  exact I.base.free b o O (I.ok.frf b y) λz=>I.ok.exfs b z y
theorem Inv.step{g':Array GenState}{t':Nat}{d':Drawn}{ch:List Addr}(I:Inv X pins σ H s)
 (Y : ∀b∈ch,(b∈X.ex\/X.s₀.heap.objs.size<=b)/\b≠X.env.locals/\(∀x c,X.env.cells.lookup x=some c->c≠b)/\∀p∈X.pn++pins,p.1≠b)
 (keep : ∀b o,b≠X.env.locals->b∉X.fs->b∉ch->s.heap.get? b=some o->H b=none->h'.get? b=some o)
 (slot : ∀b o,b≠X.env.locals->b∈X.fs->b∉ch->s.heap.get? b=some o->H b=none->∃sl,h'.get? b=some {o with slots:=sl}) (free : ∀b o,b∉ch->s.heap.get? b=some o->H b=none->H' b=none)
 (there : ∀b o,b∉ch->s.heap.get? b=some o->∃o',h'.get? b=some o')
 (tups : ∀b xs,H b=some (.tup xs)->H' b=some (.tup xs)) (frzs : ∀b o u,H b=some (.frz o u)->H' b=some (.frz o u)) (tbls : ∀b ps,H b=some (.tbl ps)->∃more,H' b=some (.tbl (ps++more)))
 (ns : ∀m,s.heap.Ns X.env.locals m->h'.Ns X.env.locals m) (hok:HOk X.prog X.w H' h') (hg:AllBare g') :
 Inv X pins σ H' {s with heap:=h',gens:=g',drawn:=d',toks:=t'}:=by
 have a2 : ∀b o,X.s₀.heap.get? b=some o->b≠X.env.locals:=λb o e=>zda (zc8 (zcX e) I.ok.above);have a1 : ∀b o,X.s₀.heap.get? b=some o->b∉X.ex->b∉ch:=λb o e y O=>by
  rcases (Y b O).1 with z | z
  ·exact y z
  ·exact absurd (zc8 (zcX e) z) (zdN _)
 have a3 : ∀x c,X.env.cells.lookup x=some c->∀v,s.heap.IsCell c v->h'.IsCell c v:=λx c e v hZ=>by
  obtain⟨o,U,hd⟩:=hZ;have a0:c∉ch:=λz=>(Y c z).2.2.1 x c e rfl;by_cases hc:c∈X.fs
  ·obtain⟨sl,q⟩:=slot c o (I.cne x c e) hc a0 U (I.freeC x c e)
   exact⟨_,q,hd⟩
  ·exact⟨o,keep c o (I.cne x c e) hc a0 U (I.freeC x c e),hd⟩
 refine⟨I.ok,I.os,hg,⟨λb o e n O y=>?_,λb o e n O y=>?_,λb o e n y=>?_,λb o e y=>?_,λb xs e=>tups b xs (I.base.tups b xs e),λb o xs e=>frzs b o xs (I.base.frzs b o xs e),λb ps e=>?_⟩,?_,λx c e=>?_,?_,λx c e=>?_,λp hp=>?_,hok,I.len⟩
 ·exact keep b o (a2 b o e) O (a1 b o e y) (I.base.keep b o e n O y) (I.base.free b o e n y)
 ·obtain⟨sl,e1⟩:=I.base.slot b o e n O y
  obtain⟨a9,e2⟩:=slot b _ (a2 b o e) O (a1 b o e y) e1 (I.base.free b o e n y);exact⟨a9,e2⟩
 ·obtain⟨o',e1⟩:=I.base.there b o e y
  exact free b o' (a1 b o e y) e1 (I.base.free b o e n y)
 ·obtain⟨o',e1⟩:=I.base.there b o e y
  exact there b o' (a1 b o e y) e1
 ·obtain⟨m1,e1⟩:=I.base.tbls b ps e
  obtain⟨m2,e2⟩:=tbls b _ e1;exact⟨m1++m2,by rw [e2,Array.append_assoc]⟩
 ·obtain⟨m,hn,hl⟩:=I.loc
  refine⟨m,ns m hn,λi x v e1 e2 e3=>?_⟩;obtain⟨u,r,l⟩:=hl i x v e1 e2 e3;refine⟨u,r,?_⟩;rcases l with l | ⟨k,c,e,z⟩
  ·exact .inl l
  ·exact .inr ⟨k,c,e,a3 x c e _ z⟩
 ·obtain⟨v,z⟩:=I.cell x c e
  exact⟨v,a3 x c e v z⟩
 ·obtain⟨m,⟨o,_,_,U,_⟩,_⟩:=I.loc
  exact free _ o (λz=>(Y _ z).2.1 rfl) U I.free
 ·obtain⟨v,o,U,hd⟩:=I.cell x c e
  exact free c o (λz=>(Y c z).2.2.1 x c e rfl) U (I.freeC x c e)
 ·obtain⟨e,n,ne,nf,d⟩:=I.pin p hp
  have a0:p.1∉ch:=λz=>(Y p.1 z).2.2.2 p hp rfl;exact⟨keep p.1 p.2 ne nf a0 e n,free p.1 p.2 a0 e n,ne,nf,d⟩
theorem Inv.un{t':Nat}(I:Inv X pins σ H s)(u:Un X.fs [] H H' s.heap h')(hok:HOk X.prog X.w H' h'):Inv X pins σ H' {s with heap:=h',toks:=t'}:=by
 obtain⟨m,⟨o,es,ep,O,r⟩,_⟩:=id I.loc;obtain⟨sl,Y⟩:=u.any O I.free ⋯;exact I.step (g':=s.gens) (d':=s.drawn) (ch:=[]) (λ_ z=>nomatch z) (λb o _ y _ e n=>u.keep b o e n y ⋯) (λb o _ y _ e n=>u.slot b o e n y ⋯) (λb o _ e n=>u.free b o e n ⋯) (λb o _ e=>u.there b o e ⋯) u.tups u.frzs u.tbls (λm' hm=>by
  obtain⟨o',a0,a1,U,r'⟩:=hm;rw [O]at U;cases U;exact⟨_,a0,a1,Y,r'⟩) hok I.bare
theorem Inv.call{g':Array GenState}{t':Nat}{d':Drawn}{ch:List Addr}(I:Inv X pins σ H s)(u:Un (frs X.stack) ch H H' s.heap h')(hok:HOk X.prog X.w H' h')(hg:AllBare g')
 (U : ∀b∈ch,(b∈X.ex\/X.s₀.heap.objs.size<=b)/\b≠X.env.locals/\(∀x c,X.env.cells.lookup x=some c->c≠b)/\∀p∈X.pn++pins,p.1≠b) :
 Inv X pins σ H' {s with heap:=h',gens:=g',drawn:=d',toks:=t'}:=by
 obtain⟨m,⟨o,es,ep,Y,r⟩,_⟩:=id I.loc;obtain⟨sl,O⟩:=u.any Y I.free λz=>(U _ z).2.1 rfl;exact I.step (ch:=ch) U (λb o O hb y e n=>u.keep b o e n (λz=>(zcY.mp (I.stkSub b z)).elim O hb) y) (λb o _ _ y e n=>u.any e n y) (λb o y e n=>u.free b o e n y) (λb o y e=>u.there b o e y) u.tups u.frzs u.tbls (λm' hm=>by
  obtain⟨o',a3,a4,a0,r'⟩:=hm;rw [Y]at a0;cases a0;exact⟨_,a3,a4,O,r'⟩) hok hg
theorem Inv.turned{t':Nat}{it:Addr}(I:Inv X pins σ H s)(k : ∀b o,b≠it->s.heap.get? b=some o->h'.get? b=some o)(hn:H it=none)(O:it≠X.env.locals)
 (h1:it∈X.ex\/X.s₀.heap.objs.size<=it) (h2 : ∀x c,X.env.cells.lookup x=some c->c≠it) (Y : ∀p∈X.pn++pins,p.1≠it):Inv X pins σ H {s with heap:=h',toks:=t'}:=by
 have U : ∀b u,H b=some u->b≠it:=λb u e z=>by rw [z,hn]at e;cases e
 refine I.step (g':=s.gens) (d':=s.drawn) (ch:=[it]) (λb hb=>?_) (λb o _ _ y e _=>k b o (λz=>y (by simp [z])) e) (λb o _ _ y e _=>⟨o.slots,k b o (λz=>y (by simp [z])) e⟩) (λ_ _ _ _ n=>n)
  (λb o y e=>⟨o,k b o (λz=>y (by simp [z])) e⟩) (λ_ _ e=>e) (λ_ _ _ e=>e) (λb ps e=>⟨#[],by rw [e];simp⟩) (λm hm=>?_) (λb u e=>?_) I.bare
 ·have e:b=it:=by simpa using hb
  subst e;exact⟨h1,O,h2,Y⟩
 ·obtain⟨o,es,ep,ho,r⟩:=hm
  exact⟨o,es,ep,k _ o (zdy O) ho,r⟩
 ·refine(I.hok b u e).stay (λc v y q=>k c v ?_ q) (λ_ q=>q) λ_ _ q=>q
  rcases y with z | z
  ·rw [z];exact U b u e
  ·exact U c _ z
theorem Inv.tok(I:Inv X pins σ H s)(t:Nat):Inv X pins σ H {s with toks:=t}:=I.un (h':=s.heap) (t':=t) Un.refl I.hok
theorem Inv.kept{t':Nat}(I:Inv X pins σ H s)(k : ∀b u,s.heap.get? b=some u->h'.get? b=some u):Inv X pins σ H {s with heap:=h',toks:=t'}:=I.un (Un.kept k) (I.hok.kept k)
theorem Inv.laid{a:Addr}{o:HO}{t':Nat}(I:Inv X pins σ H s)(k : ∀b u,s.heap.get? b=some u->h'.get? b=some u)(y:s.heap.objs.size<=a)(new:ObjOk X.prog X.w (upd H a o) h' a o) :
 Inv X pins σ (upd H a o) {s with heap:=h',toks:=t'}:=I.un (Un.laid k y (I.hok.fresh y)) (I.hok.laid k y new)
theorem Inv.write{x e:Addr}{o:HO}{t':Nat}(I:Inv X pins σ H s)(y:Mut (H x))(O:e=x\/H e=some (.own x))(k : ∀b u,b≠e->s.heap.get? b=some u->h'.get? b=some u)(U : ∃u,h'.get? e=some u)
 (new:ObjOk X.prog X.w (upd H x o) h' x o):Inv X pins σ (upd H x o) {s with heap:=h',toks:=t'}:=I.un (Un.write y O k U) (I.hok.write y O k U new)
theorem Inv.pins_of{y:List (Addr×Obj)}(I:Inv X pins σ H s)(h : ∀p∈y,s.heap.get? p.1=some p.2/\H p.1=none/\p.1≠X.env.locals/\p.1∉X.fs/\∀v,p.2.data ≠ .cell v):Inv X y σ H s:=
 ⟨I.ok,I.os,I.bare,I.base,I.loc,I.cell,I.free,I.freeC,λp O=>(List.mem_append.mp O).elim (λz=>I.pin p (List.mem_append_left _ z)) (h p),I.hok,I.len⟩
theorem Jc{N:List Str}(y:N.Nodup){i j:Nat}{x:Str}(a:N[i]? = some x)(b:N[j]? = some x):i=j:=by
 obtain⟨h1,e1⟩:=zc9.mp a;obtain⟨h2,e2⟩:=zc9.mp b;exact(List.getElem_inj y).mp (e1.trans e2.symm)
theorem wF{M:Model}{A:Around}{E:Value->Shared->Prop}{i:Nat}{x:Str}{v:V}{u:Value}{Q:Unit->Shared->Prop}(I:Inv X pins σ H s)(hN:X.N.Nodup)(hi:X.N[i]? = some x)(U:Loc X.env.scope x)(r:RelV v u)
 (h : ∀s',Inv X pins (σ.set i (some v)) H s'->(∃a,zeL a s.heap s'.heap/\(a=X.env.locals\/X.env.cells.lookup x=some a))->Q () s') (hf:X.fn x=true\/X.env.scope.names.lookup x=some .local:=by first | exact .inl rfl | exact .inr rfl | assumption):wpAny M A (storeName X.env x u) Q E s:=by
 obtain⟨m,hn,hl⟩:=id I.loc;have aj:(X.env.scope.kind == .class || (X.env.scope.kind == .module && X.env.locals != X.env.globals))=false:=by rw [I.ok.kind];rfl
 have ab:i<σ.length:=by rw [I.len];exact(zc9.mp hi).1
 have cne:=I.cne;have ac : ∀{a:Addr} {h':Heap},(∃o,s.heap.get? a=some o/\H a=none)->zeL a s.heap h'->HOk X.prog X.w H h':=λ{a h'} ha hs b ob e=>by
  obtain⟨_,_,ae⟩:=ha;refine(I.hok b ob e).stay (λc w' O q=>(hs.2 c ?_).trans q) (λ_ q=>q) λ_ _ q=>q;rintro rfl;rcases O with rfl | O
  ·rw [ae]at e;cases e
  ·rw [ae]at O;cases O
 rcases U with Y | Y
 ·refine wpAny_storeName_local Y hn (λh' am hs=>?_) aj
  obtain⟨oL,_,_,ao,_⟩:=id hn;refine h _ ⟨I.ok,I.os,I.bare,⟨λb o e n hb U=>?_,λb o e n hb U=>?_,I.base.free,λb o e U=>?_,I.base.tups,I.base.frzs,I.base.tbls⟩,⟨_,am,λj y v' e1 e2 e3=>?_⟩,λy c e=>?_,I.free,I.freeC,λp hp=>?_,ac ⟨oL,ao,I.free⟩ hs,by simpa using I.len⟩ ⟨_,hs,.inl rfl⟩
  ·exact(hs.2 b (zda (zc8 (zcX e) I.ok.above))).trans (I.base.keep b o e n hb U)
  ·obtain⟨sl,e1⟩:=I.base.slot b o e n hb U
   exact⟨sl,(hs.2 b (zda (zc8 (zcX e) I.ok.above))).trans e1⟩
  ·obtain⟨o',e1⟩:=I.base.there b o e U
   exact⟨o',(hs.2 b (zda (zc8 (zcX e) I.ok.above))).trans e1⟩
  ·by_cases hj:j=i
   ·subst hj
    rw [hi]at e1;cases e1;rw [zdv ab]at e2;cases e2;exact⟨u,r,.inl ⟨Y,by simp⟩⟩
   ·rw [zc2 (zdy hj)]at e2
    obtain⟨u',r',q⟩:=hl j y v' e1 e2 e3;refine⟨u',r',?_⟩;rcases q with⟨k,e⟩ | ⟨k,c,e,z⟩
    ·refine .inl ⟨k,?_⟩
     have:y≠x:=λe=>hj (Jc hN e1 (e ▸ hi));simp [this,e]
    ·exact .inr ⟨k,c,e,z.sameBut hs (cne y c e)⟩
  ·obtain⟨w',z⟩:=I.cell y c e
   exact⟨w',z.sameBut hs (cne y c e)⟩
  ·obtain⟨e,n,ne,nf,d⟩:=I.pin p hp
   exact⟨(hs.2 p.1 ne).trans e,n,ne,nf,d⟩
 ·have a8:X.fn x=true:=by
   rcases hf with z | z
   ·exact z
   ·rw [z]at Y;cases Y
  obtain⟨c,O⟩:=I.ok.has x (.inl Y);obtain⟨w',z⟩:=I.cell x c O;refine wpAny_storeName_cell I.ok.kind Y O z (λh' af hs=>?_);obtain⟨oc,ag,ap⟩:=id z;refine h {s with heap:=h'} ⟨I.ok,I.os,I.bare,⟨λb o e n hb U=>?_,λb o e n hb U=>?_,I.base.free,λb o e U=>?_,I.base.tups,I.base.frzs,I.base.tbls⟩,⟨m,hn.sameBut hs (zdy (cne x c O)),λj y v' e1 e2 e3=>?_⟩,λy c' e=>?_,I.free,I.freeC,λp hp=>?_,ac ⟨oc,ag,I.freeC x c O⟩ hs,by simpa using I.len⟩ ⟨c,hs,.inr O⟩
  ·exact(hs.2 b (zda (zc8 (zcX e) (I.ok.cab x c a8 O)))).trans (I.base.keep b o e n hb U)
  ·obtain⟨sl,e1⟩:=I.base.slot b o e n hb U
   exact⟨sl,(hs.2 b (zda (zc8 (zcX e) (I.ok.cab x c a8 O)))).trans e1⟩
  ·obtain⟨o',e1⟩:=I.base.there b o e U
   exact⟨o',(hs.2 b (zda (zc8 (zcX e) (I.ok.cab x c a8 O)))).trans e1⟩
  ·by_cases hj:j=i
   ·subst hj
    rw [hi]at e1;cases e1;rw [zdv ab]at e2;cases e2;exact⟨u,r,.inr ⟨.inl Y,c,O,af⟩⟩
   ·rw [zc2 (zdy hj)]at e2
    obtain⟨u',r',q⟩:=hl j y v' e1 e2 e3;refine⟨u',r',?_⟩;rcases q with q | ⟨k,c',e,z'⟩
    ·exact .inl q
    ·refine .inr ⟨k,c',e,z'.sameBut hs ?_⟩
     rintro rfl;exact hj (Jc hN e1 (I.ok.inj _ _ _ e O ▸ hi))
  ·by_cases ah:c'=c
   ·subst ah;exact⟨_,af⟩
   ·obtain⟨w2,z2⟩:=I.cell y c' e
    exact⟨w2,z2.sameBut hs ah⟩
  ·obtain⟨e,n,ne,nf,d⟩:=I.pin p hp
   refine⟨(hs.2 p.1 ?_).trans e,n,ne,nf,d⟩;intro q;rw [q,ag]at e;have q':oc=p.2:=zdH e;exact d w' (by rw [<- q'];exact ap)
theorem Z0{M:Model}{A:Around}{E:Value->Shared->Prop}{i:Nat}{x:Str}{v:V}{u:Value}{Q:Unit->Shared->Prop}(I:Inv X pins σ H s)(y:X.N.Nodup)(hi:X.N[i]? = some x)(O:Loc X.env.scope x)(r:RelV v u)
 (h : ∀s',Inv X pins (σ.set i (some v)) H s'->Q () s') (U:X.fn x=true\/X.env.scope.names.lookup x=some .local:=by first | exact .inl rfl | exact .inr rfl | assumption):wpAny M A (storeName X.env x u) Q E s:=
 wF I y hi O r (λs' Y _=>h s' Y) U
theorem Inv.call'{s':Shared}{ch:List Addr}(I:Inv X pins σ H s)(y:s'.os=s.os)(u:Un (frs X.stack) ch H H' s.heap s'.heap)(hok:HOk X.prog X.w H' s'.heap)(O:AllBare s'.gens)
 (U : ∀b∈ch,(b∈X.ex\/X.s₀.heap.objs.size<=b)/\b≠X.env.locals/\(∀x c,X.env.cells.lookup x=some c->c≠b)/\∀p∈X.pn++pins,p.1≠b):Inv X pins σ H' s':=by
 obtain⟨h',g',d',t',o'⟩:=s';have e:o'=s.os:=y;subst e;exact I.call (g':=g') (t':=t') (d':=d') u hok O U
end
abbrev XK:=Value->Option Addr->Hp->Prop
abbrev St:=List (Option V)
abbrev VK:=V->Hp->Prop
abbrev TE:=St->Hp->VK->Prop
abbrev TT:=St->Hp->(Bool->Hp->Prop)->Prop
abbrev TA:=St->Hp->(List V->Hp->Prop)->Prop
structure Ends where
 nx:St->Hp->Prop
 rt:VK
 bk:St->Hp->Prop:=λ_ _=>False
 ct:St->Hp->Prop:=λ_ _=>False
abbrev TS:=Ends->St->Hp->Prop
def EP(X:Cx)(pins:List (Addr×Obj))(σ:St)(Q:VK)(u:Value)(s':Shared):Prop:=∃v H',Inv X pins σ H' s'/\RelV v u/\Q v H'
def TP(X:Cx)(pins:List (Addr×Obj))(σ:St)(Q:Bool->Hp->Prop)(b:Bool)(s':Shared):Prop:=∃H',Inv X pins σ H' s'/\Q b H'
def AP(X:Cx)(pins:List (Addr×Obj))(σ:St)(Q:List V->Hp->Prop)(us:List Value)(s':Shared):Prop:=∃vs H',Inv X pins σ H' s'/\Vals vs us/\Q vs H'
def SP(X:Cx)(pins:List (Addr×Obj))(D:Ends)(f:Flow)(s':Shared):Prop:=
 match f with
 | .next=>∃σ' H',Inv X pins σ' H' s'/\D.nx σ' H'
 | .brk=>∃σ' H',Inv X pins σ' H' s'/\D.bk σ' H'
 | .cont=>∃σ' H',Inv X pins σ' H' s'/\D.ct σ' H'
 | .ret u=>∃v σ' H',Inv X pins σ' H' s'/\RelV v u/\D.rt v H'
def PE(X:Cx)(e:Expr)(t:TE):Prop:=
 ∀(pins:List (Addr×Obj)) (s:Shared) (σ:St) (H:Hp) (Q:VK),Inv X pins σ H s->t σ H Q->wpAny (model X.prog X.w) X.A (eval e X.env) (EP X pins σ Q) X.xe s
def PT(X:Cx)(e:Expr)(t:TT):Prop:=
 ∀(pins:List (Addr×Obj)) (s:Shared) (σ:St) (H:Hp) (Q:Bool->Hp->Prop),Inv X pins σ H s->t σ H Q->wpAny (model X.prog X.w) X.A (isTrue e X.env (eval e X.env)) (TP X pins σ Q) X.xe s
def PW(X:Cx)(e:Expr)(t:TT):Prop:=
 ∀(y:Sem Value) (pins:List (Addr×Obj)) (s:Shared) (σ:St) (H:Hp) (Q:Bool->Hp->Prop),Inv X pins σ H s->t σ H Q->wpAny (model X.prog X.w) X.A (isTrue e X.env y) (TP X pins σ Q) X.xe s
theorem PW.pt{X:Cx}{e:Expr}{t:TT}(h:PW X e t):PT X e t:=h _
def PA(X:Cx)(es:List Expr)(t:TA):Prop:=
 ∀(pos:Pos) (pins:List (Addr×Obj)) (s:Shared) (σ:St) (H:Hp) (Q:List V->Hp->Prop),Inv X pins σ H s->t σ H Q->wpAny (model X.prog X.w) X.A (spliced (backTo pos (starEach es X.env))) (AP X pins σ Q) X.xe s
def PS(X:Cx)(st:Stmt)(t:TS):Prop:=
 ∀(pins:List (Addr×Obj)) (s:Shared) (σ:St) (H:Hp) (D:Ends),Inv X pins σ H s->t D σ H->wpAny (model X.prog X.w) X.A (exec st X.env) (SP X pins D) X.xe s
def PSs(X:Cx)(st:List Stmt)(t:TS):Prop:=
 ∀(pins:List (Addr×Obj)) (s:Shared) (σ:St) (H:Hp) (D:Ends),Inv X pins σ H s->t D σ H->wpAny (model X.prog X.w) X.A (execs st X.env) (SP X pins D) X.xe s
theorem thn{α:Type}{t:Sem α}{Q y:α->Shared->Prop}{M:Model}{A:Around}{E:Value->Shared->Prop}{s:Shared}(h:wpAny M A t Q E s)(I : ∀a s,Q a s->y a s):wpAny M A t y E s:=zeO h I λ_ _ x=>x
section
variable{X:Cx}
def VI(i:Nat):TE:=λσ H Q=>∃v,σ[i]? = some (some v)/\Q v H
def tC(v:V):TE:=λ_ H Q=>Q v H
theorem WC{i:Nat}{x:Str}{pos:Pos}(hN:X.N[i]? = some x)(hv:Vis X.env.scope x)(hd:(x==("__debug__" : Str))=false:=by decide)(a2:(x==("__classdict__" : Str))=false:=by decide):PE X (.Name x pos) (VI i):=by
 intro pins s σ H Q I h;obtain⟨v,e,h⟩:=h;obtain⟨m,hn,hl⟩:=I.loc;obtain⟨u,r,l⟩:=hl i x v hN e hv;have O:EP X pins σ Q u s:=⟨v,H,I,r,h⟩;rcases l with⟨y,hm⟩ | ⟨y,c,U,Y⟩
 ·exact wpAny_Name (wpAny_loadName_local I.ok.kind y hn hm O) hd
 ·rcases y with y | y
  ·exact wpAny_Name (wpAny_loadName_cell I.ok.kind y U Y O) hd
  ·exact wpAny_Name (wpAny_loadName_free I.ok.kind y U Y O a2) hd
theorem WI{i j pos}:PE X (.Constant (.int i) j pos) (tC (.int i)):=λ_ _ _ H _ I h=>wpAny_Constant_int ⟨.int i,H,I.tok _,⟨_,rfl⟩,h⟩
theorem zbb{b j pos}:PE X (.Constant (.bool b) j pos) (tC (.bl b)):=λ_ _ _ H _ I h=>Constant_bool ⟨.bl b,H,I,rfl,h⟩
theorem WG{j pos}:PE X (.Constant .none j pos) (tC .non):=λ_ _ _ H _ I h=>Constant_none ⟨.non,H,I,rfl,h⟩
theorem WD{x j pos}:PE X (.Constant (.str x) j pos) (tC (.str x)):=λ_ _ _ H _ I h=>Calls.Constant_str ⟨.str x,H,I.tok _,⟨_,rfl⟩,h⟩
def Gl(X:Cx)(x:Str):Prop:=X.env.kindOf x=some .globalImplicit
theorem QL{E:Value->Shared->Prop}{pins:List (Addr×Obj)}{s:Shared}{σ:St}{H:Hp}{x:Str}{u:Value}{pos:Pos}{Q:Value->Shared->Prop}(I:Inv X pins σ H s)(y:Gl X x)(hm:X.mg x=some u)(h:Q u s)
 (hd:(x==("__debug__" : Str))=false:=by decide):wpAny (model X.prog X.w) X.A (eval (.Name x pos) X.env) Q E s:=
 Calls.Name_function_global I.ok.kind y (Calls.loadGlobal_global (by rw [I.ok.glob];exact I.mod.glob.keeps I.bk) hm h) hd
theorem xK{E:Value->Shared->Prop}{pins:List (Addr×Obj)}{s:Shared}{σ:St}{H:Hp}{x:Str}{u:Value}{pos:Pos}{Q:Value->Shared->Prop}(I:Inv X pins σ H s)(y:Gl X x)(hm:X.mg x=none)(O:bootBuiltins x=some u)(h:Q u s)
 (hn:x ≠ "__name__":=by decide) (hd:(x==("__debug__" : Str))=false:=by decide):wpAny (model X.prog X.w) X.A (eval (.Name x pos) X.env) Q E s:=by
 obtain⟨mb,h1,h2⟩:=I.mod.blt;exact Calls.Name_function_global I.ok.kind y (Calls.loadGlobal_builtin (by rw [I.ok.glob];exact I.mod.glob.keeps I.bk) hm (by rw [I.ok.blt];exact h1.keeps I.bk) ((h2 x hn).trans O) h) hd
variable{a b:Expr}{ta tb:TE}{pos:Pos}
def tB(t:TE):TT:=λσ H Q=>t σ H λx H1=>∃c,x = .bl c/\Q c H1
theorem Wq{e:Expr}{t:TE}(h:PE X e t)(O : ∀y,isTrue e X.env y=(do let v <- y;standAt e.pos;holding [v] (truthy v)):=by intro _;rfl):PT X e (tB t):=by
 intro pins s σ H Q I hw;refine isTrue_plain (thn (h pins s σ H _ I hw) λv s1 U=>?_) (O _);obtain⟨x,H1,Y,r1,q1⟩:=U;obtain⟨d,rfl,q⟩:=q1;cases r1;exact zej ⟨H1,Y,q⟩
variable{tA tB':TT}{xA:List Expr}
def zcm(t u:TT):TT:=λσ H Q=>t σ H λc H1=>if c=true then u σ H1 Q else Q false H1
def tOr(t u:TT):TT:=λσ H Q=>t σ H λc H1=>if c=true then Q true H1 else u σ H1 Q
def zch(t:TT):TT:=λσ H Q=>t σ H λc H1=>Q (!c) H1
theorem YN(ha:PT X a tA):PW X (.BoolOp .And [a] pos) tA:=by
 intro y pins s σ H Q I h;refine isTrue_and (thn (ha pins s σ H Q I h) λc s1 e=>?_);cases c with
 | true=>exact isTrue_and_nil e
 | false=>exact e
theorem Wk(ha:PT X a tA):PW X (.BoolOp .Or [a] pos) tA:=by
 intro y pins s σ H Q I h;refine isTrue_or (thn (ha pins s σ H Q I h) λc s1 e=>?_);cases c with
 | false=>exact isTrue_or_nil e
 | true=>exact e
theorem Wl(ha:PT X a tA)(U:PW X (.BoolOp .And (b::xA) pos) tB'):PW X (.BoolOp .And (a::b::xA) pos) (zcm tA tB'):=by
 intro Y pins s σ H Q I h;refine isTrue_and (thn (ha pins s σ H _ I h) λc s1 hZ=>?_);obtain⟨H1,y,O⟩:=hZ;cases c with
 | true=>exact U Y pins s1 σ H1 Q y O
 | false=>exact⟨H1,y,O⟩
theorem za5(ha:PT X a tA)(U:PW X (.BoolOp .Or (b::xA) pos) tB'):PW X (.BoolOp .Or (a::b::xA) pos) (tOr tA tB'):=by
 intro Y pins s σ H Q I h;refine isTrue_or (thn (ha pins s σ H _ I h) λc s1 hZ=>?_);obtain⟨H1,y,O⟩:=hZ;cases c with
 | true=>exact⟨H1,y,O⟩
 | false=>exact U Y pins s1 σ H1 Q y O
theorem Wr(ha:PT X a tA):PT X (.UnaryOp .Not a pos) (zch tA):=by
 intro pins s σ H Q I h;exact isTrue_not (ha pins s σ H (λc H1=>Q (!c) H1) I h)
def zaW(ta tb:TE):TE:=λσ H Q=>ta σ H λx H1=>∃c,x = .bl c/\if c=true then tb σ H1 Q else Q (.bl false) H1
def zaR(ta:TE):TE:=λσ H Q=>ta σ H λx H1=>∃c,x = .bl c/\Q (.bl (!c)) H1
theorem WE{op}{t:TE}(h:PE X a t):PE X (.BoolOp op [a] pos) t:=λpins s σ H Q I hw=>BoolOp_one (h pins s σ H Q I hw)
theorem WK(ha:PE X a ta)(U:PE X (.BoolOp .And (b::xA) pos) tb):PE X (.BoolOp .And (a::b::xA) pos) (zaW ta tb):=by
 intro pins s σ H Q I h;refine BoolOp_and (thn (ha pins s σ H _ I h) λv s1 Y=>?_);obtain⟨x,H1,O,r1,y⟩:=Y;obtain⟨c,rfl,y⟩:=y;cases r1;refine zej ?_;cases c with
 | true=>exact U pins s1 σ H1 Q O y
 | false=>exact⟨.bl false,H1,O,rfl,y⟩
theorem WF(ha:PE X a ta):PE X (.UnaryOp .Not a pos) (zaR ta):=by
 intro pins s σ H Q I h;refine UnaryOp_ (thn (ha pins s σ H _ I h) λv s1 O=>?_);obtain⟨x,H1,U,Y,y⟩:=O;obtain⟨c,rfl,y⟩:=y;cases Y;exact not_of (zej ⟨.bl (!c),H1,U,rfl,y⟩)
def tIf(t:TT)(ta tb:TE):TE:=λσ H Q=>t σ H λc H1=>if c=true then ta σ H1 Q else tb σ H1 Q
theorem X3{c:Expr}(U:PT X c tA)(ha:PE X a ta)(Y:PE X b tb):PE X (.IfExp c a b pos) (tIf tA ta tb):=by
 intro pins s σ H Q I h;refine wpAny_IfExp (thn (U pins s σ H _ I h) λd s1 hZ=>?_);obtain⟨H1,y,O⟩:=hZ;cases d with
 | true=>exact ha pins s1 σ H1 Q y O
 | false=>exact Y pins s1 σ H1 Q y O
end
def SqL(K:PySem.W.Frag)(H:Hp)(a:Addr)(xs:List V):Prop:=
 Rd H a (.lst xs)\/
  ∃(o:Obj) (its:Array Value) (n:Nat),K.lookup a=some o/\o.cls = .type "list"/\o.dict=none/\o.data = .seq its n/\its.size<=sizeLine/\Vals xs its.toList
def SqT(K:PySem.W.Frag)(H:Hp)(a:Addr)(xs:List V):Prop:=
 Rd H a (.tup xs)\/
  ∃(o:Obj) (its:Array Value) (n:Nat),K.lookup a=some o/\(o.cls,o.dict)=(zd5 "tuple",none)/\o.data = .seq its n/\its.size<=sizeLine/\Vals xs its.toList
def zcC:Value->Option V
 | .none=>some .non
 | .bool b=>some (.bl b)
 | .int i _=>some (.int i)
 | .str x _=>some (.str x)
 | .bytes b _=>some (.byt b)
 | .float b _=>some (.flt b)
 | .ref a=>some (.ref a)
 | .type n=>some (.ty n)
 | _=>none
theorem RelV.abs{x:V}{u:Value}(r:RelV x u):zcC u=some x:=by
 cases x with
 | non=>cases r;rfl
 | bl _=>cases r;rfl
 | int _=>obtain⟨t,rfl⟩:=r;rfl
 | str _=>obtain⟨t,rfl⟩:=r;rfl
 | byt _=>obtain⟨t,rfl⟩:=r;rfl
 | flt _=>obtain⟨t,rfl⟩:=r;rfl
 | ref _=>cases r;rfl
 | ty _=>cases r;rfl
theorem RelV.inj{x y:V}{u:Value}(r:RelV x u)(q:RelV y u):x=y:=zdH (r.abs.symm.trans q.abs)
theorem Vals.inj : ∀{xs ys:List V} {us:List Value},Vals xs us->Vals ys us->xs=ys
 | _,_,_,.nil,.nil=>rfl
 | _,_,_,.cons r t,.cons r' t'=>by rw [r.inj r',Vals.inj t t']
section
variable{X:Cx}{pins:List (Addr×Obj)}{σ:St}{H:Hp}{s:Shared}{a:Addr}{xs ys:List V}
theorem SqL.of{K:PySem.W.Frag}(h:H a=some (.lst xs)):SqL K H a xs:= .inl (.inl h)
theorem SqT.of{K:PySem.W.Frag}(h:H a=some (.tup xs)):SqT K H a xs:= .inl (.inl h)
theorem Inv.list(I:Inv X pins σ H s)(h:SqL X.K H a xs) : ∃its:List Value,Vals xs its/\PlainL s.heap a its.toArray/\xs.length<=sizeLine:=by
 rcases h with h | ⟨o,its,n,y,O,hd,hs,hz,r⟩
 ·obtain⟨z,its,n,r,e⟩:=h.ok I.hok
  exact⟨its,r,⟨_,n,e,rfl,rfl,rfl⟩,z⟩
 ·refine⟨its.toList,r,⟨o,n,I.kIn a o y,O,hd,by simpa using hs⟩,?_⟩
  have e:=r.length;simp only [zeS]at e;omega
theorem Inv.tuple(I:Inv X pins σ H s)(h:SqT X.K H a xs) : ∃its:List Value,Vals xs its/\IsTup s.heap a its.toArray/\xs.length<=sizeLine:=by
 rcases h with h | ⟨o,its,n,y,O,hs,hz,r⟩
 ·obtain⟨z,its,r,p⟩:=h.ok I.hok
  exact⟨its,r,p.tup,z⟩
 ·refine⟨its.toList,r,⟨o,I.kIn a o y,(Prod.mk.inj O).1,n,by simpa using hs⟩,?_⟩
  have e:=r.length;simp only [zeS]at e;omega
theorem Inv.list_inj(I:Inv X pins σ H s)(h:SqL X.K H a xs)(h':SqL X.K H a ys):xs=ys:=by
 obtain⟨its,r,⟨o,n,e,_,_,d⟩,_⟩:=I.list h;obtain⟨its',r',⟨o',U,y,_,_,d'⟩,_⟩:=I.list h';rw [e]at y;cases y;rw [d]at d';injection d' with O _;have:its=its':=by simpa using congrArg Array.toList O
 subst this;exact r.inj r'
theorem Inv.tuple_inj(I:Inv X pins σ H s)(h:SqT X.K H a xs)(h':SqT X.K H a ys):xs=ys:=by
 obtain⟨its,r,⟨o,e,_,n,d⟩,_⟩:=I.tuple h;obtain⟨its',r',⟨o',y,_,U,d'⟩,_⟩:=I.tuple h';rw [e]at y;cases y;rw [d]at d';injection d' with O _;have:its=its':=by simpa using congrArg Array.toList O
 subst this;exact r.inj r'
end
abbrev Cx.wish(X:Cx)(E:Value->Shared->Prop):Cx:={X with xe:=E}
abbrev Cx.nox(X:Cx):Cx:=X.wish λ_ _=>False
theorem Cx.Ok.wish{X:Cx}(ok:X.Ok)(E:Value->Shared->Prop):(X.wish E).Ok:=
 ⟨ok.mod,ok.kind,ok.glob,ok.blt,ok.above,ok.inj,ok.has,ok.cab,ok.hd,ok.frames,ok.stk,ok.exf,ok.bs,ok.bsz,ok.noex,ok.exfs,ok.funs,ok.frf⟩
theorem Cx.Ok.unwish{X:Cx}{E:Value->Shared->Prop}(ok:(X.wish E).Ok):X.Ok:=
 ⟨ok.mod,ok.kind,ok.glob,ok.blt,ok.above,ok.inj,ok.has,ok.cab,ok.hd,ok.frames,ok.stk,ok.exf,ok.bs,ok.bsz,ok.noex,ok.exfs,ok.funs,ok.frf⟩
section
variable{X:Cx}{pins:List (Addr×Obj)}{σ:St}{H:Hp}{s:Shared}{E:Value->Shared->Prop}
theorem Inv.wish(I:Inv X pins σ H s)(E:Value->Shared->Prop):Inv (X.wish E) pins σ H s:=⟨I.ok.wish E,I.os,I.bare,I.base,I.loc,I.cell,I.free,I.freeC,I.pin,I.hok,I.len⟩
theorem Inv.unwish(I:Inv (X.wish E) pins σ H s):Inv X pins σ H s:=⟨I.ok.unwish,I.os,I.bare,I.base,I.loc,I.cell,I.free,I.freeC,I.pin,I.hok,I.len⟩
theorem SP.unwish{D:Ends}{f:Flow}{s':Shared}(h:SP (X.wish E) pins D f s'):SP X pins D f s':=by
 cases f with
 | next=>obtain⟨σ',H',I,q⟩:=h;exact⟨σ',H',I.unwish,q⟩
 | brk=>obtain⟨σ',H',I,q⟩:=h;exact⟨σ',H',I.unwish,q⟩
 | cont=>obtain⟨σ',H',I,q⟩:=h;exact⟨σ',H',I.unwish,q⟩
 | ret u=>obtain⟨v,σ',H',I,r,q⟩:=h;exact⟨v,σ',H',I.unwish,r,q⟩
theorem PSs.nox{st:List Stmt}{t:TS}(h:PSs X.nox st t):PSs X st t:=λpins s σ H D I hw=>
 zeO (h pins s σ H D (I.wish _) hw) (λ_ _ q=>q.unwish) λ_ _ z=>zeC z
end
section
variable{X:Cx}{st:Stmt}{xA:List Stmt}{t u:TS}{e:Expr}{te:TE}{pos:Pos}
def zaT:TS:=λD σ H=>D.nx σ H
def zcf(t u:TS):TS:=λD σ H=>t {D with nx:=u D} σ H
theorem ZB:PSs X [] zaT:=λ_ _ σ H _ I h=>wpAny_execs_nil ⟨σ,H,I,h⟩
theorem ke(h1:PS X st t)(h2:PSs X xA u):PSs X (st::xA) (zcf t u):=by
 intro pins s σ H D I h;refine wpAny_execs_cons (thn (h1 pins s σ H {D with nx:=u D} I h) λf s1 q=>?_);cases f with
 | next=>
  obtain⟨σ',H',y,q⟩:=q;exact h2 pins s1 σ' H' D y q
 | ret v=>exact q
 | brk=>exact q
 | cont=>exact q
theorem ZA(h1:PS X st t):PSs X [st] t:=by
 intro pins s σ H D I h;refine wpAny_execs_cons (thn (h1 pins s σ H D I h) λf s1 q=>?_);cases f with
 | next=>exact wpAny_execs_nil q
 | ret v=>exact q
 | brk=>exact q
 | cont=>exact q
def zaV:TS:=λD σ H=>D.ct σ H
theorem ZD:PS X (.Continue pos) zaV:=λ_ _ σ H _ I h=>wpAny_Continue ⟨σ,H,I,h⟩
theorem Inv.quiet{pins:List (Addr×Obj)}{σ:St}{H:Hp}{s:Shared}(I:Inv X pins σ H s):interactive X.env=false:=by simp [interactive,I.ok.kind]
def zaU(te:TE):TS:=λD σ H=>te σ H λ_ H1=>D.nx σ H1
theorem v6(y:PE X e te)(hs:swapsWith e none pos.line X.env=pure false:=by rfl):PS X (.Expr e pos) (zaU te):=by
 intro pins s σ H D I h;exact wpAny_Expr_any (thn (y pins s σ H _ I h) λv s1 ⟨x,H1,O,Y,U⟩=>⟨σ,H1,O,U⟩) I.quiet hs
def zcg(te:TE):TS:=λD σ H=>te σ H D.rt
theorem wV(y:PE X e te):PS X (.Return (some e) pos) (zcg te):=by
 intro pins s σ H D I h;exact wpAny_Return_some (thn (y pins s σ H _ I h) λv s1 ⟨x,H1,O,U,Y⟩=>⟨x,σ,H1,O,U,Y⟩)
def zcj(c:TT)(t u:TS):TS:=λD σ H=>c σ H λb H1=>if b=true then t D σ H1 else u D σ H1
theorem YS{c:Expr}{a b:List Stmt}{tc:TT}(U:PT X c tc)(ha:PSs X a t)(Y:PSs X b u):PS X (.If c a b pos) (zcj tc t u):=by
 intro pins s σ H D I h;refine wpAny_If (thn (U pins s σ H _ I h) λd s1 hZ=>?_);obtain⟨H1,y,O⟩:=hZ;cases d with
 | true=>exact ha pins s1 σ H1 D y O
 | false=>exact Y pins s1 σ H1 D y O
def V0:TS:=λ_ _ _=>False
theorem XV:PS X st V0:=λ_ _ _ _ _ _ h=>h.elim
end
abbrev TG:=V->St->Hp->(St->Hp->Prop)->Prop
abbrev TGs:=List V->St->Hp->(St->Hp->Prop)->Prop
def PG(X:Cx)(y:Expr)(t:TG):Prop:=
 ∀(pins:List (Addr×Obj)) (s:Shared) (σ:St) (H:Hp) (v:V) (u:Value) (Q:St->Hp->Prop),Inv X pins σ H s->RelV v u->t v σ H Q->
  wpAny (model X.prog X.w) X.A (assign y X.env u) (λ_ s'=>∃σ' H',Inv X pins σ' H' s'/\Q σ' H') X.xe s
def PGs(X:Cx)(y:List Expr)(t:TGs):Prop:=
 ∀(pins:List (Addr×Obj)) (s:Shared) (σ:St) (H:Hp) (vs:List V) (us:List Value) (Q:St->Hp->Prop),Inv X pins σ H s->Vals vs us->t vs σ H Q->
  wpAny (model X.prog X.w) X.A (assignInOrder ((assignEach y X.env).map (·.2)) us) (λ_ s'=>∃σ' H',Inv X pins σ' H' s'/\Q σ' H') X.xe s
abbrev zbN:=V->V->V->Hp->(Hp->Prop)->Prop
def zca(X:Cx)(t:zbN):Prop:=
 ∀(pins:List (Addr×Obj)) (s:Shared) (σ:St) (H:Hp) (o i v:V) (y I u:Value) (Q:Hp->Prop),Inv X pins σ H s->RelV o y->RelV i I->RelV v u->t o i v H Q->
  wpAny (model X.prog X.w) X.A (setItem y I u) (λ_ s'=>∃H',Inv X pins σ H' s'/\Q H') X.xe s
section
variable{X:Cx}{pos:Pos}
def kI(i:Nat):TG:=λv σ H Q=>Q (σ.set i (some v)) H
theorem QB{i:Nat}{x:Str}(y:X.N.Nodup)(hi:X.N[i]? = some x)(O:Loc X.env.scope x)(U:X.fn x=true\/X.env.scope.names.lookup x=some .local:=by first | exact .inl rfl | exact .inr rfl | assumption):PG X (.Name x pos) (kI i):=by
 intro pins s σ H v u Q I r h;exact wpAny_assign_Name (Z0 I y hi O r (λs' Y=>⟨_,H,Y,h⟩) U)
def zb1:TGs:=λvs σ H Q=>vs=[]/\Q σ H
def zab(t:TG)(u:TGs):TGs:=λvs σ H Q=>∃v r,vs=v::r/\t v σ H λσ' H'=>u r σ' H' Q
theorem jQ:PGs X [] zb1:=by
 intro pins s σ H vs us Q I r h;obtain⟨e,h⟩:=h;subst e;cases r;exact assignInOrder_nil ⟨σ,H,I,h⟩
theorem zK{e:Expr}{es:List Expr}{t:TG}{u:TGs}(h1:PG X e t)(h2:PGs X es u)
 (hs:(assignEach (e::es) X.env).map (·.2)=assign e X.env::(assignEach es X.env).map (·.2):=by rfl):PGs X (e::es) (zab t u):=by
 intro pins s σ H vs us Q I r h;obtain⟨v,vr,e1,h⟩:=h;subst e1;cases r with
 | cons r y=>
  rw [hs];refine assignInOrder_cons (thn (h1 pins s σ H _ _ _ I r h) λ_ s1 O=>?_);obtain⟨U,H1,Y,q1⟩:=O;exact h2 pins s1 U H1 _ _ Q Y y q1
def zb0(K:PySem.W.Frag)(n:Nat)(t:TGs):TG:=λv σ H Q=>∃a xs,v = .ref a/\SqT K H a xs/\xs.length=n/\t xs σ H Q
theorem WA{es:List Expr}{k:Nat}{t:TGs}{n:Nat}(O:X.calm=true)(h:PGs X es t)
 (hn:(assignEach es X.env).length=n:=by rfl) (U:(assignEach es X.env).findIdx? (·.1)=none:=by rfl):PG X (.Tuple es k pos) (zb0 X.K n t):=by
 intro pins s σ H v u Q I r hw;obtain⟨a,xs,e1,Y,hl,hw⟩:=hw;subst e1;cases r;obtain⟨its,y,ht,hz⟩:=I.tuple Y;refine assign_Tuple_tuple (I.ok.hd O) ht (by simp [hn,<- hl,y.length]) U λh' hx=>?_;have I1:Inv X pins σ H {s with heap:=h'}:=I.kept (t':=s.toks) λb o e=>hx b o (zda (zcX e)) e;exact h pins _ σ H xs _ Q I1 (by simpa using y) hw
def zcw(to y:TE)(t:zbN):TG:=λv σ H Q=>to σ H λo H1=>y σ H1 λi H2=>t o i v H2 λI=>Q σ I
theorem WB{o i:Expr}{to ti:TE}{t:zbN}(ho:PE X o to)(hi:PE X i ti)(hs:zca X t)
 (ha : ∀v,assign (.Subscript o i pos) X.env v=(do
   let O <- holding [v] (eval o X.env);let U <- holding [v,O] (eval i X.env)
   standAt pos
   holding [v,O,U] (setItem O U v)
   release [v,O,U] []):=by intro _;rfl):PG X (.Subscript o i pos) (zcw to ti t):=by
 intro pins s σ H v u Q I r h;rw [ha];refine zcM (zd8 (thn (ho pins s σ H _ I h) λO s1 Y=>?_));obtain⟨x,H1,I1,r1,q1⟩:=Y;refine zcM (zd8 (thn (hi pins s1 σ H1 _ I1 q1) λU s2 Y=>?_));obtain⟨y,H2,I2,r2,q2⟩:=Y;refine zcM (wpAny_standAt (zcM (zd8 (thn (hs pins s2 σ H2 x y v O U u _ I2 r1 r2 r q2) λ_ s3 Y=>?_))));obtain⟨H3,I3,q3⟩:=Y;exact wpAny_release ⟨σ,H3,I3,q3⟩
def JY(te:TE)(g:TG):TS:=λD σ H=>te σ H λx H1=>g x σ H1 D.nx
theorem Qt{tg e:Expr}{te:TE}{g:TG}(y:PE X e te)(O:PG X tg g)(hs:swapsWithSole [tg] e pos.line X.env=pure false:=by rfl)(hw:swappedStores [tg] e X.env=pure none:=by rfl)
 (h1:(assignEach [tg] X.env).map (·.2)=[assign tg X.env]:=by rfl):PS X (.Assign [tg] e pos) (JY te g):=by
 intro pins s σ H D I h;refine wpAny_Assign_stores (thn (y pins s σ H _ I h) λv s1 U=>?_) hs hw;obtain⟨x,H1,Y,r1,q1⟩:=U;rw [h1];exact thn (O pins s1 σ H1 x v _ Y r1 q1) λ_ s2 q=>q
theorem Ws{i:Nat}{x:Str}{e:Expr}{te:TE}{O:Pos}(U:X.N.Nodup)(hi:X.N[i]? = some x)(Y:Loc X.env.scope x)(he:PE X e te)(hs:swapsWith e (some (.Name x O)) pos.line X.env=pure false:=by rfl)(hf:X.fn x=true\/X.env.scope.names.lookup x=some .local:=by first | exact .inl rfl | exact .inr rfl | assumption) :
 PS X (.Assign [.Name x O] e pos) (JY te (kI i)):=by
 intro pins s σ H D I h;refine wpAny_Assign_Name (thn (he pins s σ H _ I h) λv s1 hZ=>?_) hs;obtain⟨y,H1,I1,r1,q1⟩:=hZ;exact Z0 I1 U hi Y r1 (λs2 I2=>⟨_,H1,I2,q1⟩) hf
end
structure It where
 go:Nat->Hp->Prop
 yld:Nat->Hp->V->Hp->Prop
 stop:Nat->Hp->Prop
def FpOk(X:Cx)(pins:List (Addr×Obj))(H:Hp)(b:Addr):Prop:=
 H b=none/\b≠X.env.locals/\b∉X.fs/\(b∈X.ex\/X.s₀.heap.objs.size<=b)/\(∀x c,X.env.cells.lookup x=some c->c≠b)/\∀p∈X.pn++pins,p.1≠b
theorem Inv.fpOk{X:Cx}{pins:List (Addr×Obj)}{σ:St}{H H':Hp}{s:Shared}{b:Addr}(I:Inv X pins σ H s)(y:s.heap.objs.size<=b)(hn:H' b=none):FpOk X pins H' b:=by
 refine⟨hn,zd0 (zc8 I.lt y),I.nofs y,.inr (zdP I.sz y),λx c e z=>?_,λp O z=>?_⟩
 ·obtain⟨v,q⟩:=I.cell x c e
  exact absurd (zc8 q.lt (by rw [z];exact y)) (zdN _)
 ·exact absurd (zc8 (zcX (I.pin p O).1) (by rw [z];exact y)) (zdN _)
structure Turn(P:Program)(w:World)(K:PySem.W.Frag)(tg:Expr)(J:It)(fp:List Addr)(it:Addr)(tn:Nat->Heap->Prop):Prop where
 mem:it∈fp
 obj : ∀i h,tn i h->∀b∈fp,∃o,h.get? b=some o/\∀v,o.data ≠ .cell v
 keep : ∀i h h',tn i h->(∀b∈fp,∀o,h.get? b=some o->h'.get? b=some o)->tn i h'
 item : ∀(X:Cx),X.prog=P->X.w=w->X.K=K->X.calm=true->∀(i:Nat) (pins:List (Addr×Obj)) (s:Shared) (σ:St) (H:Hp) (E:Value->Shared->Prop),Inv X pins σ H s->(∀b∈fp,FpOk X pins H b)->tn i s.heap->J.go i H->
  wpAny (model P w) X.A (pyNext (.ref it)) (λr s1=>∃u,r=some u/\
   wpAny (model P w) X.A (letOwnedTupleGo tg (.ref it) u) (λ_ s2=>∃x H',Inv X pins σ H' s2/\RelV x u/\J.yld i H x H'/\tn (i+1) s2.heap/\∀b∈fp,H' b=none) E s1) E s
 done : ∀(X:Cx),X.prog=P->X.w=w->X.K=K->X.calm=true->∀(i:Nat) (pins:List (Addr×Obj)) (s:Shared) (σ:St) (H:Hp) (E:Value->Shared->Prop),Inv X pins σ H s->(∀b∈fp,FpOk X pins H b)->tn i s.heap->J.stop i H->
  wpAny (model P w) X.A (pyNext (.ref it)) (λr s1=>r=none/\Inv X pins σ H s1) E s
 self : ∀(A:Around) (i:Nat) (s:Shared) (Q:Value->Shared->Prop) (E:Value->Shared->Prop),tn i s.heap->Q (.ref it) s->wpAny (model P w) A (pyIter (.ref it)) Q E s
abbrev TI:=St->Hp->(It->Hp->Prop)->Prop
def PIE(X:Cx)(pins:List (Addr×Obj))(σ:St)(tg:Expr)(R:It->Hp->Prop)(y:Value)(s2:Shared):Prop:=
 ∃(it:Addr) (fp:List Addr) (tn:Nat->Heap->Prop) (J:It) (H':Hp),y = .ref it/\Inv X pins σ H' s2/\Turn X.prog X.w X.K tg J fp it tn/\tn 0 s2.heap/\(∀b∈fp,FpOk X pins H' b)/\R J H'
def PI(X:Cx)(tg iter:Expr)(wi:TI):Prop:=
 ∀(pins:List (Addr×Obj)) (s:Shared) (σ:St) (H:Hp) (R:It->Hp->Prop),Inv X pins σ H s->wi σ H R->
  wpAny (model X.prog X.w) X.A (eval iter X.env) (λv s1=>wpAny (model X.prog X.w) X.A (pyIter v) (PIE X pins σ tg R) X.xe s1) X.xe s
theorem Vi{M:Model}{A:Around}{E:Value->Shared->Prop}{s:Shared}{tg:Expr}{it:Addr}{u:Value}{o:Obj}{n:String}{vs:Array Value}{Q:Unit->Shared->Prop}(I:s.heap.get? it=some o)(O:o.cls = .type n)(hd:o.data = .fields vs)
 (hn:["enumerate","zip","dict_itemiterator","dict_reverseitemiterator","odict_iterator","itertools.zip_longest","itertools.pairwise"].contains n=false) (y:Q () s):wpAny M A (letOwnedTupleGo tg (.ref it) u) Q E s:=by
 unfold letOwnedTupleGo;cases tg<;>first
  | exact zcT y
  | (cases u<;>first
      | exact zcT y
      | (refine zcM (wpAny_load I ?_)
         rw [O,hd];show wpAny M A (if (["enumerate","zip","dict_itemiterator","dict_reverseitemiterator","odict_iterator","itertools.zip_longest","itertools.pairwise"].contains n && vs[0]? == some (rawInt _))=true then _ else _) Q E s;rw [if_neg (by intro h;rw [hn,Bool.false_and]at h;cases h)];exact zcT y))
def Itl(K:PySem.W.Frag)(a:Addr):It:=
 ⟨λi H=>∃xs x,SqL K H a xs/\xs[i]? = some x,λi H x H'=>H'=H/\∀xs,SqL K H a xs->xs[i]? = some x,λi H=>∃xs,SqL K H a xs/\xs.length<=i⟩
def Itt(K:PySem.W.Frag)(a:Addr):It:=
 ⟨λi H=>∃xs x,SqT K H a xs/\xs[i]? = some x,λi H x H'=>H'=H/\∀xs,SqT K H a xs->xs[i]? = some x,λi H=>∃xs,SqT K H a xs/\xs.length<=i⟩
def Itr(lo:Int)(n:Nat):It:=⟨λi _=>i<n,λi H x H'=>H'=H/\x = .int (lo+i),λi _=>n<=i⟩
theorem J6{P:Program}{w:World}{K:PySem.W.Frag}{tg:Expr}(a it:Addr):Turn P w K tg (Itl K a) [it] it (λi h=>h.IsListIter it a i) where
 mem:=by simp
 obj:=λi h st b y=>by
  have e:b=it:=by simpa using y
  subst e;obtain⟨o,e,c,d⟩:=st;exact⟨o,e,λv z=>by rw [d]at z;cases z⟩
 keep:=λi h h' st k=>st.at λo e=>k it ⋯ o e
 item:=by
  intro X Y hw hK hc i pins s σ H E I O st hg;subst Y hw hK;obtain⟨xs,x,U,hx⟩:=hg;obtain⟨its,rv,p,hz⟩:=I.list U;obtain⟨u,hu,ru⟩:=rv.get hx;obtain⟨f0,f1,f2,f3,f4,f5⟩:=O it ⋯;refine wpAny_pyNext_list_item st p.isList (x:=u) (by simpa using hu) λh' aa sb=>?_;have I1:Inv X pins σ H {s with heap:=h'}:=I.turned (t':=s.toks) (λb o y e=>(sb.2 b y).trans e) f0 f1 f3 f4 f5;obtain⟨o,e,c,d⟩:=id aa;exact⟨u,rfl,Vi (s:={s with heap:=h'}) e c d ⋯ ⟨x,H,I1,ru,⟨rfl,λys hy=>by rw [I.list_inj hy U];exact hx⟩,aa,λb y=>(O b y).1⟩⟩
 done:=by
  intro X Y hw hK hc i pins s σ H E I O st hg;subst Y hw hK;obtain⟨xs,U,hx⟩:=hg;obtain⟨its,rv,p,hz⟩:=I.list U;obtain⟨f0,f1,f2,f3,f4,f5⟩:=O it ⋯;have hl:=rv.length;exact wpAny_pyNext_list_end (I.ok.hd hc) st p.isList (by simp;omega) λh' eb=>⟨rfl,I.turned (t':=s.toks) (λb o y e=>eb b o y e) f0 f1 f3 f4 f5⟩
 self:=λ_ _ _ _ _ st h=>wpAny_pyIter_listiter st h
theorem Ju{P:Program}{w:World}{K:PySem.W.Frag}{tg:Expr}(a it:Addr):Turn P w K tg (Itt K a) [it] it (λi h=>h.IsTupleIter it a i) where
 mem:=by simp
 obj:=λi h st b y=>by
  have e:b=it:=by simpa using y
  subst e;obtain⟨o,e,c,d⟩:=st;exact⟨o,e,λv z=>by rw [d]at z;cases z⟩
 keep:=λi h h' st k=>st.at λo e=>k it ⋯ o e
 item:=by
  intro X Y hw hK hc i pins s σ H E I O st hg;subst Y hw hK;obtain⟨xs,x,U,hx⟩:=hg;obtain⟨its,rv,p,hz⟩:=I.tuple U;obtain⟨u,hu,ru⟩:=rv.get hx;obtain⟨f0,f1,f2,f3,f4,f5⟩:=O it ⋯;refine wpAny_pyNext_tuple_item st (show s.heap.IsTuple a its.toArray from p) (x:=u) (by simpa using hu) λh' aa sb=>?_;have I1:Inv X pins σ H {s with heap:=h'}:=I.turned (t':=s.toks) (λb o y e=>(sb.2 b y).trans e) f0 f1 f3 f4 f5;obtain⟨o,e,c,d⟩:=id aa;exact⟨u,rfl,Vi (s:={s with heap:=h'}) e c d ⋯ ⟨x,H,I1,ru,⟨rfl,λys hy=>by rw [I.tuple_inj hy U];exact hx⟩,aa,λb y=>(O b y).1⟩⟩
 done:=by
  intro X Y hw hK hc i pins s σ H E I O st hg;subst Y hw hK;obtain⟨xs,U,hx⟩:=hg;obtain⟨its,rv,p,hz⟩:=I.tuple U;obtain⟨f0,f1,f2,f3,f4,f5⟩:=O it ⋯;have hl:=rv.length;exact wpAny_pyNext_tuple_end (I.ok.hd hc) st (show s.heap.IsTuple a its.toArray from p) (by simp;omega) λh' eb=>⟨rfl,I.turned (t':=s.toks) (λb o y e=>eb b o y e) f0 f1 f3 f4 f5⟩
 self:=λ_ _ _ _ _ st h=>wpAny_pyIter_tupleiter st h
theorem Jv{P:Program}{w:World}{K:PySem.W.Frag}{tg:Expr}(it:Addr)(lo:Int)(n:Nat):Turn P w K tg (Itr lo n) [it] it (λi h=>IsRangeIter h it (lo+(i:Nat)*1) ((n:Int) - (i:Nat)) 1) where
 mem:=by simp
 obj:=λi h st b y=>by
  have e:b=it:=by simpa using y
  subst e;exact⟨_,st,λv z=>by
   have z':Data.fields _=Data.cell v:=z;cases z'⟩
 keep:=λi h h' st k=>k it ⋯ _ st
 item:=by
  intro X U hw Y hc i pins s σ H E I O st hg;subst U hw Y;obtain⟨f0,f1,f2,f3,f4,f5⟩:=O it ⋯;have W:=Walks.range (prog:=X.prog) (w:=X.w) (I.ok.hd hc) it lo 1 n;refine W.item i s _ _ hg st λv h' tk hv a7 kk=>?_;obtain⟨t,rfl⟩:=hv;have I1:Inv X pins σ H {s with heap:=h',toks:=tk}:=I.turned (λb o y e=>kk b o (by simpa using y) e) f0 f1 f3 f4 f5;refine⟨_,rfl,Vi (s:={s with heap:=h',toks:=tk}) (n:="range_iterator") a7 rfl rfl ⋯ ⟨.int (lo+i),H,I1,⟨t,?_⟩,⟨rfl,rfl⟩,a7,λb y=>(O b y).1⟩⟩;rw [zfB]
 done:=by
  intro X U hw Y hc i pins s σ H E I O st hg;subst U hw Y;obtain⟨f0,f1,f2,f3,f4,f5⟩:=O it ⋯;exact wpAny_pyNext_range_end (I.ok.hd hc) st (by have:n<=i:=hg;omega) λh' eb=>⟨rfl,I.turned (t':=s.toks) (λb o y e=>eb b o y e) f0 f1 f3 f4 f5⟩
 self:=λ_ _ _ _ _ st h=>wpAny_pyIter_rangeiter st h
section
variable{X:Cx}{tg:Expr}
theorem Z7{pins:List (Addr×Obj)}{σ:St}{H:Hp}{s:Shared}{R:It->Hp->Prop}{E:Value->Shared->Prop}{lo hi:Int}{t u v:Tok}{tk:Nat}(I:Inv X pins σ H s)(h1 : -(2 ^ 62)<=lo)(h2:lo<2 ^ 62)(O : -(2 ^ 62)<=hi)(U:hi<2 ^ 62)
 (q:R (Itr lo (hi - lo).toNat) H):wpAny (model X.prog X.w) X.A (pyIter (.ref s.heap.objs.size)) (PIE X pins σ tg R) E {s with heap:=s.heap.push {cls:= .type "range",data:= .fields #[.int lo t,.int hi u,.int 1 v]},toks:=tk}:=by
 refine wpAny_pyIter_range (IsRange.new ..) (small_one h1 h2 O U) ?_;have y:Inv X pins σ H {s with heap:=s.heap.push {cls:= .type "range",data:= .fields #[.int lo t,.int hi u,.int 1 v]},toks:=tk}:=I.kept λb o e=>zcO _ e;refine⟨(s.heap.push {cls:= .type "range",data:= .fields #[.int lo t,.int hi u,.int 1 v]}).objs.size,[(s.heap.push {cls:= .type "range",data:= .fields #[.int lo t,.int hi u,.int 1 v]}).objs.size],_,_,H,rfl,
  y.kept (t':=tk) λb o e=>zcO _ e,Jv _ lo (hi - lo).toNat,?_,λb Y=>?_,q⟩
 ·have e1:lo+((0:Nat):Int)*1=lo:=by simp
  have e2:(((hi - lo).toNat:Nat):Int) - ((0:Nat):Int)=Builtin.Range.rangeSize lo hi 1:=by rw [rangeSize_one];split<;>omega
  show IsRangeIter _ _ (lo+((0:Nat):Int)*1) ((((hi - lo).toNat:Nat):Int) - ((0:Nat):Int)) 1;rw [e1,e2];exact zc5 _ rfl
 ·have e:b=(s.heap.push {cls:= .type "range",data:= .fields #[.int lo t,.int hi u,.int 1 v]}).objs.size:=by simpa using Y
  subst e;exact y.fpOk (zcZ _) (y.hok.fresh (zcZ _))
def zbm(ta:TA):TI:=λσ H R=>ta σ H λvs H1=>∃j:Int,vs=[.int j]/\ -(2 ^ 62)<=j/\j<2 ^ 62/\R (Itr 0 j.toNat) H1
def zbl(ta:TA):TI:=λσ H R=>ta σ H λvs H1=>∃i j:Int,vs=[.int i,.int j]/\(-(2 ^ 62)<=i/\i<2 ^ 62/\ -(2 ^ 62)<=j/\j<2 ^ 62)/\R (Itr i (j - i).toNat) H1
theorem QA{a:Expr}{ta:TA}{p pos:Pos}(O:Gl X "range")(hm:X.mg "range" = none)(ha:PA X [a] ta)(hs:starEach [a] X.env=[(false,eval a X.env)]:=by rfl):PI X tg (.Call (.Name "range" p) [a] [] pos) (zbm ta):=by
 intro pins s σ H R I h;refine Call_ (xK I O hm boot_range (zdl (thn (ha pos pins s σ H _ I h) λus s1 U=>?_) hs rfl));obtain⟨vs,H1,Y,r1,y⟩:=U;obtain⟨j,e,y,q2,q⟩:=y;subst e;cases r1 with
 | cons r rr=>
  cases rr;obtain⟨t,rfl⟩:=r;exact call_range_1 (Z7 Y ⋯ ⋯ y q2 (by simpa using q))
theorem Qz{a b:Expr}{ta:TA}{p pos:Pos}(Y:Gl X "range")(hm:X.mg "range" = none)(ha:PA X [a,b] ta)(hs:starEach [a,b] X.env=[(false,eval a X.env),(false,eval b X.env)]:=by rfl)(U:starEach [b] X.env=[(false,eval b X.env)]:=by rfl) :
 PI X tg (.Call (.Name "range" p) [a,b] [] pos) (zbl ta):=by
 intro pins s σ H R I h;refine Call_ (xK I Y hm boot_range (zdl (thn (ha pos pins s σ H _ I h) λus s1 hZ=>?_) (by rw [hs,U]) (by rw [U];rfl)));obtain⟨vs,H1,I1,r1,y⟩:=hZ;obtain⟨i,j,e,⟨y,q2,q3,q4⟩,q⟩:=y;subst e;cases r1 with
 | cons r O=>
  cases O with
  | cons r' O=>
   cases O;obtain⟨t,rfl⟩:=r;obtain⟨t',rfl⟩:=r';exact call_range_2 (Z7 I1 y q2 q3 q4 q)
def zck(wi:TI)(g:TG)(tb:TS):TS:=λD σ H=>wi σ H λJ H1=>∃W:Nat->Nat->St->Hp->Prop,(∃m,W 0 m σ H1)/\∀i m σ H,W i m σ H->
 (J.stop i H/\D.nx σ H)\/(J.go i H/\∃N:St->Hp->Prop,(∀σ' H',N σ' H'->∃m',m'<m/\W (i+1) m' σ' H')/\∀x H',J.yld i H x H'->g x σ H' λy H2=>tb {D with nx:=N,ct:=N,bk:=D.nx} y H2)
def wW(fp:List Addr)(h:Heap):List (Addr×Obj):=fp.filterMap λb=>(h.get? b).map λo=>(b,o)
theorem kj{fp:List Addr}{h:Heap}{b:Addr}{o:Obj}(y:b∈fp)(e:h.get? b=some o):(b,o)∈wW fp h:=List.mem_filterMap.mpr ⟨b,y,by rw [e];rfl⟩
theorem QE{fp:List Addr}{h:Heap}{p:Addr×Obj}(y:p∈wW fp h):p.1∈fp/\h.get? p.1=some p.2:=by
 obtain⟨b,I,e⟩:=List.mem_filterMap.mp y;cases q:h.get? b with
 | none=>rw [q]at e;cases e
 | some o=>
  rw [q]at e;have O:(b,o)=p:=zdH e;subst O;exact⟨I,q⟩
theorem Inv.pinned{pins:List (Addr×Obj)}{σ:St}{H:Hp}{s:Shared}{fp:List Addr}(I:Inv X pins σ H s)(U : ∀b∈fp,FpOk X pins H b)(Y : ∀b∈fp,∃o,s.heap.get? b=some o/\∀v,o.data ≠ .cell v):Inv X (pins++wW fp s.heap) σ H s:=
 I.pins_of λp hp=>(List.mem_append.mp hp).elim (λz=>I.pin p (zdz _ z)) λz=>by
  obtain⟨y,e⟩:=QE z;obtain⟨f0,f1,f2,_⟩:=U p.1 y;obtain⟨o,O,d⟩:=Y p.1 y;rw [e]at O;cases O;exact⟨e,f0,f1,f2,d⟩
theorem Inv.unpinned{pins pl:List (Addr×Obj)}{σ:St}{H:Hp}{s:Shared}(I:Inv X (pins++pl) σ H s):Inv X pins σ H s:=I.pins_of λp y=>I.pin p (zdz _ (List.mem_append_left _ y))
theorem Wu{iter:Expr}{body:List Stmt}{wi:TI}{g:TG}{tb:TS}{pos:Pos}(hp:PassesOwn (model X.prog X.w) X.A X.env X.xe)(hc:X.calm=true)(hi:PI X tg iter wi)(hg:PG X tg g)(y:PSs X body tb)
 (hs : ∀x,foldedSetIterable iter X.env x=pure x:=by intro _;rfl):PS X (.For tg iter body [] pos) (zck wi g tb):=by
 intro pins s σ H D I h;refine wpAny_For (thn (hi pins s σ H _ I h) λv s1 h1=>thn h1 λba s2 h2=>?_) hs;obtain⟨it,fp,tn,J,H2,e,I2,T,am,f2,W,⟨m0,w0⟩,ap⟩:=h2;subst e;have a6 : ∀{H':Hp},(∀b∈fp,H' b=none)->∀b∈fp,FpOk X pins H' b:=λhn b y=>⟨hn b y,(f2 b y).2⟩;refine codeAny_forLoop_any (λn s'=>∃i σ' H',Inv X pins σ' H' s'/\tn i s'.heap/\(∀b∈fp,H' b=none)/\W i n σ' H') ?_ m0 ⟨0,σ,H2,I2,am,λb y=>(f2 b y).1,w0⟩;rintro n s3 ⟨i,σ3,H3,I3,af,ag,w3⟩;rcases ap i n σ3 H3 w3 with⟨stop,qn⟩ | ⟨go,N,hN,step⟩
 ·refine ze4 hp (thn (T.done X rfl rfl rfl hc i pins s3 σ3 H3 X.xe I3 (a6 ag) af stop) λr s4 hZ=>?_)
  obtain⟨hr,I4⟩:=hZ;subst hr;exact wpAny_execs_nil ⟨σ3,H3,I4,qn⟩
 ·refine ze4 hp (thn (T.item X rfl rfl rfl hc i pins s3 σ3 H3 X.xe I3 (a6 ag) af go) λr s4 hZ=>?_)
  obtain⟨u,hr,h4⟩:=hZ;subst hr;refine ze4 hp (thn h4 λ_ s5 hZ=>?_);obtain⟨x,H5,I5,r5,y5,a8,b0⟩:=hZ;have b1:=I5.pinned (a6 b0) (T.obj _ _ a8);refine ze4 hp (thn (hg _ s5 σ3 H5 x u _ b1 r5 (step x H5 y5)) λ_ s6 hZ=>?_);obtain⟨σ6,H6,I6,q6⟩:=hZ;refine ze4 hp (thn (y _ s6 σ6 H6 _ I6 q6) λf s7 q7=>?_);have again : ∀{O:St} {U:Hp},Inv X (pins++wW fp s5.heap) O U s7->N O U->∃m,m<n/\∃i σ' H',Inv X pins σ' H' s7/\tn i s7.heap/\(∀b∈fp,H' b=none)/\W i m σ' H':=λ{O U} Y n7=>by
   obtain⟨m',hm,w7⟩:=hN O U n7;refine⟨m',hm,i+1,O,U,Y.unpinned,T.keep _ _ _ a8 λb y o e=>(Y.pin (b,o) (zdz _ (zdz _ (kj y e)))).1,λb y=>?_,w7⟩;obtain⟨o,e,d⟩:=T.obj _ _ a8 b y;exact(Y.pin (b,o) (zdz _ (zdz _ (kj y e)))).2.1
  cases f with
  | next=>obtain⟨O,U,Y,n7⟩:=q7;exact again Y n7
  | cont=>obtain⟨O,U,Y,n7⟩:=q7;exact again Y n7
  | brk=>obtain⟨O,U,Y,q7⟩:=q7;exact⟨O,U,Y.unpinned,q7⟩
  | ret v=>obtain⟨x7,O,U,Y,r7,q7⟩:=q7;exact⟨x7,O,U,Y.unpinned,r7,q7⟩
end
theorem w4{lo:Int}{n:Nat}{g:TG}{tb:TS}{D:Ends}{σ:St}{H:Hp}(I:Nat->St->Hp->Prop)(Y:I 0 σ H)
 (hs : ∀i σ H,i<n->I i σ H->g (.int (lo+i)) σ H λO H2=>tb {D with nx:=I (i+1),ct:=I (i+1),bk:=D.nx} O H2) (hd : ∀σ H,I n σ H->D.nx σ H) :
 ∃W:Nat->Nat->St->Hp->Prop,(∃m,W 0 m σ H)/\∀i m σ H,W i m σ H->
  ((Itr lo n).stop i H/\D.nx σ H)\/((Itr lo n).go i H/\∃N:St->Hp->Prop,(∀σ' H',N σ' H'->∃m',m'<m/\W (i+1) m' σ' H')/\∀x H',(Itr lo n).yld i H x H'->g x σ H' λO H2=>tb {D with nx:=N,ct:=N,bk:=D.nx} O H2):=by
 refine⟨λi m σ H=>m=n - i/\i<=n/\I i σ H,⟨n,by simp,zef _,Y⟩,?_⟩;rintro i m σ H ⟨rfl,hi,p⟩;by_cases U:i<n
 ·refine .inr ⟨U,I (i+1),λσ' H' p'=>⟨n - (i+1),by omega,rfl,U,p'⟩,λx H' y=>?_⟩
  obtain⟨e,y⟩:=y;subst e y;exact hs i σ _ U p
 ·have e:i=n:=by omega
  subst e;exact .inl ⟨zcZ _,hd σ H p⟩
abbrev R2:=V->V->Hp->VK->Prop
def OpR(X:Cx)(f:Value->Value->Sem Value)(r:R2):Prop:=
 ∀(pins:List (Addr×Obj)) (s:Shared) (σ:St) (H:Hp) (x y:V) (v u:Value) (Q:VK),Inv X pins σ H s->RelV x v->RelV y u->r x y H Q->
  wpAny (model X.prog X.w) X.A (f v u) (EP X pins σ Q) X.xe s
def UnR(X:Cx)(f:Value->Sem Value)(r:V->Hp->VK->Prop):Prop:=
 ∀(pins:List (Addr×Obj)) (s:Shared) (σ:St) (H:Hp) (x:V) (v:Value) (Q:VK),Inv X pins σ H s->RelV x v->r x H Q->
  wpAny (model X.prog X.w) X.A (f v) (EP X pins σ Q) X.xe s
def vn(X:Cx)(f:Value)(r:List V->Hp->VK->Prop):Prop:=
 ∀(pins:List (Addr×Obj)) (s:Shared) (σ:St) (H:Hp) (xs:List V) (us:List Value) (Q:VK),Inv X pins σ H s->Vals xs us->r xs H Q->
  wpAny (model X.prog X.w) X.A (call f us) (EP X pins σ Q) X.xe s
def zcD(X:Cx)(r:V->Hp->(Bool->Hp->Prop)->Prop):Prop:=
 ∀(pins:List (Addr×Obj)) (s:Shared) (σ:St) (H:Hp) (x:V) (v:Value) (Q:Bool->Hp->Prop),Inv X pins σ H s->RelV x v->r x H Q->
  wpAny (model X.prog X.w) X.A (truthy v) (TP X pins σ Q) X.xe s
def tOp(r:R2)(ta tb:TE):TE:=λσ H Q=>ta σ H λx H1=>tb σ H1 λy H2=>r x y H2 Q
def tUn(r:V->Hp->VK->Prop)(ta:TE):TE:=λσ H Q=>ta σ H λx H1=>r x H1 Q
def rI(C:Int->Int->Prop)(g:Int->Int->V):R2:=λx y H Q=>∃i j,x = .int i/\y = .int j/\C i j/\Q (g i j) H
def rI0(g:Int->Int->V):R2:=λx y H Q=>∃i j,x = .int i/\y = .int j/\Q (g i j) H
def rU(g:Int->V):V->Hp->VK->Prop:=λx H Q=>∃i,x = .int i/\Q (g i) H
section
variable{X:Cx}{a b c:Expr}{ta tb tc:TE}{pos:Pos}
theorem zby(ha:PE X a ta)(U:PE X b tb){pins:List (Addr×Obj)}{s:Shared}{σ:St}{H:Hp}{R:V->V->Hp->Prop}(I:Inv X pins σ H s)
 (h:ta σ H λx H1=>tb σ H1 λy H2=>R x y H2) {Q:Value->Shared->Prop} {f:Value->Value->Sem Value}
 (Y : ∀v u s2 x y H2,Inv X pins σ H2 s2->RelV x v->RelV y u->R x y H2->wpAny (model X.prog X.w) X.A (f v u) Q X.xe s2) :
 wpAny (model X.prog X.w) X.A (eval a X.env) (λv s₁=>wpAny (model X.prog X.w) X.A (eval b X.env) (λu s₂=>wpAny (model X.prog X.w) X.A (f v u) Q X.xe s₂) X.xe s₁) X.xe s:=by
 refine thn (ha pins s σ H _ I h) λv s1 O=>?_;obtain⟨x,H1,I1,r1,q1⟩:=O;refine thn (U pins s1 σ H1 _ I1 q1) λu s2 O=>?_;obtain⟨y,H2,I2,r2,q2⟩:=O;exact Y v u s2 x y H2 I2 r1 r2 q2
theorem Y0{O:Operator}{r:R2}(U:OpR X (binaryOp O) r)(ha:PE X a ta)(Y:PE X b tb):PE X (.BinOp a O b pos) (tOp r ta tb):=by
 intro pins s σ H Q I h;exact wpAny_BinOp (zby ha Y I h λv u s2 x y H2 I2 rx ry q=>U pins s2 σ H2 x y v u Q I2 rx ry q)
theorem zba{y:UnaryOp}{r:V->Hp->VK->Prop}(O:UnR X (unaryOp y) r)(ha:PE X a ta):PE X (.UnaryOp y a pos) (tUn r ta):=by
 intro pins s σ H Q I h;exact UnaryOp_ (thn (ha pins s σ H _ I h) λv s1 ⟨x,H1,U,Y,q1⟩=>O pins s1 σ H1 x v Q U Y q1)
theorem opI{f:Value->Value->Sem Value}{C:Int->Int->Prop}{g:Int->Int->Int}
 (rule : ∀(i j:Int) (t u:Tok) (s:Shared) (Q:Value->Shared->Prop) (E:Value->Shared->Prop),C i j->Q (.int (g i j) s.toks) {s with toks:=s.toks+1}->wpAny (model X.prog X.w) X.A (f (.int i t) (.int j u)) Q E s) :
 OpR X f (rI C λi j=> .int (g i j)):=by
 intro pins s σ H x y v u Q I rx O h;obtain⟨i,j,rfl,rfl,U,q⟩:=h;obtain⟨t,rfl⟩:=rx;obtain⟨t',rfl⟩:=O;exact rule i j t t' s _ _ U ⟨.int (g i j),H,I.tok _,⟨_,rfl⟩,q⟩
theorem zbY{f:Value->Value->Sem Value}{g:Int->Int->Int}
 (rule : ∀(i j:Int) (t u:Tok) (s:Shared) (Q:Value->Shared->Prop) (E:Value->Shared->Prop),Q (.int (g i j) s.toks) {s with toks:=s.toks+1}->wpAny (model X.prog X.w) X.A (f (.int i t) (.int j u)) Q E s) :
 OpR X f (rI0 λi j=> .int (g i j)):=by
 intro pins s σ H x y v u Q I rx O h;obtain⟨i,j,rfl,rfl,q⟩:=h;obtain⟨t,rfl⟩:=rx;obtain⟨t',rfl⟩:=O;exact rule i j t t' s _ _ ⟨.int (g i j),H,I.tok _,⟨_,rfl⟩,q⟩
theorem zav{f:Value->Value->Sem Value}{g:Int->Int->Bool}
 (rule : ∀(i j:Int) (t u:Tok) (s:Shared) (Q:Value->Shared->Prop) (E:Value->Shared->Prop),Q (.bool (g i j)) s->wpAny (model X.prog X.w) X.A (f (.int i t) (.int j u)) Q E s) :
 OpR X f (rI0 λi j=> .bl (g i j)):=by
 intro pins s σ H x y v u Q I rx O h;obtain⟨i,j,rfl,rfl,q⟩:=h;obtain⟨t,rfl⟩:=rx;obtain⟨t',rfl⟩:=O;exact rule i j t t' s _ _ ⟨.bl (g i j),H,I,rfl,q⟩
def zcc(i j:Int):Prop:=0<j/\j<1073741824
def zcb(i j:Int):Prop:=0<=j/\j<=1000000/\i.natAbs<2 ^ 64
def CMul(i j:Int):Prop:=(-(2 ^ 64)<i/\i<2 ^ 64)\/(-(2 ^ 64)<j/\j<2 ^ 64)
theorem CMul.ok{i j:Int}(h:CMul i j):IntMulOk i j:=by
 rcases h with⟨h1,h2⟩ | ⟨h1,h2⟩
 ·exact .of_left (intBits_le_64 h1 h2)
 ·exact .of_right (intBits_le_64 h1 h2)
theorem op_add:OpR X (binaryOp .Add) (rI0 λi j=> .int (i+j)):=zbY λ_ _ _ _ _ _ _ q=>add_int q
theorem WN:OpR X (binaryOp .Sub) (rI0 λi j=> .int (i - j)):=zbY λ_ _ _ _ _ _ _ q=>sub_int q
theorem op_mul:OpR X (binaryOp .Mult) (rI CMul λi j=> .int (i*j)):=opI λ_ _ _ _ _ _ _ y q=>mul_int q y.ok
theorem Y9:OpR X (binaryOp .FloorDiv) (rI zcc λi j=> .int (i/j)):=opI λi j _ _ _ _ _ y q=>by
 have h1:(0:Int)<j:=y.1;have h2:j<1073741824:=y.2;exact floordiv_int ⋯ (by rw [Int.fdiv_eq_ediv_of_nonneg i ⋯];exact q) (.inl (PyProof.noPylong_small ⋯))
theorem WQ:OpR X (binaryOp .Mod) (rI (λ_ j=>0<j) λi j=> .int (i%j)):=opI λi j _ _ _ _ _ y q=>by
 have h1:(0:Int)<j:=y;exact mod_int' ⋯ (by rw [Int.fmod_eq_emod_of_nonneg i ⋯];exact q)
theorem WP:OpR X (binaryOp .Pow) (rI zcb λi j=> .int (i ^ j.toNat)):=opI λ_ _ _ _ _ _ _ y q=>pow_int_small y.1 y.2.1 y.2.2 q
theorem unI{f:Value->Sem Value}{g:Int->Int}
 (rule : ∀(i:Int) (t:Tok) (s:Shared) (Q:Value->Shared->Prop) (E:Value->Shared->Prop),Q (.int (g i) s.toks) {s with toks:=s.toks+1}->wpAny (model X.prog X.w) X.A (f (.int i t)) Q E s) :
 UnR X f (rU λi=> .int (g i)):=by
 intro pins s σ H x v Q I rx h;obtain⟨i,rfl,q⟩:=h;obtain⟨t,rfl⟩:=rx;exact rule i t s _ _ ⟨.int (g i),H,I.tok _,⟨_,rfl⟩,q⟩
theorem VT:UnR X (unaryOp .USub) (rU λi=> .int (-i)):=unI λ_ _ _ _ _ q=>neg_int q
end
section
variable{X:Cx}{a b c:Expr}{ta tb tc:TE}{pos:Pos}
theorem zae{pins:List (Addr×Obj)}{σ:St}{H:Hp}{s:Shared}{Q:VK}{k y:Bool}(I:Inv X pins σ H s)(q:Q (.bl k) H)(e:k=y):EP X pins σ Q (.bool y) s:=by
 subst e;exact⟨.bl k,H,I,rfl,q⟩
theorem zbc:OpR X (compareOp .Lt) (rI0 λi j=> .bl (decide (i<j))):=zav λ_ _ _ _ _ _ _ q=>lt_int q
theorem zbd:OpR X (compareOp .LtE) (rI0 λi j=> .bl (decide (i<=j))):=zav λ_ _ _ _ _ _ _ q=>le_int q
theorem zbe:OpR X (compareOp .Gt) (rI0 λi j=> .bl (decide (j<i))):=zav λ_ _ _ _ _ _ _ q=>gt_int q
theorem WR:OpR X (compareOp .GtE) (rI0 λi j=> .bl (decide (j<=i))):=zav λ_ _ _ _ _ _ _ q=>ge_int q
theorem Y8:OpR X (compareOp .IsNot) (λx y H Q=>y = .non/\Q (.bl (!decide (x = .non))) H):=by
 intro pins s σ H x y v u Q I rx O h;obtain⟨rfl,q⟩:=h;cases O;refine isnot_none_gen (zae I q ?_);cases x<;>first
  | (cases rx;rfl)
  | (obtain⟨t,rfl⟩:=rx;rfl)
theorem OpR.or{f:Value->Value->Sem Value}{r r':R2}(h:OpR X f r)(h':OpR X f r'):OpR X f (λx y H Q=>r x y H Q\/r' x y H Q):=by
 intro pins s σ H x y v u Q I rx O q;rcases q with q | q
 ·exact h pins s σ H x y v u Q I rx O q
 ·exact h' pins s σ H x y v u Q I rx O q
theorem ym(b:Expr){y:CmpOp}(h:y ≠ .In:=by decide)(h2:y ≠ .NotIn:=by decide):behindInMarks y b=false:=by
 have e1:(y==CmpOp.In)=false:=by cases y<;>first | rfl | exact absurd rfl h
 have e2:(y==CmpOp.NotIn)=false:=by cases y<;>first | rfl | exact absurd rfl h2
 cases b<;>simp [behindInMarks,e1,e2]
theorem Y2{O:CmpOp}{r:R2}(U:OpR X (compareOp O) r)(ha:PE X a ta)(Y:PE X b tb)(hm:behindInMarks O b=false):PE X (.Compare a [O] [b] pos) (tOp r ta tb):=by
 intro pins s σ H Q I h;exact wpAny_Compare1 (zby ha Y I h λv u s2 x y H2 I2 rx ry q=>U pins s2 σ H2 x y v u Q I2 rx ry q) hm
def zaP(t:TE):TT:=λσ H Q=>t σ H λx H'=>∃k,x = .bl k/\Q k H'
theorem YR{O:CmpOp}{r:R2}(U:OpR X (compareOp O) r)(ha:PE X a ta)(Y:PE X b tb)(hm:behindInMarks O b=false):PT X (.Compare a [O] [b] pos) (zaP (tOp r ta tb)):=by
 intro pins s σ H Q I h;refine wpAny_isTrue_Compare1 (thn (ha pins s σ H _ I h) λv s1 ⟨x,H1,I1,r1,q1⟩=>thn (Y pins s1 σ H1 _ I1 q1) λu s2 ⟨y,H2,I2,r2,q2⟩=>
  thn (U pins s2 σ H2 x y v u _ I2 r1 r2 q2) λc s3 ⟨z,H3,I3,r3,k,e,q3⟩=>?_) hm
 subst e;cases r3;exact zej ⟨H3,I3,q3⟩
def V2(r r':R2)(ta tb tc:TE):TE:=λσ H Q=>ta σ H λx H1=>tb σ H1 λy H2=>r x y H2 λz I=>∃k,z = .bl k/\
 (if k=true then tc σ I λw' O=>r' y w' O Q else Q (.bl false) I)
theorem X4{O U:CmpOp}{r r':R2}(ho:OpR X (compareOp O) r)(a3:OpR X (compareOp U) r')(ha:PE X a ta)(hb:PE X b tb)(hc:PE X c tc)
 (hm:lastMarks [O,U] [b,c]=false:=by with_unfolding_all rfl):PE X (.Compare a [O,U] [b,c] pos) (V2 r r' ta tb tc):=by
 intro pins s σ H Q I h;refine Compare_chain (thn (ha pins s σ H _ I h) λv s1 ⟨x,H1,I1,r1,q1⟩=>chain_link (thn (hb pins s1 σ H1 _ I1 q1) λu s2 ⟨y,H2,I2,r2,q2⟩=>
  thn (ho pins s2 σ H2 x y v u _ I2 r1 r2 q2) λd s3 ⟨z,Y,I3,r3,k,e,q3⟩=>?_)) hm
 subst e;cases r3;refine zej ?_;cases k with
 | false=>exact ite_ff ⟨.bl false,Y,I3,rfl,q3⟩
 | true=>exact ite_tt (chain_last (thn (hc pins s3 σ Y _ I3 q3) λw' s4 ⟨z',H4,I4,r4,q4⟩=>a3 pins s4 σ H4 y z' u w' Q I4 r2 r4 q4))
def zb9(K:PySem.W.Frag)(x:V)(H:Hp)(k:Bool):Prop:=
 match x with
 | .non=>k=false
 | .bl b=>k=b
 | .int i=>k=(i != 0)
 | .str y=>y.length<=sizeLine/\k=((y.length:Int) != 0)
 | .byt y=>y.size<=sizeLine/\k=((y.size:Int) != 0)
 | .ref p=>(∃xs,SqL K H p xs/\k = !xs.isEmpty)\/(∃xs,SqT K H p xs/\k = !xs.isEmpty)\/∃kvs,H p=some (.dK kvs)/\k = !kvs.isEmpty
 | _=>False
theorem JP{κ:Type}{kvs:List (κ×V)}{vs:List (κ×Value)}(r:KV kvs vs):(!vs.isEmpty) = !kvs.isEmpty:=by
 cases r<;>rfl
theorem vI{xs:List V}{its:List Value}(r:Vals xs its):(!its.toArray.isEmpty) = !xs.isEmpty:=by
 cases r<;>simp
theorem y8:(sizeLine:Nat)<2 ^ 63:=by rw [sizeLine_eq];decide
theorem VU:zcD X (λx H Q=>∃k,zb9 X.K x H k/\Q k H):=by
 intro pins s σ H x v Q I rx h;obtain⟨k,e,q⟩:=h;have hl:=y8;have hs:sizeLine=16777216:=sizeLine_eq;cases x with
 | non=>
  cases rx;have O:k=false:=e;subst O;exact truthy_none ⟨H,I,q⟩
 | bl b=>
  cases rx;have O:k=b:=e;subst O;exact zej ⟨H,I,q⟩
 | int i=>
  obtain⟨t,rfl⟩:=rx;have O:k=(i != 0):=e;subst O;exact PySem.P.truthy_int ⟨H,I,q⟩
 | str y=>
  obtain⟨t,rfl⟩:=rx;obtain⟨hy,O⟩:y.length<=sizeLine/\k=((y.length:Int) != 0):=e;subst O;exact PySem.P.truthy_str ⋯ ⟨H,I.tok _,q⟩
 | byt y=>
  obtain⟨t,rfl⟩:=rx;obtain⟨hy,O⟩:y.size<=sizeLine/\k=((y.size:Int) != 0):=e;subst O;exact PySem.W.truthy_bytes ⋯ ⟨H,I.tok _,q⟩
 | ref p=>
  cases rx;have O:(∃xs,SqL X.K H p xs/\k = !xs.isEmpty)\/(∃xs,SqT X.K H p xs/\k = !xs.isEmpty)\/∃kvs,H p=some (.dK kvs)/\k = !kvs.isEmpty:=e;rcases O with⟨xs,U,O⟩ | ⟨xs,U,O⟩ | ⟨kvs,U,O⟩
  ·subst O
   obtain⟨its,r,pl,hz⟩:=I.list U;have Y:=r.length;exact wpAny_truthy_list pl.isList (by simp only [zcV];omega) ⟨H,I.tok _,by rw [vI r];exact q⟩
  ·subst O
   obtain⟨its,r,pl,hz⟩:=I.tuple U;have Y:=r.length;exact truthy_tuple pl (by simp only [zcV];omega) ⟨H,I.tok _,by rw [vI r];exact q⟩
  ·subst O
   obtain⟨hz,hS,vs,r,m⟩:kvs.length<=sizeLine/\(p==sysModules)=false/\∃vs,KV kvs vs/\s.heap.DictOf (ZJ X.prog X.w) p vs:=I.hok p _ U;have Y:kvs.length=vs.length:=Paired.length r;exact wpAny_truthy_dict hS m ⋯ ⟨H,I.tok _,by rw [JP r];exact q⟩
 | _=>exact(show False from e).elim
theorem XS(ha:PE X a ta)(O : ∀y,isTrue a X.env y=(do let v <- y;standAt a.pos;holding [v] (truthy v))) :
 PT X a (λσ H Q=>ta σ H λx H'=>∃k,zb9 X.K x H' k/\Q k H'):=by
 intro pins s σ H Q I h;exact isTrue_plain (thn (ha pins s σ H _ I h) λv s1 ⟨x,H1,U,Y,q1⟩=>VU pins s1 σ H1 x v Q U Y q1) (O _)
theorem k8{x:V}{us:List Value}(r:Vals [x] us) : ∃u,us=[u]/\RelV x u:=by
 cases r with
 | cons y r2=>cases r2;exact⟨_,rfl,y⟩
theorem Ym{x y:V}{us:List Value}(r:Vals [x,y] us) : ∃u w',us=[u,w']/\RelV x u/\RelV y w':=by
 cases r with
 | cons I r2=>
  cases r2 with
  | cons O U=>cases U;exact⟨_,_,rfl,I,O⟩
theorem Q8(O:X.calm=true):vn X (.builtin "min") (λxs H Q=>∃i j,xs=[.int i,.int j]/\Q (.int (if j<i then j else i)) H):=by
 intro pins s σ H xs us Q I r h;obtain⟨i,j,rfl,q⟩:=h;obtain⟨u,w',rfl,⟨t,rfl⟩,⟨t',rfl⟩⟩:=Ym r;refine min_two_ints (I.ok.hd O) λh' tk k=>⟨_,H,I.kept k,?_,q⟩;by_cases y:j<i
 ·rw [if_pos y,if_pos y];exact⟨_,rfl⟩
 ·rw [if_neg y,if_neg y];exact⟨_,rfl⟩
theorem Q9:vn X (.type "int") (λxs H Q=>(∃i,xs=[.int i]/\Q (.int i) H)\/∃k,xs=[.bl k]/\Q (.int (if k then 1 else 0)) H):=by
 intro pins s σ H xs us Q I r h;rcases h with⟨i,rfl,q⟩ | ⟨k,rfl,q⟩
 ·obtain⟨u,rfl,t,rfl⟩:=k8 r
  exact call_int_int ⟨.int i,H,I,⟨_,rfl⟩,q⟩
 ·obtain⟨u,rfl,y⟩:=k8 r
  cases y;exact call_int_bool ⟨.int (if k then 1 else 0),H,I.tok _,⟨_,rfl⟩,q⟩
end
structure ObjM(h:Heap)(x dx C:Addr)(mA:Str->Option Value):Prop where
 obj:h.get? x=some (PySem.W.instObj C dx)
 ns:h.Ns1 dx mA
 ne:dx≠x
theorem QI{h:Heap}{dx:Addr}{mA:Str->Option Value}(n:h.Ns1 dx mA) : ∃od,h.get? dx=some od/\∀name,PySem.W.lookIn name od=some (mA name):=by
 obtain⟨o,es,ep,I,hd,O,_,hm⟩:=n;refine⟨o,I,λname=>?_⟩;have e:=hm name;unfold nsFind findBy at e;rw [<- Array.find?_toList]at e;unfold PySem.W.lookIn;rw [hd];dsimp only;split
 ·rename_i y q
  rw [q]at e;exact congrArg some e
 ·rename_i q
  rw [q]at e;have a:es.toList.any (·.refKey)=false:=by
   rw [List.any_eq_false];intro y U;obtain⟨z,t,Y⟩:=O y (Array.mem_toList_iff.mp U);simp [DictEntry.refKey,Y]
  have a' : ¬es.toList.any (·.refKey)=true:=by rw [a];exact zdi
  rw [if_neg a'];exact congrArg some e
theorem ObjM.look{h:Heap}{x dx C:Addr}{mA:Str->Option Value}(I:ObjM h x dx C mA) : ∃od,PySem.W.InstAt h x (PySem.W.instObj C dx) C (some od)/\∀name,PySem.W.lookIn name od=some (mA name):=
 let ⟨od,y,O⟩:=QI I.ns
 ⟨od,⟨I.obj,rfl,rfl,y⟩,O⟩
section
variable{P:Program}{w:World}{H H':Hp}{h h':Heap}{a C dx:Addr}{fs fs':List (Str×V)}
theorem Vh(hok:HOk P w H h)(e:H a=some (.ins C dx fs)) : ∃mA,ObjM h a dx C mA/\(∀f,zbO (fs.lookup f) (mA f))/\PySem.Within mA (fs.map (·.1))/\fs.length<=1000/\H dx=some (.own a):=by
 obtain⟨d,z,ne,y,mA,n,r,q⟩:=(show ObjOk P w H h a (.ins C dx fs)from hok a _ e);exact⟨mA,⟨y,n,ne⟩,r,q,z,d⟩
end
structure Cls(K:PySem.W.Frag)(C:Addr):Prop where
 pg:PySem.W.plainGet K C Str.empty=true
 hd:PySem.W.hasDictIn K C=true
 po:PySem.W.plainOver K C=true
 sa:PySem.W.findIn K (.ref C) "__setattr__" = some (some (.builtin "object.__setattr__"))
theorem Cls.get{K:PySem.W.Frag}{C:Addr}(c:Cls K C)(f:Str):PySem.W.plainGet K C f=true:=c.pg
section
variable{X:Cx}{pins:List (Addr×Obj)}{σ:St}{H:Hp}{s:Shared}{A:Around}{E:Value->Shared->Prop}{Q:Value->Shared->Prop}{c:Value}{b:Bool}
inductive TyOf(K:PySem.W.Frag)(H:Hp):V->Value->Prop where
 | non:TyOf K H .non (.type "NoneType")
 | bl (x:Bool):TyOf K H (.bl x) (.type "bool")
 | int (i:Int):TyOf K H (.int i) (.type "int")
 | str (x:Str):TyOf K H (.str x) (.type "str")
 | flt (x:UInt64):TyOf K H (.flt x) (.type "float")
 | lst {a:Addr} {xs:List V} (e:H a=some (.lst xs)):TyOf K H (.ref a) (.type "list")
 | frz {a:Addr} {o:Obj} {xs:List V} (e:H a=some (.frz o (.lst xs))):TyOf K H (.ref a) (.type "list")
 | tup {a:Addr} {xs:List V} (e:H a=some (.tup xs)):TyOf K H (.ref a) (.type "tuple")
 | dK {a:Addr} {kvs:List (Key×V)} (e:H a=some (.dK kvs)):TyOf K H (.ref a) (.type "dict")
 | dT {a:Addr} {kvs:List (List Key×V)} (e:H a=some (.dT kvs)):TyOf K H (.ref a) (.type "dict")
 | ins {a C dx:Addr} {fs:List (Str×V)} (e:H a=some (.ins C dx fs)) (cl:Cls K C) (ha:PySem.W.findIn K (.ref C) "__class__" = some (some (.builtin "object.__class__")))
  (hn:PySem.W.specialIn K (.builtin "object.__class__") "__get__" = some (some (.builtin "getset_descriptor.__get__"))) (htk:PySem.W.takesIn K (.builtin "object.__class__")=some true)
  (hm:PySem.W.mroIn K C (.type "object")=some true):TyOf K H (.ref a) (.ref C)
theorem QO{x:V}{u t:Value}(I:Inv X pins σ H s)(rx:RelV x u)(ty:TyOf X.K H x t)(e:zd4 X.K t c=some b)(h : ∀tk,Q (.bool b) {s with toks:=tk}) :
 wpAny (model X.prog X.w) A (call (.builtin "isinstance") [u,c]) Q E s:=by
 cases ty with
 | non=>cases (show u=zel from rx);exact zdh PySem.W.kitx_none I.kIn zeJ e (λz=>nomatch z) h
 | bl y=>cases (show u=Value.bool y from rx);exact zdh PySem.W.kitx_bool I.kIn zeJ e (λz=>nomatch z) h
 | int i=>obtain⟨t,q⟩:=(show ∃t,u=Value.int i t from rx);cases q;exact zdh PySem.W.kitx_int I.kIn zeJ e (λz=>nomatch z) h
 | str y=>obtain⟨t,q⟩:=(show ∃t,u=Value.str y t from rx);cases q;exact zdh PySem.W.kitx_str I.kIn zeJ e (λz=>nomatch z) h
 | flt y=>obtain⟨t,q⟩:=(show ∃t,u=Value.float y t from rx);cases q;exact zdh PySem.W.kitx_float I.kIn zeJ e (λz=>nomatch z) h
 | @lst a xs U=>
  cases (show u=zdu a from rx);obtain⟨_,_,n,_,h1⟩:=(show ObjOk X.prog X.w H s.heap a (.lst xs)from I.hok a _ U);exact zdh zfz I.kIn ⟨_,h1,rfl⟩ e (λz=>nomatch z) h
 | @frz a Y xs U=>
  cases (show u=zdu a from rx);obtain⟨_,_,_,n,_,h1⟩:=(show ObjOk X.prog X.w H s.heap a (.frz Y (.lst xs))from I.hok a _ U);exact zdh zfz I.kIn ⟨_,h1,rfl⟩ e (λz=>nomatch z) h
 | @tup a xs U=>
  cases (show u=zdu a from rx);obtain⟨_,_,_,p⟩:=(show ObjOk X.prog X.w H s.heap a (.tup xs)from I.hok a _ U);obtain⟨o,h1,h2,_⟩:=p;exact zdh PySem.W.kitx_tuple I.kIn ⟨o,h1,(Prod.mk.inj h2).1⟩ e (λz=>nomatch z) h
 | @dK a kvs U=>
  cases (show u=zdu a from rx);obtain⟨_,_,vs,_,p⟩:=(show ObjOk X.prog X.w H s.heap a (.dK kvs)from I.hok a _ U);obtain⟨o,es,ep,h1,h2,_⟩:=p;exact zdh zfA I.kIn ⟨o,h1,h2.1⟩ e (λz=>nomatch z) h
 | @dT a kvs U=>
  cases (show u=zdu a from rx);obtain⟨_,_,xs,_,o,es,ep,h1,h2,_⟩:=(show ObjOk X.prog X.w H s.heap a (.dT kvs)from I.hok a _ U);exact zdh zfA I.kIn ⟨o,h1,h2.1⟩ e (λz=>nomatch z) h
 | @ins a C dx fs U cl ha hn htk hm=>
  cases (show u=zdu a from rx);obtain⟨mA,O,_⟩:=Vh I.hok U;obtain⟨od,J,_⟩:=O.look;exact zdh (PySem.W.kitx_own (cl.get _) cl.hd ha hn htk hm) I.kIn J e (λz=>nomatch z) h
end
structure Room(k:Nat)(A:Around):Prop where
 hd:A.handled=none
 dp:A.depth+3*k+5<recursionLimit
 un:A.units+16*k+200<cLine
theorem Room.mono{j k:Nat}{A:Around}(r:Room k A)(h:j<=k):Room j A:=⟨r.hd,by have:=r.dp;omega,by have:=r.un;omega⟩
theorem Room.deeper{k:Nat}{A:Around}(r:Room (k+1) A)(env:Env):Room k (A.deeper env):=
 ⟨r.hd,by have:=r.dp;show A.depth+1+3*k+5<_;omega,by have:=r.un;show A.units+3+16*k+200<_;omega⟩
theorem Room.depth{k:Nat}{A:Around}(r:Room k A):A.depth<recursionLimit:=by have:=r.dp;omega
def zbS:TA:=λ_ H Q=>Q [] H
def V1(ta:TE)(tr:TA):TA:=λσ H Q=>ta σ H λx H1=>tr σ H1 λxs H2=>Q (x::xs) H2
section
variable{X:Cx}{e:Expr}{es:List Expr}{te:TE}{t:TA}{pos:Pos}
theorem qs:PA X [] zbS:=λ_ _ _ _ H Q I h=>zfI ⟨[],H,I,.nil,h⟩
theorem jx(ha:PE X e te)(y:PA X es t)(hs:starEach (e::es) X.env=(false,eval e X.env)::starEach es X.env:=by rfl):PA X (e::es) (V1 te t):=by
 intro pos pins s σ H Q I h;rw [hs];show wpAny _ _ (spliced ((false,eval e X.env)::backTo pos (starEach es X.env))) _ _ s;refine zeX (thn (ha pins s σ H _ I h) λu s1 O=>?_);obtain⟨x,H1,U,Y,q1⟩:=O;exact thn (y pos pins s1 σ H1 _ U q1) λus s2 ⟨xs,H2,I2,r2,q2⟩=>⟨x::xs,H2,I2,.cons Y r2,q2⟩
def zce(t:TA):TE:=λσ H Q=>t σ H λxs H1=>xs.length<=sizeLine/\∀p,H1 p=none->Q (.ref p) (upd H1 p (.tup xs))
def zci(t:TA):TE:=λσ H Q=>t σ H λxs H1=>xs.length<=sizeLine/\∀p,H1 p=none->Q (.ref p) (upd H1 p (.lst xs))
theorem KY{x1}(h:PA X es t):PE X (.Tuple es x1 pos) (zce t):=by
 intro pins s σ H Q I O;refine wpAny_Tuple_spliced (thn (h pos pins s σ H _ I O) λus s1 ⟨xs,H1,y,r,z,q⟩=>⟨by rw [<- r.length];exact z,?_⟩);have U:H1 s1.heap.objs.size=none:=y.hok.fresh (zcZ _);refine⟨.ref s1.heap.objs.size,upd H1 s1.heap.objs.size (.tup xs),y.laid (t':=s1.toks) (λb u e=>zcO _ e) (zcZ _) ?_,rfl,q _ U⟩;exact⟨z,us,r,⟨_,zc5 _ rfl,rfl,_,rfl⟩⟩
theorem WH(h:PA X es t):PE X (.List es pos) (zci t):=by
 intro pins s σ H Q I O;refine wpAny_List_spliced (thn (h pos pins s σ H _ I O) λus s1 ⟨xs,H1,y,r,z,q⟩=>⟨by rw [<- r.length];exact z,?_⟩);have U:H1 s1.heap.objs.size=none:=y.hok.fresh (zcZ _);refine⟨.ref s1.heap.objs.size,upd H1 s1.heap.objs.size (.lst xs),y.laid (t':=s1.toks) (λb u e=>zcO _ e) (zcZ _) ?_,rfl,q _ U⟩;exact⟨z,us,0,r,zc5 _ rfl⟩
end
abbrev Sp:=List V->Hp->VK->XK->Prop
abbrev CXT:=List Env->Hp->Shared->XK->Value->Shared->Prop
structure Env0(P:Program)(w:World)(K:PySem.W.Frag)(mg:Str->Option Value)(base:Heap)(A:Around)(outer:List Env)(s:Shared)(H:Hp):Prop where
 frames:A.frames=some outer
 mod:Mod K mg base
 bs : ∀b o,base.get? b=some o->s.heap.get? b=some o/\H b=none
 bsz:base.objs.size<=s.heap.objs.size
 funs:s.heap.FunFrames base outer
 frf : ∀b∈frs outer,H b=none
 hok:HOk P w H s.heap
 bare:AllBare s.gens
def CE(outer:List Env)(P:Program)(w:World)(H:Hp)(s:Shared)(Q:VK)(u:Value)(s':Shared):Prop:=
 ∃v H',s'.os=s.os/\AllBare s'.gens/\Un (frs outer) [] H H' s.heap s'.heap/\HOk P w H' s'.heap/\RelV v u/\Q v H'
def CR(CX:CXT)(outer:List Env)(P:Program)(w:World)(H:Hp)(s:Shared)(Q:VK)(E:XK)(r:Result)(s':Shared):Prop:=
 match r with
 | .ok (.ret u)=>CE outer P w H s Q u s'
 | .ok _=>False
 | .error e=>CX outer H s E e s'
structure FnOk(P:Program)(w:World)(K:PySem.W.Frag)(mg:Str->Option Value)(base:Heap)(CX:CXT)(k:Nat)(f:Addr)(fd:FuncData)(ps:List Str)(sp:Sp):Prop where
 len : ∀vs H Q E,sp vs H Q E->vs.length=ps.length
 run : ∀(A:Around) (outer:List Env) (s:Shared) (H:Hp) (args:Args) (us:List Value) (vs:List V) (Q:VK) (E:XK),Room k A->Env0 P w K mg base A outer s H->BindsTo s fd args (ps.zip us)->Vals vs us->sp vs H Q E->
  codeAny (model P w) A (.call (.ref f) args) (CR CX outer P w H s Q E) s
section
variable{X:Cx}{pins:List (Addr×Obj)}{σ:St}{H:Hp}{s s':Shared}
theorem Inv.env0(I:Inv X pins σ H s):Env0 X.prog X.w X.K X.mg X.base X.A X.stack s H:=
 ⟨I.ok.frames,I.ok.mod,I.bs,zdP I.ok.bsz I.sz,I.stack,I.stkFree,I.hok,I.bare⟩
theorem Inv.after{Q:VK}{u:Value}(I:Inv X pins σ H s)(h:CE X.stack X.prog X.w H s Q u s'):EP X pins σ Q u s':=by
 obtain⟨v,H',os,bare,un,hok,r,q⟩:=h;obtain⟨y,g,d,t,O⟩:=s';obtain rfl:O=s.os:=os;exact⟨v,H',I.call (h':=y) (g':=g) (d':=d) (t':=t) (ch:=[]) un hok bare (λb z=>absurd z ⋯),r,q⟩
end
def Yp(sp:Sp)(dvs:List V)(E:XK)(t:TA):TE:=λσ H Q=>t σ H λvs H1=>sp (vs++dvs) H1 Q E
def Binds(K:PySem.W.Frag)(fd:FuncData)(ps:List Str)(ds:List Value):Prop:=
 ∀(s:Shared) (us:List Value),K.In s.heap->(us++ds).length=ps.length->BindsTo s fd ⟨us,[]⟩ (ps.zip (us++ds))
theorem Binds.all{K:PySem.W.Frag}{fd:FuncData}{ps:List Str}(h : ∀us:List Value,us.length=ps.length->bindArgs fd ⟨us,[]⟩=pure (ps.zip us)):Binds K fd ps []:=λs us _ y=>by
 rw [zei]at y ⊢;exact .of_eq (h us y)
def Xj(CX:CXT)(X:Cx)(E:XK):Prop:=∀(pins:List (Addr×Obj)) (σ:St) (H:Hp) (s:Shared) (e:Value) (s':Shared),Inv X pins σ H s->CX X.stack H s E e s'->X.xe e s'
section
variable{X:Cx}{CX:CXT}{k:Nat}{f C:Addr}{fd:FuncData}{ps:List Str}{sp:Sp}{dvs:List V}{ds:List Value}{E:XK}{x m:Str}{p pos apos:Pos}{e o:Expr}{es:List Expr}{ta:TE}{t:TA}
theorem We{pins:List (Addr×Obj)}{σ:St}{H:Hp}{s:Shared}{Q:VK}{us:List Value}{vs:List V}(F:FnOk X.prog X.w X.K X.mg X.base CX k f fd ps sp)(O:Room k X.A)(U:Binds X.K fd ps ds)(hd:Vals dvs ds)(Y:Xj CX X E)
 (I:Inv X pins σ H s) (r:Vals vs us) (h:sp (vs++dvs) H Q E):wpAny (model X.prog X.w) X.A (call (.ref f) us) (EP X pins σ Q) X.xe s:=by
 have r2:Vals (vs++dvs) (us++ds):=r.append hd;have hl:(us++ds).length=ps.length:=by rw [<- r2.length];exact F.len _ _ _ _ h
 refine wpAny_call (zfW (F.run X.A X.stack s H ⟨us,[]⟩ (us++ds) (vs++dvs) Q E O I.env0 (U s us I.kIn hl) r2 h) λr s' y=>?_);cases r with
 | error e=>exact Y pins σ H s e s' I y
 | ok fl=>
  cases fl with
  | ret u=>exact I.after y
  | next=>exact zeC y
  | brk=>exact zeC y
  | cont=>exact zeC y
theorem ZF(F:FnOk X.prog X.w X.K X.mg X.base CX k f fd ps sp)(O:Room k X.A)(U:Gl X x)(hm:X.mg x=some (.ref f))(Y:PySem.W.keepIn X.K (.ref f)=true)(hb:Binds X.K fd ps ds)(hd:Vals dvs ds)(hx:Xj CX X E)
 (ha:PA X (e::es) t) (a2:(x==("__debug__" : Str))=false:=by decide) (he:starEach (e::es) X.env=(false,eval e X.env)::starEach es X.env:=by rfl) (a4:(backTo pos (starEach es X.env)).any (·.1)=false:=by rfl) :
 PE X (.Call (.Name x p) (e::es) [] pos) (Yp sp dvs E t):=by
 intro pins s σ H Q I h;refine zeK (QL I U hm ?_ a2);refine PySem.W.callWith_K (h₀:=X.base) I.ok.mod.kin Y (thn (ha pos pins s σ H _ I h) λus s1 ⟨vs,H1,y,r,q⟩=>⟨y.kIn,?_⟩) he a4;exact We F O hb hd hx y r q
end
structure FnScope(N P:List Str)(sc:Scope):Prop where
 kind:sc.kind = .function
 co:sc.isCoroutine=false
 gen:sc.isGenerator=false
 nd:N.Nodup
 pre:N.take P.length=P
 par : ∀x∈P,sc.names.lookup x=some .local\/sc.names.lookup x=some .cell
 nofree : ∀y∈sc.names,y.2 ≠ .free
theorem Ze{kindOf:Str->Option NameKind}{x:Str} : ∀{y:List (Str×Value)} {m:Str->Option Value},(∀v,(x,v)∉y)->bindL kindOf y m x=m x
 | [],_,_=>rfl
 | (n,v)::r,m,h=>by
  unfold bindL;rw [Ze λw hw=>h w (zdp _ hw)];split
  ·have:x≠n:=by rintro rfl;exact h v zdm
   simp [this]
  ·rfl
theorem Zg{kindOf:Str->Option NameKind}{x:Str} : ∀{y:List (Str×Value)} {m:Str->Option Value},(∀v,(x,v)∉y)->bindC kindOf y m x=m x
 | [],_,_=>rfl
 | (n,v)::r,m,h=>by
  unfold bindC;rw [Zg λw hw=>h w (zdp _ hw)];split
  ·rfl
  ·have:x≠n:=by rintro rfl;exact h v zdm
   simp [this]
theorem Zf{kindOf:Str->Option NameKind}{x:Str}{v:Value} : ∀{P:List Str} {vs:List Value} {i:Nat} {m:Str->Option Value},P.Nodup->P[i]? = some x->vs[i]? = some v->kindOf x=some .local->
 bindL kindOf (P.zip vs) m x=some v
 | [],_,_,_,_,h,_,_=>by simp at h
 | _::_,[],_,_,_,_,h,_=>by simp at h
 | p::P,w::vs,0,m,nd,h1,h2,hk=>by
  simp at h1 h2;subst h1;subst h2;show bindL kindOf ((p,w)::P.zip vs) m p=_;unfold bindL;rw [Ze λv y=>(zeT.mp nd).1 (List.of_mem_zip y).1,if_pos hk];simp
 | p::P,w::vs,i+1,m,nd,h1,h2,hk=>by
  show bindL kindOf ((p,w)::P.zip vs) m x=_;unfold bindL;exact Zf (i:=i) (zeT.mp nd).2 (by simpa using h1) (by simpa using h2) hk
theorem Zh{kindOf:Str->Option NameKind}{x:Str}{v:Value} : ∀{P:List Str} {vs:List Value} {i:Nat} {m:Str->Option Value},P.Nodup->P[i]? = some x->vs[i]? = some v->kindOf x≠some .local->
 bindC kindOf (P.zip vs) m x=some v
 | [],_,_,_,_,h,_,_=>by simp at h
 | _::_,[],_,_,_,_,h,_=>by simp at h
 | p::P,w::vs,0,m,nd,h1,h2,hk=>by
  simp at h1 h2;subst h1;subst h2;show bindC kindOf ((p,w)::P.zip vs) m p=_;unfold bindC;rw [Zg λv y=>(zeT.mp nd).1 (List.of_mem_zip y).1,if_neg hk];simp
 | p::P,w::vs,i+1,m,nd,h1,h2,hk=>by
  show bindC kindOf ((p,w)::P.zip vs) m x=_;unfold bindC;exact Zh (i:=i) (zeT.mp nd).2 (by simpa using h1) (by simpa using h2) hk
def start(N:List Str)(vs:List V):St:=vs.map some++zcS (N.length - vs.length) none
def Vr(CX:CXT)(P:Program)(w:World)(K:PySem.W.Frag)(mg:Str->Option Value)(base:Heap)(N:List Str)(qual:Str)(scope:Scope)(f:Addr)(y:Value)(A:Around)(outer:List Env)(s:Shared)(H:Hp)(E:XK):Cx where
 prog:=P
 w:=w
 K:=K
 mg:=mg
 base:=base
 A:=A.deeper (envOfC qual scope s.heap.objs.size f y)
 N:=N
 s₀:=s
 H₀:=H
 env:=envOfC qual scope s.heap.objs.size f y
 outer:=outer
 stack:=envOfC qual scope s.heap.objs.size f y::outer
 ex:=[]
 calm:=true
 fn:=λ_=>true
 pn:=[]
 xe:=λe s'=>wpAny (model P w) (A.deeper (envOfC qual scope s.heap.objs.size f y)) (leaving (envOfC qual scope s.heap.objs.size f y) e) (λ_ I=>CX outer H s E e I) (λO I=>CX outer H s E O I) s'
theorem Jl{sc:Scope}{n:Nat}{x:Str}(h:sc.names.lookup x=some .cell) : ∃c,(cellsFrom n sc.names []).lookup x=some c:=by
 have q:=zeG sc.names n [] (.inl h);exact zeg.mp q
theorem QP{CX:CXT}{P:Program}{w:World}{K:PySem.W.Frag}{mg:Str->Option Value}{base:Heap}{N ps:List Str}{qual:Str}{scope:Scope}{f:Addr}{Y:Value}{A:Around}{outer:List Env}{s s1:Shared}{H:Hp}{E:XK}{us:List Value}{vs:List V}
 (S:FnScope N ps scope) (hd:A.handled=none) (I:Env0 P w K mg base A outer s H) (hl:vs.length=ps.length) (r:Vals vs us)
 (x:InCallC s s.heap.objs.size (bindL (envOfC qual scope s.heap.objs.size f Y).kindOf (ps.zip us) λ_=>none) (cellsFrom (s.heap.objs.size+1) scope.names []) (bindC (envOfC qual scope s.heap.objs.size f Y).kindOf (ps.zip us) λ_=>none) s1) :
 Inv (Vr CX P w K mg base N qual scope f Y A outer s H E) [] (start N vs) H s1:=by
 have a6:ps.length<=N.length:=by have:=congrArg List.length S.pre;rw [zeN]at this;omega
 obtain⟨h1,tk,rfl,hk⟩:=x.done;have a0 : ∀b:Addr,b∉(Vr CX P w K mg base N qual scope f Y A outer s H E).ex:=λb z=>absurd (show b∈([]:List Addr)from z) ⋯;refine⟨⟨I.mod,S.kind,rfl,rfl,zcZ _,λy z c h1 h2=>?_,λy O=>?_,λy c _ h=>?_,λ_=>hd,Around.frames_deeper I.frames,.inr ⟨rfl,rfl⟩,λb z=>absurd z (a0 b),I.bs,I.bsz,λb _ _=>a0 b,λb z=>absurd z (a0 b),I.funs,I.frf⟩,
  rfl,I.bare,Un.kept hk,⟨_,x.toInCall.ns,λi y v h1 h2 h3=>?_⟩,λy c h=>⟨_,x.cell y c h⟩,I.hok.fresh (zcZ _),λy c h=>?_,λp U=>absurd (show p∈([]:List (Addr×Obj))from U) ⋯,I.hok.kept hk,?_⟩
 ·exact name_of_addr x.apart (zez h1) (zez h2)
 ·have O:scope.names.lookup y=some .cell\/scope.names.lookup y=some .free:=O
  rcases O with O | O
  ·exact Jl O
  ·exact absurd rfl (S.nofree _ (zez O))
 ·exact zfR (x.above y c (zez h))
 ·have hi:i<vs.length:=by
   unfold start at h2;by_cases hi:i<vs.length
   ·exact hi
   ·rw [zdI (by simpa using hi)]at h2
    rw [zeH]at h2;split at h2<;>cases h2
  have ha:vs[i]? = some v:=by
   unfold start at h2;rw [zdV (by simpa using hi),zdx]at h2;cases e:vs[i]? with
   | none=>rw [e]at h2;cases h2
   | some a=>rw [e]at h2;cases h2;rfl
  obtain⟨u,hu,rv⟩:=r.get ha;have U:ps[i]? = some y:=by
   rw [<- S.pre,List.getElem?_take_of_lt ⋯];exact h1
  have a3:ps.Nodup:=by rw [<- S.pre];exact S.nd.sublist (List.take_sublist _ _)
  refine⟨u,rv,?_⟩;rcases S.par y (zey U)with k | k
  ·exact .inl ⟨k,Zf a3 U hu k⟩
  ·obtain⟨c,e⟩:=Jl (n:=s.heap.objs.size+1) k
   refine .inr ⟨.inl k,c,e,?_⟩;have q:=x.cell y c e;rw [Zh a3 U hu (by show scope.names.lookup y≠_;rw [k];decide)]at q;exact q
 ·exact I.hok.fresh (zfR (x.above y c (zez h)))
 ·unfold start
  show _=N.length;rw [zdK,zdY,List.length_replicate];omega
theorem zbp{CX:CXT}{P:Program}{w:World}{K:PySem.W.Frag}{mg:Str->Option Value}{base:Heap}{k:Nat}{f:Addr}{name qual:Str}{a0:Arguments}{body:List Stmt}{scope:Scope}{dV kV doc pm cdv ct oc:Value}{an od:Option Addr}
 {osl:Array (Option Value)} {N ps:List Str} {sp:Sp} (lk:K.lookup f=some ⟨oc,od,.func (PySem.W.fnOf name qual a0 body scope dV kV doc pm an cdv ct),osl⟩) (a5:PySem.W.codeIn K cdv qual=true) (S:FnScope N ps scope)
 (len : ∀vs H Q E,sp vs H Q E->vs.length=ps.length)
 (a6 : ∀(A:Around) (outer:List Env) (s:Shared) (H:Hp) (vs:List V) (Q:VK) (E:XK),Room k (A.deeper (envOfC qual scope s.heap.objs.size f cdv))->sp vs H Q E->
   ∃t,PSs (Vr CX P w K mg base N qual scope f cdv A outer s H E) body t/\t {nx:=λ_ H'=>Q .non H',rt:=Q} (start N vs) H) :
 FnOk P w K mg base CX (k+1) f (PySem.W.fnOf name qual a0 body scope dV kV doc pm an cdv ct) ps sp:=by
 refine⟨len,λA outer s H args us vs Q E U O hb r a2=>?_⟩;have hl:=len _ _ _ _ a2;have KX:K.In s.heap:=O.mod.kin.keeps λb o e=>(O.bs b o e).1;have lim:s.heap.NoLimit:=O.mod.nolimit.keeps λb o e=>(O.bs b o e).1;have a9 : ∀y∈ps.zip us,scope.names.lookup y.1=some .local\/(scope.names.lookup y.1=some .cell/\((cellsFrom (s.heap.objs.size+1) scope.names []).lookup y.1).isSome=true):=λ⟨n,v⟩ hy=>by
  rcases S.par n (List.of_mem_zip hy).1 with q | q
  ·exact .inl q
  ·exact .inr ⟨q,zeG _ _ _ (.inl q)⟩
 refine codeAny_call_function U.depth (KX _ _ lk) rfl S.co S.gen rfl (PySem.W.codeRec_of KX a5) (hb _ _ _ _ ?_);refine wpAny_newFunctionEnv_cells S.kind a9 λenv he s1 x=>?_;subst he;refine⟨lim.keeps x.toInCall.keep,codeAny_func ?_⟩;obtain⟨t,ht,hq⟩:=a6 A outer s H vs Q E (U.deeper _) a2;have I:Inv (Vr CX P w K mg base N qual scope f cdv A outer s H E) [] (start N vs) H s1:=QP S U.hd O hl r x;refine zeO (ht [] s1 (start N vs) H _ I hq) (λfl s' hs=>?_) λe s' hs=>hs;have a4 : ∀{σ':St} {H':Hp} {v:V} {u:Value},Inv (Vr CX P w K mg base N qual scope f cdv A outer s H E) [] σ' H' s'->RelV v u->Q v H'->CE outer P w H s Q u s':=
  λ{σ' H' v u} J Y q=>⟨v,H',J.os,J.bare,J.base,J.hok,Y,q⟩
 cases fl with
 | ret u=>
  obtain⟨v,σ',H',J,Y,q⟩:=hs;exact a4 J Y q
 | next=>
  obtain⟨σ',H',J,q⟩:=hs;exact a4 (v:=V.non) (u:=zel) J rfl q
 | brk=>
  obtain⟨_,_,_,q⟩:=hs;exact zeC q
 | cont=>
  obtain⟨_,_,_,q⟩:=hs;exact zeC q
section
variable{X:Cx}{x:Str}{p pos:Pos}{e:Expr}{es:List Expr}{t:TA}{id T:String}{r:List V->Hp->VK->Prop}
def tCB(r:List V->Hp->VK->Prop)(t:TA):TE:=λσ H Q=>t σ H λvs H1=>r vs H1 Q
theorem kg(y:vn X (.builtin id) r)(O:Gl X x)(hm:X.mg x=none)(U:bootBuiltins x=some (.builtin id))(ha:PA X (e::es) t)(hn:x ≠ "__name__":=by decide)(Y:(x==("__debug__" : Str))=false:=by decide)
 (he:starEach (e::es) X.env=(false,eval e X.env)::starEach es X.env:=by rfl) (a1:(backTo pos (starEach es X.env)).any (·.1)=false:=by rfl):PE X (.Call (.Name x p) (e::es) [] pos) (tCB r t):=by
 intro pins s σ H Q I h;refine zeK (xK I O hm U ?_ hn Y);exact zfn (thn (ha pos pins s σ H _ I h) λus s1 ⟨vs,H1,I1,r1,q1⟩=>y pins s1 σ H1 vs us Q I1 r1 q1) he a1
theorem yW(y:vn X (.type T) r)(O:Gl X x)(hm:X.mg x=none)(U:bootBuiltins x=some (.type T))(ha:PA X (e::es) t)(hn:x ≠ "__name__":=by decide)(Y:(x==("__debug__" : Str))=false:=by decide)
 (he:starEach (e::es) X.env=(false,eval e X.env)::starEach es X.env:=by rfl) (a1:(backTo pos (starEach es X.env)).any (·.1)=false:=by rfl):PE X (.Call (.Name x p) (e::es) [] pos) (tCB r t):=by
 intro pins s σ H Q I h;refine zeK (xK I O hm U ?_ hn Y);exact zdl (thn (ha pos pins s σ H _ I h) λus s1 ⟨vs,H1,I1,r1,q1⟩=>y pins s1 σ H1 vs us Q I1 r1 q1) he a1
end
end L2
namespace HT
open PySem PyProof.Rows
section
variable{prog:Program}{w:World}{A:Around}{E:Value->Shared->Prop}{s:Shared}
theorem cat_tup{t b:Addr}{vs ws:List Value}{Q:Value->Shared->Prop}(ht:IsTup s.heap t vs.toArray)(hb:IsTup s.heap b ws.toArray)(O:vs ≠ [])
 (h1:ws=[]->Q (.ref t) s) (h2:ws ≠ []->Q (.ref s.heap.objs.size) {s with heap:=s.heap.push {cls:= .type "tuple",data:= .seq (vs++ws).toArray}})
 (hsz:vs.length+ws.length<=sizeLine):wpAny (model prog w) A (binaryOp .Add (.ref t) (.ref b)) Q E s:=by
 obtain⟨⟨cls,U,data,sl⟩,y,Y,n,hd⟩:=id ht;obtain⟨⟨a7,a0,data2,a1⟩,I,a2,n2,a4⟩:=id hb;simp only at Y hd a2 a4;subst Y hd a2 a4;have e:vs.toArray++ws.toArray=(vs++ws).toArray:=by simp
 by_cases hw:ws=[]
 ·exact zfV ⟨_,y,rfl⟩ ⟨_,I,rfl⟩ zfY seq_tuple_add zfb ze8 (zeZ _ _)
   (tuple_addW1 t b vs.toArray ws.toArray n n2 U a0 sl a1 (by simpa using O) (by simp [hw])) ⟨y,I,h1 hw⟩
 ·refine zfV ⟨_,y,rfl⟩ ⟨_,I,rfl⟩ zfY seq_tuple_add zfb ze8 (zeZ _ _)
   (tuple_addW2 t b vs.toArray ws.toArray n n2 U a0 sl a1 (by simpa using O) (by simpa using hw) (by rw [zcV,zcV];exact hsz)) ⟨y,I,?_⟩
  rw [e];exact h2 hw
def sIx(n d:Nat):Option Int->Nat
 | none=>d
 | some v=>if v<0 then (v+(n:Int)).toNat else min v.toNat n
theorem Wc(n d:Nat)(hd:d<=n)(o:Option Int):sIx n d o<=n:=by
 cases o with
 | none=>exact hd
 | some v=>
  show(if v<0 then (v+(n:Int)).toNat else min v.toNat n)<=n;by_cases y:v<0
  ·rw [if_pos y];omega
  ·rw [if_neg y];exact Nat.min_le_right _ _
theorem Q5(v:Int)(n d:Nat):(if v<0 then max (v+(n:Int)) 0 else min v (n:Int))=((sIx n d (some v):Nat):Int):=by
 show(if v<0 then max (v+(n:Int)) 0 else min v (n:Int))=(((if v<0 then (v+(n:Int)).toNat else min v.toNat n):Nat):Int);by_cases y:v<0
 ·simp only [if_pos y];omega
 ·simp only [if_neg y];omega
theorem JX(lo hi:Option Int)(n:Nat):zeM lo hi 1 (n:Int)=(((sIx n 0 lo:Nat):Int),((sIx n n hi:Nat):Int)):=by
 have h1 : ¬((1:Int)<0):=by omega
 unfold zeM;simp only [h1,if_false];refine Prod.ext ?_ ?_
 ·cases lo with
  | none=>rfl
  | some v=>exact Q5 v n 0
 ·cases hi with
  | none=>rfl
  | some v=>exact Q5 v n n
theorem JJ(i j:Nat):zen (i:Int) (j:Int) 1=j - i:=by
 unfold zen;have h1:(1:Int)>0:=by omega
 simp only [h1,if_true,Int.ediv_one];split<;>omega
theorem vA{v:Value}{o:Option Int}{Q:Option Int->Shared->Prop}(p:IsPart v o)(h:Q o s):wpAny (model prog w) A (Builtin.Slice.slicePartIndex v) Q E s:=by
 cases p with
 | none=>exact slicePart_none h
 | int i t=>exact slicePart_int h
theorem sliceApplied_gen{sl:Addr}{y I:Value}{lo hi:Option Int}{n:Nat}{Q:Int×Int×Nat->Shared->Prop}(hs:s.heap.IsSliceOf sl y I .none)(pl:IsPart y lo)(Y:IsPart I hi)
 (h:Q (((sIx n 0 lo:Nat):Int),1,sIx n n hi - sIx n 0 lo) s):wpAny (model prog w) A (Builtin.Slice.sliceApplied (.ref sl) (pure (n:Int))) Q E s:=by
 obtain⟨os,O,a0,U⟩:=id hs;unfold Builtin.Slice.sliceApplied Builtin.Slice.sliceFields;refine zcM (zcM (zdk O U (x:=y) rfl (zcM (zdk O U (x:=I) rfl (zcM (zdk O U (x:= .none) rfl (zcT ?_)))))));refine zcM (slicePart_none ?_);show wpAny _ _ (if ((1:Int)==0)=true then _ else _) _ _ s;rw [if_neg ⋯];refine zcM (vA pl (zcM (vA Y (zcM (zcT ?_)))));show wpAny _ _ (match zeM lo hi 1 (n:Int)with | (lo,hi)=>pure (lo,(1:Int),zen lo hi 1)) _ _ s;rw [JX lo hi n];show wpAny _ _ (pure (((sIx n 0 lo:Nat):Int),(1:Int),zen ((sIx n 0 lo:Nat):Int) ((sIx n n hi:Nat):Int) 1)) _ _ s;rw [JJ];exact zcT h
theorem XZ(xs:Array Value)(i k:Nat):((zcP k).filterMap λ(m:Nat)=>xs[((i:Int)+(m:Int)*1).toNat]?).toArray=((xs.toList.drop i).take k).toArray:=by
 have e:(λ(m:Nat)=>xs[((i:Int)+(m:Int)*1).toNat]?)=λm=>xs[i+m]? :=by
  funext m;have:((i:Int)+(m:Int)*1).toNat=i+m:=by omega
  rw [this]
 rw [e];have:=pick_run xs i k;rw [List.filterMap_map]at this;have e2:((λx=>xs[x]?)∘λx=>i+x)=λm=>xs[i+m]? :=rfl;rw [e2]at this;rw [this]
theorem getItem_tuple_cut{t sl:Addr}{y:Array Value}{U Y:Value}{lo hi:Option Int}{Q:Value->Shared->Prop}(I:IsTup s.heap t y)(hs:s.heap.IsSliceOf sl U Y .none)(pl:IsPart U lo)(pu:IsPart Y hi)
 (hw : ¬(sIx y.size 0 lo=0/\sIx y.size y.size hi=y.size))
 (h:Q (.ref s.heap.objs.size) {s with heap:=s.heap.push {cls:= .type "tuple",data:= .seq ((y.toList.drop (sIx y.size 0 lo)).take (sIx y.size y.size hi - sIx y.size 0 lo)).toArray}})
 (hsz:y.size<=sizeLine):wpAny (model prog w) A (getItem (.ref t) (.ref sl)) Q E s:=by
 have O:sizeOk (.seq ((y.toList.drop (sIx y.size 0 lo)).take (sIx y.size y.size hi - sIx y.size 0 lo)).toArray):=by
  show((y.toList.drop (sIx y.size 0 lo)).take (sIx y.size y.size hi - sIx y.size 0 lo)).toArray.size<=sizeLine;rw [zcV,zeN,List.length_drop,zeS];omega
 have hj:sIx y.size y.size hi<=y.size:=Wc _ _ (zcZ _) hi;obtain⟨os,a1,a2,a6⟩:=id hs;have a3:s.TypeIs (.ref sl) "slice":=⟨os,a1,a2⟩;unfold getItem
 try with_reducible refine zd8 ?_
 first | refine zcM (zcT ?_) | skip
 refine zcM (wpAny_sequenceKey I.typeIs ⋯ ?_);refine zcM (zde (name:=zdC "__getitem__") I.typeIs zdF
  (zds zdF I.typeIs entry_tuple_getitem ?_ (args_tuple_getitem _ _)))
 show wpAny _ _ (Builtin.Tuple.tupleItemsOf (.ref t) >>= _) _ _ s;refine zcM (zfm I ?_);refine zcM (zfd a3 ?_);rw [if_pos ⋯];refine zcM (sliceApplied_gen hs pl pu ?_);have a4 : ¬((((sIx y.size 0 lo:Nat):Int)==0 && (1:Int)==1 && (sIx y.size y.size hi - sIx y.size 0 lo)==y.size)=true):=by
  intro q;rw [Bool.and_eq_true,Bool.and_eq_true]at q;have q1:((sIx y.size 0 lo:Nat):Int)=0:=eq_of_beq q.1.1;have q2:sIx y.size y.size hi - sIx y.size 0 lo=y.size:=eq_of_beq q.2;exact hw ⟨by omega,by omega⟩
 show wpAny _ _ (if (((sIx y.size 0 lo:Nat):Int)==0 && (1:Int)==1 && (sIx y.size y.size hi - sIx y.size 0 lo)==y.size)=true then _ else _) _ _ s;rw [if_neg a4,XZ]
 first
  | exact zcM (m:=zdT _) (zdZ (zcT ⟨_,rfl,zcT h⟩) O)
  | exact zcM (m:=zdT _) (zdZ (zcM (zcT (zcT ⟨_,rfl,zcT h⟩))) O)
  | exact zcM (zcM (m:=zdT _) (zdZ (zcT (zcT ⟨_,rfl,zcT h⟩)) O))
  | exact zcM (zcM (m:=zdT _) (zdZ (zcT ⟨_,rfl,zcT h⟩) O))
end
end HT
namespace L2
open PySem PySem.Spec PyProof.Rows
abbrev TO:=St->Hp->(Option Int->Hp->Prop)->Prop
def PO(X:Cx)(e:Option Expr)(t:TO):Prop:=
 ∀(pins:List (Addr×Obj)) (s:Shared) (σ:St) (H:Hp) (Q:Option Int->Hp->Prop),Inv X pins σ H s->t σ H Q->
  wpAny (model X.prog X.w) X.A (evalPart e X.env) (λu s'=>∃o H',Inv X pins σ H' s'/\IsPart u o/\Q o H') X.xe s
def Yo:TO:=λ_ H Q=>Q none H
def zaQ(t:TE):TO:=λσ H Q=>t σ H λx H1=>∃i,x = .int i/\Q (some i) H1
section
variable{X:Cx}{e:Expr}{te:TE}{lo hi:Option Expr}{tl th:TO}{pos p2:Pos}
theorem YU:PO X none Yo:=by
 intro pins s σ H Q I h;rw [evalPart_none];exact zcT ⟨none,H,I,.none,h⟩
theorem YT(h:PE X e te):PO X (some e) (zaQ te):=by
 intro pins s σ H Q I hw;rw [evalPart_some];refine thn (h pins s σ H _ I hw) λu s1 y=>?_;obtain⟨x,H1,O,U,Y⟩:=y;obtain⟨i,rfl,q⟩:=Y;obtain⟨t,rfl⟩:=U;exact⟨some i,H1,O,.int i t,q⟩
def SlR(X:Cx)(r:V->Option Int->Option Int->Hp->VK->Prop):Prop:=
 ∀(pins:List (Addr×Obj)) (s:Shared) (σ:St) (H:Hp) (x:V) (v y I:Value) (lo hi:Option Int) (sl:Addr) (Q:VK),Inv X pins σ H s->RelV x v->s.heap.IsSliceOf sl y I .none->IsPart y lo->IsPart I hi->r x lo hi H Q->
  ∃T id,typeLookup (.type T) "__getitem__" = pure (some (.builtin id))/\s.TypeIs v T/\wpAny (model X.prog X.w) X.A (getItem v (.ref sl)) (EP X pins σ Q) X.xe s
def tSl(r:V->Option Int->Option Int->Hp->VK->Prop)(te:TE)(tl th:TO):TE:=λσ H Q=>te σ H λx H1=>tl σ H1 λl H2=>th σ H2 λu y=>r x l u y Q
theorem X2{r:V->Option Int->Option Int->Hp->VK->Prop}(hr:SlR X r)(he:PE X e te)(hl:PO X lo tl)(hu:PO X hi th):PE X (.Subscript e (.Slice lo hi none p2) pos) (tSl r te tl th):=by
 intro pins s σ H Q I h;refine Subscript_ (thn (he pins s σ H _ I h) λv s1 hZ=>?_);obtain⟨x,H1,I1,r1,q1⟩:=hZ;refine wpAny_Slice (thn (hl pins s1 σ H1 _ I1 q1) λO s2 ⟨l,H2,I2,pl,q2⟩=>thn (hu pins s2 σ H2 _ I2 q2) λU y ⟨u,Y,I3,pu,q3⟩=>?_);rw [evalPart_none];refine zcT ?_;have I4:Inv X pins σ Y {y with heap:=y.heap.push {cls:= .type "slice",data:= .fields #[O,U,.none]}}:=I3.kept (t':=y.toks) λb ob q=>zcO _ q;obtain⟨T,id,hT,ht,hg⟩:=hr pins {y with heap:=y.heap.push {cls:= .type "slice",data:= .fields #[O,U,.none]}} σ Y x v O U l u y.heap.objs.size Q I4 r1 (Heap.IsSliceOf.new ..) pl pu q3;show wpAny (model X.prog X.w) X.A (subscriptTail e (.Slice lo hi none p2) v (.ref y.heap.objs.size)) (EP X pins σ Q) X.xe {y with heap:=y.heap.push {cls:= .type "slice",data:= .fields #[O,U,.none]}};exact tail_any (ops:=[.ref y.heap.objs.size,v]) ht hT hg (by with_unfolding_all rfl)
def Vt(xs:List V)(lo hi:Option Int):List V:=(xs.drop (HT.sIx xs.length 0 lo)).take (HT.sIx xs.length xs.length hi - HT.sIx xs.length 0 lo)
theorem ZO(xs:List V)(lo hi:Option Int):(Vt xs lo hi).length<=xs.length:=by
 unfold Vt;rw [zeN,List.length_drop];omega
def zcn(K:PySem.W.Frag):V->Option Int->Option Int->Hp->VK->Prop:=λx lo hi H Q=>∃a xs,x = .ref a/\SqT K H a xs/\
 ¬(HT.sIx xs.length 0 lo=0/\HT.sIx xs.length xs.length hi=xs.length)/\∀p,H p=none->Q (.ref p) (upd H p (.tup (Vt xs lo hi)))
theorem V8:SlR X (zcn X.K):=by
 intro pins s σ H x v vl vu lo hi sl Q I rx hs pl U h;obtain⟨a,xs,rfl,Y,hw,q⟩:=h;cases rx;obtain⟨its,r,O,hz⟩:=I.tuple Y;have y:its.toArray.size=xs.length:=by rw [zcV];exact r.length.symm
 refine⟨"tuple",_,zdF.lookup,O.typeIs,?_⟩;refine HT.getItem_tuple_cut O hs pl U (by rw [y];exact hw) ?_ (by rw [y];exact hz);rw [y];refine⟨.ref s.heap.objs.size,_,I.laid (t':=s.toks) (o:= .tup (Vt xs lo hi)) (λb ob q=>zcO _ q) (zcZ _) ?_,rfl,q _ (I.hok.fresh (zcZ _))⟩;exact⟨zdP (ZO xs lo hi) hz,_,(r.drop (HT.sIx xs.length 0 lo)).take (HT.sIx xs.length xs.length hi - HT.sIx xs.length 0 lo),IsTupD.new _ _⟩
theorem Vals.nil_iff{xs:List V}{us:List Value}(r:Vals xs us):us=[]↔xs=[]:=by
 cases r with
 | nil=>simp
 | cons _ _=>simp
end
def ixN(n:Nat)(i:Int):Option Nat:=if 0<=i then (if i<n then some i.toNat else none)else if -(n:Int)<=i then some (i+n).toNat else none
def atI{α:Type}(xs:List α)(i:Int):Option α:=(ixN xs.length i).bind λj=>xs[j]?
theorem QM{n:Nat}{i:Int}{j:Nat}(h:ixN n i=some j):seqIndex? i n=some j/\j<n/\ -(n:Int)<=i/\i<n:=by
 unfold ixN at h;by_cases y:0<=i
 ·rw [if_pos y]at h
  by_cases h1:i<n
  ·rw [if_pos h1]at h
   have e:i.toNat=j:=zdH h;exact⟨by rw [seqIndex_of y h1,e],by omega,by omega,h1⟩
  ·rw [if_neg h1]at h;cases h
 ·rw [if_neg y]at h
  by_cases h1 : -(n:Int)<=i
  ·rw [if_pos h1]at h
   have e:(i+n).toNat=j:=zdH h;exact⟨by rw [seqIndex_neg ⋯ h1,e],by omega,h1,by omega⟩
  ·rw [if_neg h1]at h;cases h
theorem ZR{α:Type}{xs:List α}{i:Int}{v:α}(h:atI xs i=some v) : ∃j,seqIndex? i xs.length=some j/\xs[j]? = some v/\j<xs.length/\ -(xs.length:Int)<=i/\i<xs.length:=by
 unfold atI at h;cases e:ixN xs.length i with
 | none=>rw [e]at h;cases h
 | some j=>
  rw [e]at h;obtain⟨h1,h2,y,I⟩:=QM e;exact⟨j,h1,h,h2,y,I⟩
def wq(b:Expr):Prop:=∀o i,subscripted b false o i=operate [o,i] (getItem o i)
def IxR(X:Cx)(r:R2):Prop:=
 ∀(O I:Expr) (pins:List (Addr×Obj)) (s:Shared) (σ:St) (H:Hp) (x y:V) (v u:Value) (Q:VK),Inv X pins σ H s->RelV x v->RelV y u->r x y H Q->
  subscripted I false v u=operate [v,u] (getItem v u)->wpAny (model X.prog X.w) X.A (subscriptTail O I v u) (EP X pins σ Q) X.xe s
def MtR(X:Cx)(id:String)(r:V->List V->Hp->VK->Prop):Prop:=
 ∀(pins:List (Addr×Obj)) (s:Shared) (σ:St) (H:Hp) (x:V) (xs:List V) (v:Value) (us:List Value) (Q:VK),Inv X pins σ H s->RelV x v->Vals xs us->r x xs H Q->
  wpAny (model X.prog X.w) X.A (call (.builtin id) (v::us)) (EP X pins σ Q) X.xe s
section
variable{X:Cx}{a b:Expr}{ta tb:TE}{pos:Pos}
theorem IxR.or{r r':R2}(h:IxR X r)(h':IxR X r'):IxR X (λx y H Q=>r x y H Q\/r' x y H Q):=by
 intro O U pins s σ H x y v u Q I rx Y q hs;rcases q with q | q
 ·exact h O U pins s σ H x y v u Q I rx Y q hs
 ·exact h' O U pins s σ H x y v u Q I rx Y q hs
theorem Y1{r:R2}(O:IxR X r)(ha:PE X a ta)(U:PE X b tb)(hs:wq b):PE X (.Subscript a b pos) (tOp r ta tb):=by
 intro pins s σ H Q I h;exact Subscript_ (zby ha U I h λv u s2 x y H2 Y rx ry q=>O a b pins s2 σ H2 x y v u Q Y rx ry q (hs _ _))
def zcr(K:PySem.W.Frag):R2:=λx y H Q=>∃p xs i v,x = .ref p/\y = .int i/\SqL K H p xs/\atI xs i=some v/\Q v H
def zcp(K:PySem.W.Frag):R2:=λx y H Q=>∃p xs i v,x = .ref p/\y = .int i/\SqT K H p xs/\atI xs i=some v/\Q v H
def zcq:R2:=λx y H Q=>∃z i c,x = .str z/\y = .int i/\z.length<=sizeLine/\atI z.cps.toList i=some c/\Q (.str ⟨#[c]⟩) H
theorem ix_list:IxR X (zcr X.K):=by
 intro a8 a9 pins s σ H x y v u Q I rx ry h hs;obtain⟨p,xs,i,z,rfl,rfl,hq,he,q⟩:=h;cases rx;obtain⟨t,rfl⟩:=ry;obtain⟨its,r,pl,hz⟩:=I.list hq;obtain⟨j,h1,h2,h3,h4,h5⟩:=ZR he;obtain⟨w,U,a6⟩:=r.get h2;have hl:=r.length;have hn:=y8;have Y:EP X pins σ Q w s:=⟨z,H,I,a6,q⟩;by_cases h0:0<=i
 ·have O:i.toNat=j:=by
   rw [seqIndex_of h0 h5]at h1;exact zdH h1
  exact item_listR pl.isList h0 ⋯ (by rw [O];simpa using U) Y hs
 ·have O:(i+(its.toArray.size:Int)).toNat=j:=by
   rw [seqIndex_neg ⋯ h4]at h1;rw [zcV,<- hl];exact zdH h1
  exact subscriptTail_builtinR (x:=w) pl.isList.typeIs slot_list_getitem.lookup
   (wpAny_getItem_list_neg (Q:=λr s'=>r=w/\EP X pins σ Q r s') pl.isList ⋯ (by rw [zcV]<;>omega) ⋯ (by rw [O];simpa using U) ⟨rfl,Y⟩) hs
theorem K3:IxR X (zcp X.K):=by
 intro a4 a5 pins s σ H x y v u Q I rx O h hs;obtain⟨p,xs,i,z,rfl,rfl,U,Y,q⟩:=h;cases rx;obtain⟨t,rfl⟩:=O;obtain⟨its,r,pl,hz⟩:=I.tuple U;obtain⟨j,h1,h2,h3,h4,h5⟩:=ZR Y;obtain⟨w,ew,a1⟩:=r.get h2;have hl:=r.length;have hn:=y8;have a3:EP X pins σ Q w s:=⟨z,H,I,a1,q⟩;exact subscriptTail_builtinR (x:=w) pl.typeIs slot_tuple_getitem.lookup
  (getItem_tuple (j:=j) (Q:=λr s'=>r=w/\EP X pins σ Q r s') pl ⋯ ⋯ (by rw [zcV,<- hl];exact h1) (by simpa using ew) ⟨rfl,a3⟩) hs
theorem W2:IxR X zcq:=by
 intro a2 a3 pins s σ H x y v u Q I rx O h hs;obtain⟨z,i,c,rfl,rfl,hz,U,q⟩:=h;obtain⟨t,rfl⟩:=rx;obtain⟨t',rfl⟩:=O;obtain⟨j,h1,h2,h3,Y,h5⟩:=ZR U;have hl:z.cps.toList.length=z.length:=by simp [Str.length]
 rw [hl]at h1 Y h5;have hn:=y8;exact tail_any (typeIs_str s z t) slot_str_getitem.lookup (getItem_str (c:=c) (by
  have e1:decide (i < -(2 ^ 63:Int))=false:=decide_eq_false ⋯;have e2:decide (i>=2 ^ 63)=false:=decide_eq_false ⋯;rw [e1,e2,Bool.or_false]) (by rw [h1];simpa using h2) ⟨.str ⟨#[c]⟩,H,I.tok _,⟨_,rfl⟩,q⟩) hs
theorem JN(its:List Value)(n j:Nat)(u:Value):zeD (·.setIfInBounds j u) {cls:= .type "list",data:= .seq its.toArray n} = {cls:= .type "list",data:= .seq (its.set j u).toArray n}:=by
 simp [zeD]
theorem Inv.lst{pins:List (Addr×Obj)}{σ:St}{H:Hp}{s:Shared}{p:Addr}{xs:List V}(I:Inv X pins σ H s)(h:H p=some (.lst xs)) :
 ∃(its:List Value) (n:Nat),Vals xs its/\s.heap.get? p=some {cls:= .type "list",data:= .seq its.toArray n}/\xs.length<=sizeLine:=by
 obtain⟨z,its,n,r,e⟩:=I.hok p _ h;exact⟨its,n,r,e,z⟩
theorem Inv.lstUpd{pins:List (Addr×Obj)}{σ:St}{H:Hp}{s:Shared}{p:Addr}{xs ys:List V}{its its':List Value}{n y:Nat}{f:Obj->Obj}(I:Inv X pins σ H s)(h:H p=some (.lst xs))
 (U:s.heap.get? p=some {cls:= .type "list",data:= .seq its.toArray n}) (O:f {cls:= .type "list",data:= .seq its.toArray n} = {cls:= .type "list",data:= .seq its'.toArray y}) (r:Vals ys its') (hz:ys.length<=sizeLine) (t:Nat) :
 Inv X pins σ (upd H p (.lst ys)) {s with heap:=s.heap.update p f,toks:=t}:=by
 have e:(s.heap.update p f).get? p=some {cls:= .type "list",data:= .seq its'.toArray y}:=by
  rw [zed f U (by rw [O]<;>rfl),O]
 refine I.write (x:=p) (e:=p) (by rw [h];trivial) (.inl rfl) (λb u Y q=>(zdD _ _ (zdy Y)).trans q) ⟨_,e⟩ ?_;exact⟨hz,its',y,r,e⟩
def za2:V->V->V->Hp->(Hp->Prop)->Prop:=λo i v H Q=>∃p xs k j,o = .ref p/\i = .int k/\H p=some (.lst xs)/\ixN xs.length k=some j/\Q (upd H p (.lst (xs.set j v)))
theorem XC:zca X za2:=by
 intro pins s σ H o i v ov iv u Q I ro ri rv h;obtain⟨p,xs,k,j,rfl,rfl,Y,hj,q⟩:=h;cases ro;obtain⟨t,rfl⟩:=ri;obtain⟨its,n,r,y,hz⟩:=I.lst Y;obtain⟨h1,h2,h3,h4⟩:=QM hj;have O:=r.length;have hn:=y8;have I':Inv X pins σ (upd H p (.lst (xs.set j v))) {s with heap:=s.heap.update p (zeD (·.setIfInBounds j u))}:=
  I.lstUpd Y y (JN its n j u) (r.set rv j) (by rw [List.length_set];exact hz) s.toks
 by_cases h0:0<=k
 ·have U:k.toNat=j:=by
   rw [seqIndex_of h0 h4]at h1;exact zdH h1
  exact PySem.W.ki_setAt y h0 ⋯ (by rw [zcV,<- O];exact h4) (by rw [U];exact⟨_,I',q⟩)
 ·have U:(k+(its.toArray.size:Int)).toNat=j:=by
   rw [seqIndex_neg ⋯ h3]at h1;rw [zcV,<- O];exact zdH h1
  exact PySem.W.ki_setBack y ⋯ (by rw [zcV,<- O];exact h3) ⋯ (by rw [U];exact⟨_,I',q⟩)
theorem Zd:vn X (.builtin "len") (λxs H Q=>∃p ys,xs=[.ref p]/\(SqL X.K H p ys\/SqT X.K H p ys)/\Q (.int ys.length) H):=by
 intro pins s σ H xs us Q I r h;obtain⟨p,ys,rfl,y,q⟩:=h;obtain⟨u,rfl,rx⟩:=k8 r;cases rx;have hn:=y8;rcases y with y | y
 ·obtain⟨its,r',pl,hz⟩:=I.list y
  have O:=r'.length;exact Calls.call_len_list pl.isList (by simp only [zcV]<;>omega) ⟨.int ys.length,H,I.tok _,⟨s.toks+1,by rw [zcV,O]⟩,q⟩
 ·obtain⟨its,r',pl,hz⟩:=I.tuple y
  have O:=r'.length;exact len_tuple pl (by simp only [zcV]<;>omega) ⟨.int ys.length,H,I.tok _,⟨s.toks+1,by rw [zcV,O]⟩,q⟩
theorem Zc:vn X (.builtin "len") (λxs H Q=>∃z,xs=[.str z]/\z.length<=sizeLine/\Q (.int z.length) H):=by
 intro pins s σ H xs us Q I r h;obtain⟨z,rfl,hz,q⟩:=h;obtain⟨u,rfl,t,rfl⟩:=k8 r;have hn:=y8;exact len_str ⋯ ⟨.int z.length,H,I.tok _,⟨_,rfl⟩,q⟩
theorem Zb:vn X (.type "list") (λxs H Q=>∃p ys,xs=[.ref p]/\(SqL X.K H p ys\/SqT X.K H p ys)/\∀l,H l=none->Q (.ref l) (upd H l (.lst ys))):=by
 intro pins s σ H xs us Q I r h;obtain⟨p,ys,rfl,O,q⟩:=h;obtain⟨u,rfl,rx⟩:=k8 r;cases rx;have a0 : ∀(its:List Value),Vals ys its->ys.length<=sizeLine->∀(h':Heap) (y:Nat),(∀b o',s.heap.get? b=some o'->h'.get? b=some o')->
  h'.get? s.heap.objs.size=some {cls:= .type "list",dict:=none,data:= .seq its.toArray y,slots:=#[]}->EP X pins σ Q (.ref s.heap.objs.size) {s with heap:=h'}:=λits r' hz h' y kp e=>
  ⟨.ref s.heap.objs.size,_,I.laid (t':=s.toks) kp (zcZ _) (show ObjOk X.prog X.w _ h' _ (.lst ys)from⟨hz,its,y,r',e⟩),rfl,q _ (I.hok.fresh (zcZ _))⟩
 rcases O with O | O
 ·obtain⟨its,r',pl,hz⟩:=I.list O
  have a1:=r'.length;obtain⟨o,U,Y,n,hd⟩:=pl.isList;exact call_list_seq p (.inl rfl) U Y hd (λh' y kp e=>a0 its r' hz h' y kp e) (by simp only [zcV]<;>omega)
 ·obtain⟨its,r',pl,hz⟩:=I.tuple O
  have a1:=r'.length;obtain⟨o,U,Y,n,hd⟩:=pl;exact call_list_seq p (.inr rfl) U Y hd (λh' y kp e=>a0 its r' hz h' y kp e) (by simp only [zcV]<;>omega)
theorem wm:vn X (.type "tuple") (λxs H Q=>∃p ys,xs=[.ref p]/\((SqL X.K H p ys/\∀l,H l=none->Q (.ref l) (upd H l (.tup ys)))\/(SqT X.K H p ys/\Q (.ref p) H))):=by
 intro pins s σ H xs us Q I r h;obtain⟨p,ys,rfl,h⟩:=h;obtain⟨u,rfl,rx⟩:=k8 r;cases rx;rcases h with⟨y,q⟩ | ⟨y,q⟩
 ·obtain⟨its,r',pl,hz⟩:=I.list y
  have Y:=r'.length;refine call_tuple_list pl.isList (λh' kp=>?_) (by simp only [zcV]<;>omega);have O:Inv X pins σ H {s with heap:=h'}:=I.kept (t':=s.toks) kp;have U:Inv X pins σ (upd H h'.objs.size (.tup ys)) {s with heap:=h'.push {cls:= .type "tuple",data:= .seq its.toArray}}:=
   O.laid (t':=s.toks) (λb o e=>zcO _ e) (zcZ _) (show ObjOk X.prog X.w _ _ _ (.tup ys)from⟨hz,its,r',IsTupD.new _ _⟩)
  exact⟨.ref h'.objs.size,_,U,rfl,q _ (O.hok.fresh (zcZ _))⟩
 ·obtain⟨its,r',pl,hz⟩:=I.tuple y
  exact call_tuple_same pl ⟨.ref p,H,I,rfl,q⟩
def tyV(K:PySem.W.Frag)(T:String)(x:V)(H:Hp):Prop:=match x with
 | .str _=>T = "str"
 | .int _=>T = "int"
 | .ref p=>(T = "list"/\∃xs,SqL K H p xs)\/(T = "tuple"/\∃o,K.lookup p=some o/\o.cls = .type "tuple"/\o.dict=none)\/
  (T = "dict"/\((∃kvs,H p=some (.dK kvs))\/∃kvs,H p=some (.dT kvs)))\/(T = "set"/\∃S n,H p=some (.set S n))
 | _=>False
theorem KH{pins:List (Addr×Obj)}{σ:St}{H:Hp}{s:Shared}{T:String}{x:V}{v:Value}(I:Inv X pins σ H s)(r:RelV x v)(ty:tyV X.K T x H) :
 s.TypeIs v T/\∀a,v = .ref a->∃O,s.heap.get? a=some O/\O.dict=none:=by
 cases x with
 | str z=>
  obtain⟨t,rfl⟩:=r;cases (show T = "str" from ty);exact⟨typeIs_str s z t,λ_ e=>nomatch e⟩
 | int i=>
  obtain⟨t,rfl⟩:=r;cases (show T = "int" from ty);exact⟨zfU s i t,λ_ e=>nomatch e⟩
 | ref p=>
  cases r;rcases ty with⟨rfl,xs,U⟩ | ⟨rfl,o,y,Y,hd⟩ | ⟨rfl,y⟩ | ⟨rfl,S,n,y⟩
  ·obtain⟨its,_,pl,_⟩:=I.list U
   refine⟨pl.isList.typeIs,λa e=>?_⟩;cases e;obtain⟨o,n,e,c,hd,_⟩:=pl;exact⟨o,e,hd⟩
  ·refine⟨⟨o,I.kIn p o y,Y⟩,λa e=>?_⟩
   cases e;exact⟨o,I.kIn _ o y,hd⟩
  ·have z : ∃o,s.heap.get? p=some o/\o.ExactDict:=by
    rcases y with⟨kvs,y⟩ | ⟨kvs,y⟩
    ·obtain⟨_,_,_,_,o,_,_,e,ex,_⟩:=I.hok p _ y
     exact⟨o,e,ex⟩
    ·obtain⟨_,_,_,_,o,_,_,e,ex,_⟩:=I.hok p _ y
     exact⟨o,e,ex⟩
   obtain⟨o,e,ex⟩:=z;refine⟨⟨o,e,ex.1⟩,λa e2=>?_⟩;cases e2;exact⟨o,e,ex.2.1⟩
  ·obtain⟨o,_,_,_,e,ex,_⟩:=I.hok p _ y
   refine⟨⟨o,e,ex.1⟩,λa e2=>?_⟩;cases e2;exact⟨o,e,ex.2.1⟩
 | _=>exact zeC ty
def zcl(K:PySem.W.Frag)(T:String)(r:V->List V->Hp->VK->Prop)(to:TE):TE:=λσ H Q=>to σ H λx H1=>tyV K T x H1/\r x [] H1 Q
def tBM(K:PySem.W.Frag)(T:String)(r:V->List V->Hp->VK->Prop)(to:TE)(t:TA):TE:=λσ H Q=>to σ H λx H1=>tyV K T x H1/\t σ H1 λxs H2=>r x xs H2 Q
variable{o e:Expr}{es:List Expr}{to:TE}{t:TA}{name:Str}{apos cpos:Pos}{T id:String}{r:V->List V->Hp->VK->Prop}
theorem WJ(U:PlainAttrs T)(slot:Slot T name id)(Y:typeOf (.builtin id)=pure (.type "method_descriptor"))(hm:MtR X id r)(ho:PE X o to)
 (a1:attributeBase o name X.env (eval o X.env)=eval o X.env:=by rfl) (a2:(apos.endLine==cpos.line)=true:=by rfl):PE X (.Call (.Attribute o name apos) [] [] cpos) (zcl X.K T r to):=by
 intro pins s σ H Q I h;refine wpAny_Call_method0_late a1 a2 (thn (ho pins s σ H _ I h) λv s1 hZ=>?_);obtain⟨x,H1,y,O,ty,q1⟩:=hZ;obtain⟨h1,h2⟩:=KH y O ty;exact⟨T,id,U,slot,Y,h1,h2,Calls.callWith_builtin rfl (PySem.evalArgs_none (hm pins s1 σ H1 x [] v [] Q y O .nil q1))⟩
theorem Y3(Y:PlainAttrs T)(slot:Slot T name id)(a0:typeOf (.builtin id)=pure (.type "method_descriptor"))(hm:MtR X id r)(ho:PE X o to)(ha:PA X (e::es) t)
 (a2:attributeBase o name X.env (eval o X.env)=eval o X.env:=by rfl)
 (a3:((backTo cpos (starEach (e::es) X.env)).all (λx=> !x.1) && (backToKw cpos (keywordEach [] X.env)).all (λx=>x.1.isSome)
   && decide ((e::es).length+([]:List Keyword).length+(if ([]:List Keyword).isEmpty then 0 else 1)<30))=true:=by rfl)
 (a4:(apos.endLine==cpos.line)=true:=by rfl) (hs:starEach (e::es) X.env=(false,eval e X.env)::starEach es X.env:=by rfl) (a5:(backTo cpos (starEach es X.env)).any (·.1)=false:=by rfl) :
 PE X (.Call (.Attribute o name apos) (e::es) [] cpos) (tBM X.K T r to t):=by
 intro pins s σ H Q I h;refine wpAny_Call_method_late a2 a3 a4 rfl (thn (ho pins s σ H _ I h) λv s1 hZ=>?_);obtain⟨x,H1,y,O,ty,q1⟩:=hZ;obtain⟨h1,h2⟩:=KH y O ty;refine⟨T,id,Y,slot,a0,h1,h2,?_⟩;have U:=ha cpos pins s1 σ H1 _ y q1;rw [hs]at U ⊢;refine Calls.callWith_builtin (by show(false || (backTo cpos (starEach es X.env)).any (·.1))=false;rw [a5]<;>rfl) (Calls.evalArgs_plain ?_);exact thn U λus s2 ⟨vs,H2,I2,r2,q2⟩=>hm pins s2 σ H2 x vs v us Q I2 O r2 q2
end
def MtM(X:Cx)(id:String)(r:V->List V->Hp->VK->Prop):Prop:=
 ∀(pins:List (Addr×Obj)) (s:Shared) (σ:St) (H:Hp) (x:V) (xs:List V) (v:Value) (us:List Value) (Q:VK),Inv X pins σ H s->RelV x v->Vals xs us->r x xs H Q->
  wpAny (model X.prog X.w) X.A (call (.builtin id) (v::us)) (EP X pins σ Q) X.xe s
theorem Vals.one : ∀{x:V} {us:List Value},Vals [x] us->∃u,us=[u]/\RelV x u
 | _,_,.cons r .nil=>⟨_,rfl,r⟩
theorem Vals.zero : ∀{us:List Value},Vals [] us->us=[]
 | _,.nil=>rfl
theorem Vals.dropLast{xs:List V}{us:List Value}(h:Vals xs us):Vals xs.dropLast us.dropLast:=by
 induction h with
 | nil=>exact .nil
 | cons r t y=>
  cases t with
  | nil=>exact .nil
  | cons q t'=>exact .cons r y
theorem Vals.rep{xs:List V}{us:List Value}(h:Vals xs us) : ∀k:Nat,Vals (zcS k xs).flatten (zcS k us).flatten
 | 0=> .nil
 | k+1=>by
  rw [zd7,zd7,zeu,zeu];exact Vals.append h (Vals.rep h k)
theorem vd(its:List Value) : ∀(k:Nat) (acc:List Value),
 zfK (λx1 y=>x1++y) acc.toArray (zcS k its.toArray)=(acc++(zcS k its).flatten).toArray
 | 0,acc=>by simp
 | k+1,acc=>by
  have e:acc.toArray++its.toArray=(acc++its).toArray:=by simp
  have e2:(acc++its)++(zcS k its).flatten=acc++(zcS (k+1) its).flatten:=by
   rw [zd7,zeu,List.append_assoc]
  rw [<- e2,<- vd its k (acc++its),<- e,zd7,List.foldl_cons]
section
variable{X:Cx}{pins:List (Addr×Obj)}{σ:St}{H:Hp}{s:Shared}{l b:Addr}{xs ys zs:List V}
theorem Inv.lset{its its':List Value}{n:Nat}{f:Array Value->Array Value}{t':Nat}(I:Inv X pins σ H s)(y:H l=some (.lst xs))
 (e:s.heap.get? l=some {cls:= .type "list",data:= .seq its.toArray n}) (O:f its.toArray=its'.toArray) (U:Vals ys its') (hz:ys.length<=sizeLine) :
 Inv X pins σ (upd H l (.lst ys)) {s with heap:=s.heap.update l (zeD f),toks:=t'}:=by
 have q:=PySem.IsL.update e f;rw [O]at q;refine I.write (x:=l) (e:=l) (by rw [y];exact trivial) (.inl rfl) (λb' u Y hu=>(zdD s.heap (zeD f) (zdy Y)).trans hu) ⟨_,q⟩ ?_;exact⟨hz,its',_,U,q⟩
theorem Inv.lnew{its:List Value}{t':Nat}(I:Inv X pins σ H s)(y:Vals ys its)(hz:ys.length<=sizeLine) :
 Inv X pins σ (upd H s.heap.objs.size (.lst ys)) {s with heap:=s.heap.push {cls:= .type "list",data:= .seq its.toArray},toks:=t'}:=
 I.laid (λ_ _ q=>zcO _ q) (zcZ _) ⟨hz,its,0,y,zc5 _ rfl⟩
theorem Inv.fresh(I:Inv X pins σ H s):H s.heap.objs.size=none:=I.hok.fresh (zcZ _)
theorem Inv.lstM(I:Inv X pins σ H s)(y:H l=some (.lst xs)):xs.length<=sizeLine/\∃(its:List Value) (n:Nat),Vals xs its/\xs.length=its.length/\s.heap.get? l=some {cls:= .type "list",data:= .seq its.toArray n}:=by
 obtain⟨z,its,n,r,e⟩:=I.hok l _ y;exact⟨z,its,n,r,r.length,e⟩
theorem Ja{n:Nat}(h:n<=sizeLine):zea n=false:=by
 unfold zea;exact decide_eq_false ⋯
end
section
variable{X:Cx}
def Qj:V->List V->Hp->VK->Prop:=λx vs H Q=>∃l xs y,x = .ref l/\vs=[y]/\H l=some (.lst xs)/\xs.length<sizeLine/\Q .non (upd H l (.lst (xs++[y])))
theorem QG:MtM X "list.append" Qj:=by
 intro pins s σ H x vs v us Q I rx U h;obtain⟨l,xs,y,rfl,rfl,O,hz,q⟩:=h;cases rx;obtain⟨u,rfl,Y⟩:=U.one;obtain⟨z,its,n,r,hl,e⟩:=I.lstM O;refine zep F.slot_list_append ⟨_,e,rfl⟩ F.entry_list_append (F.args_list_append_2 _ _) (PySem.list_append l its.toArray n u (by rw [zcV];omega)) ⟨e,?_⟩;refine⟨.non,_,I.lset (its':=its++[u]) O e ⋯ (r.append (.cons Y .nil)) ?_,rfl,q⟩;rw [zdK,zes];omega
def Wi:V->List V->Hp->VK->Prop:=λx vs H Q=>∃l xs,x = .ref l/\vs=[]/\H l=some (.lst xs)/\Q .non (upd H l (.lst []))
theorem X9:MtM X "list.clear" Wi:=by
 intro pins s σ H x vs v us Q I rx O h;obtain⟨l,xs,rfl,rfl,y,q⟩:=h;cases rx;have U:=O.zero;subst U;obtain⟨z,its,n,r,Y,e⟩:=I.lstM y;refine zep F.slot_list_clear ⟨_,e,rfl⟩ F.entry_list_clear (F.args_list_clear_1 _) (AutoSeq1.list_clear_list_0 l its.toArray n (by rw [zcV];omega)) ⟨e,?_⟩;exact⟨.non,_,I.lset (its':=[]) (ys:=[]) y e rfl .nil (zef _),rfl,q⟩
def zco:R2:=λx y H Q=>∃l k xs,x = .ref l/\y = .int k/\H l=some (.lst xs)/\ -(2 ^ 63)<=k/\k<2 ^ 63/\xs.length*k.toNat<=sizeLine/\
 ∀p,H p=none->Q (.ref p) (upd H p (.lst (zcS k.toNat xs).flatten))
theorem ZM{α:Type}(xs:List α)(k:Nat):(zcS k xs).flatten.length=k*xs.length:=by
 induction k with
 | zero=>simp
 | succ k y=>rw [zd7,zeu,zdK,y,zfo,Nat.add_comm]
theorem WO:OpR X (binaryOp .Mult) zco:=by
 intro pins s σ H x y v u Q I rx Y h;obtain⟨l,k,xs,rfl,rfl,hH,h1,h2,hz,q⟩:=h;cases rx;obtain⟨t,rfl⟩:=Y;obtain⟨z,its,n,r,hl,e⟩:=I.lstM hH;have a2:its.toArray.size*k.toNat<=sizeLine:=by rw [zcV,<- hl];exact hz
 have a3 : ¬its.toArray.size*k.toNat>(2 ^ 63 - 1)/8:=by
  have:(sizeLine:Nat)<=(2 ^ 63 - 1)/8:=by decide
  omega
 have a4 : ¬(!Builtin.List.listFitsIndex k)=true:=by
  rw [fitsIndex_both h1 h2];exact zdi
 have a5 : ¬zea (its.toArray.size*k.toNat)=true:=by
  rw [Ja a2];exact zdi
 have a6:zfK (λx1 O=>x1++O) #[] (zcS (if its.toArray.isEmpty=true then 0 else k.toNat) its.toArray)=(zcS k.toNat its).flatten.toArray:=by
  have f0 : ∀m:Nat,zfK (λx1 O=>x1++O) #[] (zcS m its.toArray)=(zcS m its).flatten.toArray:=λm=>by
   have:=vd its m [];rw [zfk]at this;exact this
  rw [f0];cases its with
  | nil=>simp
  | cons a r'=>rw [if_neg ⋯]
 refine wpAny_binaryOp_repeat_ref (T:="list") (U:="int") ⋯ ⟨_,e,rfl⟩ (λs'=>zfU s' k t) noFill_list_mul F.fills_int_mul zfv repeat_list F.slot_int_index.lookup
  (zep zfv (zfU s k t) F.entry_int_rmul (F.args_int_rmul_2 _ _) (int___rmul___int_list k t l its.toArray n)
    ⟨e,rfl,⟨_,e,rfl⟩,zep F.slot_list_mul ⟨_,e,rfl⟩ F.entry_list_mul (F.args_list_mul_2 _ _) (AutoListH.list___mul___list_int_3 l its.toArray n k t a4 a3 a5) ⟨e,?_⟩⟩)
 rw [a6];exact⟨.ref _,_,I.lnew (t':=s.toks) (r.rep k.toNat) (by rw [ZM,zfp];exact hz),rfl,q _ I.fresh⟩
end
end L2
namespace Att
open PySem PySem.W PySem.Calls PyProof.Rows
theorem y9{P:Params}{h:Heap} : ∀(ns:List Int) (vs:List Value),WellAll P h vs (ns.map WData.int)->IntsAre vs ns:=by
 intro ns
 induction ns with
 | nil=>
  intro vs w;rw [zfl]at w;cases w;exact .nil
 | cons n ns y=>
  intro vs w;rw [zdn]at w;cases w with
  | cons a b=>
   cases a;exact .cons _ _ (y _ b)
theorem Qe{l:OpenLaw}{n:Nat}(hn:l.most=some n){P:Params}{h:Heap}{args:List WData}{O:List Value}
 (U:l.row.toRowW.claim.pre args=true) (a0:WellAll P h O args) :
 ∃a vs ns,O=[zdu a]/\args=[WData.list (ns.map WData.int)]/\h.get? a=some {cls:= .type "list",data:= .seq vs.toArray}/\IntsAre vs ns/\ns.length<=n:=by
 have a1:WShape.hasAll [] args [.list .int]=true:=(pre_splitW U).1;have Y:l.pre.holds [] {args:=args}=true:=(pre_splitW U).2;obtain⟨d,r,rfl,h1,h2⟩:=hasAllW_cons a1;obtain rfl:=hasAllW_nil h2;obtain⟨xs,rfl,h3⟩:=hasW_list h1;obtain⟨ns,rfl⟩:=items_int h3;have a3:ns.length<=n:=by
  unfold OpenLaw.pre at Y;have y:(WTm.not (.lt (.lit (.int (n:Int))) (.len (.arg 0)))).holds [] {args:=[.list (ns.map .int)]}=true:=by
   have y:=(holds_andW Y).1;rw [hn]at y;exact y
  have I:=condW_of y (w_not (w_lt w_lit (w_len_list (w_arg rfl))));rw [zdY]at I;refine Nat.le_of_not_lt λq=>?_;have q':(n:Int)<((ns.length:Nat):Int):=by omega
  first
   | (rw [decide_eq_true q']at I;exact absurd I ⋯)
   | (simp at I;omega)
 cases a0 with
 | cons w1 w2=>
  cases w2;cases w1 with
  | list ho a8=>exact⟨_,_,ns,rfl,rfl,ho,y9 ns _ a8,a3⟩
theorem Qu(l:OpenLaw)(args:List WData):l.row.toRowW.claim.post args (.bool true) args=true:=
 postW_of (r:=l.row.toRowW) (X:=(true==true))
  (show WShape.has [] (.bool true) .bool=true by first | rfl | decide | simp [WShape.has,WShape.arms,WShape.armsAll])
  (show(WTm.eq .res (.lit (.bool true))).value [] {args:=args,res:=some (.bool true),after:=args}=some (.bool (true==true))from w_eq_bool (w_res rfl) w_lit) rfl
theorem attach_call{l:OpenLaw}{n:Nat}{q:Program}{O:List Str}{U:(Str->Option Value)->Heap->Prop}{YP:World->Heap->Prop}{d:DefRec}
 (hn:l.most=some n) (a2:d.params.defaults=[])
 (call : ∀(w:World) (s₀ y:Shared) (mg mb:Str->Option Value) (fa:Addr) (o:Obj) (pm I doc:Value) (a:Addr) (vs:List Value) (ns:List Int),
   Ground q O [] U w s₀ mg mb y.heap->YP w y.heap->
   y.heap.get? fa=some o->o.data = .func (docDef d.name d.params d.body d.scope pm I doc)->y.heap.CodeRec I d.name->mg d.name=some (.ref fa)->
   y.heap.get? a=some {cls:= .type "list",data:= .seq vs.toArray}->IntsAre vs ns->ns.length<=n->y.gens = #[]->
   codeAny (model l.prog w) callerA (.call (.ref fa) ⟨[.ref a],[]⟩) (λr s'=>r = .ok (.ret (.bool true))/\OldK y.heap s'.heap/\s'.os=y.os/\AllBare s'.gens) y) :
 WalkO q O U YP l.row.toRowW d [] (λf vs=>PySem.call f vs):=by
 intro w s₀ y mg mb G Y fa o pm I doc dV kV ho hd a5 hD a6 hg args ah as a8 aj ak a9 am;obtain rfl:dV = .none:=Dflts.none hD a2;obtain rfl:kV = .none:=Dflts.noKw hD;obtain⟨a,vs,ns,rfl,rfl,aa,ab,ac⟩:=Qe hn a8 a9;refine enter_call (zfW (call w s₀ y mg mb fa o pm I doc a vs ns G Y ho (fd_plain hd) a5 a6 aa ab ac hg) λr s' hq=>?_);obtain⟨rfl,h2,h3,h4⟩:=hq;exact⟨.inl ⟨.bool true,.bool true,[],rfl,λ_=>rfl,.bool true,Qu l _,λ_=>⟨List.Pairwise.nil,λ_ hm=>(nomatch hm)⟩⟩,h2,h3,h4⟩
end Att
namespace L2
open PySem PySem.Spec PyProof.Rows
theorem kM : ∀{vs:List Value} {ns:List Int},IntsAre vs ns->Vals (ns.map V.int) vs
 | _,_,.nil=> .nil
 | _,_,.cons n t h=> .cons ⟨t,rfl⟩ (kM h)
def zaN(H:Hp):Prop:=∀b,H b=none\/∃o xs,H b=some (.frz o (.lst xs))
theorem Kc{P:Program}{w:World}{K:PySem.W.Frag}{mg mb:Str->Option Value}{CX:CXT}{k:Nat}{fa a:Addr}{fd:FuncData}{x:Str}{sp:Sp}{y:Shared}{vs:List Value}{ns:List Int}
 (KX:K.In y.heap) (a2:y.heap.Ns mainGlobals mg) (I:y.heap.Ns builtinsNs mb) (aa : ∀x:Str,x ≠ "__name__"->mb x=bootBuiltins x) (ab:y.heap.NoLimit) (hg:y.gens = #[])
 (ha:y.heap.get? a=some {cls:= .type "list",data:= .seq vs.toArray}) (hi:IntsAre vs ns) (hl:ns.length<=sizeLine) (hr:Room k callerA)
 (F : ∀base:Heap,K.In base->base.Ns mainGlobals mg->FnOk P w K mg base CX k fa fd [x] sp) (af : ∀(s:Shared) (u:Value),BindsTo s fd ⟨[u],[]⟩ [(x,u)])
 (ag : ∀H:Hp,zaN H->SqL K H a (ns.map V.int)->sp [.ref a] H (λv _=>v = .bl true) λ_ _ _=>False)
 (ah : ∀H e s',CX [] H y (λ_ _ _=>False) e s'->False) :
 codeAny (model P w) callerA (.call (.ref fa) ⟨[.ref a],[]⟩) (λr s'=>r = .ok (.ret (.bool true))/\OldK y.heap s'.heap/\s'.os=y.os/\AllBare s'.gens) y:=by
 have rv:=kM hi;have ai:=hi.length;have a5 : ∀H:Hp,zaN H->SqL K H a (ns.map V.int)->HOk P w H y.heap->(∀b,H b≠none->b=a)->(H a≠none->K.lookup a=none)->
  codeAny (model P w) callerA (.call (.ref fa) ⟨[.ref a],[]⟩) (λr s'=>r = .ok (.ret (.bool true))/\OldK y.heap s'.heap/\s'.os=y.os/\AllBare s'.gens) y:=by
  intro H hO hS hok hA hK;have a8 : ∀{b:Addr} {o:Obj},y.heap.get? b=some o->H b=none->(Kk y.heap H).get? b=some o:=λe n=>Kj e n;have am : ∀{b:Addr} {o:Obj} {es:Array DictEntry} {O:Nat},y.heap.get? b=some o->o.data = .dict es O->H b=none:=λ{b o es O} e d=>by
   cases q:H b with
   | none=>rfl
   | some u=>
    have e':b=a:=hA b (by rw [q];simp);subst e';rw [ha]at e;cases e;have d':Data.seq vs.toArray _=Data.dict es O:=d;cases d'
  have Y : ∀{b:Addr} {m:Str->Option Value},y.heap.Ns b m->(Kk y.heap H).Ns b m:=λ{b m} ⟨o,es,O,e,d,r⟩=>⟨o,es,O,a8 e (am e d),d,r⟩;have a9:K.In (Kk y.heap H):=λb o e=>a8 (KX b o e) (by
   cases q:H b with
   | none=>rfl
   | some u=>
    have e':b=a:=hA b (by rw [q];simp);subst e';rw [hK (by rw [q];simp)]at e;cases e)
  have hM:Mod K mg (Kk y.heap H):=⟨a9,Y a2,⟨mb,Y I,aa⟩,let ⟨mc,h1,h2⟩:=ab;⟨mc,Y h1,h2⟩⟩;have e0:Env0 P w K mg (Kk y.heap H) callerA [] y H:=⟨rfl,hM,λb o e=>Va e,Nat.le_of_eq (QR _ _),trivial,λb I=>absurd (show b∈([]:List Addr)from I) ⋯,hok,.of_eq hg⟩;refine zfW ((F _ a9 (Y a2)).run callerA [] y H ⟨[.ref a],[]⟩ [.ref a] [.ref a] _ _ hr e0 (af y (.ref a)) (.cons rfl .nil) (ag H hO hS)) λr s' h=>?_;cases r with
  | error e=>exact(ah H e s' h).elim
  | ok fl=>
   cases fl with
   | next=>exact zeC h
   | brk=>exact zeC h
   | cont=>exact zeC h
   | ret u=>
    obtain⟨v,H',os,bare,un,ar,r',q⟩:=h;have q':v = .bl true:=q;subst q';obtain rfl:u=Value.bool true:=r';refine⟨rfl,OldK.of_keep λb o e=>?_,os,bare⟩;cases q:H b with
    | none=>exact un.keep b o e q (by intro z;exact absurd (show b∈([]:List Addr)from z) ⋯) ⋯
    | some u=>
     rcases hO b with z | ⟨ob,xs,z⟩
     ·rw [q]at z;cases z
     ·have z2:=un.frzs b ob _ z
      obtain⟨e1,_⟩:=hok b _ z;obtain⟨e2,_⟩:=ar b _ z2;rw [e]at e1;cases e1;exact e2
 cases hk:K.lookup a with
 | some o=>
  have e:=KX a o hk;rw [ha]at e;cases e;refine a5 (λ_=>none) (λ_=> .inl rfl) (.inr ⟨_,vs.toArray,_,hk,rfl,rfl,rfl,by rw [zcV,ai];exact hl,by simpa using rv⟩) (λb u z=>by have U:(none:Option HO)=some u:=z;cases U) (λb z=>absurd rfl z) λz=>absurd rfl z
 | none=>
  refine a5 (λb=>if b=a then some (.frz {cls:= .type "list",data:= .seq vs.toArray} (.lst (ns.map V.int)))else none) (λb=>?_) (.inl (.inr ⟨{cls:= .type "list",data:= .seq vs.toArray},if_pos rfl⟩)) (λb u z=>?_) (λb z=>?_) λ_=>hk
  ·by_cases I:b=a
   ·exact .inr ⟨_,_,if_pos I⟩
   ·exact .inl (if_neg I)
  ·by_cases I:b=a
   ·have U:=(if_pos I).symm.trans z
    cases U;subst I;exact⟨ha,by rw [zdY];exact hl,vs,_,rv,ha⟩
   ·have U:=(if_neg I).symm.trans z
    cases U
  ·by_cases I:b=a
   ·exact I
   ·exact absurd (if_neg I) z
abbrev KOf{K:PySem.W.Frag}{h:Heap}(_:K.In h):PySem.W.Frag:=K
theorem Yl{l:PySem.W.OpenLaw}{n k:Nat}{q:Program}{U:List Str}{XP:(Str->Option Value)->Heap->Prop}{y:World->Heap->Prop}{d:DefRec}{K:Params->PySem.W.Frag}{CX:World->CXT}{sp:World->Sp}{x:Str}
 (hn:l.most=some n) (a1:n<=sizeLine) (a2:d.params.defaults=[]) (hr:Room k callerA)
 (hY : ∀(w:World) (h:Heap),y w h->(K w.params).In h)
 (F : ∀(w:World) (mg:Str->Option Value) (fa:Addr) (h:Heap),(K w.params).In h->h.Ns mainGlobals mg->mg d.name=some (.ref fa)->
   ∃fd:FuncData,(∀(s:Shared) (u:Value),BindsTo s fd ⟨[u],[]⟩ [(x,u)])/\
    ∀base:Heap,(K w.params).In base->base.Ns mainGlobals mg->FnOk l.prog w (K w.params) mg base (CX w) k fa fd [x] (sp w))
 (a5 : ∀(w:World) (H:Hp) (a:Addr) (ns:List Int),ns.length<=n->zaN H->SqL (K w.params) H a (ns.map V.int)->sp w [.ref a] H (λv _=>v = .bl true) λ_ _ _=>False)
 (a6 : ∀(w:World) (H:Hp) (s:Shared) (e:Value) (s':Shared),CX w [] H s (λ_ _ _=>False) e s'->False) :
 PySem.W.WalkO q U XP y l.row.toRowW d [] (λf vs=>PySem.call f vs):=by
 refine Att.attach_call hn a2 λw s₀ s₁ mg mb fa o pm cd doc a vs ns G Y ho hd aj a8 a9 aa I hg=>?_;have O:=hY w _ Y;obtain⟨fd,hb,hF⟩:=F w mg fa _ O G.T.g a8;exact Kc O G.T.g G.T.b G.T.builtins G.T.nolimit hg a9 aa (zdP I a1) hr hF hb (λH hO hS=>a5 w H a ns I hO hS) λH e s'=>a6 w H s₁ e s'
theorem walk_ofK{l:PySem.W.OpenLaw}{n k:Nat}{q:Program}{I:List Str}{O:(Str->Option Value)->Heap->Prop}{y:World->Heap->Prop}{d:DefRec}{K:Params->PySem.W.Frag}{CX:CXT}{sp:PySem.W.Frag->Sp}{x:Str}
 (hn:l.most=some n) (U:n<=sizeLine) (Y:d.params.defaults=[]) (hr:Room k callerA)
 (hY : ∀(w:World) (h:Heap),y w h->(K w.params).In h)
 (F : ∀(w:World) (mg:Str->Option Value) (fa:Addr) (h:Heap),(K w.params).In h->h.Ns mainGlobals mg->mg d.name=some (.ref fa)->
   ∃fd:FuncData,(∀(s:Shared) (u:Value),BindsTo s fd ⟨[u],[]⟩ [(x,u)])/\
    ∀base:Heap,(K w.params).In base->base.Ns mainGlobals mg->FnOk l.prog w (K w.params) mg base CX k fa fd [x] (sp (K w.params)))
 (a2 : ∀(K:PySem.W.Frag) (H:Hp) (a:Addr) (ns:List Int),ns.length<=n->zaN H->SqL K H a (ns.map V.int)->sp K [.ref a] H (λv _=>v = .bl true) λ_ _ _=>False)
 (a3 : ∀(H:Hp) (s:Shared) (e:Value) (s':Shared),CX [] H s (λ_ _ _=>False) e s'->False) :
 PySem.W.WalkO q I O y l.row.toRowW d [] (λf vs=>PySem.call f vs):=
 Yl (K:=K) (CX:=λ_=>CX) (sp:=λw=>sp (K w.params)) hn U Y hr hY F (λw H a ns h1 h2 h3=>a2 (K w.params) H a ns h1 h2 h3) λ_ H s e s'=>a3 H s e s'
def defArgs(s:Stmt):Arguments:=match s with
 | .FunctionDef _ a _ _ _ _ _ _ _ _=>a
 | _=>{posonlyargs:=[],args:=[],vararg:=none,kwonlyargs:=[],kw_defaults:=[],kwarg:=none,defaults:=[]}
def defBody(s:Stmt):List Stmt:=match s with
 | .FunctionDef _ _ b _ _ _ _ _ _ _=>b
 | _=>[]
def defScope(s:Stmt):Scope:=match s with
 | .FunctionDef _ _ _ _ _ _ sc _ _ _=>sc
 | _=>{kind:= .function,names:=[],isGenerator:=false,isCoroutine:=false}
abbrev CX0:CXT:=λ_ _ _ _ _ _=>False
abbrev E0:XK:=λ_ _ _=>False
theorem Y5{X:Cx}:Xj CX0 X E0:=λ_ _ _ _ _ _ _ h=>h.elim
structure Fun(K:PySem.W.Frag)(x qual:Str)(st:Stmt)(f:Addr)(fd:FuncData):Prop where
 ex : ∃(oc:Value) (od:Option Addr) (kV doc pm:Value) (an:Option Addr) (cdv ct:Value) (osl:Array (Option Value)),
  fd=PySem.W.fnOf x qual (defArgs st) (defBody st) (defScope st) .none kV doc pm an cdv ct/\K.lookup f=some ⟨oc,od,.func fd,osl⟩/\PySem.W.codeIn K cdv qual=true
 kp:PySem.W.keepIn K (.ref f)=true
section
variable{P:Program}{w:World}{K:PySem.W.Frag}{mg:Str->Option Value}{base:Heap}
theorem Fun.ok{x qual:Str}{st:Stmt}{f:Addr}{fd:FuncData}{N ps:List Str}{k:Nat}{sp:Sp}(F:Fun K x qual st f fd)(S:FnScope N ps (defScope st))(len : ∀vs H Q E,sp vs H Q E->vs.length=ps.length)
 (y : ∀(cdv:Value) (A:Around) (outer:List Env) (s:Shared) (H:Hp) (vs:List V) (Q:VK) (E:XK),Room k (A.deeper (envOfC qual (defScope st) s.heap.objs.size f cdv))->sp vs H Q E->
   ∃t,PSs (Vr CX0 P w K mg base N qual (defScope st) f cdv A outer s H E).nox (defBody st) t/\t {nx:=λ_ H'=>Q .non H',rt:=Q} (start N vs) H):FnOk P w K mg base CX0 (k+1) f fd ps sp:=by
 obtain⟨oc,od,kV,doc,pm,an,cdv,ct,osl,rfl,lk,I⟩:=F.ex;refine zbp lk I S len λA outer s H vs Q E O U=>?_;obtain⟨t,h,q⟩:=y cdv A outer s H vs Q E O U;exact⟨t,h.nox,q⟩
theorem zac{x qual:Str}{st:Stmt}{f:Addr}{oc:Value}{od an:Option Addr}{osl:Array (Option Value)}{kV doc pm cdv ct:Value}(l:K.lookup f=some ⟨oc,od,.func (PySem.W.fnOf x qual (defArgs st) (defBody st) (defScope st) .none kV doc pm an cdv ct),osl⟩)
 (c:PySem.W.codeIn K cdv qual=true) (k:PySem.W.keepIn K (.ref f)=true):Fun K x qual st f (PySem.W.fnOf x qual (defArgs st) (defBody st) (defScope st) .none kV doc pm an cdv ct):=⟨⟨oc,od,kV,doc,pm,an,cdv,ct,osl,rfl,l,c⟩,k⟩
end
def Same(H H':Hp):Prop:=∀b o,H b=some o->H' b=some o
theorem Same.refl(H:Hp):Same H H:=λ_ _ h=>h
theorem Same.trans{H H1 H2:Hp}(a:Same H H1)(b:Same H1 H2):Same H H2:=λc o h=>b c o (a c o h)
theorem Same.free{H H':Hp}(e:Same H H'){l:Addr}(h:H' l=Option.none):H l=Option.none:=by
 cases q:H l with
 | none=>rfl
 | some o=>
  rw [e l o q]at h;cases h
theorem Same.seq{K:PySem.W.Frag}{H H':Hp}{a:Addr}{xs:List V}(e:Same H H')(h:SqL K H a xs):SqL K H' a xs:=by
 rcases h with(h | ⟨o,h⟩) | h
 ·exact .inl (.inl (e _ _ h))
 ·exact .inl (.inr ⟨o,e _ _ h⟩)
 ·exact .inr h
def wu(cells:List (Str×Addr)):List (Str×NameKind)->List (Str×Addr)->List (Str×Addr)
 | [],acc=>acc
 | (n,k)::r,acc=>wu cells r (if k==NameKind.free then (match cells.lookup n with | some c=>(n,c)::acc | none=>acc)else acc)
theorem x6{env:Env}(f:Str×NameKind->List (Str×Addr)->Sem (ForInStep (List (Str×Addr))))
 (I : ∀name kind O,f (name,kind) O=if kind==NameKind.free then (do let a <- cellOf env name;pure (.yield ((name,a)::O)))else pure (.yield O)) :
 ∀(names:List (Str×NameKind)) (acc:List (Str×Addr)),(∀n,(n,NameKind.free)∈names->∃c,env.cells.lookup n=some c)->
  forIn names acc f=(pure (wu env.cells names acc):Sem _)
 | [],acc,_=>by rw [ze1];rfl
 | (n,k)::r,acc,h=>by
  rw [zeU,I];have U : ∀n,(n,NameKind.free)∈r->∃c,env.cells.lookup n=some c:=λm hm=>h m (zdp _ hm);unfold wu;by_cases y:(k==NameKind.free)=true
  ·rw [if_pos y,if_pos y]
   have a0:k=NameKind.free:=by simpa using y
   subst a0;obtain⟨c,Y⟩:=h n zdm;have e:cellOf env n=pure c:=by unfold cellOf;rw [Y]
   rw [e,Y];exact x6 f I r _ U
  ·rw [if_neg y,if_neg y]
   exact x6 f I r acc U
theorem wg{scope:Scope}{env:Env}(h : ∀n,(n,NameKind.free)∈scope.names->∃c,env.cells.lookup n=some c) :
 closureFor scope env=pure (wu env.cells scope.names []):=by
 simp only [closureFor];rw [x6 (env:=env) _ (λname kind y=>by cases hk:kind==NameKind.free<;>simp [hk]) scope.names [] h];rfl
theorem xn{M:Model}{A:Around}{E:Value->Shared->Prop}{s:Shared}{scope:Scope}{globals:Addr}{cl:List (Str×Addr)}{qual:Str}{env:Env}{Q:Env->Shared->Prop}
 (y:Q {scope:=scope,locals:=s.heap.objs.size,globals:=globals,cells:=cellsFrom (s.heap.objs.size+1) scope.names cl,qual:=qual,func:=none,code:=env.code,frame:=env.frame,builtins:=env.builtins}
   {s with heap:=pushCells (s.heap.push {cls:= .type "dict",data:= .dict #[]}) scope.names}) :
 wpAny M A (newFunctionEnv scope globals cl [] qual none .none (some env)) Q E s:=by
 simp only [newFunctionEnv,Option.isSome_some,if_true];refine zcM (wpAny_alloc ?_);refine zcM (wpAny_layCells _ (λname kind cells=>by cases hkc:kind==zeh<;>simp [hkc]) _ _ _ _ ?_);rw [show({s with heap:=s.heap.push {cls:= .type "dict",data:= .dict #[]}}:Shared).heap.objs.size=s.heap.objs.size+1 from zdg ..];exact zcM (zcT (zcT y))
theorem Jd{cells:List (Str×Addr)}{n:Str}{c:Addr} : ∀{names:List (Str×NameKind)} {acc:List (Str×Addr)},(n,c)∈wu cells names acc->(n,c)∈acc\/((n,NameKind.free)∈names/\cells.lookup n=some c)
 | [],acc,h=> .inl h
 | (m,k)::r,acc,h=>by
  unfold wu at h;rcases Jd h with g | ⟨h1,h2⟩
  ·clear h
   by_cases y:(k==NameKind.free)=true
   ·rw [if_pos y]at g
    have I:k=NameKind.free:=by simpa using y
    subst I;cases e:cells.lookup m with
    | none=>rw [e]at g;exact .inl g
    | some O=>
     rw [e]at g;rcases zcY.mp g with g | g
     ·cases g;exact .inr ⟨zdm,e⟩
     ·exact .inl g
   ·rw [if_neg y]at g;exact .inl g
  ·exact .inr ⟨zdp _ h1,h2⟩
theorem yZ{cells:List (Str×Addr)}{n:Str} : ∀{names:List (Str×NameKind)} {acc:List (Str×Addr)},((acc.lookup n).isSome=true\/((n,NameKind.free)∈names/\(cells.lookup n).isSome=true))->((wu cells names acc).lookup n).isSome=true
 | [],acc,h=>by
  rcases h with h | ⟨h,_⟩
  ·exact h
  ·cases h
 | (m,k)::r,acc,h=>by
  unfold wu;apply yZ;by_cases y:(k==NameKind.free)=true
  ·rw [if_pos y]
   have O:k=NameKind.free:=by simpa using y
   subst O;cases e:cells.lookup m with
   | none=>
    rcases h with h | ⟨h1,h2⟩
    ·exact .inl h
    ·rcases zcY.mp h1 with h1 | h1
     ·cases h1;rw [e]at h2;cases h2
     ·exact .inr ⟨h1,h2⟩
   | some U=>
    dsimp only;by_cases I:n=m
    ·subst I;left;simp
    ·rcases h with h | ⟨h1,h2⟩
     ·left;rw [zdw];split<;>simp_all
     ·rcases zcY.mp h1 with h1 | h1
      ·cases h1;exact absurd rfl I
      ·exact .inr ⟨h1,h2⟩
  ·rw [if_neg y]
   rcases h with h | ⟨h1,h2⟩
   ·exact .inl h
   ·rcases zcY.mp h1 with h1 | h1
    ·cases h1;exact absurd rfl y
    ·exact .inr ⟨h1,h2⟩
theorem qR{n:Str}{c:Addr} : ∀{names:List (Str×NameKind)} {k:Nat} {acc:List (Str×Addr)},(n,c)∈cellsFrom k names acc->(n,c)∈acc\/(k<=c/\(n,zeh)∈names)
 | [],_,_,h=> .inl h
 | (m,kd)::r,k,acc,h=>by
  unfold cellsFrom at h;split at h
  ·rename_i y
   have I:kd=zeh:=by simpa using y
   subst I;rcases qR h with h | ⟨h1,h2⟩
   ·rcases zcY.mp h with h | h
    ·cases h;exact .inr ⟨zcZ _,zdm⟩
    ·exact .inl h
   ·exact .inr ⟨by omega,zdp _ h2⟩
  ·rcases qR h with h | ⟨h1,h2⟩
   ·exact .inl h
   ·exact .inr ⟨h1,zdp _ h2⟩
theorem xF : ∀{names:List (Str×NameKind)} {k:Nat} {acc:List (Str×Addr)},(∀p∈acc,∀q∈acc,p.2=q.2->p.1=q.1)->(∀p∈acc,p.2<k)->
 ∀p∈cellsFrom k names acc,∀q∈cellsFrom k names acc,p.2=q.2->p.1=q.1
 | [],_,_,h,_=>h
 | (m,kd)::r,k,acc,h,hl=>by
  unfold cellsFrom;split
  ·refine xF (λp y q I e=>?_) (λp y=>?_)
   ·rcases zcY.mp y with rfl | y<;>rcases zcY.mp I with rfl | I
    ·rfl
    ·have O:k=q.2:=e
     exact absurd (O ▸ hl q I) (zdN _)
    ·have O:p.2=k:=e
     exact absurd (O ▸ hl p y) (zdN _)
    ·exact h p y q I e
   ·rcases zcY.mp y with rfl | y
    ·exact zdR _
    ·exact zdB (hl p y)
  ·exact xF h hl
theorem vh : ∀{names:List (Str×NameKind)} {h:Heap} {acc:List (Str×Addr)} {n:Str} {c:Addr},(n,c)∈cellsFrom h.objs.size names acc->(n,c)∈acc\/(pushCells h names).IsCell c none
 | [],_,_,_,_,hm=> .inl hm
 | (m,kd)::r,h,acc,n,c,hm=>by
  unfold cellsFrom at hm;unfold pushCells;split at hm
  ·rename_i y
   rw [if_pos y];have e:h.objs.size+1=(h.push {cls:= .type "cell",data:= .cell none}).objs.size:=(zdg ..).symm;rw [e]at hm;rcases vh hm with hm | hm
   ·rcases zcY.mp hm with hm | hm
    ·cases hm
     have I:(h.push {cls:= .type "cell",data:= .cell none}).IsCell h.objs.size none:=⟨{cls:= .type "cell",data:= .cell none},zc5 _ rfl,rfl⟩;exact .inr (I.keeps λb o q=>ze6 _ _ b o q)
    ·exact .inl hm
   ·exact .inr hm
  ·rename_i y
   rw [if_neg y];exact vh hm
theorem kl{α:Type}{l:List (Str×α)}(nd:(l.map (·.1)).Nodup) : ∀{n:Str} {a:α},(n,a)∈l->l.lookup n=some a:=by
 induction l with
 | nil=>intro n a h;cases h
 | cons p r y=>
  intro n a h;obtain⟨m,b⟩:=p;rw [zdn,zeT]at nd;rw [zdw];rcases zcY.mp h with h | h
  ·cases h;simp
  ·have I:(n==m)=false:=by
    have:n≠m:=λe=>nd.1 (by rw [<- e];exact zfO.mpr ⟨(n,a),h,rfl⟩);simpa using this
   rw [I];exact y nd.2 h
theorem kz(scope:Scope)(env:Env)(x:Str):(relabel scope env).names.lookup x =
 (scope.names.lookup x).map λk=>if (k==NameKind.free && env.scope.kind == .function && env.kindOf x==some .cell)then zeh else k:=by
 unfold relabel;dsimp only;generalize scope.names=l
 induction l with
 | nil=>rfl
 | cons p r I=>
  obtain⟨n,k⟩:=p;rw [zdn];cases hx:x==n with
  | true=>
   have e:x=n:=by simpa using hx
   subst e;rw [zdw,zdw];dsimp only;by_cases y:(k==NameKind.free && env.scope.kind == .function && env.kindOf x==some .cell)=true
   ·rw [if_pos y,beq_self_eq_true];dsimp only [zfC];rw [if_pos y]
   ·rw [if_neg y,beq_self_eq_true];dsimp only [zfC];rw [if_neg y]
  | false=>
   have : ∀O,List.lookup x ((n,O)::(r.map λx=>match x with | (n,k)=>if (k==NameKind.free && env.scope.kind == .function && env.kindOf n==some .cell)=true then (n,zeh)else (n,k)))=List.lookup x (r.map λx=>match x with | (n,k)=>if (k==NameKind.free && env.scope.kind == .function && env.kindOf n==some .cell)=true then (n,zeh)else (n,k)):=λO=>by
    rw [zdw,hx]
   rw [zdw (k:=n),hx];dsimp only;split
   ·rw [this];exact I
   ·rw [this];exact I
def k0(scope:Scope)(env:Env)(L:Addr):Env:=
 {scope:=relabel scope env,locals:=L,globals:=env.globals,cells:=cellsFrom (L+1) scope.names (wu env.cells scope.names []),qual:=env.qual,func:=none,code:=env.code,frame:=env.frame,builtins:=env.builtins}
def jz(X:Cx)(scope:Scope)(y:List Str)(fp:List Addr)(s2:Shared)(H2:Hp):Cx:=
 {X with N:=y,s₀:=s2,H₀:=H2,env:=k0 scope X.env (s2.heap.objs.size+1),outer:=X.stack,stack:=X.stack,ex:=fp,fn:=λx=>scope.names.lookup x==some .cell,pn:=[],xe:=λ_ _=>False}
structure CompOk(X:Cx)(scope:Scope)(fr:List (Str×Nat)):Prop where
 kind:scope.kind = .function
 nd:(scope.names.map (·.1)).Nodup
 free : ∀p∈scope.names,p.2=NameKind.free->X.env.kindOf p.1=some .cell\/X.env.kindOf p.1=some .free
 fr : ∀p∈fr,scope.names.lookup p.1=some .free/\X.N[p.2]? = some p.1
def pull(own:List Str)(fr:List (Str×Nat))(σ:St):St:=own.map (λ_=>none)++fr.map λp=>(σ[p.2]?).join
abbrev ZK:Obj:={cls:= .type "list",data:= .seq #[]}
abbrev K7:Obj:={cls:= .type "dict",data:= .dict #[]}
theorem Ki{X:Cx}{pins:List (Addr×Obj)}{σ:St}{H2:Hp}{s2:Shared}{scope:Scope}{own:List Str}{fr:List (Str×Nat)}{fp:List Addr}(I:Inv X pins σ H2 s2)(ok:CompOk X scope fr)
 (a4 : ∀b∈fp,FpOk X pins H2 b) (ak : ∀b∈fp,∃o,s2.heap.get? b=some o) :
 Inv (jz X scope (own++fr.map (·.1)) fp s2 H2) [] (pull own fr σ) (upd H2 s2.heap.objs.size (.lst [])) {s2 with heap:=pushCells ((s2.heap.push ZK).push K7) scope.names}:=by
 have z1:(s2.heap.push ZK).objs.size=s2.heap.objs.size+1:=zdg ..;have z2:((s2.heap.push ZK).push K7).objs.size=s2.heap.objs.size+2:=by rw [zdg,z1]
 have Y : ∀n c,(n,c)∈wu X.env.cells scope.names []->(n,NameKind.free)∈scope.names/\X.env.cells.lookup n=some c:=λn c h=>(Jd h).resolve_left ⋯;have ab : ∀n c,X.env.cells.lookup n=some c->c<s2.heap.objs.size:=λn c h=>by obtain⟨v,q⟩:=I.cell n c h;exact q.lt
 have an : ∀p∈wu X.env.cells scope.names [],p.2<s2.heap.objs.size+1+1:=λp U=>by
  exact zdB (zdB (ab p.1 p.2 (Y p.1 p.2 U).2))
 have hC:(k0 scope X.env (s2.heap.objs.size+1)).cells=cellsFrom (s2.heap.objs.size+2) scope.names (wu X.env.cells scope.names []):=rfl;have cells : ∀x c,(k0 scope X.env (s2.heap.objs.size+1)).cells.lookup x=some c->((x,NameKind.free)∈scope.names/\X.env.cells.lookup x=some c)\/(s2.heap.objs.size+2<=c/\(x,zeh)∈scope.names):=λx c h=>by
  rcases qR (mem_of_lookup h)with h | h
  ·exact .inl (Y x c h)
  ·exact .inr h
 have ac : ∀x,(x,NameKind.free)∈scope.names->∃c,X.env.cells.lookup x=some c/\(k0 scope X.env (s2.heap.objs.size+1)).cells.lookup x=some c:=λx hx=>by
  obtain⟨c,hc⟩:=I.ok.has x (ok.free (x,.free) hx rfl);have h1:((wu X.env.cells scope.names []).lookup x).isSome=true:=yZ (.inr ⟨hx,by rw [hc];rfl⟩);have h2:=zeG scope.names (s2.heap.objs.size+2) (wu X.env.cells scope.names []) (.inr h1);obtain⟨c',af⟩:=zeg.mp h2;refine⟨c,hc,?_⟩;rcases cells x c' af with⟨_,q⟩ | ⟨_,q⟩
  ·rw [hc]at q;cases q;exact af
  ·exact absurd ((kl ok.nd q).symm.trans (kl ok.nd hx)) ⋯
 have keep : ∀b o,s2.heap.get? b=some o->(pushCells ((s2.heap.push ZK).push K7) scope.names).get? b=some o:=λb o e=>
  ze6 _ _ b o (zcO _ (zcO _ e))
 have ag : ∀b∈fp,b<s2.heap.objs.size:=λb O=>by obtain⟨o,e⟩:=ak b O;exact zcX e
 have fresh:H2 s2.heap.objs.size=none:=I.hok.fresh (zcZ _);have ah : ∀c,s2.heap.objs.size<c->(upd H2 s2.heap.objs.size (.lst [])) c=none:=λc hc=>by
  rw [zS (zd0 hc)];exact I.hok.fresh (zfR hc)
 obtain⟨m0,ap⟩ : ∃m,(pushCells ((s2.heap.push ZK).push K7) scope.names).Ns (s2.heap.objs.size+1) m:=by
  have q:=(Heap.Ns.new (s2.heap.push ZK) (.type "dict")).keeps (λb o e=>ze6 scope.names _ b o e);rw [z1]at q;exact⟨_,q⟩
 refine⟨⟨I.ok.mod,ok.kind,I.ok.glob,I.ok.blt,Nat.le_succ _,λx y c h1 h2=>?_,λx hx=>?_,λx c hf h=>?_,I.ok.hd,I.ok.frames,.inl rfl,λb O=>⟨?_,λx c h z=>?_⟩,λb o e=>I.bs b o e,?_,λb o e O=>?_,λb O hs=>?_,I.stack,I.stkFree⟩,
  rfl,I.bare,Un.laid keep (zcZ _) fresh,⟨m0,ap,λi x v e1 e2 e3=>?_⟩,λx c h=>?_,?_,λx c h=>?_,λp U=>?_,?_,?_⟩
 ·have q:=xF (names:=scope.names) (k:=s2.heap.objs.size+2) (acc:=wu X.env.cells scope.names []) (λp U q hq e=>I.ok.inj p.1 q.1 p.2 (Y _ _ U).2 (by rw [e];exact(Y _ _ hq).2)) an
  exact q (x,c) (mem_of_lookup h1) (y,c) (mem_of_lookup h2) rfl
 ·have a2:(relabel scope X.env).names.lookup x=some .cell\/(relabel scope X.env).names.lookup x=some .free:=hx
  have:scope.names.lookup x=some .cell\/scope.names.lookup x=some .free:=by
   rw [kz]at a2;cases e:scope.names.lookup x with
   | none=>rw [e]at a2;simp at a2
   | some k=>
    rw [e]at a2;cases k<;>simp at a2 ⊢
  rcases this with h | h
  ·exact zeg.mp (zeG scope.names _ _ (.inl h))
  ·obtain⟨c,_,h2⟩:=ac x (mem_of_lookup h);exact⟨c,h2⟩
 ·have as:(scope.names.lookup x==some .cell)=true:=hf
  have au:scope.names.lookup x=some .cell:=by simpa using as
  rcases cells x c h with⟨q,_⟩ | ⟨q,_⟩
  ·exact absurd ((kl ok.nd q).symm.trans au) ⋯
  ·exact zdP (zdj _ 2) q
 ·exact zda (zdB (ag b O))
 ·rcases cells x c h with⟨_,q⟩ | ⟨q,_⟩
  ·exact(a4 b O).2.2.2.2.1 x c q z
  ·exact absurd (zc8 (ag b O) (zdP (zdj _ 2) (z ▸ q))) (zdN _)
 ·exact zdP I.ok.bsz I.sz
 ·rcases (a4 b O).2.2.2.1 with q | q
  ·exact I.ok.noex b o e q
  ·exact absurd (zc8 (zcX e) (zdP I.ok.bsz q)) (zdN _)
 ·rcases zcY.mp (I.stkSub b hs)with q | q
  ·exact(a4 b O).2.1 q
  ·exact(a4 b O).2.2.1 q
 ·have hi:i<(own++fr.map (·.1)).length:=(zc9.mp e1).1
  by_cases a7:i<own.length
  ·unfold pull at e2
   rw [zdV (by simpa using a7)]at e2;simp [zdx,a7]at e2
  ·have hj : ∃p,fr[i - own.length]? = some p/\p.1=x/\(σ[p.2]?).join=some v:=by
    unfold pull at e2;have a3:(own++fr.map (·.1))[i]? = some x:=e1;rw [zdI ⋯,zdx]at a3;rw [zdI (by simpa using a7),zdx,zdY]at e2;cases q:fr[i - own.length]? with
    | none=>rw [q]at a3;cases a3
    | some p=>
     rw [q]at a3 e2;exact⟨p,rfl,by simpa using a3,by simpa using e2⟩
   obtain⟨p,U,aw,a5⟩:=hj;obtain⟨g1,g2⟩:=ok.fr p (zey U);rw [aw]at g1 g2;have hσ:σ[p.2]? = some (some v):=by
    cases q:σ[p.2]? with
    | none=>rw [q]at a5;cases a5
    | some o=>rw [q]at a5;simpa using a5
   have aj:=ok.free (x,.free) (mem_of_lookup g1) rfl;obtain⟨m,hn,hl⟩:=I.loc;obtain⟨u,ru,lk⟩:=hl p.2 x v g2 hσ (by rcases aj with k | k;exact .inr (.inl k);exact .inr (.inr k));refine⟨u,ru,.inr ?_⟩;obtain⟨c,b0,b1⟩:=ac x (mem_of_lookup g1);have b2:s2.heap.IsCell c (some u):=by
    rcases lk with⟨k,_⟩ | ⟨_,c',e,z⟩
    ·rcases aj with k' | k'<;>rw [k]at k'<;>cases k'
    ·rw [b0]at e;cases e;exact z
   refine⟨?_,c,b1,b2.keeps keep⟩;show(relabel scope X.env).names.lookup x=some .cell\/(relabel scope X.env).names.lookup x=some .free;rw [kz,g1];dsimp only [zfC];split
   ·exact .inl rfl
   ·exact .inr rfl
 ·rcases qR (mem_of_lookup h)with q | q
  ·obtain⟨v,w'⟩:=I.cell x c (Y x c q).2
   exact⟨v,w'.keeps keep⟩
  ·have q2:=mem_of_lookup h
   have q3:(x,c)∈cellsFrom ((s2.heap.push ZK).push K7).objs.size scope.names (wu X.env.cells scope.names []):=by rw [z2];exact q2
   rcases vh q3 with q4 | q4
   ·obtain⟨v,w'⟩:=I.cell x c (Y x c q4).2
    exact⟨v,w'.keeps keep⟩
   ·exact⟨none,q4⟩
 ·exact ah _ (zdR _)
 ·rcases cells x c h with⟨_,q⟩ | ⟨q,_⟩
  ·rw [zS (zda (ab x c q))];exact I.freeC x c q
  ·exact ah c (zc8 (zdB (zdR _)) q)
 ·exact absurd (show p∈([]:List (Addr×Obj))from U) ⋯
 ·refine I.hok.laid keep (zcZ _) ⟨zef _,[],0,.nil,?_⟩
  exact ze6 _ _ _ _ (zcO _ (zc5 _ rfl))
 ·show(pull own fr σ).length=(own++fr.map (·.1)).length
  simp [pull]
theorem ku{prog:Program}{w:World}{A:Around}{R:Result->Shared->Prop}{s:Shared}{elt O iter:Expr}{ifs:List Expr}{scope:Scope}{pos:Pos}{it acc:Value}{env:Env}(I:Nat->Shared->Prop)
 (a4 : ∀n s,I n s->wpAny (model prog w) A (pyNext it) (λr y=>match r with
   | none=>R (.ok .next) y
   | some v=>wpAny (model prog w) A (letOwnedTupleGo O it v) (λ_ y=>wpAny (model prog w) A (assign O env v) (λ_ Y=>
    wpAny (model prog w) A (forIn ifs true λc r=>if r=true then do let ok <- isTrue c env (eval c env);pure (zfc ok)else pure (zfc r)) (λok U=>
     if ok=true then wpAny (model prog w) A (eval elt env) (λx s₄=>
      wpAny (model prog w) A (call (.builtin "list.append") [acc,x]) (λ_ s₅=>∃m,m<n/\I m s₅) (λ_ _=>False) s₄) (λ_ _=>False) U
     else ∃m,m<n/\I m U) (λ_ _=>False) Y) (λ_ _=>False) y) (λ_ _=>False) y) (λ_ _=>False) s)
 (n:Nat) (h:I n s) :
 codeAny (model prog w) A (.compLoop (.ListComp elt [⟨O,iter,ifs,0⟩] scope pos) 0 it acc env) R s:=by
 refine codeAny_loop rfl I (λn s hI=>?_) n h;show wpAny _ A ((compTurn (.ListComp elt [⟨O,iter,ifs,0⟩] scope pos) 0 it acc env).onRaise (λx=>do noteFrame x env;theTreesLotGoes x)) _ _ s;refine wpAny_noted ?_;rw [compTurn_list];refine zcM (wpAny_standAt (zcM (zeO (a4 n s hI) (λr y h₁=>?_) λ_ _ h'=>h'.elim)));cases r with
 | none=>exact zcT h₁
 | some v=>
  refine zcM (zeO h₁ (λ_ aa a6=>?_) λ_ _ h'=>h'.elim);refine zcM (zeO a6 (λ_ Y h₂=>zcM (zeO h₂ (λok U h₃=>?_) λ_ _ h'=>h'.elim)) λ_ _ h'=>h'.elim);cases ok with
  | false=>exact zcT ⟨rfl,h₃⟩
  | true=>
   exact zcM (zcM (zeO h₃ (λx s₄ h₄=>zcM (zeO h₄ (λ_ s₅ h₅=>zcT (zcT ⟨rfl,h₅⟩)) λ_ _ h'=>h'.elim)) λ_ _ h'=>h'.elim))
def VO(X:Cx)(ifs:List Expr)(t:TT):Prop:=
 ∀(pins:List (Addr×Obj)) (s:Shared) (σ:St) (H:Hp) (Q:Bool->Hp->Prop),Inv X pins σ H s->t σ H Q->
  wpAny (model X.prog X.w) X.A (forIn ifs true λc r=>if r=true then do let ok <- isTrue c X.env (eval c X.env);pure (zfc ok)else pure (zfc r)) (TP X pins σ Q) X.xe s
def zaS:TT:=λ_ H Q=>Q true H
theorem Z9{X:Cx}:VO X [] zaS:=λ_ _ _ H _ I h=>wpAny_tests_nil ⟨H,I,h⟩
theorem Z8{X:Cx}{c:Expr}{t:TT}(h:PT X c t):VO X [c] t:=λpins s σ H Q I y=>wpAny_tests_one (h pins s σ H Q I y)
def CW(J:It)(g:TG)(tt:TT)(te:TE)(D:Addr)(Q:VK)(W:Nat->Nat->List V->St->Hp->Prop):Prop:=
 ∀i m ys σ H,W i m ys σ H->H D=some (.lst ys)/\((J.stop i H/\Q (.ref D) H)\/(J.go i H/\ys.length<sizeLine/\∀x H',J.yld i H x H'->g x σ H' λy H2=>tt y H2 λb I=>
  if b=true then te y I λv O=>O D=some (.lst ys)/\∃m',m'<m/\W (i+1) m' (ys++[v]) y (upd O D (.lst (ys++[v])))else ∃m',m'<m/\W (i+1) m' ys y I))
def KA(X:Cx)(pins:List (Addr×Obj))(H:Hp)(L:Addr):Prop:=
 H L=none/\L≠X.env.locals/\X.s₀.heap.objs.size<=L/\(∀x c,X.env.cells.lookup x=some c->c≠L)/\∀p∈X.pn++pins,p.1≠L
theorem Kw{X:Cx}{pins:List (Addr×Obj)}{σ:St}{H2:Hp}{s2:Shared}{scope:Scope}{own:List Str}{fr:List (Str×Nat)}{fp:List Addr}{it:Addr}{tn:Nat->Heap->Prop}{J:It}{elt tg iter:Expr}{ifs:List Expr}{pos:Pos}{g:TG}{tt:TT}{te:TE}{Q:VK}{E:Value->Shared->Prop}
 (hc:X.calm=true) (I:Inv X pins σ H2 s2) (ok:CompOk X scope fr) (T:Turn X.prog X.w X.K tg J fp it tn) (st:tn 0 s2.heap) (U : ∀b∈fp,FpOk X pins H2 b)
 (hg:PG (jz X scope (own++fr.map (·.1)) fp s2 H2) tg g) (ht:VO (jz X scope (own++fr.map (·.1)) fp s2 H2) ifs tt) (he:PE (jz X scope (own++fr.map (·.1)) fp s2 H2) elt te)
 (hW : ∀D,H2 D=none->∃W:Nat->Nat->List V->St->Hp->Prop,(∃m,W 0 m [] (pull own fr σ) (upd H2 D (.lst [])))/\CW J g tt te D Q W) :
 wpAny (model X.prog X.w) X.A (newList []) (λacc s₃=>wpAny (model X.prog X.w) X.A (newFunctionEnv scope X.env.globals (wu X.env.cells scope.names []) [] X.env.qual none .none (some X.env)) (λa9 s₄=>
  codeAny (model X.prog X.w) X.A (.compStart (.ListComp elt [⟨tg,iter,ifs,0⟩] scope pos) 0 (.ref it) acc {a9 with scope:=relabel scope X.env})
   (λr s'=>(∃f,r = .ok f)/\∃D H',acc = .ref D/\Inv X pins σ H' s'/\Q (.ref D) H'/\(∃m,s'.heap.Ns a9.locals m)/\KA X pins H' a9.locals) s₄) E s₃) E s2:=by
 have aj : ∀b∈fp,∃o,s2.heap.get? b=some o:=λb y=>by obtain⟨o,e,_⟩:=T.obj 0 _ st b y;exact⟨o,e⟩
 have I0:=Ki (own:=own) I ok U aj;obtain⟨W,⟨m0,w0⟩,cw⟩:=hW _ I.fresh;refine zdZ (xn ?_);have z1:(s2.heap.push ZK).objs.size=s2.heap.objs.size+1:=zdg ..;show codeAny _ _ (.compStart _ 0 (.ref it) (.ref s2.heap.objs.size) {scope:=relabel scope X.env,locals:=(s2.heap.push ZK).objs.size,globals:=X.env.globals,cells:=cellsFrom ((s2.heap.push ZK).objs.size+1) scope.names (wu X.env.cells scope.names []),qual:=X.env.qual,func:=none,code:=X.env.code,frame:=X.env.frame,builtins:=X.env.builtins})
  (λr s'=>(∃f,r = .ok f)/\∃D H',zdu s2.heap.objs.size = .ref D/\Inv X pins σ H' s'/\Q (.ref D) H'/\(∃m,s'.heap.Ns (s2.heap.push ZK).objs.size m)/\KA X pins H' (s2.heap.push ZK).objs.size) {s2 with heap:=pushCells ((s2.heap.push ZK).push K7) scope.names}
 rw [z1];have ak:tn 0 (pushCells ((s2.heap.push ZK).push K7) scope.names):=T.keep 0 _ _ st λb _ o e=>ze6 _ _ b o (zcO _ (zcO _ e));have b7 : ∀b∈fp,b<s2.heap.objs.size:=λb y=>by obtain⟨o,e⟩:=aj b y;exact zcX e
 have aa : ∀{H':Hp},(∀b∈fp,H' b=none)->∀b∈fp,FpOk (jz X scope (own++fr.map (·.1)) fp s2 H2) [] H' b:=λhn b y=>
  ⟨hn b y,(I0.ok.exf b y).1,I0.ok.exfs b y,.inl y,(I0.ok.exf b y).2,λp hp=>absurd (show p∈([]:List (Addr×Obj))from hp) ⋯⟩
 have am:codeAny (model X.prog X.w) X.A (.compLoop (.ListComp elt [⟨tg,iter,ifs,0⟩] scope pos) 0 (.ref it) (.ref s2.heap.objs.size) (k0 scope X.env (s2.heap.objs.size+1)))
  (λr s'=>(∃f,r = .ok f)/\∃D H',zdu s2.heap.objs.size = .ref D/\Inv X pins σ H' s'/\Q (.ref D) H'/\(∃m,s'.heap.Ns (s2.heap.objs.size+1) m)/\KA X pins H' (s2.heap.objs.size+1)) {s2 with heap:=pushCells ((s2.heap.push ZK).push K7) scope.names}:=by
  refine ku (λn s'=>∃i ys σ' H',Inv (jz X scope (own++fr.map (·.1)) fp s2 H2) [] σ' H' s'/\tn i s'.heap/\(∀b∈fp,H' b=none)/\W i n ys σ' H') ?_ m0
   ⟨0,[],_,_,I0,ak,λb y=>by rw [zS (zda (b7 b y))];exact(U b y).1,w0⟩
  rintro n s3 ⟨i,ys,σ3,H3,I3,ap,aq,w3⟩;obtain⟨hD,b9⟩:=cw i n ys σ3 H3 w3;rcases b9 with⟨stop,qn⟩ | ⟨go,hz,step⟩
  ·refine thn (T.done (jz X scope (own++fr.map (·.1)) fp s2 H2) rfl rfl rfl hc i [] s3 σ3 H3 _ I3 (aa aq) ap stop) λr s4 O=>?_
   obtain⟨hr,Y⟩:=O;subst hr;refine⟨⟨_,rfl⟩,_,H3,rfl,I.call' (ch:=fp) Y.os Y.base Y.hok Y.bare (λb y=>⟨(U b y).2.2.2.1,(U b y).2.1,(U b y).2.2.2.2.1,(U b y).2.2.2.2.2⟩),qn,?_,Y.free,?_,?_,?_,?_⟩
   ·obtain⟨m,hn,_⟩:=Y.loc
    exact⟨m,hn⟩
   ·exact zd0 (zdB I.lt)
   ·exact Nat.le_succ_of_le I.sz
   ·intro x c e z
    obtain⟨v,q⟩:=I.cell x c e;exact absurd (zdB q.lt) (by rw [z];exact zdN _)
   ·intro p hp z
    exact absurd (zdB (zcX (I.pin p hp).1)) (by rw [z];exact zdN _)
  ·refine thn (T.item (jz X scope (own++fr.map (·.1)) fp s2 H2) rfl rfl rfl hc i [] s3 σ3 H3 _ I3 (aa aq) ap go) λr s4 O=>?_
   obtain⟨u,hr,h4⟩:=O;subst hr;refine thn h4 λ_ s5 O=>?_;obtain⟨x,H5,I5,r5,y5,ae,bg⟩:=O;have bh:=I5.pinned (aa bg) (T.obj _ _ ae);refine thn (hg _ s5 σ3 H5 x u _ bh r5 (step x H5 y5)) λ_ s6 O=>?_;obtain⟨σ6,H6,I6,q6⟩:=O;refine thn (ht _ s6 σ6 H6 _ I6 q6) λb s7 O=>?_;obtain⟨H7,I7,q7⟩:=O;have after : ∀{σ8:St} {H8:Hp} {s8:Shared},Inv (jz X scope (own++fr.map (·.1)) fp s2 H2) ([]++wW fp s5.heap) σ8 H8 s8->tn (i+1) s8.heap/\∀b∈fp,H8 b=none:=λ{σ8 H8 s8} I8=>by
    refine⟨T.keep _ _ _ ae λb y o e=>(I8.pin (b,o) (zdz _ (zdz _ (kj y e)))).1,λb y=>?_⟩;obtain⟨o,e,d⟩:=T.obj _ _ ae b y;exact(I8.pin (b,o) (zdz _ (zdz _ (kj y e)))).2.1
   cases b with
   | false=>
    rw [if_neg zdi]at q7 ⊢;obtain⟨m',hm,w7⟩:=q7;exact⟨m',hm,i+1,ys,σ6,H7,I7.unpinned,(after I7).1,(after I7).2,w7⟩
   | true=>
    rw [if_pos rfl]at q7 ⊢;refine thn (he _ s7 σ6 H7 _ I7 q7) λv8 s8 O=>?_;obtain⟨x8,H8,I8,r8,aw,m',hm,w8⟩:=O;obtain⟨z8,its,n8,rv,bx,e8⟩:=I8.lstM aw;refine zep F.slot_list_append ⟨_,e8,rfl⟩ F.entry_list_append (F.args_list_append_2 _ _) (PySem.list_append _ its.toArray n8 v8 (by rw [zcV];omega)) ⟨e8,?_⟩;have I9:=I8.lset (its':=its++[v8]) (f:=(·.push v8)) (t':=s8.toks) aw e8 ⋯ (rv.append (.cons r8 .nil)) (by rw [zdK,zes];omega);exact⟨m',hm,i+1,ys++[x8],σ6,_,I9.unpinned,(after I9).1,(after I9).2,w8⟩
 exact codeAny_compStart_list am (T.self _ 0 _ _ _ ak am)
def Xy(wi:TI)(own:List Str)(fr:List (Str×Nat))(g:TG)(tt:TT)(te:TE):TE:=λσ H Q=>wi σ H λJ H1=>∀D,H1 D=none->
 ∃W:Nat->Nat->List V->St->Hp->Prop,(∃m,W 0 m [] (pull own fr σ) (upd H1 D (.lst [])))/\CW J g tt te D Q W
section
variable{X:Cx}{scope:Scope}{own:List Str}{fr:List (Str×Nat)}{elt tg iter:Expr}{ifs:List Expr}{pos:Pos}{wi:TI}{g:TG}{tt:TT}{te:TE}
theorem Jj{use:Option (Value->Sem Unit)}{R:Value->Shared->Prop}{pins:List (Addr×Obj)}{s:Shared}{σ:St}{H:Hp}{Q:VK}
 (O:X.calm=true) (ok:CompOk X scope fr) (hi:PI X tg iter wi) (U : ∀fp s2 H2,PG (jz X scope (own++fr.map (·.1)) fp s2 H2) tg g)
 (Y : ∀fp s2 H2,VO (jz X scope (own++fr.map (·.1)) fp s2 H2) ifs tt) (he : ∀fp s2 H2,PE (jz X scope (own++fr.map (·.1)) fp s2 H2) elt te)
 (I:Inv X pins σ H s) (h:Xy wi own fr g tt te σ H Q)
 (hR : ∀D H' s' L,Inv X pins σ H' s'->Q (.ref D) H'->(∃m,s'.heap.Ns L m)->KA X pins H' L->
   compPost (model X.prog X.w) X.A X.xe use R (.ref D) L (.ok .next) s')
 (hs : ∀x,foldedSetIterable iter X.env x=pure x:=by intro _;rfl) :
 wpAny (model X.prog X.w) X.A (comprehension (.ListComp elt [⟨tg,iter,ifs,0⟩] scope pos) scope X.env (firstIterPos [⟨tg,iter,ifs,0⟩] pos) (newList []) false (eval iter X.env) use) R X.xe s:=by
 refine wpAny_comprehension_free rfl hs (wg λn hn=>I.ok.has n (ok.free (n,.free) hn rfl)) ok.kind (λx hx e=>by rw [<- e];exact kl ok.nd (show(x.1,x.2)∈scope.names from hx)) ?_;refine thn (hi pins s σ H _ I h) λv s1 h1=>thn h1 λag s2 h2=>?_;obtain⟨it,fp,tn,J,H2,e,I2,T,a4,f2,hW⟩:=h2;subst e;refine thn (Kw (own:=own) (Q:=Q) (E:=X.xe) O I2 ok T a4 f2 (U fp s2 H2) (Y fp s2 H2) (he fp s2 H2) hW) λacc s3 h3=>thn h3 λa8 s4 h4=>zfW h4 λr s' h5=>?_;obtain⟨⟨f,hr⟩,D,H',ea,I',q,hn,y⟩:=h5;subst hr;subst ea;have q2:=hR D H' s' a8.locals I' q hn y;cases use<;>exact q2
theorem ZE(O:X.calm=true)(ok:CompOk X scope fr)(hi:PI X tg iter wi)(U : ∀fp s2 H2,PG (jz X scope (own++fr.map (·.1)) fp s2 H2) tg g)
 (Y : ∀fp s2 H2,VO (jz X scope (own++fr.map (·.1)) fp s2 H2) ifs tt) (he : ∀fp s2 H2,PE (jz X scope (own++fr.map (·.1)) fp s2 H2) elt te)
 (hs : ∀x,foldedSetIterable iter X.env x=pure x:=by intro _;rfl) :
 PE X (.ListComp elt [⟨tg,iter,ifs,0⟩] scope pos) (Xy wi own fr g tt te):=by
 intro pins s σ H Q I h;rw [eval_ListComp];refine Jj (use:=none) O ok hi U Y he I h (λD H' s' L I' q hn y=>?_) hs;obtain⟨m,hm⟩:=hn;obtain⟨y1,y2,y3,y4,y5⟩:=y;refine⟨m,hm,λh' sb=>⟨.ref D,H',I'.turned (t':=s'.toks) (it:=L) (λb o hb e=>sb.extBut b o hb e) y1 y2 (.inr y3) y4 y5,rfl,q⟩⟩
theorem vG{y:Str}{O Y:Pos}{i:Nat}(hN:X.N.Nodup)(a1:X.N[i]? = some y)(hy:Loc X.env.scope y)(hf:X.fn y=true\/X.env.scope.names.lookup y=some .local)
 (hc:X.calm=true) (ok:CompOk X scope fr) (hi:PI X tg iter wi) (hg : ∀fp s2 H2,PG (jz X scope (own++fr.map (·.1)) fp s2 H2) tg g)
 (ht : ∀fp s2 H2,VO (jz X scope (own++fr.map (·.1)) fp s2 H2) ifs tt) (he : ∀fp s2 H2,PE (jz X scope (own++fr.map (·.1)) fp s2 H2) elt te)
 (hs : ∀x,foldedSetIterable iter X.env x=pure x:=by intro _;rfl) :
 PS X (.Assign [.Name y O] (.ListComp elt [⟨tg,iter,ifs,0⟩] scope pos) Y) (JY (Xy wi own fr g tt te) (kI i)):=by
 have U : ∃b:Bool,swapsWith (.ListComp elt [⟨tg,iter,ifs,0⟩] scope pos) (some (.Name y O)) Y.line X.env=pure b:=⟨_,rfl⟩;obtain⟨b,U⟩:=U;cases b with
 | false=>
  have e1:swapsWithSole [.Name y O] (.ListComp elt [⟨tg,iter,ifs,0⟩] scope pos) Y.line X.env=swapsWith (.ListComp elt [⟨tg,iter,ifs,0⟩] scope pos) (some (.Name y O)) Y.line X.env:=rfl;exact Qt (ZE hc ok hi hg ht he hs) (QB hN a1 hy hf) (by rw [e1];exact U)
 | true=>
  intro pins s σ H D I h;rw [exec_Assign_Name_used _ _ _ _ U];refine zcM (wpAny_standAt (zcM ?_));show wpAny _ X.A (do let _ <- comprehension (.ListComp elt [⟨tg,iter,ifs,0⟩] scope pos) scope X.env _ (newList []) false (eval iter X.env) (some (assign (.Name y O) X.env))) _ _ s;refine zcM (thn (Jj (R:=λ_ s'=>SP X pins D .next s') (use:=some (assign (.Name y O) X.env)) hc ok hi hg ht he I h (λDa H' s' L I' q hn yg=>?_) hs) λ_ s' q=>zcT (zcT q));obtain⟨y1,y2,y3,y4,y5⟩:=yg;obtain⟨m,hm⟩:=hn;show wpAny _ _ (assign (.Name y O) X.env (.ref Da)) _ _ _;refine wpAny_assign_Name (wF I' hN a1 hy (v:= .ref Da) rfl (λah ai aj=>?_) hf);obtain⟨a,sb,ha⟩:=aj;have am:L≠a:=by
   rcases ha with e | e
   ·rw [e];exact y2
   ·exact zdy (y4 _ _ e)
  refine⟨m,hm.sameBut sb am,λh' an=>⟨_,_,ai.turned (t':=ah.toks) (it:=L) (λb o U e=>an.extBut b o U e) y1 y2 (.inr y3) y4 y5,q⟩⟩
end
inductive Sk where
 | L | T
 deriving DecidableEq
end L2
namespace DL
open PySem L2
inductive D where
 | non | bl (b:Bool) | int (i:Int) | str (x:Str) | tup (xs:List D) | lst (xs:List D)
 | exc (c:Str) (n:Option Int)
 | dic (ks vs:List D)
 | dct (ks:List (List Int)) (vs:List D)
inductive Cell where
 | no | val (d:D) | own (ds:List D) | nest (rows:List (List D))
abbrev Ctx:=List Cell
abbrev CO (a : Type) := Ctx -> Option a
def lim:Nat:=2500
def jE:D->Option (Sk×List D)
 | .tup ds=>some (.T,ds)
 | .lst ds=>some (.L,ds)
 | _=>none
def zt(f:CO D):CO (Sk×List D):=λγ=>(f γ).bind jE
def jA(f:CO (List D)):CO D:=λγ=>(f γ).map D.lst
def jw(f:CO (List D)):CO (Sk×List D):=λγ=>(f γ).map λds=>(Sk.L,ds)
def ZP:Option Cell->Option D
 | some (.val d)=>some d
 | _=>none
def kK:Option Cell->Option (Sk×List D)
 | some (.val d)=>jE d
 | some (.own ds)=>some (.L,ds)
 | _=>none
def ze(i:Nat):CO D:=λγ=>ZP γ[i]?
def zh(i:Nat):CO (Sk×List D):=λγ=>kK γ[i]?
def zu(d:D):CO D:=λ_=>some d
def zy(F:D->D->Option D)(fa fb:CO D):CO D:=λγ=>(fa γ).bind λx=>(fb γ).bind λy=>F x y
def asB:D->Option Bool
 | .bl b=>some b
 | _=>none
def asI:D->Option Int
 | .int i=>some i
 | _=>none
def sB(f:CO D):CO Bool:=λγ=>(f γ).bind asB
def YI(f g:CO Bool):CO Bool:=λγ=>(f γ).bind λb=>if b=true then g γ else some false
def yi(f g:CO Bool):CO Bool:=λγ=>(f γ).bind λb=>if b=true then some true else g γ
def j8(f:CO Bool):CO Bool:=λγ=>(f γ).map λb=> !b
def J0(f g:CO D):CO D:=λγ=>((f γ).bind asB).bind λb=>if b=true then g γ else some (.bl false)
def VJ(f:CO D):CO D:=λγ=>((f γ).bind asB).map λb=> .bl (!b)
def Wd(c:CO Bool)(f g:CO D):CO D:=λγ=>(c γ).bind λb=>if b=true then f γ else g γ
def zB:CO (List D):=λ_=>some []
def zb(f:CO D)(g:CO (List D)):CO (List D):=λγ=>(f γ).bind λx=>(g γ).map λr=>x::r
def qU(f:CO (List D)):CO D:=λγ=>(f γ).bind λds=>if ds.length<=lim then some (.tup ds)else none
def qc(f:CO (List D)):CO (List D):=λγ=>(f γ).bind λds=>if ds.length<=lim then some ds else none
inductive Res where
 | val (d:D) | own (ds:List D)
inductive Fl where
 | next (γ:Ctx) | brk (γ:Ctx) | cont (γ:Ctx) | ret (r:Res)
def jt:CO Fl:=λγ=>some (.next γ)
def zU(F G:CO Fl):CO Fl:=λγ=>(F γ).bind λy=>match y with
 | .next γ'=>G γ'
 | f=>some f
def jV(f:CO D):CO Fl:=λγ=>(f γ).map λd=> .ret (.val d)
def JD(f:CO (List D)):CO Fl:=λγ=>(f γ).map λd=> .ret (.own d)
def wj:Option Cell->Option Fl
 | some (.val d)=>some (.ret (.val d))
 | some (.own ds)=>some (.ret (.own ds))
 | _=>none
def xT(i:Nat):CO Fl:=λγ=>wj γ[i]?
def XI:CO Fl:=λγ=>some (.cont γ)
def yj:CO Fl:=λ_=>none
def sIf(k:CO Bool)(F G:CO Fl):CO Fl:=λγ=>(k γ).bind λb=>if b=true then F γ else G γ
def jh(i:Nat)(f:CO D):CO Fl:=λγ=>(f γ).map λd=> .next (γ.set i (.val d))
def qw(i:Nat)(f:CO (List D)):CO Fl:=λγ=>(f γ).map λds=> .next (γ.set i (.own ds))
def yv(f:CO D):CO Fl:=λγ=>(f γ).map λ_=> .next γ
def jX:Option Cell->Option (List D)
 | some (.own ds)=>some ds
 | _=>none
def jP(i:Nat)(f:CO D):CO Fl:=λγ=>(jX γ[i]?).bind λds=>(f γ).bind λd=>if ds.length<lim then some (.next (γ.set i (.own (ds++[d]))))else none
def jr(n:Nat)(ds:List D):Ctx:=ds.map Cell.val++zcS (n - ds.length) Cell.no
def jO(n:Nat)(F:CO Fl)(ds:List D):Option Res:=(F (jr n ds)).bind λy=>match y with
 | .ret r=>some r
 | .next _=>some (.val .non)
 | _=>none
def xB:Res->D
 | .val d=>d
 | .own ds=> .lst ds
def zw(F:List D->Option Res)(g:CO (List D)):CO D:=λγ=>(g γ).bind λds=>(F ds).map xB
def wK:Res->Option (List D)
 | .own ds=>some ds
 | _=>none
def z5(F:List D->Option Res)(g:CO (List D)):CO (List D):=λγ=>(g γ).bind λds=>(F ds).bind wK
def ky(lo:Int)(n:Nat):List D:=(zcP n).map λ(i:Nat)=>D.int (lo+(i:Int))
def yh(ds es:List D):List D:=(ds.zip es).map λp=>D.tup [p.1,p.2]
def zW(f:CO (Sk×List D)):CO (List D):=λγ=>(f γ).map (·.2)
def inR(i:Int):Bool:=decide (i.natAbs<2 ^ 62)
def zJ(f:CO D):CO (List D):=λγ=>((f γ).bind asI).bind λn=>if inR n=true then some (ky 0 n.toNat)else none
def vV(f g:CO D):CO (List D):=λγ=>((f γ).bind asI).bind λm=>((g γ).bind asI).bind λn=>if inR m=true/\inR n=true then some (ky m (n - m).toNat)else none
def Zo(f g:CO D):CO (List D):=λγ=>((f γ).bind jE).bind λm=>((g γ).bind jE).map λn=>yh m.2 n.2
inductive Tg where
 | nm (i:Nat) | tp (is:List Nat)
def qG:List Nat->List D->Ctx->Ctx
 | i::is,d::ds,γ=>qG is ds (γ.set i (.val d))
 | _,_,γ=>γ
def qE:Tg->D->CO Ctx
 | .nm i,d,γ=>some (γ.set i (.val d))
 | .tp is,.tup ds,γ=>if ds.length=is.length then some (qG is ds γ)else none
 | _,_,_=>none
def qD(T:Tg)(F:CO Fl):List D->CO Fl
 | [],γ=>some (.next γ)
 | d::ds,γ=>(qE T d γ).bind λI=>(F I).bind λO=>match O with
  | .next y=>qD T F ds y
  | .cont y=>qD T F ds y
  | .brk y=>some (.next y)
  | .ret r=>some (.ret r)
def qV(src:CO (List D))(T:Tg)(F:CO Fl):CO Fl:=λγ=>(src γ).bind λds=>qD T F ds γ
def xo:Cell->Cell
 | .own _=> .no
 | .nest _=> .no
 | c=>c
def jy(n:Nat)(fr:List Nat)(γ:Ctx):Ctx:=zcS n Cell.no++fr.map λj=>xo (γ[j]?.getD .no)
def ji(T:Tg)(k:CO Bool)(f:CO D)(γ:Ctx):List D->Option (List D)
 | []=>some []
 | d::ds=>(qE T d γ).bind λy=>(k y).bind λb=>if b=true then (f y).bind λe=>(ji T k f γ ds).map λr=>e::r else ji T k f γ ds
def zV(src:CO (List D))(T:Tg)(n:Nat)(fr:List Nat)(k:CO Bool)(f:CO D):CO (List D):=λγ=>(src γ).bind λds=>if ds.length<=lim then ji T k f (jy n fr γ) ds else none
def js:CO Bool:=λ_=>some true
def Tg.idx:Tg->List Nat
 | .nm i=>[i]
 | .tp is=>is
def dI(g:Int->Int->D):D->D->Option D
 | .int i,.int j=>some (g i j)
 | _,_=>none
def dIc(c:Int->Int->Bool)(g:Int->Int->D):D->D->Option D
 | .int i,.int j=>if c i j=true then some (g i j)else none
 | _,_=>none
def Jh:D->D->Option D:=dI λi j=> .int (i - j)
def yp(i j:Int):Bool:=decide (i.natAbs<2 ^ 64) || decide (j.natAbs<2 ^ 64)
def VN(_ j:Int):Bool:=decide (0<j) && decide (j.natAbs<1073741824)
def kJ:D->D->Option D:=dIc VN λi j=> .int (i/j)
def zaI(_ j:Int):Bool:=decide (0<j)
def qL:D->D->Option D:=dIc zaI λi j=> .int (i%j)
def zag(i j:Int):Bool:=decide (0<=j) && decide (j.natAbs<=1000000) && decide (i.natAbs<2 ^ 64)
def Vo:D->D->Option D:=dIc zag λi j=> .int (i ^ j.toNat)
def dLt:D->D->Option D:=dI λi j=> .bl (decide (i<j))
def dLe:D->D->Option D:=dI λi j=> .bl (decide (i<=j))
def dGt:D->D->Option D:=dI λi j=> .bl (decide (j<i))
def dGe:D->D->Option D:=dI λi j=> .bl (decide (j<=i))
def qb:D->D->Option D
 | .int i,.int j=>some (.int (i+j))
 | .tup xs,.tup ys=>if xs.length+ys.length<=lim then some (.tup (xs++ys))else none
 | _,_=>none
def qK:D->D->Option D
 | .int i,.int j=>if yp i j=true then some (.int (i*j))else none
 | .tup xs,.int j=>if xs.length*j.toNat<=lim/\inR j=true then some (.tup (zcS j.toNat xs).flatten)else none
 | _,_=>none
def XJ(f g:CO (Sk×List D)):CO (List D):=λγ=>(f γ).bind λa=>(g γ).bind λb=>
 match a.1,b.1 with
 | .L,.L=>if a.2.length+b.2.length<=lim then some (a.2++b.2)else none
 | _,_=>none
def Zw(f:CO (Sk×List D))(g:CO D):CO (List D):=λγ=>(f γ).bind λa=>((g γ).bind asI).bind λj=>
 match a.1 with
 | .L=>if a.2.length*j.toNat<=lim/\inR j=true then some (zcS j.toNat a.2).flatten else none
 | _=>none
def ixD(n:Nat)(i:Int):Option Nat:=if 0<=i/\i<n then some i.toNat else if i<0/\0<=i+n then some (i+n).toNat else none
def sIx(f:CO (Sk×List D))(g:CO D):CO D:=λγ=>(f γ).bind λa=>((g γ).bind asI).bind λi=>(ixD a.2.length i).bind λk=>a.2[k]?
def vC(i:Nat)(g f:CO D):CO Fl:=λγ=>(f γ).bind λd=>(jX γ[i]?).bind λds=>((g γ).bind asI).bind λk=>(ixD ds.length k).map λj=> .next (γ.set i (.own (ds.set j d)))
def Q3(n dflt:Nat):Option Int->Nat
 | none=>dflt
 | some i=>if i<0 then (i+n).toNat else min i.toNat n
def Kv(xs:List D)(lo hi:Option Int):List D:=(xs.drop (Q3 xs.length 0 lo)).take (Q3 xs.length xs.length hi - Q3 xs.length 0 lo)
def zar:CO (Option Int):=λ_=>some none
def sBd(f:CO D):CO (Option Int):=λγ=>((f γ).bind asI).map some
def XF(f:CO D)(l h:CO (Option Int)):CO D:=λγ=>(f γ).bind λd=>(l γ).bind λlo=>(h γ).bind λhi=>match d with
 | .tup xs=>some (.tup (Kv xs lo hi))
 | _=>none
def xH(f:CO (Sk×List D)):CO D:=λγ=>(f γ).map λa=> .int a.2.length
inductive Ty where
 | int | bool | str | tuple | list
 deriving DecidableEq
@[simp] def W6:D->Bool
 | .int _=>true
 | .bl _=>true
 | _=>false
@[simp] def zbj:D->Bool
 | .bl _=>true
 | _=>false
@[simp] def W4:D->Bool
 | .str _=>true
 | _=>false
@[simp] def W3:D->Bool
 | .tup _=>true
 | _=>false
@[simp] def W5:D->Bool
 | .lst _=>true
 | _=>false
def J1:Ty->D->Bool
 | .int=>W6
 | .bool=>zbj
 | .str=>W4
 | .tuple=>W3
 | .list=>W5
def sIs(T:Ty)(f:CO D):CO D:=λγ=>(f γ).map λd=> .bl (J1 T d)
@[simp] def eqN:D->Bool
 | .non=>true
 | _=>false
@[simp] def eqB(a:Bool):D->Bool
 | .bl b=>a==b
 | .int b=>(if a then 1 else 0)==b
 | _=>false
@[simp] def eqI(a:Int):D->Bool
 | .bl b=>a==(if b then 1 else 0)
 | .int b=>a==b
 | _=>false
@[simp] def eqS(a:Str):D->Bool
 | .str b=>a==b
 | _=>false
@[simp] def eqX(a:Str)(i:Option Int):D->Bool
 | .exc b j=>a==b && i==j
 | _=>false
mutual
def eqD:D->D->Bool
 | .non,y=>eqN y
 | .bl a,y=>eqB a y
 | .int a,y=>eqI a y
 | .str a,y=>eqS a y
 | .tup xs,y=>match y with
  | .tup ys=>eqDs xs ys
  | _=>false
 | .lst xs,y=>match y with
  | .lst ys=>eqDs xs ys
  | _=>false
 | .exc a i,y=>eqX a i y
 | .dic a b,y=>match y with
  | .dic c d=>eqDs a c && eqDs b d
  | _=>false
 | .dct a b,y=>match y with
  | .dct c d=>a==c && eqDs b d
  | _=>false
def eqDs:List D->List D->Bool
 | [],[]=>true
 | x::xs,y::ys=>eqD x y && eqDs xs ys
 | _,_=>false
end
mutual
def deep:D->Nat
 | .tup xs=>deeps xs+1
 | .lst xs=>deeps xs+1
 | _=>0
def deeps:List D->Nat
 | []=>0
 | x::xs=>max (deep x) (deeps xs)
end
mutual
def okS:D->Bool
 | .str x=>x.cps.all (· < 0x110000)
 | .exc _ _=>false
 | .dic _ _=>false
 | .dct _ _=>false
 | .tup xs=>okSs xs
 | .lst xs=>okSs xs
 | _=>true
def okSs:List D->Bool
 | []=>true
 | x::xs=>okS x && okSs xs
end
def okD(d:D):Bool:=decide (deep d<=20) && okS d
def dEq(x y:D):Option D:=if okD x=true/\okD y=true then some (.bl (eqD x y))else none
def dNe(x y:D):Option D:=if okD x=true/\okD y=true then some (.bl (!eqD x y))else none
def vg:D->D->Option D
 | x,.non=>some (.bl (match x with | .non=>false | _=>true))
 | _,_=>none
def zT(f:CO (Sk×List D)):CO D:=λγ=>(f γ).map λa=> .tup a.2
def kG(f:CO (Sk×List D)):CO (List D):=λγ=>(f γ).map λa=>a.2
def Xm:List D->Option Int
 | []=>some 0
 | .int i::r=>(Xm r).map λs=>i+s
 | _::_=>none
def JZ(f:CO (Sk×List D)):CO D:=λγ=>(f γ).bind λa=>(Xm a.2).map D.int
def VW:D->Option Bool
 | .non=>some false
 | .bl b=>some b
 | .int i=>some (i != 0)
 | _=>none
def yu:List D->Option (List Bool)
 | []=>some []
 | d::r=>(VW d).bind λb=>(yu r).map λs=>b::s
def KL(f:CO (Sk×List D)):CO D:=λγ=>(f γ).bind λa=>(yu a.2).map λs=> .bl (s.all id)
def KK(f:CO (Sk×List D)):CO D:=λγ=>(f γ).bind λa=>(yu a.2).map λs=> .bl (s.any id)
def XH(f:CO D):CO D:=λγ=>(f γ).bind λd=>match d with
 | .int i=>some (.int i)
 | .bl b=>some (.int (if b then 1 else 0))
 | _=>none
def XE(f:CO (Sk×List D)):CO Bool:=λγ=>(f γ).map λa=> !a.2.isEmpty
def VL(f:CO D):CO D:=λγ=>((f γ).bind asI).map λi=> .int (-i)
def yR(F G:D->D->Option D)(fa fb fc:CO D):CO D:=λγ=>(fa γ).bind λx=>(fb γ).bind λy=>((F x y).bind asB).bind λb=>if b=true then (fc γ).bind λz=>G y z else some (.bl false)
def xh(T:Tg)(f:CO D):CO Fl:=λγ=>(f γ).bind λd=>(qE T d γ).map .next
end DL
namespace L2
open PySem PySem.Spec PyProof.Rows
def ItAt(k:Sk)(h:Heap)(i l:Addr)(n:Nat):Prop:=match k with
 | .L=>h.IsListIter i l n
 | .T=>h.IsTupleIter i l n
def SqAt(k:Sk)(h:Heap)(l:Addr)(xs:Array Value):Prop:=match k with
 | .L=>h.IsList l xs
 | .T=>h.IsTuple l xs
def itO(k:Sk)(l:Addr):Obj:=match k with
 | .L=>{cls:= .type "list_iterator",data:= .fields #[.ref l,.int 0 0]}
 | .T=>{cls:= .type "tuple_iterator",data:= .fields #[.ref l,.int 0 0]}
theorem ItAt.at{k:Sk}{h h':Heap}{i l:Addr}{n:Nat}(x:ItAt k h i l n)(e : ∀o,h.get? i=some o->h'.get? i=some o):ItAt k h' i l n:=by
 cases k<;>exact let ⟨o,y,r⟩:=x;⟨o,e _ y,r⟩
theorem SqAt.at{k:Sk}{h h':Heap}{l:Addr}{xs:Array Value}(x:SqAt k h l xs)(e : ∀o,h.get? l=some o->h'.get? l=some o):SqAt k h' l xs:=by
 cases k<;>exact let ⟨o,y,r⟩:=x;⟨o,e _ y,r⟩
theorem ItAt.obj{k:Sk}{h:Heap}{i l:Addr}{n:Nat}(x:ItAt k h i l n) : ∃o,h.get? i=some o/\∀v,o.data ≠ .cell v:=by
 cases k<;>exact let ⟨o,y,_,d⟩:=x;⟨o,y,λv z=>by rw [d]at z;cases z⟩
theorem SqAt.lt{k:Sk}{h:Heap}{l:Addr}{xs:Array Value}(x:SqAt k h l xs):l<h.objs.size:=by
 cases k<;>exact let ⟨o,y,_⟩:=x;zcX y
theorem yn(k:Sk)(h:Heap)(l:Addr):ItAt k (h.push (itO k l)) h.objs.size l 0:=by
 cases k<;>exact⟨_,zc5 _ rfl,rfl,rfl⟩
section
variable{prog:Program}{w:World}{A:Around}{E:Value->Shared->Prop}{s:Shared}
theorem wZ{k:Sk}{l:Addr}{xs:Array Value}{Q:Value->Shared->Prop}(y:SqAt k s.heap l xs)(I:Q (.ref s.heap.objs.size) {s with heap:=s.heap.push (itO k l)}):wpAny (model prog w) A (pyIter (.ref l)) Q E s:=by
 cases k
 ·exact wpAny_pyIter_list y I
 ·exact zfe y I
theorem xc{k:Sk}{it l:Addr}{i:Nat}{I:Array Value}{x:Value}{Q:Value->Shared->Prop}(U:ItAt k s.heap it l i)(Y:SqAt k s.heap l I)(hx:I[i]? = some x)
 (hQ : ∀h',ItAt k h' it l (i+1)->zeL it s.heap h'->Q x {s with heap:=h'}):wpAny (model prog w) A (zc6 (.ref it)) Q E s:=by
 cases k with
 | L=>exact wpAny_nextOf_list_item U Y hx hQ
 | T=>
  have O:s.heap.IsTupleIter it l i:=U;obtain⟨o,y,hc,hd⟩:=id O;obtain⟨ol,a3,_,nl,a4⟩:=(show s.heap.IsTuple l I from Y);unfold zc6;refine zcM (zde (name:=zdC "__next__") O.typeIs ze5 (zds ze5 O.typeIs entry_tupleiter_next ?_ (args_tupleiter_next _)));refine zcM (m:=field (.ref it) 0) (zdk y hd (x:= .ref l) rfl ?_);show wpAny _ _ (if (zdu l==zel)=true then _ else _) _ _ s;rw [if_neg (show ¬((zdu l==zel)=true)from zdi)];refine zcM (m:=field (.ref it) 1) (zdk y hd (x:= .int i 0) rfl ?_);refine zcM (m:=seqItems? (.ref l)) (zdO a3 a4 ?_);simp only [zdf,hx];refine zcM (wpAny_setField y hd ⋯ (zcT ⟨x,rfl,zcT (hQ _ ?_ (zeL.update ..))⟩));show Heap.IsTupleIter _ it l (i+1);exact⟨_,zed _ y (Obj.isFreed_of_fields (Obj.data_mapFields hd _)),(Obj.cls_mapFields ..).trans hc,by rw [Obj.data_mapFields hd];simp [rawInt]⟩
theorem kW{k:Sk}{it l:Addr}{i:Nat}{y:Array Value}{Q:Value->Shared->Prop}(I:A.handled=none)(Y:ItAt k s.heap it l i)(hl:SqAt k s.heap l y)(hx:y[i]? = none)
 (hE : ∀h' e,Heap.ExtBut it s.heap h'->(∃o,h'.get? e=some o/\o.cls = .type "StopIteration")->E (.ref e) {s with heap:=h'}):wpAny (model prog w) A (zc6 (.ref it)) Q E s:=by
 cases k with
 | L=>exact wpAny_nextOf_list_end I Y hl hx hE
 | T=>
  have O:s.heap.IsTupleIter it l i:=Y;obtain⟨o,U,hc,hd⟩:=id O;obtain⟨ol,a3,_,nl,a4⟩:=(show s.heap.IsTuple l y from hl);unfold zc6;refine zcM (zde (name:=zdC "__next__") O.typeIs ze5 (zds ze5 O.typeIs entry_tupleiter_next ?_ (args_tupleiter_next _)));refine zcM (m:=field (.ref it) 0) (zdk U hd (x:= .ref l) rfl ?_);show wpAny _ _ (if (zdu l==zel)=true then _ else _) _ _ s;rw [if_neg (show ¬((zdu l==zel)=true)from zdi)];refine zcM (m:=field (.ref it) 1) (zdk U hd (x:= .int i 0) rfl ?_);refine zcM (m:=seqItems? (.ref l)) (zdO a3 a4 ?_);simp only [zdf,hx];refine zcM (zfi (zcM (wpAny_setField U hd ⋯ ?_)));refine zcM (m:=newExc (.type "StopIteration") []) ?_;simp only [newExc,newTuple];refine zcM (zdZ ?_ (by size_fits));refine zcM (m:=firstArgMember _ _) (wpAny_of_eq (a:=zel) (by first | rfl | (simp only [firstArgMember];rfl)) ?_);refine zdZ ?_ (by size_fits);simp only [raiseNew];refine zcM (wpAny_handled ?_)
  first | rw [show A.in1.handled=none from I] | rw [I]
  exact zcM (zcT (wpAny_throw (hE _ _ (((zeL.update ..).extBut.push _).push _) ⟨_,zc5 _ rfl,rfl⟩)))
theorem wv{k1 k2:Sk}{z TI TO i1 i2 l1 l2:Addr}{n1 n2:Nat}{xs ys:Array Value}{x y a b:Value}{Q:Value->Shared->Prop}(D:ZipApart z TI TO i1 i2 l1 l2)
 (hz:IsZip s.heap z TI TO .none) (ap:IsPair s.heap TI (.ref i1) (.ref i2)) (aq:IsPair s.heap TO a b)
 (h1:ItAt k1 s.heap i1 l1 n1) (h2:ItAt k2 s.heap i2 l2 n2) (ar:SqAt k1 s.heap l1 xs) (as:SqAt k2 s.heap l2 ys) (hx:xs[n1]? = some x) (hy:ys[n2]? = some y)
 (hQ : ∀h',IsZip h' z TI TO (rawInt s.heap.objs.size)->IsPair h' TO x y->ItAt k1 h' i1 l1 (n1+1)->ItAt k2 h' i2 l2 (n2+1)->IsPair h' s.heap.objs.size x y->h'.objs.size=s.heap.objs.size+1->
   (∀c o,c≠z->c≠TO->c≠i1->c≠i2->s.heap.get? c=some o->h'.get? c=some o)->Q (.ref s.heap.objs.size) {s with heap:=h'}) :
 wpAny (model prog w) A (Builtin.«zip.__next__» ⟨[.ref z],[]⟩) (λax s'=>∃v,ax = .done (.ret v)/\Q v s') E s:=by
 refine zcM (m:=field (.ref z) 2) (zdk hz rfl (x:= .bool false) rfl ?_);refine zcM (m:=field (.ref z) 3) (zdk hz rfl (x:= .ref TI) rfl ?_);refine zcM (zdO ap rfl ?_);refine zcM (m:=zdb (.ref z)) ?_;unfold zdb;refine zcM (zdk hz rfl (x:= .none) rfl (zcT ?_));simp only [if_true];refine zcM (zfi (zcM (zdk hz rfl (x:= .ref TO) rfl ?_)));refine zcM (zdG hz ⋯ λg1 ab O=>?_);replace ab:IsZip g1 z TI TO .ellipsis:=ab;refine zcM ?_;simp only [List.zipIdx_cons,List.zipIdx_nil,zeU,ze1];refine zcM (zcM (zfS ?_));refine zcM (m:=zc6 (.ref i1)) (xc (h1.at λo e=>O.extBut _ _ D.i1z e) (ar.at λo e=>O.extBut _ _ D.l1z e) hx λg2 b0 Y=>zcT ?_);have ai:IsPair g2 TO a b:=Y.extBut _ _ D.TOi1 (O.extBut _ _ D.TOz aq);refine zcM (zdO ai rfl (zcM (zfE ai λg3 ac a0=>?_)));replace ac:IsPair g3 TO x b:=ac;refine zcM (zfL (zcT (zcM (zcM (zfS ?_)))));refine zcM (m:=zc6 (.ref i2)) (xc (h2.at λo e=>a0.extBut _ _ D.TOi2.symm (Y.extBut _ _ D.i12.symm (O.extBut _ _ D.i2z e))) (as.at λo e=>a0.extBut _ _ D.l2TO (Y.extBut _ _ D.l2i1 (O.extBut _ _ D.l2z e))) hy λg4 b3 a2=>zcT ?_);have aj:IsPair g4 TO x b:=a2.extBut _ _ D.TOi2 ac;refine zcM (zdO aj rfl (zcM (zfE aj λI a7 a3=>?_)));replace a7:IsPair I TO x y:=a7;refine zcM (zfL (zcT (zcT (zcM (zdO a7 rfl (zcM (wpAny_newTuple ?_)))))));have hsz:I.objs.size=s.heap.objs.size:=by rw [a3.1,a2.1,a0.1,Y.1,O.1]
 have ak:IsZip I z TI TO .ellipsis:=a3.extBut _ _ D.TOz.symm (a2.extBut _ _ D.i2z.symm (a0.extBut _ _ D.TOz.symm (Y.extBut _ _ D.i1z.symm ab)));have b4 : ∀c o,c≠z->c≠TO->c≠i1->c≠i2->s.heap.get? c=some o->I.get? c=some o:=λc o U c2 c3 c4 e=>a3.extBut _ _ c2 (a2.extBut _ _ c4 (a0.extBut _ _ c2 (Y.extBut _ _ c3 (O.extBut _ _ U e))));have b5:ItAt k1 I i1 l1 (n1+1):=b0.at λo e=>a3.extBut _ _ D.TOi1.symm (a2.extBut _ _ D.i12 (a0.extBut _ _ D.TOi1.symm e));have b6:ItAt k2 I i2 l2 (n2+1):=b3.at λo e=>a3.extBut _ _ D.TOi2.symm e;have am:z<I.objs.size:=zcX ak;refine zcM (m:=zdU (.ref z) (.ref I.objs.size)) ?_;unfold zdU;have b7:IsZip (I.push {cls:= .type "tuple",data:= .seq #[x,y]}) z TI TO .ellipsis:=zcO _ ak;refine zcM (zdG b7 ⋯ λg7 af ag=>?_);replace af:IsZip g7 z TI TO (rawInt I.objs.size):=af;refine zdG af ⋯ λg8 a9 ah=>?_;replace a9:IsZip g8 z TI TO (rawInt I.objs.size):=a9;have up : ∀c o,c≠z->I.get? c=some o->g8.get? c=some o:=λc o U e=>ah.extBut _ _ U (ag.extBut _ _ U (zcO _ e));have an:IsPair g8 I.objs.size x y:=ah.extBut _ _ (zd0 am) (ag.extBut _ _ (zd0 am) (zc5 _ rfl));have ao:g8.objs.size=I.objs.size+1:=by rw [ah.1,ag.1,zdg]
 rw [hsz]at a9 an ao;refine zcT ⟨_,rfl,?_⟩;show Q (.ref I.objs.size) _;rw [hsz];exact hQ g8 a9 (up _ _ D.TOz a7) (b5.at λo e=>up _ o D.i1z e) (b6.at λo e=>up _ o D.i2z e) an ao λc o U c2 c3 c4 e=>up c o U (b4 c o U c2 c3 c4 e)
theorem ZV{k1 k2:Sk}{z TI TO i1 i2 l1 l2:Addr}{n1 n2:Nat}{xs ys:Array Value}{a b:Value}{Q:Fin->Shared->Prop}(hh:A.handled=none)(D:ZipApart z TI TO i1 i2 l1 l2)
 (hz:IsZip s.heap z TI TO .none) (ai:IsPair s.heap TI (.ref i1) (.ref i2)) (aj:IsPair s.heap TO a b)
 (h1:ItAt k1 s.heap i1 l1 n1) (h2:ItAt k2 s.heap i2 l2 n2) (aa:SqAt k1 s.heap l1 xs) (ak:SqAt k2 s.heap l2 ys) (am:xs[n1]? = none\/ys[n2]? = none)
 (hE : ∀h' e,(∀c o,c≠z->c≠TO->c≠i1->c≠i2->s.heap.get? c=some o->h'.get? c=some o)->(∃o,h'.get? e=some o/\o.cls = .type "StopIteration")->E (.ref e) {s with heap:=h'}) :
 wpAny (model prog w) A (Builtin.«zip.__next__» ⟨[.ref z],[]⟩) Q E s:=by
 refine zcM (m:=field (.ref z) 2) (zdk hz rfl (x:= .bool false) rfl ?_);refine zcM (m:=field (.ref z) 3) (zdk hz rfl (x:= .ref TI) rfl ?_);refine zcM (zdO ai rfl ?_);refine zcM (m:=zdb (.ref z)) ?_;unfold zdb;refine zcM (zdk hz rfl (x:= .none) rfl (zcT ?_));simp only [if_true];refine zcM (zfi (zcM (zdk hz rfl (x:= .ref TO) rfl ?_)));refine zcM (zdG hz ⋯ λg1 a3 y=>?_);replace a3:IsZip g1 z TI TO .ellipsis:=a3;refine zcM ?_;simp only [List.zipIdx_cons,List.zipIdx_nil,zeU,ze1];refine zcM (zcM (zfS ?_));have ab : ∀{g e:_} {Y:Obj},IsZip g z TI TO .ellipsis->(∀c o,c≠z->c≠TO->c≠i1->c≠i2->s.heap.get? c=some o->g.get? c=some o)->g.get? e=some Y->Y.cls = .type "StopIteration"->
  wpAny (model prog w) A (setField (.ref z) 0 .none) (λ_ s'=>E (.ref e) s') E {s with heap:=g}:=λ{g e Y} ac hk O a0=>by
  have aq:e≠z:=λq=>by subst q;rw [ac]at O;cases O;simp at a0
  exact zdG ac ⋯ λg3 _ U=>hE g3 e (λc o c1 c2 c3 c4 q=>U.extBut _ _ c1 (hk c o c1 c2 c3 c4 q)) ⟨Y,U.extBut _ _ aq O,a0⟩
 cases hx:xs[n1]? with
 | none=>
  refine zcM (m:=zc6 (.ref i1)) (kW hh (h1.at λo e=>y.extBut _ _ D.i1z e) (aa.at λo e=>y.extBut _ _ D.l1z e) hx λg2 e I he=>?_);obtain⟨Y,O,a0⟩:=he;exact ab (I _ _ D.i1z.symm a3) (λc o c1 _ c3 _ q=>I _ _ c3 (y.extBut _ _ c1 q)) O a0
 | some x=>
  have hy:ys[n2]? = none:=by rcases am with h | h;rw [hx]at h;cases h;exact h
  refine zcM (m:=zc6 (.ref i1)) (xc (h1.at λo e=>y.extBut _ _ D.i1z e) (aa.at λo e=>y.extBut _ _ D.l1z e) hx λg2 as I=>zcT ?_);have ag:IsPair g2 TO a b:=I.extBut _ _ D.TOi1 (y.extBut _ _ D.TOz aj);refine zcM (zdO ag rfl (zcM (zfE ag λg3 au U=>?_)));refine zcM (zfL (zcT (zcM (zcM (zfS ?_)))));refine zcM (m:=zc6 (.ref i2)) (kW hh (h2.at λo e=>U.extBut _ _ D.TOi2.symm (I.extBut _ _ D.i12.symm (y.extBut _ _ D.i2z e))) (ak.at λo e=>U.extBut _ _ D.l2TO (I.extBut _ _ D.l2i1 (y.extBut _ _ D.l2z e))) hy λg4 e ah he=>?_);obtain⟨Y,O,a0⟩:=he;exact ab (ah _ _ D.i2z.symm (U.extBut _ _ D.TOz.symm (I.extBut _ _ D.i1z.symm a3))) (λc o c1 c2 c3 c4 q=>ah _ _ c4 (U.extBut _ _ c2 (I.extBut _ _ c3 (y.extBut _ _ c1 q)))) O a0
end
def q9(a b:Value):Obj:={cls:= .type "tuple",data:= .seq #[a,b]}
def zap(TI TO:Addr):Obj:={cls:= .type "zip",data:= .fields #[.none,.bool false,.bool false,.ref TI,.ref TO]}
def xQ(k1 k2:Sk)(h:Heap)(y l2:Addr):Heap:=
 zdc (zdc (zdc (zdc (zdc h (itO k1 y)) (itO k2 l2)) (q9 (.ref h.objs.size) (.ref (h.objs.size+1)))) (q9 .none .none)) (zap (h.objs.size+2) (h.objs.size+3))
theorem ZU(k1 k2:Sk)(y l2:Addr)(xs ys:Array Value) :
 Meets (Builtin.«zip.__new__» ⟨[.type "zip",.ref y,.ref l2],[]⟩) (λ_ R s=>SqAt k1 s.heap y xs/\SqAt k2 s.heap l2 ys/\
  R (.ok (.ret (.ref (s.heap.objs.size+4)))) {s with heap:=xQ k1 k2 s.heap y l2}):=
 .of_wp λprog w A R s h=>by
  obtain⟨I,g,d,tk,os⟩:=s;obtain⟨O,U,h⟩:=h;have a1:=sub_zip;have Y:SqAt k1 (Shared.heap ⟨I,g,d,tk,os⟩) y xs:=O;have a0:SqAt k2 (Shared.heap ⟨I.push (itO k1 y),g,d,tk,os⟩) l2 ys:=U.at λo e=>zcO _ e
  wp_walk using wZ Y,wZ a0
  refine⟨_,rfl,?_⟩;simp only [xQ,q9,zap,zdg]at h ⊢;exact h
section
variable{X:Cx}{pins:List (Addr×Obj)}{σ:St}{H:Hp}{s:Shared}{h':Heap}
theorem Inv.turnLaid{t':Nat}{fp:List Addr}{a:Addr}{o:HO}(I:Inv X pins σ H s)(k : ∀b u,b∉fp->s.heap.get? b=some u->h'.get? b=some u)(U : ∀b∈fp,FpOk X pins H b)
 (hp:s.heap.objs.size<=a) (new:ObjOk X.prog X.w (upd H a o) h' a o):Inv X pins σ (upd H a o) {s with heap:=h',toks:=t'}:=by
 have ha:H a=none:=I.hok.fresh hp;have a1 : ∀b u,H b=some u->b∉fp:=λb u e z=>by rw [(U b z).1]at e;cases e
 have a2 : ∀b u,s.heap.get? b=some u->b≠a:=λb u e=>zda (zc8 (zcX e) hp);refine I.step (g':=s.gens) (d':=s.drawn) (ch:=fp) (λb y=>⟨(U b y).2.2.2.1,(U b y).2.1,(U b y).2.2.2.2.1,(U b y).2.2.2.2.2⟩) (λb u _ _ O e _=>k b u O e) (λb u _ _ O e _=>⟨u.slots,k b u O e⟩)
  (λb u _ e n=>by rw [zS (a2 b u e)];exact n) (λb u O e=>⟨u,k b u O e⟩) (λb xs e=>by rw [zS (jZ e ha)];exact e) (λb Y xs e=>by rw [zS (jZ e ha)];exact e)
  (λb ps e=>⟨#[],by rw [zS (jZ e ha),e];simp⟩) (λm hm=>?_) (λb u e=>?_) I.bare
 ·obtain⟨Y,es,ep,ho,r⟩:=hm
  refine⟨Y,es,ep,k _ Y (λz=>(U _ z).2.1 rfl) ho,r⟩
 ·by_cases y:b=a
  ·subst y;rw [zR]at e;cases e;exact new
  ·rw [zS y]at e
   refine(I.hok b u e).stay (λc v O q=>k c v ?_ q) (λc q=>by rw [zS (jZ q ha)];exact q) λc xs q=>by rw [zS (jZ q ha)];exact q
   rcases O with z | z
   ·rw [z];exact a1 b u e
   ·exact a1 c _ z
theorem Inv.turnedL{t':Nat}{fp:List Addr}(I:Inv X pins σ H s)(k : ∀b u,b∉fp->s.heap.get? b=some u->h'.get? b=some u)(O : ∀b∈fp,FpOk X pins H b):Inv X pins σ H {s with heap:=h',toks:=t'}:=by
 have a0 : ∀b u,H b=some u->b∉fp:=λb u e z=>by rw [(O b z).1]at e;cases e
 refine I.step (g':=s.gens) (d':=s.drawn) (ch:=fp) (λb U=>⟨(O b U).2.2.2.1,(O b U).2.1,(O b U).2.2.2.2.1,(O b U).2.2.2.2.2⟩) (λb u _ _ y e _=>k b u y e) (λb u _ _ y e _=>⟨u.slots,k b u y e⟩)
  (λb u _ e n=>n) (λb u y e=>⟨u,k b u y e⟩) (λb xs e=>e) (λb Y xs e=>e)
  (λb ps e=>⟨#[],by rw [e];simp⟩) (λm hm=>?_) (λb u e=>?_) I.bare
 ·obtain⟨Y,es,ep,ho,r⟩:=hm
  refine⟨Y,es,ep,k _ Y (λz=>(O _ z).2.1 rfl) ho,r⟩
 ·refine(I.hok b u e).stay (λc v y q=>k c v ?_ q) (λc q=>q) λc xs q=>q
  rcases y with z | z
  ·rw [z];exact a0 b u e
  ·exact a0 c _ z
end
def SqK(k:Sk)(K:PySem.W.Frag)(H:Hp)(a:Addr)(xs:List V):Prop:=match k with
 | .L=>SqL K H a xs
 | .T=>SqT K H a xs
theorem Inv.sq{X:Cx}{pins:List (Addr×Obj)}{σ:St}{H:Hp}{s:Shared}{k:Sk}{a:Addr}{xs:List V}(I:Inv X pins σ H s)(h:SqK k X.K H a xs) :
 ∃its:List Value,Vals xs its/\SqAt k s.heap a its.toArray/\xs.length<=sizeLine:=by
 cases k with
 | L=>obtain⟨its,r,p,z⟩:=I.list h;exact⟨its,r,p.isList,z⟩
 | T=>obtain⟨its,r,p,z⟩:=I.tuple h;exact⟨its,r,p,z⟩
theorem Inv.sq_inj{X:Cx}{pins:List (Addr×Obj)}{σ:St}{H:Hp}{s:Shared}{k:Sk}{a:Addr}{xs ys:List V}(I:Inv X pins σ H s)(h:SqK k X.K H a xs)(h':SqK k X.K H a ys):xs=ys:=by
 cases k with
 | L=>exact I.list_inj h h'
 | T=>exact I.tuple_inj h h'
def Itz(k1 k2:Sk)(K:PySem.W.Frag)(a b:Addr):It:=
 ⟨λi H=>∃xs ys,SqK k1 K H a xs/\SqK k2 K H b ys/\i<xs.length/\i<ys.length,
  λi H x H'=>∃p u v,x = .ref p/\H p=none/\H'=upd H p (.tup [u,v])/\(∀xs,SqK k1 K H a xs->xs[i]? = some u)/\(∀ys,SqK k2 K H b ys->ys[i]? = some v),
  λi H=>∃xs ys,SqK k1 K H a xs/\SqK k2 K H b ys/\(xs.length<=i\/ys.length<=i)⟩
theorem Xv{P:Program}{w:World}{K:PySem.W.Frag}{elts:List Expr}{x1:Nat}{tpos:Pos}(k1 k2:Sk){z TI TO i1 i2 a b:Addr}(D:ZipApart z TI TO i1 i2 a b) :
 Turn P w K (.Tuple elts x1 tpos) (Itz k1 k2 K a b) [z,TI,TO,i1,i2] z (λi h=>IsZip h z TI TO .none/\IsPair h TI (.ref i1) (.ref i2)/\(∃c d,IsPair h TO c d)/\ItAt k1 h i1 a i/\ItAt k2 h i2 b i) where
 mem:=by simp
 obj:=λi h ⟨hz,Y,⟨c,d,a0⟩,h1,h2⟩ y hy=>by
  simp only [zcY,zc3,or_false]at hy;rcases hy with rfl | rfl | rfl | rfl | rfl
  ·exact⟨_,hz,λv q=>by cases q⟩
  ·exact⟨_,Y,λv q=>by cases q⟩
  ·exact⟨_,a0,λv q=>by cases q⟩
  ·exact h1.obj
  ·exact h2.obj
 keep:=λi h h' ⟨hz,Y,⟨c,d,a0⟩,h1,h2⟩ k=>
  ⟨k z ⋯ _ hz,k TI ⋯ _ Y,⟨c,d,k TO ⋯ _ a0⟩,h1.at λo e=>k i1 ⋯ o e,h2.at λo e=>k i2 ⋯ o e⟩
 item:=by
  rintro X hP hw hK hc i pins s σ H E I hf ⟨hz,Y,⟨c,d,a0⟩,h1,h2⟩ ⟨xs,ys,ac,ae,as,au⟩;subst hP hw hK;obtain⟨av,ah,p1,z1⟩:=I.sq ac;obtain⟨ax,aj,p2,z2⟩:=I.sq ae;have hx:xs[i]? = some xs[i]:=zc7 as;have hy:ys[i]? = some ys[i]:=zc7 au;obtain⟨u1,az,b0⟩:=ah.get hx;obtain⟨u2,b1,b2⟩:=aj.get hy;have hT:s.TypeIs (.ref z) "zip":=⟨_,hz,rfl⟩;unfold pyNext;refine zcM (zd1 (zde (name:=zdC "__next__") hT zdt (zds zdt hT zee
   (wv D hz Y a0 h1 h2 p1 p2 (x:=u1) (y:=u2) (by simpa using az) (by simpa using b1) λg a1 a2 a3 a4 a5 a6 a7=>zcT ⟨_,rfl,?_⟩) (zd9 _))))
  refine wpAny_letOwnedTupleGo_zip a1 λg2 b8 a8=>?_;have lt : ∀{c o},s.heap.get? c=some o->s.heap.objs.size≠c:=λe=>zd0 (zcX e);have b9:IsPair g2 s.heap.objs.size u1 u2:=a8.extBut _ _ (lt hz) a5;have kk : ∀U u,U ∉ [z,TI,TO,i1,i2]->s.heap.get? U=some u->g2.get? U=some u:=λU u O e=>by
   simp only [zcY,zc3,or_false,not_or]at O;exact a8.extBut _ _ O.1 (a7 U u O.1 O.2.2.1 O.2.2.2.1 O.2.2.2.2 e)
  have I1:Inv X pins σ (upd H s.heap.objs.size (.tup [xs[i],ys[i]])) {s with heap:=g2,toks:=s.toks}:=
   I.turnLaid (fp:=[z,TI,TO,i1,i2]) kk hf (zcZ _) ⟨by show 2<=sizeLine;decide,[u1,u2],.cons b0 (.cons b2 .nil),⟨_,b9,rfl,_,rfl⟩⟩
  have bc:H s.heap.objs.size=none:=I.fresh;refine⟨.ref s.heap.objs.size,_,I1,rfl,⟨_,_,_,rfl,bc,rfl,λbj ao=>by rw [I.sq_inj ao ac];exact hx,λbl ao=>by rw [I.sq_inj ao ae];exact hy⟩,?_,λU O=>?_⟩
  ·exact⟨b8,a8.extBut _ _ D.TIz (a7 _ _ D.TIz D.TITO D.TIi1 D.TIi2 Y),⟨_,_,a8.extBut _ _ D.TOz a2⟩,a3.at λo e=>a8.extBut _ _ D.i1z e,a4.at λo e=>a8.extBut _ _ D.i2z e⟩
  ·have bd:U≠s.heap.objs.size:=by
    simp only [zcY,zc3,or_false]at O;rcases O with rfl | rfl | rfl | rfl | rfl
    ·exact(lt hz).symm
    ·exact(lt Y).symm
    ·exact(lt a0).symm
    ·obtain⟨o,e,_⟩:=h1.obj;exact(lt e).symm
    ·obtain⟨o,e,_⟩:=h2.obj;exact(lt e).symm
   rw [zS bd];exact(hf U O).1
 done:=by
  rintro X hP hw hK hc i pins s σ H E I hf ⟨hz,Y,⟨c,d,a0⟩,h1,h2⟩ ⟨xs,ys,ac,ae,hi⟩;subst hP hw hK;obtain⟨av,ah,p1,z1⟩:=I.sq ac;obtain⟨ax,aj,p2,z2⟩:=I.sq ae;have hT:s.TypeIs (.ref z) "zip":=⟨_,hz,rfl⟩;have l1:=ah.length;have l2:=aj.length;unfold pyNext;refine zcM (zd1 (zde (name:=zdC "__next__") hT zdt (zds zdt hT zee
   (ZV (show X.A.handled=none from I.ok.hd hc) D hz Y a0 h1 h2 p1 p2 (by rcases hi with q | q;left;simp;omega;right;simp;omega) λg e hk he=>?_) (zd9 _))))
  obtain⟨o,ho,bh⟩:=he;refine zcM (zfs (T:="StopIteration") (b:=true) ⟨o,ho,bh⟩ zfJ (zcT ⟨rfl,?_⟩));refine I.turnedL (t':=s.toks) (fp:=[z,TI,TO,i1,i2]) (λU u O e=>?_) hf;simp only [zcY,zc3,or_false,not_or]at O;exact hk U u O.1 O.2.2.1 O.2.2.2.1 O.2.2.2.2 e
 self:=λ_ _ _ _ _ st h=>zfX st.1 h
def zct(K:PySem.W.Frag)(ta:TA):TI:=λσ H R=>ta σ H λvs H1=>∃k1 k2 a b,vs=[.ref a,.ref b]/\(∃xs,SqK k1 K H1 a xs)/\(∃ys,SqK k2 K H1 b ys)/\R (Itz k1 k2 K a b) H1
theorem Wz{X:Cx}{e1 e2:Expr}{ta:TA}{p pos:Pos}{elts:List Expr}{x1:Nat}{tpos:Pos}(hg:Gl X "zip")(hm:X.mg "zip" = none)(ha:PA X [e1,e2] ta)
 (hv:bootBuiltins "zip" = some (.type "zip")) (hs:starEach [e1,e2] X.env=[(false,eval e1 X.env),(false,eval e2 X.env)]:=by rfl) (a0:starEach [e2] X.env=[(false,eval e2 X.env)]:=by rfl) :
 PI X (.Tuple elts x1 tpos) (.Call (.Name "zip" p) [e1,e2] [] pos) (zct X.K ta):=by
 intro pins s σ H R I h;refine Call_ (xK I hg hm hv (zdl (thn (ha pos pins s σ H _ I h) λus s1 hZ=>?_) (by rw [hs,a0]) (by rw [a0];rfl)));obtain⟨vs,H1,y,r1,q1⟩:=hZ;obtain⟨k1,k2,a,b,e,⟨xs,ac⟩,⟨ys,ae⟩,q⟩:=q1;subst e;obtain⟨w1,w2,eu,ag,ah⟩:=Ym r1;subst eu;cases ag;cases ah;obtain⟨ai,aw,p1,z1⟩:=y.sq ac;obtain⟨aj,ay,p2,z2⟩:=y.sq ae;have la:=p1.lt;have lb:=p2.lt;refine callType_new F.called_zip ⋯ (F.typeCall_zip_2 _ _) (F.newCall_zip_2 _ _) (λobj=>F.args_object_init_3 obj _ _) F.entry_zip_new (ZU k1 k2 a b ai.toArray aj.toArray) ⟨p1,p2,?_⟩;have keep : ∀c o,s1.heap.get? c=some o->(xQ k1 k2 s1.heap a b).get? c=some o:=λc o e=>
  zcO _ (zcO _ (zcO _ (zcO _ (zcO _ e))))
 have y1:(zdc s1.heap (itO k1 a)).objs.size=s1.heap.objs.size+1:=zdg ..;have y2:(zdc (zdc s1.heap (itO k1 a)) (itO k2 b)).objs.size=s1.heap.objs.size+2:=by rw [zdg,y1]
 have y3:(zdc (zdc (zdc s1.heap (itO k1 a)) (itO k2 b)) (q9 (.ref s1.heap.objs.size) (.ref (s1.heap.objs.size+1)))).objs.size=s1.heap.objs.size+3:=by rw [zdg,y2]
 have y4:(zdc (zdc (zdc (zdc s1.heap (itO k1 a)) (itO k2 b)) (q9 (.ref s1.heap.objs.size) (.ref (s1.heap.objs.size+1)))) (q9 .none .none)).objs.size=s1.heap.objs.size+4:=by rw [zdg,y3]
 have g0:ItAt k1 (xQ k1 k2 s1.heap a b) s1.heap.objs.size a 0:=(yn k1 s1.heap a).at λo e=>zcO _ (zcO _ (zcO _ (zcO _ e)));have g1:ItAt k2 (xQ k1 k2 s1.heap a b) (s1.heap.objs.size+1) b 0:=by
  have q:=yn k2 (zdc s1.heap (itO k1 a)) b;rw [y1]at q;exact q.at λo e=>zcO _ (zcO _ (zcO _ e))
 have g2:IsPair (xQ k1 k2 s1.heap a b) (s1.heap.objs.size+2) (.ref s1.heap.objs.size) (.ref (s1.heap.objs.size+1)):=by
  have q:_=some (q9 (.ref s1.heap.objs.size) (.ref (s1.heap.objs.size+1))):=zc5 (zdc (zdc s1.heap (itO k1 a)) (itO k2 b)) (o:=q9 (.ref s1.heap.objs.size) (.ref (s1.heap.objs.size+1))) rfl;rw [y2]at q;exact zcO _ (zcO _ q)
 have g3:IsPair (xQ k1 k2 s1.heap a b) (s1.heap.objs.size+3) .none .none:=by
  have q:_=some (q9 .none .none):=zc5 (zdc (zdc (zdc s1.heap (itO k1 a)) (itO k2 b)) (q9 (.ref s1.heap.objs.size) (.ref (s1.heap.objs.size+1)))) (o:=q9 .none .none) rfl;rw [y3]at q;exact zcO _ q
 have Y:IsZip (xQ k1 k2 s1.heap a b) (s1.heap.objs.size+4) (s1.heap.objs.size+2) (s1.heap.objs.size+3) .none:=by
  have q:=zc5 (zdc (zdc (zdc (zdc s1.heap (itO k1 a)) (itO k2 b)) (q9 (.ref s1.heap.objs.size) (.ref (s1.heap.objs.size+1)))) (q9 .none .none)) (o:=zap (s1.heap.objs.size+2) (s1.heap.objs.size+3)) rfl;rw [y4]at q;exact q
 refine⟨⟨_,Y,rfl⟩,zfX (s:={s1 with heap:=xQ k1 k2 s1.heap a b}) Y ?_⟩;have I2:Inv X pins σ H1 {s1 with heap:=xQ k1 k2 s1.heap a b,toks:=s1.toks}:=y.kept keep;have nn : ∀m:Nat,s1.heap.objs.size≠s1.heap.objs.size+m+1:=λm=>by omega
 have O : ∀m:Nat,a≠s1.heap.objs.size+m:=λm=>zda (zc8 la (zdj _ m));have U : ∀m:Nat,b≠s1.heap.objs.size+m:=λm=>zda (zc8 lb (zdj _ m));have ne : ∀m n:Nat,m≠n->(s1.heap.objs.size+m:Nat)≠s1.heap.objs.size+n:=λm n h=>by omega
 have D:ZipApart (s1.heap.objs.size+4) (s1.heap.objs.size+2) (s1.heap.objs.size+3) s1.heap.objs.size (s1.heap.objs.size+1) a b:=
  ⟨ne 2 4 ⋯,ne 3 4 ⋯,ne 0 4 ⋯,ne 1 4 ⋯,ne 2 3 ⋯,ne 2 0 ⋯,ne 2 1 ⋯,ne 3 0 ⋯,ne 3 1 ⋯,ne 0 1 ⋯,
   O 4,O 3,O 0,O 1,U 4,U 3,U 0,U 1⟩
 refine⟨_,[s1.heap.objs.size+4,s1.heap.objs.size+2,s1.heap.objs.size+3,s1.heap.objs.size,s1.heap.objs.size+1],_,_,H1,rfl,I2,Xv k1 k2 D,⟨Y,g2,⟨_,_,g3⟩,g0,g1⟩,λc hc=>?_,q⟩;have a6:s1.heap.objs.size<=c:=by
  simp only [zcY,zc3,or_false]at hc;rcases hc with rfl | rfl | rfl | rfl | rfl
  ·exact zdj _ _
  ·exact zdj _ _
  ·exact zdj _ _
  ·exact zcZ _
  ·exact zdj _ _
 exact y.fpOk a6 (y.hok.fresh a6)
def Itk(k:Sk)(K:PySem.W.Frag)(a:Addr):It:=match k with
 | .L=>Itl K a
 | .T=>Itt K a
def zcu(K:PySem.W.Frag)(tl:TE):TI:=λσ H R=>tl σ H λx H1=>∃a k,x = .ref a/\(∃xs,SqK k K H1 a xs)/\R (Itk k K a) H1
theorem KW{X:Cx}{tg l:Expr}{tl:TE}(U:PE X l tl):PI X tg l (zcu X.K tl):=by
 intro pins s σ H R I h;refine thn (U pins s σ H _ I h) λv s1 Y=>?_;obtain⟨x,H1,y,r1,q1⟩:=Y;obtain⟨a,k,e,⟨xs,hq⟩,q⟩:=q1;subst e;cases r1;have O : ∀b ∈ [s1.heap.objs.size],FpOk X pins H1 b:=λb hb=>by
  have e:b=s1.heap.objs.size:=by simpa using hb
  subst e;exact y.fpOk (zcZ _) (y.hok.fresh (zcZ _))
 obtain⟨its,rv,p,hz⟩:=y.sq hq;cases k with
 | L=>exact wpAny_pyIter_list p ⟨s1.heap.objs.size,[s1.heap.objs.size],_,_,H1,rfl,y.kept (t':=s1.toks) λb o e=>zcO _ e,J6 a _,⟨_,zc5 _ rfl,rfl,rfl⟩,O,q⟩
 | T=>exact zfe p ⟨s1.heap.objs.size,[s1.heap.objs.size],_,_,H1,rfl,y.kept (t':=s1.toks) λb o e=>zcO _ e,Ju a _,⟨_,zc5 _ rfl,rfl,rfl⟩,O,q⟩
end L2
namespace DL
open PySem PySem.Spec PyProof.Rows L2
def Zr(al:Addr)(b:Bool)(TI TO:Addr):Obj:={cls:= .type "zip",dict:=none,data:= .fields #[rawInt al,.bool b,.bool false,.ref TI,.ref TO],slots:=#[]}
section
variable{prog:Program}{w:World}{A:Around}{E:Value->Shared->Prop}{s:Shared}
theorem ww{z al TI TO:Addr}{b:Bool}{I:Obj}{Q:Bool->Shared->Prop}(hz:s.heap.get? z=some (Zr al b TI TO))(ha:s.heap.get? al=some I)
 (y : ∀h',h'.get? z=some (Zr al true TI TO)->zeL z s.heap h'->Q false {s with heap:=h'}):wpAny (model prog w) A (zdb (.ref z)) Q E s:=by
 unfold zdb;refine zcM (zdk hz rfl (x:=rawInt al) rfl ?_);show wpAny _ _ (loadIfAlive ((al:Int).toNat) >>= _) _ _ _;rw [zdf];refine zcM (PySem.W.kdx_alive ha ?_);simp only [Option.isNone_some,zeo,if_false];refine zcM (zdk hz rfl (x:= .bool b) rfl ?_);cases b with
 | true=>
  rw [if_neg ⋯];exact zcT (y _ hz ⟨rfl,λ_ _=>rfl⟩)
 | false=>
  rw [if_pos ⋯];refine zcM (zdG hz ⋯ λg O hs=>?_);exact zcT (y g O hs)
theorem J3{k1 k2:Sk}{z TI TO i1 i2 Y l2 al:Addr}{b:Bool}{oa:Obj}{n1 n2:Nat}{xs ys:Array Value}{x y:Value}{Q:Value->Shared->Prop}(D:ZipApart z TI TO i1 i2 Y l2)
 (hz:s.heap.get? z=some (Zr al b TI TO)) (ha:s.heap.get? al=some oa) (a5:IsPair s.heap TI (.ref i1) (.ref i2))
 (h1:ItAt k1 s.heap i1 Y n1) (h2:ItAt k2 s.heap i2 l2 n2) (a6:SqAt k1 s.heap Y xs) (a7:SqAt k2 s.heap l2 ys) (hx:xs[n1]? = some x) (hy:ys[n2]? = some y)
 (hQ : ∀h',h'.get? z=some (Zr al true TI TO)->ItAt k1 h' i1 Y (n1+1)->ItAt k2 h' i2 l2 (n2+1)->IsPair h' s.heap.objs.size x y->h'.objs.size=s.heap.objs.size+1->
   (∀c o,c≠z->c≠i1->c≠i2->s.heap.get? c=some o->h'.get? c=some o)->Q (.ref s.heap.objs.size) {s with heap:=h'}) :
 wpAny (model prog w) A (Builtin.«zip.__next__» ⟨[.ref z],[]⟩) (λab s'=>∃v,ab = .done (.ret v)/\Q v s') E s:=by
 refine zcM (m:=field (.ref z) 2) (zdk hz rfl (x:= .bool false) rfl ?_);refine zcM (m:=field (.ref z) 3) (zdk hz rfl (x:= .ref TI) rfl ?_);refine zcM (zdO a5 rfl ?_);refine zcM (m:=zdb (.ref z)) (ww hz ha λg1 ac I=>?_);simp only [zeo,if_false];rw [show(#[zdu i1,zdu i2]:Array Value)=[zdu i1,zdu i2].toArray from rfl,List.forIn_toArray];simp only [zeU,ze1];refine zcM (zcM (zcM ?_));refine zcM (m:=zc6 (.ref i1)) (xc (h1.at λo e=>I.extBut _ _ D.i1z e) (a6.at λo e=>I.extBut _ _ D.l1z e) hx λg2 ae U=>zcT ?_);refine zcT (zcM (zcM (zd8 ?_)));refine zcM (m:=zc6 (.ref i2)) (xc (h2.at λo e=>U.extBut _ _ D.i12.symm (I.extBut _ _ D.i2z e)) (a7.at λo e=>U.extBut _ _ D.l2i1 (I.extBut _ _ D.l2z e)) hy λO af a0=>zcT ?_);refine zcT (zcT ?_);have hsz:O.objs.size=s.heap.objs.size:=by rw [a0.1,U.1,I.1]
 refine zcM (wpAny_newTuple (hsz:=by show 2<=sizeLine;decide) ?_);refine zcT ⟨_,rfl,?_⟩;show Q (.ref O.objs.size) _;rw [hsz];have up : ∀c o,O.get? c=some o->(O.push {cls:= .type "tuple",data:= .seq #[x,y]}).get? c=some o:=λc o e=>zcO _ e;have ag:O.get? z=some (Zr al true TI TO):=a0.extBut _ _ D.i2z.symm (U.extBut _ _ D.i1z.symm ac);refine hQ _ (up _ _ ag) ((ae.at λo e=>up _ o (a0.extBut _ _ D.i12 e))) (af.at λo e=>up _ o e) ?_ ?_ λc o c1 c2 c3 e=>up c o (a0.extBut _ _ c3 (U.extBut _ _ c2 (I.extBut _ _ c1 e)))
 ·have:=zc5 O (o:={cls:= .type "tuple",data:= .seq #[x,y]}) rfl
  rw [hsz]at this;exact this
 ·rw [zdg,hsz]
theorem Xr{k1 k2:Sk}{z TI TO i1 i2 O l2 al:Addr}{b:Bool}{oa:Obj}{U Y:Nat}{xs ys:Array Value}{Q:Fin->Shared->Prop}(hh:A.handled=none)(D:ZipApart z TI TO i1 i2 O l2)
 (hz:s.heap.get? z=some (Zr al b TI TO)) (ha:s.heap.get? al=some oa) (a8:IsPair s.heap TI (.ref i1) (.ref i2))
 (h1:ItAt k1 s.heap i1 O U) (h2:ItAt k2 s.heap i2 l2 Y) (a4:SqAt k1 s.heap O xs) (a9:SqAt k2 s.heap l2 ys) (aa:xs[U]? = none\/ys[Y]? = none)
 (hE : ∀h' e,(∀c o,c≠z->c≠i1->c≠i2->s.heap.get? c=some o->h'.get? c=some o)->(∃o,h'.get? e=some o/\o.cls = .type "StopIteration")->E (.ref e) {s with heap:=h'}) :
 wpAny (model prog w) A (Builtin.«zip.__next__» ⟨[.ref z],[]⟩) Q E s:=by
 refine zcM (m:=field (.ref z) 2) (zdk hz rfl (x:= .bool false) rfl ?_);refine zcM (m:=field (.ref z) 3) (zdk hz rfl (x:= .ref TI) rfl ?_);refine zcM (zdO a8 rfl ?_);refine zcM (m:=zdb (.ref z)) (ww hz ha λg1 ah y=>?_);simp only [zeo,if_false];rw [show(#[zdu i1,zdu i2]:Array Value)=[zdu i1,zdu i2].toArray from rfl,List.forIn_toArray];simp only [zeU,ze1];refine zcM (zcM (zcM ?_));cases hx:xs[U]? with
 | none=>
  refine zcM (m:=zc6 (.ref i1)) (kW hh (h1.at λo e=>y.extBut _ _ D.i1z e) (a4.at λo e=>y.extBut _ _ D.l1z e) hx λg2 e I he=>?_);exact hE g2 e (λc o c1 c2 _ q=>I _ _ c2 (y.extBut _ _ c1 q)) he
 | some x=>
  have hy:ys[Y]? = none:=by rcases aa with h | h;rw [hx]at h;cases h;exact h
  refine zcM (m:=zc6 (.ref i1)) (xc (h1.at λo e=>y.extBut _ _ D.i1z e) (a4.at λo e=>y.extBut _ _ D.l1z e) hx λg2 ai I=>zcT ?_);refine zcT (zcM (zcM (zd8 ?_)));refine zcM (m:=zc6 (.ref i2)) (kW hh (h2.at λo e=>I.extBut _ _ D.i12.symm (y.extBut _ _ D.i2z e)) (a9.at λo e=>I.extBut _ _ D.l2i1 (y.extBut _ _ D.l2z e)) hy λg3 e ae he=>?_);exact hE g3 e (λc o c1 c2 c3 q=>ae _ _ c3 (I.extBut _ _ c2 (y.extBut _ _ c1 q))) he
end
def xNames:List Str:=["NoPrime","Nought","NoTable","NoWidths","NoRow","Unlike","TooMany","NoTurn","NoLine","Nothing","NoArrow","NoText","NoRoom"]
def xCls(K:PySem.W.Frag)(c:Str):Option Addr:=match zff K mainGlobals c with
 | some (some (.ref C))=>some C
 | _=>none
def Yh(K:PySem.W.Frag)(C:Addr):Bool:=
 ["int","bool","str","tuple","list"].all (λt=>zd4 K (.ref C) (.type t)==some false) && zd4 K (.ref C) (.type "ValueError")==some true &&
 PySem.W.findIn K (.ref C) "__getattribute__" == some (some (.builtin "BaseException.__getattribute__")) && PySem.W.findIn K (.ref C) "__getattr__" == some none &&
 PySem.W.findIn K (.ref C) "__class__" == some (some (.builtin "object.__class__")) && PySem.W.mroIn K C (.type "object")==some true && PySem.W.mroIn K C (.type "BaseException")==some true &&
 PySem.W.specialIn K (.builtin "object.__class__") "__get__" == some (some (.builtin "getset_descriptor.__get__")) && PySem.W.takesIn K (.builtin "object.__class__")==some true &&
 (PySem.W.clsIn K C).any (λy=> !y.hasDel) && zfj K (.ref C)==some (.type "type")
def xAll(K:PySem.W.Frag):Bool:=match xCls K "SplitError" with
 | some S=>xNames.all λc=>match xCls K c with
  | some C=>Yh K C && zd4 K (.ref C) (.ref S)==some true && xNames.all λy=>match xCls K y with
   | some I=>zd4 K (.ref C) (.ref I)==some (c==y)
   | none=>false
  | none=>false
 | none=>false
def XObj(h:Heap)(a:Addr)(C:Addr):Prop:=∃o vs,h.get? a=some o/\o.cls = .ref C/\o.data = .fields vs
structure XRep(K:PySem.W.Frag)(H:Hp)(c:Str)(n:Option Int)(a:Addr):Prop where
 all:xAll K=true
 mem:c∈xNames
 ex : ∃C φ,xCls K c=some C/\H a=some (.ext φ)/\(∀h,φ h->XObj h a C)/\
  match n with
  | none=>True
  | some i=>∃d,(∀h,φ h->∃o,h.get? a=some o/\o.dict=some d)/\H d=some (.xd [(if c==("NoRoom" : Str)then "room" else "at",.int i)])
theorem XRep.mono{K:PySem.W.Frag}{H H':Hp}{c:Str}{n:Option Int}{a:Addr}(e : ∀b o,H b=some o->H' b=some o)(h:XRep K H c n a):XRep K H' c n a:=by
 obtain⟨h1,h2,C,φ,I,O,U,y⟩:=h;refine⟨h1,h2,C,φ,I,e _ _ O,U,?_⟩;cases n with
 | none=>exact y
 | some i=>obtain⟨d,Y,f2⟩:=y;exact⟨d,Y,e _ _ f2⟩
theorem Yg{K:PySem.W.Frag}{c:Str}{C:Addr}(h:xAll K=true)(O:c∈xNames)(e:xCls K c=some C) : ∃S,xCls K "SplitError" = some S/\Yh K C=true/\zd4 K (.ref C) (.ref S)=some true/\
 ∀y I,y∈xNames->xCls K y=some I->zd4 K (.ref C) (.ref I)=some (c==y):=by
 unfold xAll at h;split at h
 ·rename_i S U
  have h1:=zdr.mp h c O;rw [e]at h1;simp only [Bool.and_eq_true,beq_iff_eq]at h1;refine⟨S,U,h1.1.1,h1.1.2,λy I Y e'=>?_⟩;have h2:=zdr.mp h1.2 y Y;rw [e']at h2;exact beq_iff_eq.mp h2
 ·cases h
abbrev St:=L2.St
def zbg:D->Option Key
 | .int i=>some (.inl i)
 | .str x=>some (.inr x)
 | _=>none
def K2:List D->Option (List Key)
 | []=>some []
 | d::ds=>(zbg d).bind λk=>(K2 ds).map λr=>k::r
def DRp(H:Hp)(a:Addr)(ks:List D)(xs:List V):Prop:=∃y,K2 ks=some y/\y.length=xs.length/\H a=some (.dK (y.zip xs))
def zaO(k:List Int):Int:=reduceHash (Builtin.Tuple.tupleHashOf (k.map hashInt))
def zcF(o:Obj)(xs:List (List Int×Addr×Value)):Prop:=o.ExactDict/\∃es y,o.data = .dict es y/\es.toList=xs.map (λx=>⟨zaO x.1,.ref x.2.1,x.2.2⟩)/\(xs.map (·.1)).Nodup
def atO(a:Addr)(o:Obj):HO:= .ext λh=>h.get? a=some o
def DRt(K:PySem.W.Frag)(H:Hp)(a:Addr)(ks:List (List Int))(ys:List V):Prop:=
 (a==sysModules)=false/\∃o xs,H a=some (atO a o)/\zcF o xs/\xs.map (·.1)=ks/\xs.length<=sizeLine/\(∀x∈xs,SqT K H x.2.1 (x.1.map V.int))/\Vals ys (xs.map (·.2.2))
mutual
def Rep(K:PySem.W.Frag)(H:Hp):D->V->Prop
 | .non,v=>v = .non
 | .bl b,v=>v = .bl b
 | .int i,v=>v = .int i
 | .str x,v=>v = .str x
 | .tup ds,v=>∃a xs,v = .ref a/\SqT K H a xs/\Reps K H ds xs
 | .lst ds,v=>∃a xs,v = .ref a/\SqL K H a xs/\Reps K H ds xs
 | .exc c n,v=>∃a,v = .ref a/\XRep K H c n a
 | .dic ks vs,v=>∃a xs,v = .ref a/\DRp H a ks xs/\Reps K H vs xs
 | .dct ks vs,v=>∃a xs,v = .ref a/\DRt K H a ks xs/\Reps K H vs xs
def Reps(K:PySem.W.Frag)(H:Hp):List D->List V->Prop
 | [],xs=>xs=[]
 | d::ds,xs=>∃x r,xs=x::r/\Rep K H d x/\Reps K H ds r
end
theorem sameT{K:PySem.W.Frag}{H H':Hp}{a:Addr}{xs:List V}(e:Same H H')(h:SqT K H a xs):SqT K H' a xs:=by
 rcases h with(h | ⟨o,h⟩) | h
 ·exact .inl (.inl (e _ _ h))
 ·exact .inl (.inr ⟨o,e _ _ h⟩)
 ·exact .inr h
theorem kr{k:Sk}{K:PySem.W.Frag}{H H':Hp}{a:Addr}{xs:List V}(e:Same H H')(h:SqK k K H a xs):SqK k K H' a xs:=by
 cases k
 ·exact e.seq h
 ·exact sameT e h
mutual
theorem Rep.mono{K:PySem.W.Frag}{H H':Hp}(e:Same H H') : ∀{d:D} {v:V},Rep K H d v->Rep K H' d v
 | .non,_,h=>h
 | .bl _,_,h=>h
 | .int _,_,h=>h
 | .str _,_,h=>h
 | .tup ds,v,h=>by
  obtain⟨a,xs,e1,h1,h2⟩:=(show ∃a xs,v = .ref a/\SqT K H a xs/\Reps K H ds xs from h);exact(show ∃a xs,v = .ref a/\SqT K H' a xs/\Reps K H' ds xs from⟨a,xs,e1,sameT e h1,Reps.mono e h2⟩)
 | .lst ds,v,h=>by
  obtain⟨a,xs,e1,h1,h2⟩:=(show ∃a xs,v = .ref a/\SqL K H a xs/\Reps K H ds xs from h);exact(show ∃a xs,v = .ref a/\SqL K H' a xs/\Reps K H' ds xs from⟨a,xs,e1,e.seq h1,Reps.mono e h2⟩)
 | .exc c n,v,h=>by
  obtain⟨a,e1,h1⟩:=(show ∃a,v = .ref a/\XRep K H c n a from h);exact(show ∃a,v = .ref a/\XRep K H' c n a from⟨a,e1,h1.mono e⟩)
 | .dic ks vs,v,h=>by
  obtain⟨a,xs,e1,⟨U,y,I,O⟩,h2⟩:=(show ∃a xs,v = .ref a/\DRp H a ks xs/\Reps K H vs xs from h);exact(show ∃a xs,v = .ref a/\DRp H' a ks xs/\Reps K H' vs xs from⟨a,xs,e1,⟨U,y,I,e _ _ O⟩,Reps.mono e h2⟩)
 | .dct ks vs,v,h=>by
  obtain⟨a,xs,e1,⟨y,o,zs,I,O,Y,g5,g6,g7⟩,h2⟩:=(show ∃a xs,v = .ref a/\DRt K H a ks xs/\Reps K H vs xs from h);exact(show ∃a xs,v = .ref a/\DRt K H' a ks xs/\Reps K H' vs xs from⟨a,xs,e1,⟨y,o,zs,e _ _ I,O,Y,g5,λx hx=>sameT e (g6 x hx),g7⟩,Reps.mono e h2⟩)
theorem Reps.mono{K:PySem.W.Frag}{H H':Hp}(e:Same H H') : ∀{ds:List D} {xs:List V},Reps K H ds xs->Reps K H' ds xs
 | [],_,h=>h
 | d::ds,xs,h=>by
  obtain⟨x,r,e1,h1,h2⟩:=(show ∃x r,xs=x::r/\Rep K H d x/\Reps K H ds r from h);exact(show ∃x r,xs=x::r/\Rep K H' d x/\Reps K H' ds r from⟨x,r,e1,Rep.mono e h1,Reps.mono e h2⟩)
end
section
variable{K:PySem.W.Frag}{H:Hp}
theorem Reps.nil:Reps K H [] []:=(show([]:List V)=[]from rfl)
theorem Reps.cons{d:D}{ds:List D}{x:V}{xs:List V}(h:Rep K H d x)(t:Reps K H ds xs):Reps K H (d::ds) (x::xs):=⟨x,xs,rfl,h,t⟩
theorem Reps.inv_nil{xs:List V}(h:Reps K H [] xs):xs=[]:=h
theorem Reps.inv_cons{d:D}{ds:List D}{xs:List V}(h:Reps K H (d::ds) xs) : ∃x r,xs=x::r/\Rep K H d x/\Reps K H ds r:=h
theorem Reps.length : ∀{ds:List D} {xs:List V},Reps K H ds xs->xs.length=ds.length
 | [],xs,h=>by rw [h.inv_nil];rfl
 | d::ds,xs,h=>by
  obtain⟨x,r,e,_,t⟩:=h.inv_cons;rw [e,zcU,zcU,Reps.length t]
theorem Reps.get : ∀{ds:List D} {xs:List V} {i:Nat} {d:D},Reps K H ds xs->ds[i]? = some d->∃x,xs[i]? = some x/\Rep K H d x
 | [],_,_,_,_,e=>by simp at e
 | c::ds,xs,0,d,h,e=>by
  obtain⟨x,r,e1,h1,_⟩:=h.inv_cons;simp at e;subst e;exact⟨x,by rw [e1];rfl,h1⟩
 | c::ds,xs,i+1,d,h,e=>by
  obtain⟨x,r,e1,_,t⟩:=h.inv_cons;obtain⟨y,I,O⟩:=Reps.get (i:=i) (d:=d) t (by simpa using e);exact⟨y,by rw [e1];simpa using I,O⟩
theorem Reps.getV{ds:List D}{xs:List V}{i:Nat}{x:V}(h:Reps K H ds xs)(e:xs[i]? = some x) : ∃d,ds[i]? = some d/\Rep K H d x:=by
 have hi:i<ds.length:=by rw [<- h.length];exact(zc9.mp e).1
 obtain⟨y,e1,r⟩:=h.get (zc7 hi);rw [e]at e1;cases e1;exact⟨_,zc7 hi,r⟩
theorem Reps.append : ∀{ds es:List D} {xs ys:List V},Reps K H ds xs->Reps K H es ys->Reps K H (ds++es) (xs++ys)
 | [],_,xs,_,h,g=>by rw [h.inv_nil];exact g
 | d::ds,es,xs,ys,h,g=>by
  obtain⟨x,r,e,h1,t⟩:=h.inv_cons;rw [e];exact Reps.cons h1 (Reps.append t g)
theorem Reps.drop : ∀{ds:List D} {xs:List V} (n:Nat),Reps K H ds xs->Reps K H (ds.drop n) (xs.drop n)
 | _,_,0,h=>h
 | [],xs,n+1,h=>by rw [h.inv_nil];exact Reps.nil
 | d::ds,xs,n+1,h=>by
  obtain⟨x,r,e,_,t⟩:=h.inv_cons;rw [e];exact Reps.drop n t
theorem Reps.take : ∀{ds:List D} {xs:List V} (n:Nat),Reps K H ds xs->Reps K H (ds.take n) (xs.take n)
 | _,_,0,h=>by simp;exact Reps.nil
 | [],xs,n+1,h=>by rw [h.inv_nil];exact Reps.nil
 | d::ds,xs,n+1,h=>by
  obtain⟨x,r,e,h1,t⟩:=h.inv_cons;rw [e];exact Reps.cons h1 (Reps.take n t)
theorem Reps.set : ∀{ds:List D} {xs:List V} {d:D} {x:V} (i:Nat),Reps K H ds xs->Rep K H d x->Reps K H (ds.set i d) (xs.set i x)
 | [],xs,_,_,_,h,_=>by rw [h.inv_nil];exact Reps.nil
 | c::ds,xs,d,x,0,h,g=>by
  obtain⟨y,r,e,_,t⟩:=h.inv_cons;rw [e];exact Reps.cons g t
 | c::ds,xs,d,x,i+1,h,g=>by
  obtain⟨y,r,e,h1,t⟩:=h.inv_cons;rw [e];exact Reps.cons h1 (Reps.set i t g)
end
structure Ext(H0 H H0' H':Hp):Prop where
 s0:Same H0 H0'
 s1:Same H H'
 sub:Same H0' H'
 new : ∀a,H0 a=none->H a≠none->H0' a=none
theorem Ext.refl{H0 H:Hp}(s:Same H0 H):Ext H0 H H0 H:=⟨Same.refl _,Same.refl _,s,λ_ h _=>h⟩
theorem Ext.trans{H0 H H1 y H2 I:Hp}(a:Ext H0 H H1 y)(b:Ext H1 y H2 I):Ext H0 H H2 I:=
 ⟨a.s0.trans b.s0,a.s1.trans b.s1,b.sub,λc h1 h2=>b.new c (a.new c h1 h2) (by
  cases q:H c with
  | none=>exact absurd q h2
  | some o=>rw [a.s1 c o q];simp)⟩
theorem jm{H:Hp}{p:Addr}(h:H p=none)(o:HO):Same H (upd H p o):=λb u q=>by rw [zS (jZ q h)];exact q
theorem jC{H0 H:Hp}(s:Same H0 H){p:Addr}(h:H p=none):H0 p=none:=s.free h
theorem wH{H0 H:Hp}{p:Addr}{o:HO}(s:Same H0 H):Same (upd H0 p o) (upd H p o):=λb u q=>by
 by_cases e:b=p
 ·subst e;rw [zR]at q ⊢;exact q
 ·rw [zS e]at q ⊢;exact s b u q
theorem Ext.alloc{H0 H:Hp}{p:Addr}(s:Same H0 H)(h:H p=none)(o:HO):Ext H0 H (upd H0 p o) (upd H p o):=
 ⟨jm (jC s h) o,jm h o,wH s,λa h1 h2=>by rw [zS (λe=>h2 (by rw [e];exact h))];exact h1⟩
theorem Ext.hide{H0 H:Hp}{p:Addr}(s:Same H0 H)(h:H p=none)(o:HO):Ext H0 H H0 (upd H p o):=
 ⟨Same.refl _,jm h o,s.trans (jm h o),λa h1 _=>h1⟩
theorem Ext.show{H0 H H0' H':Hp}{a:Addr}{o:HO}(e:Ext H0 H H0' H')(h1:H a=none)(h2:H0' a=none)(I:H' a=some o)(s:Same H0 H):Ext H0 H (upd H0' a o) H':=
 ⟨e.s0.trans (jm h2 o),e.s1,λb u q=>by
  by_cases z:b=a
  ·subst z;rw [zR]at q;rw [I];exact q
  ·rw [zS z]at q;exact e.sub b u q,λb O y=>by
  rw [zS (λz=>y (by rw [z];exact h1))];exact e.new b O y⟩
structure Nest(K:PySem.W.Frag)(H0 H:Hp)(rows:List (List D))(a:Addr)(bs:List Addr):Prop where
 a0:H0 a=none
 ha:H a=some (.lst (bs.map V.ref))
 nd:(a::bs).Nodup
 len:bs.length=rows.length
 row : ∀(k:Nat) b row,bs[k]? = some b->rows[k]? = some row->H0 b=none/\∃xs,H b=some (.lst xs)/\Reps K H0 row xs
theorem Nest.at{K:PySem.W.Frag}{H0 H:Hp}{rows:List (List D)}{a:Addr}{bs:List Addr}(n:Nest K H0 H rows a bs){b:Addr}(y:b∈a::bs):H0 b=none/\∃xs,H b=some (.lst xs):=by
 rcases zcY.mp y with rfl | y
 ·exact⟨n.a0,_,n.ha⟩
 ·obtain⟨k,I⟩:=List.getElem?_of_mem y
  have O:=(zc9.mp I).1;rw [n.len]at O;obtain⟨h1,xs,h2,_⟩:=n.row k b _ I (zc7 O);exact⟨h1,xs,h2⟩
theorem Nest.move{K:PySem.W.Frag}{H0 H H0' H':Hp}{rows:List (List D)}{a:Addr}{bs:List Addr}(n:Nest K H0 H rows a bs)(s:Same H0 H0')(y : ∀b∈a::bs,H0' b=none)(h : ∀b∈a::bs,H' b=H b):Nest K H0' H' rows a bs:=
 ⟨y a zdm,by rw [h a zdm];exact n.ha,n.nd,n.len,λk b row I U=>by
  obtain⟨_,xs,h2,Y⟩:=n.row k b row I U;have O:b∈a::bs:=zdp _ (zey I);exact⟨y b O,xs,by rw [h b O];exact h2,Y.mono s⟩⟩
def NestOk(K:PySem.W.Frag)(H0 H:Hp)(σ:St)(γ:Ctx):Prop:=
 (∀(i:Nat) rows,γ[i]? = some (.nest rows)->∃a bs,σ[i]? = some (some (.ref a))/\Nest K H0 H rows a bs/\∀(j:Nat) ds c,γ[j]? = some (.own ds)->σ[j]? = some (some (.ref c))->c∉a::bs)/\
 ∀(i j:Nat) y r2,γ[i]? = some (.nest y)->γ[j]? = some (.nest r2)->i=j
theorem NestOk.nil0{K:PySem.W.Frag}{H0 H:Hp}{σ:St}{γ:Ctx}(h : ∀(i:Nat) rows,γ[i]? ≠ some (.nest rows)):NestOk K H0 H σ γ:=⟨λi rows e=>absurd e (h i rows),λi j y r2 e=>absurd e (h i y)⟩
theorem NestOk.move{K:PySem.W.Frag}{H0 H H0' H':Hp}{σ:St}{γ:Ctx}(n:NestOk K H0 H σ γ)(s:Same H0 H0')(h : ∀(i:Nat) rows a bs,γ[i]? = some (.nest rows)->σ[i]? = some (some (.ref a))->Nest K H0 H rows a bs->(∀(j:Nat) ds c,γ[j]? = some (.own ds)->σ[j]? = some (some (.ref c))->c∉a::bs)->∀b∈a::bs,H0' b=none/\H' b=H b):NestOk K H0' H' σ γ:=
 ⟨λi rows e=>by
  obtain⟨a,bs,h1,h2,y⟩:=n.1 i rows e;exact⟨a,bs,h1,h2.move s (λb I=>(h i rows a bs e h1 h2 y b I).1) (λb I=>(h i rows a bs e h1 h2 y b I).2),y⟩,n.2⟩
theorem NestOk.ext{K:PySem.W.Frag}{H0 H H0' H':Hp}{σ:St}{γ:Ctx}(n:NestOk K H0 H σ γ)(e:Ext H0 H H0' H'):NestOk K H0' H' σ γ:=
 n.move e.s0 λi rows a bs _ _ h2 _ b I=>by
  obtain⟨O,xs,y⟩:=h2.at I;exact⟨e.new b O (by rw [y];simp),by rw [e.s1 b _ y,y]⟩
structure RC(K:PySem.W.Frag)(H0 H:Hp)(σ:St)(γ:Ctx):Prop where
 sub:Same H0 H
 len:σ.length=γ.length
 val : ∀(i:Nat) d,γ[i]? = some (.val d)->∃v,σ[i]? = some (some v)/\Rep K H0 d v
 own : ∀(i:Nat) ds,γ[i]? = some (.own ds)->∃a xs,σ[i]? = some (some (.ref a))/\H0 a=none/\H a=some (.lst xs)/\Reps K H0 ds xs
 ne : ∀(i j:Nat) a ds es,γ[i]? = some (.own ds)->γ[j]? = some (.own es)->σ[i]? = some (some (.ref a))->σ[j]? = some (some (.ref a))->i=j
 nst:NestOk K H0 H σ γ
theorem RC.ext{K:PySem.W.Frag}{H0 H H0' H':Hp}{σ:St}{γ:Ctx}(r:RC K H0 H σ γ)(e:Ext H0 H H0' H'):RC K H0' H' σ γ:=
 ⟨e.sub,r.len,λi d h=>let ⟨v,h1,h2⟩:=r.val i d h;⟨v,h1,h2.mono e.s0⟩,
  λi ds h=>let ⟨a,xs,h1,h2,y,I⟩:=r.own i ds h;⟨a,xs,h1,e.new a h2 (by rw [y];simp),e.s1 _ _ y,I.mono e.s0⟩,r.ne,r.nst.ext e⟩
def tV(K:PySem.W.Frag)(f:CO D):TE:=λσ H Q=>∃H0 γ d,RC K H0 H σ γ/\f γ=some d/\∀v H' H0',Ext H0 H H0' H'->Rep K H0' d v->Q v H'
def tQ(K:PySem.W.Frag)(f:CO (Sk×List D)):TE:=λσ H Q=>∃H0 γ k ds,RC K H0 H σ γ/\f γ=some (k,ds)/\∀a xs H' H0',Ext H0 H H0' H'->SqK k K H' a xs->(k = .T->SqT K H0' a xs)->Reps K H0' ds xs->Q (.ref a) H'
def tO(K:PySem.W.Frag)(f:CO (List D)):TE:=λσ H Q=>∃H0 γ ds,RC K H0 H σ γ/\f γ=some ds/\
 ∀a xs H' H0',Ext H0 H H0' H'->H a=none->H0' a=none->H' a=some (.lst xs)->Reps K H0' ds xs->Q (.ref a) H'
def tT(K:PySem.W.Frag)(f:CO Bool):TT:=λσ H Q=>∃H0 γ b,RC K H0 H σ γ/\f γ=some b/\∀H' H0',Ext H0 H H0' H'->Q b H'
def tA(K:PySem.W.Frag)(f:CO (List D)):TA:=λσ H Q=>∃H0 γ ds,RC K H0 H σ γ/\f γ=some ds/\∀vs H' H0',Ext H0 H H0' H'->Reps K H0' ds vs->Q vs H'
abbrev PV(X:Cx)(e:Expr)(f:CO D):Prop:=PE X e (tV X.K f)
abbrev PQ(X:Cx)(e:Expr)(f:CO (Sk×List D)):Prop:=PE X e (tQ X.K f)
abbrev PO(X:Cx)(e:Expr)(f:CO (List D)):Prop:=PE X e (tO X.K f)
abbrev PTD(X:Cx)(e:Expr)(f:CO Bool):Prop:=PT X e (tT X.K f)
abbrev PWD(X:Cx)(e:Expr)(f:CO Bool):Prop:=PW X e (tT X.K f)
abbrev PAD(X:Cx)(es:List Expr)(f:CO (List D)):Prop:=PA X es (tA X.K f)
theorem qe{X:Cx}{e:Expr}{t t':TE}(h:PE X e t)(i : ∀σ H Q,t' σ H Q->t σ H Q):PE X e t':=λpins s σ H Q I q=>h pins s σ H Q I (i σ H Q q)
theorem XT{X:Cx}{e:Expr}{t t':TT}(h:PT X e t)(i : ∀σ H Q,t' σ H Q->t σ H Q):PT X e t':=λpins s σ H Q I q=>h pins s σ H Q I (i σ H Q q)
theorem Wm{X:Cx}{e:Expr}{t t':TT}(h:PW X e t)(i : ∀σ H Q,t' σ H Q->t σ H Q):PW X e t':=λy pins s σ H Q I q=>h y pins s σ H Q I (i σ H Q q)
theorem WM{X:Cx}{es:List Expr}{t t':TA}(h:PA X es t)(i : ∀σ H Q,t' σ H Q->t σ H Q):PA X es t':=λpos pins s σ H Q I q=>h pos pins s σ H Q I (i σ H Q q)
theorem xN{X:Cx}{st:Stmt}{t t':TS}(h:PS X st t)(i : ∀D σ H,t' D σ H->t D σ H):PS X st t':=λpins s σ H D I q=>h pins s σ H D I (i D σ H q)
theorem KT{X:Cx}{st:List Stmt}{t t':TS}(h:PSs X st t)(i : ∀D σ H,t' D σ H->t D σ H):PSs X st t':=λpins s σ H D I q=>h pins s σ H D I (i D σ H q)
theorem v7{X:Cx}{tg e:Expr}{t t':TI}(h:PI X tg e t)(i : ∀σ H R,t' σ H R->t σ H R):PI X tg e t':=λpins s σ H R I q=>h pins s σ H R I (i σ H R q)
theorem xZ{n:Nat}(h:n<=lim):n<=sizeLine:=zdP h ⋯
section
variable{X:Cx}{e a b c:Expr}{pos:Pos}
theorem PV.q{f:CO D}(h:PV X e f):PQ X e (zt f):=qe h λσ H Q O=>by
 obtain⟨H0,γ,k,ds,rc,y,q⟩:=O;unfold zt at y;cases e1:f γ with
 | none=>rw [e1]at y;cases y
 | some d=>
  rw [e1]at y;refine⟨H0,γ,d,rc,e1,λv H' H0' ext r=>?_⟩;cases d with
  | tup es=>
   obtain⟨e2,I⟩:k = .T/\ds=es:=by simp [jE]at y;exact⟨y.1.symm,y.2.symm⟩
   subst e2 I;obtain⟨a,xs,rfl,h1,h2⟩:=(show ∃a xs,v = .ref a/\SqT X.K H0' a xs/\Reps X.K H0' ds xs from r);exact q a xs H' H0' ext (sameT ext.sub h1) (λ_=>h1) h2
  | lst es=>
   obtain⟨e2,I⟩:k = .L/\ds=es:=by simp [jE]at y;exact⟨y.1.symm,y.2.symm⟩
   subst e2 I;obtain⟨a,xs,rfl,h1,h2⟩:=(show ∃a xs,v = .ref a/\SqL X.K H0' a xs/\Reps X.K H0' ds xs from r);exact q a xs H' H0' ext (ext.sub.seq h1) (λz=>nomatch z) h2
  | _=>simp [jE]at y
theorem PO.v{f:CO (List D)}(h:PO X e f):PV X e (jA f):=qe h λσ H Q U=>by
 obtain⟨H0,γ,d,rc,y,q⟩:=U;unfold jA at y;cases e1:f γ with
 | none=>rw [e1]at y;cases y
 | some ds=>
  rw [e1]at y;cases y;refine⟨H0,γ,ds,rc,e1,λa xs H' H0' ext h1 h2 Y r=>?_⟩;exact q _ _ _ (ext.show h1 h2 Y rc.sub) (show ∃I O,V.ref a = .ref I/\SqL X.K _ I O/\Reps X.K _ ds O from⟨a,xs,rfl,SqL.of zR,r.mono (jm h2 _)⟩)
theorem PO.q{f:CO (List D)}(h:PO X e f):PQ X e (jw f):=qe h λσ H Q I=>by
 obtain⟨H0,γ,k,ds,rc,y,q⟩:=I;unfold jw at y;cases e1:f γ with
 | none=>rw [e1]at y;cases y
 | some es=>
  rw [e1]at y;cases y;exact⟨H0,γ,_,rc,e1,λa xs H' H0' ext h1 h2 O r=>q a xs H' H0' ext (SqL.of O) (λz=>nomatch z) r⟩
theorem zc(i:Nat)(h:PE X e (VI i)):PV X e (ze i):=qe h λσ H Q I=>by
 obtain⟨H0,γ,d,rc,y,q⟩:=I;unfold ze at y;cases e1:γ[i]? with
 | none=>rw [e1]at y;cases y
 | some c=>
  rw [e1]at y;cases c with
  | val d'=>
   cases y;obtain⟨v,h1,h2⟩:=rc.val i d e1;exact⟨v,h1,q v H H0 (Ext.refl rc.sub) h2⟩
  | no=>cases y
  | own ds=>cases y
  | nest rows=>cases y
theorem zr(i:Nat)(h:PE X e (VI i)):PQ X e (zh i):=qe h λσ H Q Y=>by
 obtain⟨H0,γ,k,ds,rc,y,q⟩:=Y;unfold zh at y;cases e1:γ[i]? with
 | none=>rw [e1]at y;cases y
 | some c=>
  rw [e1]at y;cases c with
  | no=>cases y
  | nest rows=>cases y
  | own es=>
   cases y;obtain⟨a,xs,h1,h2,h3,h4⟩:=rc.own i ds e1;exact⟨_,h1,q a xs H H0 (Ext.refl rc.sub) (SqL.of h3) (λz=>nomatch z) h4⟩
  | val d=>
   obtain⟨v,h1,h2⟩:=rc.val i d e1;refine⟨v,h1,?_⟩;cases d with
   | tup es=>
    obtain⟨e2,O⟩:k = .T/\ds=es:=by simp [kK,jE]at y;exact⟨y.1.symm,y.2.symm⟩
    subst e2 O;obtain⟨a,xs,rfl,I,U⟩:=(show ∃a xs,v = .ref a/\SqT X.K H0 a xs/\Reps X.K H0 ds xs from h2);exact q a xs H H0 (Ext.refl rc.sub) (sameT rc.sub I) (λ_=>I) U
   | lst es=>
    obtain⟨e2,O⟩:k = .L/\ds=es:=by simp [kK,jE]at y;exact⟨y.1.symm,y.2.symm⟩
    subst e2 O;obtain⟨a,xs,rfl,I,U⟩:=(show ∃a xs,v = .ref a/\SqL X.K H0 a xs/\Reps X.K H0 ds xs from h2);exact q a xs H H0 (Ext.refl rc.sub) (rc.sub.seq I) (λz=>nomatch z) U
   | _=>simp [kK,jE]at y
theorem yA{d:D}{v:V}(h:PE X e (tC v))(r : ∀H,Rep X.K H d v):PV X e (zu d):=qe h λσ H Q y=>by
 obtain⟨H0,γ,d',rc,I,q⟩:=y;cases I;exact q v H H0 (Ext.refl rc.sub) (r H0)
theorem zm{i:Int}{j:Nat}:PV X (.Constant (.int i) j pos) (zu (.int i)):=yA WI λ_=>(show V.int i = .int i from rfl)
theorem yb{x:Bool}{j:Nat}:PV X (.Constant (.bool x) j pos) (zu (.bl x)):=yA zbb λ_=>(show V.bl x = .bl x from rfl)
theorem Qm{j:Nat}:PV X (.Constant .none j pos) (zu .non):=yA WG λ_=>(show V.non = .non from rfl)
theorem xI{x:Str}{j:Nat}:PV X (.Constant (.str x) j pos) (zu (.str x)):=yA WD λ_=>(show V.str x = .str x from rfl)
def Snd(K:PySem.W.Frag)(r:R2)(F:D->D->Option D):Prop:=∀H0 H x y dx I d Q,Same H0 H->Rep K H0 dx x->Rep K H0 I y->F dx I=some d->(∀v H' H0',Ext H0 H H0' H'->Rep K H0' d v->Q v H')->r x y H Q
theorem bind_some{α β:Type}{o:Option α}{f:α->Option β}{y:β}(h:o.bind f=some y) : ∃x,o=some x/\f x=some y:=by
 cases o with
 | none=>cases h
 | some x=>exact⟨x,rfl,h⟩
theorem ZH{K:PySem.W.Frag}{r:R2}{F:D->D->Option D}{fa fb:CO D}(hs:Snd K r F) : ∀σ H Q,tV K (zy F fa fb) σ H Q->tOp r (tV K fa) (tV K fb) σ H Q:=λσ H Q U=>by
 obtain⟨H0,γ,d,rc,I,q⟩:=U;obtain⟨x,e1,I⟩:=bind_some I;obtain⟨y,e2,I⟩:=bind_some I;refine⟨H0,γ,x,rc,e1,λY H1 a0 x1 r1=>⟨a0,γ,y,rc.ext x1,e2,λv2 H2 a3 O r2=>?_⟩⟩;exact hs a3 H2 Y v2 x y d Q O.sub (r1.mono O.s0) r2 I λv H' H0' x3 r3=>q v H' H0' (x1.trans (O.trans x3)) r3
theorem vE{y:Operator}{r:R2}{F:D->D->Option D}{fa fb:CO D}(I:OpR X (binaryOp y) r)(hs:Snd X.K r F)(ha:PV X a fa)(O:PV X b fb):PV X (.BinOp a y b pos) (zy F fa fb):=
 qe (Y0 I ha O) (ZH hs)
theorem Qq{y:CmpOp}{r:R2}{F:D->D->Option D}{fa fb:CO D}(I:OpR X (compareOp y) r)(hs:Snd X.K r F)(ha:PV X a fa)(O:PV X b fb)(hm:behindInMarks y b=false):PV X (.Compare a [y] [b] pos) (zy F fa fb):=
 qe (Y2 I ha O hm) (ZH hs)
theorem wn{d:D}{b:Bool}(h:asB d=some b):d = .bl b:=by cases d<;>simp [asB]at h;rw [h]
theorem yU{y:CmpOp}{r:R2}{F:D->D->Option D}{fa fb:CO D}(O:OpR X (compareOp y) r)(hs:Snd X.K r F)(ha:PV X a fa)(U:PV X b fb)(hm:behindInMarks y b=false):PTD X (.Compare a [y] [b] pos) (sB (zy F fa fb)):=
 XT (YR O ha U hm) λσ H Q Y=>by
  obtain⟨H0,γ,k,rc,I,q⟩:=Y;obtain⟨d,e1,I⟩:=bind_some I;refine ZH hs σ H _ ⟨H0,γ,d,rc,e1,λv H' H0' x r=>?_⟩;rw [wn I]at r;exact⟨k,r,q H' H0' x⟩
theorem qz{f:CO D}(h:PV X e f)(O : ∀I,isTrue e X.env I=(do let v <- I;standAt e.pos;holding [v] (truthy v)):=by intro _;rfl):PTD X e (sB f):=
 XT (Wq h O) λσ H Q U=>by
  obtain⟨H0,γ,k,rc,y,q⟩:=U;obtain⟨d,e1,y⟩:=bind_some y;refine⟨H0,γ,d,rc,e1,λv H' H0' x r=>?_⟩;rw [wn y]at r;exact⟨k,r,q H' H0' x⟩
theorem XM{f:CO Bool}(h:PTD X a f):PWD X (.BoolOp .And [a] pos) f:=YN h
theorem kH{f:CO Bool}(h:PTD X a f):PWD X (.BoolOp .Or [a] pos) f:=Wk h
theorem YM{f g:CO Bool}{xA:List Expr}(ha:PTD X a f)(I:PWD X (.BoolOp .And (b::xA) pos) g):PWD X (.BoolOp .And (a::b::xA) pos) (YI f g):=
 Wm (Wl ha I) λσ H Q O=>by
  obtain⟨H0,γ,k,rc,y,q⟩:=O;obtain⟨c,e1,y⟩:=bind_some y;refine⟨H0,γ,c,rc,e1,λH' H0' x=>?_⟩;cases c with
  | true=>rw [if_pos rfl]at y ⊢;exact⟨H0',γ,k,rc.ext x,y,λH2 U Y=>q H2 U (x.trans Y)⟩
  | false=>rw [if_neg zdi]at y ⊢;cases y;exact q H' H0' x
theorem xU{f g:CO Bool}{xA:List Expr}(ha:PTD X a f)(I:PWD X (.BoolOp .Or (b::xA) pos) g):PWD X (.BoolOp .Or (a::b::xA) pos) (yi f g):=
 Wm (za5 ha I) λσ H Q O=>by
  obtain⟨H0,γ,k,rc,y,q⟩:=O;obtain⟨c,e1,y⟩:=bind_some y;refine⟨H0,γ,c,rc,e1,λH' H0' x=>?_⟩;cases c with
  | true=>rw [if_pos rfl]at y ⊢;cases y;exact q H' H0' x
  | false=>rw [if_neg zdi]at y ⊢;exact⟨H0',γ,k,rc.ext x,y,λH2 U Y=>q H2 U (x.trans Y)⟩
theorem qu{f:CO Bool}(ha:PTD X a f):PTD X (.UnaryOp .Not a pos) (j8 f):=
 XT (Wr ha) λσ H Q I=>by
  obtain⟨H0,γ,k,rc,y,q⟩:=I;unfold j8 at y;cases e1:f γ with
  | none=>rw [e1]at y;cases y
  | some c=>rw [e1]at y;cases y;exact⟨H0,γ,c,rc,e1,λH' H0' x=>q H' H0' x⟩
theorem wR{f:CO Bool}(h:PWD X e f):PTD X e f:=h.pt
theorem wP{y:BoolOp}{f:CO D}(h:PV X a f):PV X (.BoolOp y [a] pos) f:=WE h
theorem wQ{f g:CO D}{xA:List Expr}(ha:PV X a f)(I:PV X (.BoolOp .And (b::xA) pos) g):PV X (.BoolOp .And (a::b::xA) pos) (J0 f g):=
 qe (WK ha I) λσ H Q O=>by
  obtain⟨H0,γ,d,rc,y,q⟩:=O;obtain⟨c,e1,y⟩:=bind_some y;obtain⟨U,Y,e1⟩:=bind_some e1;refine⟨H0,γ,U,rc,Y,λv H' H0' x r=>?_⟩;rw [wn e1]at r;refine⟨c,r,?_⟩;cases c with
  | true=>rw [if_pos rfl]at y ⊢;exact⟨H0',γ,d,rc.ext x,y,λv2 H2 a1 x2 r2=>q v2 H2 a1 (x.trans x2) r2⟩
  | false=>rw [if_neg zdi]at y ⊢;cases y;exact q _ H' H0' x (show V.bl false = .bl false from rfl)
theorem KQ{f:CO D}(ha:PV X a f):PV X (.UnaryOp .Not a pos) (VJ f):=
 qe (WF ha) λσ H Q O=>by
  obtain⟨H0,γ,d,rc,y,q⟩:=O;unfold VJ at y;cases e1:f γ with
  | none=>rw [e1]at y;cases y
  | some I=>
   rw [e1]at y;refine⟨H0,γ,I,rc,e1,λv H' H0' x r=>?_⟩;cases I with
   | bl c=>cases y;exact⟨c,r,q _ H' H0' x (show V.bl (!c) = .bl (!c)from rfl)⟩
   | _=>cases y
theorem vY{k:CO Bool}{f g:CO D}(Y:PTD X c k)(ha:PV X a f)(hb:PV X b g):PV X (.IfExp c a b pos) (Wd k f g):=
 qe (X3 Y ha hb) λσ H Q hZ=>by
  obtain⟨H0,γ,d,rc,y,q⟩:=hZ;obtain⟨t,e1,y⟩:=bind_some y;refine⟨H0,γ,t,rc,e1,λH' H0' x=>?_⟩;cases t with
  | true=>rw [if_pos rfl]at y ⊢;exact⟨H0',γ,d,rc.ext x,y,λI H2 O U r2=>q I H2 O (x.trans U) r2⟩
  | false=>rw [if_neg zdi]at y ⊢;exact⟨H0',γ,d,rc.ext x,y,λI H2 O U r2=>q I H2 O (x.trans U) r2⟩
theorem Y6:PAD X [] zB:=WM qs λσ H Q y=>by
 obtain⟨H0,γ,ds,rc,I,q⟩:=y;cases I;exact q [] H H0 (Ext.refl rc.sub) Reps.nil
theorem X5{es:List Expr}{f:CO D}{g:CO (List D)}(ha:PV X e f)(O:PAD X es g)(hs:starEach (e::es) X.env=(false,eval e X.env)::starEach es X.env:=by rfl):PAD X (e::es) (zb f g):=
 WM (jx ha O hs) λσ H Q U=>by
  obtain⟨H0,γ,ds,rc,y,q⟩:=U;obtain⟨x,e1,y⟩:=bind_some y;cases e2:g γ with
  | none=>rw [e2]at y;cases y
  | some r=>
   rw [e2]at y;cases y;exact⟨H0,γ,x,rc,e1,λv H1 Y x1 r1=>⟨Y,γ,r,rc.ext x1,e2,λvs H2 a1 I r2=>q (v::vs) H2 a1 (x1.trans I) (Reps.cons (r1.mono I.s0) r2)⟩⟩
theorem qr{es:List Expr}{x1:Nat}{f:CO (List D)}(h:PAD X es f):PV X (.Tuple es x1 pos) (qU f):=
 qe (KY h) λσ H Q Y=>by
  obtain⟨H0,γ,d,rc,y,q⟩:=Y;obtain⟨ds,e1,y⟩:=bind_some y;by_cases I:ds.length<=lim
  ·rw [if_pos I]at y;cases y
   refine⟨H0,γ,ds,rc,e1,λvs H1 a0 x1 O=>⟨xZ (by rw [O.length];exact I),λp U=>?_⟩⟩;exact q _ _ _ (x1.trans (Ext.alloc x1.sub U _)) (show ∃a xs,V.ref p = .ref a/\SqT X.K _ a xs/\Reps X.K _ ds xs from⟨p,vs,rfl,SqT.of zR,O.mono (jm (jC x1.sub U) _)⟩)
  ·rw [if_neg I]at y;cases y
theorem qZ{es:List Expr}{f:CO (List D)}(h:PAD X es f):PO X (.List es pos) (qc f):=
 qe (WH h) λσ H Q Y=>by
  obtain⟨H0,γ,d,rc,y,q⟩:=Y;obtain⟨ds,e1,y⟩:=bind_some y;by_cases O:ds.length<=lim
  ·rw [if_pos O]at y;cases y
   refine⟨H0,γ,_,rc,e1,λvs H1 a0 x1 U=>⟨xZ (by rw [U.length];exact O),λp I=>?_⟩⟩;exact q p vs _ a0 (x1.trans (Ext.hide x1.sub I _)) (by
    cases z:H p with
    | none=>rfl
    | some o=>rw [x1.s1 p o z]at I;cases I) (jC x1.sub I) zR U
  ·rw [if_neg O]at y;cases y
end
def ZSt(k1 k2:Sk)(z TI TO i1 i2 y l2:Addr)(n:Nat)(h:Heap):Prop:=
 (IsZip h z TI TO .none\/∃al b I,h.get? z=some (Zr al b TI TO)/\h.get? al=some I)/\IsPair h TI (.ref i1) (.ref i2)/\(∃c e,IsPair h TO c e)/\ItAt k1 h i1 y n/\ItAt k2 h i2 l2 n
section
variable{prog:Program}{w:World}{A:Around}{E:Value->Shared->Prop}{s:Shared}
theorem VQ{k1 k2:Sk}{z TI TO i1 i2 O l2:Addr}{n:Nat}{xs ys:Array Value}{Q:Option Value->Shared->Prop}(hh:A.handled=none)(D:ZipApart z TI TO i1 i2 O l2)
 (Z:ZSt k1 k2 z TI TO i1 i2 O l2 n s.heap) (a3:SqAt k1 s.heap O xs) (a4:SqAt k2 s.heap l2 ys) (a5:xs[n]? = none\/ys[n]? = none)
 (hQ : ∀h',(∀c o,c ∉ [z,TI,TO,i1,i2]->s.heap.get? c=some o->h'.get? c=some o)->Q none {s with heap:=h'}):wpAny (model prog w) A (pyNext (.ref z)) Q E s:=by
 obtain⟨hz,a7,⟨c,e,a8⟩,h1,h2⟩:=Z;unfold pyNext;rcases hz with hz | ⟨al,b,oa,hz,ha⟩
 ·have I:s.TypeIs (.ref z) "zip":=⟨_,hz,rfl⟩
  refine zcM (zd1 (zde (name:=zdC "__next__") I zdt (zds zdt I zee
   (ZV (show A.in1.handled=none from hh) D hz a7 a8 h1 h2 a3 a4 a5 λg e U Y=>?_) (zd9 _))))
  obtain⟨o,ho,a1⟩:=Y;refine zcM (zfs (T:="StopIteration") (b:=true) ⟨o,ho,a1⟩ zfJ (zcT ?_));refine hQ g λc o y q=>?_;simp only [zcY,zc3,or_false,not_or]at y;exact U c o y.1 y.2.2.1 y.2.2.2.1 y.2.2.2.2 q
 ·have I:s.TypeIs (.ref z) "zip":=⟨_,hz,rfl⟩
  refine zcM (zd1 (zde (name:=zdC "__next__") I zdt (zds zdt I zee
   (Xr (show A.in1.handled=none from hh) D hz ha a7 h1 h2 a3 a4 a5 λg e U Y=>?_) (zd9 _))))
  obtain⟨o,ho,a1⟩:=Y;refine zcM (zfs (T:="StopIteration") (b:=true) ⟨o,ho,a1⟩ zfJ (zcT ?_));refine hQ g λc o y q=>?_;simp only [zcY,zc3,or_false,not_or]at y;exact U c o y.1 y.2.2.2.1 y.2.2.2.2 q
end
end DL
namespace L2
open PySem PySem.Spec PyProof.Rows
structure M2(X:Cx)(o:Expr)(m:Str)(apos:Pos)(e f:Expr)(cpos:Pos):Prop where
 base:attributeBase o m X.env (eval o X.env)=eval o X.env
 few:((backTo cpos (starEach [e,f] X.env)).all (λx=> !x.1) && (backToKw cpos (keywordEach [] X.env)).all (λx=>x.1.isSome)
  && decide (([e,f]:List Expr).length+([]:List Keyword).length+(if ([]:List Keyword).isEmpty then 0 else 1)<30))=true
 line:(apos.endLine==cpos.line)=true
 trees:backTo cpos (starEach [e,f] X.env)=[(false,eval e X.env),(false,eval f X.env)]
end L2
namespace DL
open PySem L2
def qx(ds:List D):List D:=(zcP ds.length).map λ(i:Nat)=>D.tup [.int i,ds[i]?.getD .non]
def YH(f:CO D):CO (List D):=λγ=>(f γ).bind λd=>match d with
 | .tup ds=>some (qx ds)
 | _=>none
def Qf(i:Nat)(F:CO Fl):CO Fl:=λγ=>(jX γ[i]?).bind λds=>F (γ.set i (.val (.lst ds)))
def wD:List D->Option (List Str)
 | []=>some []
 | .str x::r=>(wD r).map λl=>x::l
 | _::_=>none
def jF(x:Str):Bool:=decide (x.length<=1000)
def XG(f:CO D)(g:CO (Sk×List D)):CO D:=λγ=>(f γ).bind λd=>(g γ).bind λa=>match d,a.1 with
 | .str sep,.L=>(wD a.2).bind λl=>if l.length<=lim/\l.all jF=true/\jF sep=true then some (.str (zfF sep l))else none
 | _,_=>none
def kw(f g:CO D):CO D:=λγ=>(f γ).bind λd=>((g γ).bind asI).bind λi=>match d with
 | .str z=>if jF z=true then (ixD z.cps.toList.length i).bind λk=>z.cps.toList[k]?.map λc=> .str ⟨#[c]⟩else none
 | _=>none
def qN(f:CO D):CO D:=λγ=>(f γ).bind λd=>match d with
 | .str z=>if jF z=true then some (.int z.length)else none
 | _=>none
def YG(f g:CO D):CO D:=λγ=>((f γ).bind asI).bind λi=>((g γ).bind asI).map λj=> .int (if j<i then j else i)
abbrev Xn:=Str×Option Int
def xNo:CO Xn:=λ_=>none
def zbR(c:Str):CO Xn:=λ_=>some (c,none)
def xIf(k:CO Bool)(G H:CO Xn):CO Xn:=λγ=>(k γ).bind λb=>if b=true then G γ else H γ
def zcd(G:CO Xn)(F:CO Fl)(H:CO Xn):CO Xn:=λγ=>match G γ with
 | some c=>some c
 | none=>(F γ).bind λy=>match y with
  | .next γ'=>H γ'
  | _=>none
def zbU(n:Nat)(G:CO Xn)(ds:List D):Option Xn:=G (jr n ds)
end DL
namespace DL
open PySem L2
open PySem.W (KasT kas_sort)
def qO(z:Str):List D:=z.cps.toList.map λc=>D.str ⟨#[c]⟩
def vD(f:CO D):CO (List D):=λγ=>(f γ).bind λd=>match d with
 | .str z=>if jF z=true then some (qx (qO z))else none
 | _=>none
def wI(f:CO D):CO (List D):=λγ=>(f γ).bind λd=>match d with
 | .lst ds=>some (qx ds)
 | _=>none
end DL
namespace DL
open PySem L2
def Vg:List D->Option (List Int)
 | []=>some []
 | .int i::r=>(Vg r).map λl=>i::l
 | _::_=>none
open PySem.Spec PyProof.Rows
structure RS(K:PySem.W.Frag)(E0 E H0 H:Hp)(σ:St)(γ:Ctx):Prop where
 rc:RC K H0 H σ γ
 ext:Ext E0 E H0 H
 fresh : ∀(i:Nat) ds a,γ[i]? = some (.own ds)->σ[i]? = some (some (.ref a))->E a=none
 fr2 : ∀(i:Nat) rows a xs,γ[i]? = some (.nest rows)->σ[i]? = some (some (.ref a))->H a=some (.lst xs)->E a=none/\∀b,V.ref b∈xs->E b=none
def Sat(K:PySem.W.Frag)(E0 E:Hp)(D:Ends):Fl->Prop
 | .next γ=>∀σ H H0,RS K E0 E H0 H σ γ->D.nx σ H
 | .brk γ=>∀σ H H0,RS K E0 E H0 H σ γ->D.bk σ H
 | .cont γ=>∀σ H H0,RS K E0 E H0 H σ γ->D.ct σ H
 | .ret (.val d)=>∀v H H0,Ext E0 E H0 H->Rep K H0 d v->D.rt v H
 | .ret (.own es)=>∀a xs H H0,Ext E0 E H0 H->E a=none->H0 a=none->H a=some (.lst xs)->Reps K H0 es xs->D.rt (.ref a) H
def tS(K:PySem.W.Frag)(F:CO Fl):TS:=λD σ H=>∃E0 E H0 γ y,RS K E0 E H0 H σ γ/\F γ=some y/\Sat K E0 E D y
abbrev PSD(X:Cx)(st:Stmt)(F:CO Fl):Prop:=PS X st (tS X.K F)
abbrev J2(X:Cx)(sts:List Stmt)(F:CO Fl):Prop:=PSs X sts (tS X.K F)
section
variable{K:PySem.W.Frag}{E0 E H0 H H0' H':Hp}{σ:St}{γ:Ctx}
theorem RS.step(r:RS K E0 E H0 H σ γ)(e:Ext H0 H H0' H'):RS K E0 E H0' H' σ γ:=⟨r.rc.ext e,r.ext.trans e,r.fresh,λi rows a xs h1 h2 O=>by
 obtain⟨U,bs,y,I,_⟩:=r.rc.nst.1 i rows h1;rw [h2]at y;cases y;have:=e.s1 a _ I.ha;rw [O]at this;cases this;exact r.fr2 i rows a _ h1 h2 I.ha⟩
theorem z3{α:Type}{l:List α}{i j:Nat}{x y:α}(h:(l.set i x)[j]? = some y):(j=i/\y=x/\i<l.length)\/(j≠i/\l[j]? = some y):=by
 by_cases e:i=j
 ·subst e
  by_cases I:i<l.length
  ·rw [zdv I]at h;cases h;exact .inl ⟨rfl,rfl,I⟩
  ·rw [List.set_eq_of_length_le ⋯]at h
   exact absurd (zc9.mp h).1 I
 ·rw [zc2 e]at h;exact .inr ⟨zdy e,h⟩
theorem NestOk.setVal{i:Nat}{d:D}{v:V}(n:NestOk K H0 H σ γ):NestOk K H0 H (σ.set i (some v)) (γ.set i (.val d)):=
 ⟨λj rows e=>by
  rcases z3 e with⟨_,z,_⟩ | ⟨I,z⟩
  ·cases z
  ·obtain⟨a,bs,h1,h2,O⟩:=n.1 j rows z
   refine⟨a,bs,by rw [zc2 (zdy I)];exact h1,h2,λk ds c e1 e2=>?_⟩;rcases z3 e1 with⟨_,z,_⟩ | ⟨U,y⟩
   ·cases z
   ·rw [zc2 (zdy U)]at e2;exact O k ds c y e2,
 λj k Y r2 e1 e2=>by
  rcases z3 e1 with⟨_,z,_⟩ | ⟨_,y⟩
  ·cases z
  ·rcases z3 e2 with⟨_,z,_⟩ | ⟨_,z2⟩
   ·cases z
   ·exact n.2 j k Y r2 y z2⟩
theorem RC.setVal{i:Nat}{d:D}{v:V}(r:RC K H0 H σ γ)(h:Rep K H0 d v):RC K H0 H (σ.set i (some v)) (γ.set i (.val d)):=by
 refine⟨r.sub,by simp [r.len],λj d' e=>?_,λj ds e=>?_,λj k a ds es e1 e2 U Y=>?_,r.nst.setVal⟩
 ·rcases z3 e with⟨rfl,z,hl⟩ | ⟨y,z⟩
  ·cases z;exact⟨v,zdv (by rw [r.len];exact hl),h⟩
  ·obtain⟨v',I,O⟩:=r.val j d' z
   exact⟨v',by rw [zc2 (zdy y)];exact I,O⟩
 ·rcases z3 e with⟨rfl,z,hl⟩ | ⟨y,z⟩
  ·cases z
  ·obtain⟨a,xs,I,O⟩:=r.own j ds z
   exact⟨a,xs,by rw [zc2 (zdy y)];exact I,O⟩
 ·rcases z3 e1 with⟨_,z,_⟩ | ⟨y,z1⟩
  ·cases z
  ·rcases z3 e2 with⟨_,z,_⟩ | ⟨hk,z2⟩
   ·cases z
   ·rw [zc2 (zdy y)]at U
    rw [zc2 (zdy hk)]at Y;exact r.ne j k a ds es z1 z2 U Y
theorem RS.setVal{i:Nat}{d:D}{v:V}(r:RS K E0 E H0 H σ γ)(h:Rep K H0 d v):RS K E0 E H0 H (σ.set i (some v)) (γ.set i (.val d)):=
 ⟨r.rc.setVal h,r.ext,λj ds a e1 e2=>by
  rcases z3 e1 with⟨_,z,_⟩ | ⟨y,z⟩
  ·cases z
  ·rw [zc2 (zdy y)]at e2;exact r.fresh j ds a z e2,
 λj rows a xs e1 e2 I=>by
  rcases z3 e1 with⟨_,z,_⟩ | ⟨y,z⟩
  ·cases z
  ·rw [zc2 (zdy y)]at e2;exact r.fr2 j rows a xs z e2 I⟩
theorem yX : ∀{y bs:List Addr},y.map V.ref=bs.map V.ref->y=bs
 | [],[],_=>rfl
 | [],_::_,h=>by cases h
 | _::_,[],h=>by cases h
 | a::y,b::bs,h=>by
  rw [zdn,zdn]at h;injection h with h1 h2;injection h1 with h1;rw [h1,yX h2]
theorem RS.setOwn{i:Nat}{es:List D}{a:Addr}{xs:List V}{G0 G:Hp}(r:RS K E0 E G0 G σ γ)(e:Ext G0 G H0 H)(h1:G a=none)(h2:H0 a=none)(h3:H a=some (.lst xs))(h4:Reps K H0 es xs) :
 RS K E0 E H0 H (σ.set i (some (.ref a))) (γ.set i (.own es)):=by
 have rc:=r.rc.ext e;have no : ∀(j:Nat) ds,γ[j]? = some (.own ds)->¬σ[j]? = some (some (.ref a)):=λj ds g z=>by
  obtain⟨b,ys,I,y,g3,_⟩:=r.rc.own j ds g;rw [z]at I;cases I;rw [h1]at g3;cases g3
 refine⟨⟨rc.sub,by simp [rc.len],λj d' g=>?_,λj ds g=>?_,λj k b ds fs e1 e2 Y e4=>?_,⟨λj rows g=>?_,λj k r1 r2 I y=>?_⟩⟩,r.ext.trans e,λj ds b I y=>?_,λj rows b xs I y g3=>?_⟩
 ·rcases z3 g with⟨_,z,_⟩ | ⟨O,z⟩
  ·cases z
  ·obtain⟨v',I,y⟩:=rc.val j d' z
   exact⟨v',by rw [zc2 (zdy O)];exact I,y⟩
 ·rcases z3 g with⟨rfl,z,U⟩ | ⟨O,z⟩
  ·cases z;exact⟨a,xs,zdv (by rw [rc.len];exact U),h2,h3,h4⟩
  ·obtain⟨b,ys,I,y⟩:=rc.own j ds z
   exact⟨b,ys,by rw [zc2 (zdy O)];exact I,y⟩
 ·rcases z3 e1 with⟨rfl,z,U⟩ | ⟨O,z1⟩
  ·rcases z3 e2 with⟨rfl,_,_⟩ | ⟨hk,z2⟩
   ·rfl
   ·rw [zdv (by rw [rc.len];exact U)]at Y
    rw [zc2 (zdy hk)]at e4;cases Y;exact absurd e4 (no k fs z2)
  ·rcases z3 e2 with⟨rfl,z,U⟩ | ⟨hk,z2⟩
   ·rw [zdv (by rw [rc.len];exact U)]at e4
    rw [zc2 (zdy O)]at Y;cases e4;exact absurd Y (no j ds z1)
   ·rw [zc2 (zdy O)]at Y
    rw [zc2 (zdy hk)]at e4;exact rc.ne j k b ds fs z1 z2 Y e4
 ·rcases z3 g with⟨_,z,_⟩ | ⟨O,z⟩
  ·cases z
  ·obtain⟨b,bs,I,y,g3⟩:=r.rc.nst.1 j rows z
   obtain⟨b',a5,f1,f2,f3⟩:=rc.nst.1 j rows z;rw [I]at f1;cases f1;have eb:a5.map V.ref=bs.map V.ref:=by
    have:=e.s1 b _ y.ha;rw [f2.ha]at this;injection this with this;injection this
   have af:a5=bs:=yX eb;subst af;refine⟨b,a5,by rw [zc2 (zdy O)];exact I,f2,λk ds c e1 e2=>?_⟩;rcases z3 e1 with⟨rfl,_,U⟩ | ⟨hk,z1⟩
   ·rw [zdv (by rw [rc.len];exact U)]at e2;cases e2
    intro hm;obtain⟨_,ah,q⟩:=y.at hm;rw [h1]at q;cases q
   ·rw [zc2 (zdy hk)]at e2;exact f3 k ds c z1 e2
 ·rcases z3 I with⟨_,z,_⟩ | ⟨_,z1⟩
  ·cases z
  ·rcases z3 y with⟨_,z,_⟩ | ⟨_,z2⟩
   ·cases z
   ·exact rc.nst.2 j k r1 r2 z1 z2
 ·rcases z3 I with⟨rfl,z,U⟩ | ⟨O,z⟩
  ·rw [zdv (by rw [rc.len];exact U)]at y;cases y
   cases q:E a with
   | none=>rfl
   | some o=>rw [r.ext.s1 a o q]at h1;cases h1
  ·rw [zc2 (zdy O)]at y;exact r.fresh j ds b z y
 ·rcases z3 I with⟨_,z,_⟩ | ⟨O,z⟩
  ·cases z
  ·rw [zc2 (zdy O)]at y;exact(r.step e).fr2 j rows b xs z y g3
theorem RS.rewrite{i:Nat}{ds es:List D}{a:Addr}{xs ys:List V}(r:RS K E0 E H0 H σ γ)(hi:γ[i]? = some (.own ds))(hs:σ[i]? = some (some (.ref a)))(h4:Reps K H0 es ys) :
 RS K E0 E H0 (upd H a (.lst ys)) σ (γ.set i (.own es)):=by
 obtain⟨a',ae,g1,g2,g3,g4⟩:=r.rc.own i ds hi;rw [hs]at g1;cases g1;have ah:i<γ.length:=(zc9.mp hi).1;refine⟨⟨λb o q=>?_,by simp [r.rc.len],λj d' g=>?_,λj fs g=>?_,λj k b fs gs e1 e2 Y e4=>?_,⟨λj rows g=>?_,λj k r1 r2 e1 e2=>?_⟩⟩,⟨r.ext.s0,λb o q=>?_,λb o q=>?_,r.ext.new⟩,λj fs b e1 e2=>?_,λj rows b zs e1 e2 Y=>?_⟩
 ·rw [zS (λz=>by rw [z,g2]at q;cases q)];exact r.rc.sub b o q
 ·rcases z3 g with⟨_,z,_⟩ | ⟨hj,z⟩
  ·cases z
  ·exact r.rc.val j d' z
 ·rcases z3 g with⟨rfl,z,hl⟩ | ⟨hj,z⟩
  ·cases z;exact⟨a,ys,hs,g2,zR,h4⟩
  ·obtain⟨b,zs,y,I,O,f4⟩:=r.rc.own j fs z
   refine⟨b,zs,y,I,?_,f4⟩;rw [zS (λq=>hj (r.rc.ne j i a fs ds z hi (by rw [y,q]) hs))];exact O
 ·have c1 : ∃fs',γ[j]? = some (.own fs'):=by
   rcases z3 e1 with⟨q,_,_⟩ | ⟨_,z⟩
   ·exact⟨ds,by rw [q];exact hi⟩
   ·exact⟨fs,z⟩
  have c2 : ∃fs',γ[k]? = some (.own fs'):=by
   rcases z3 e2 with⟨q,_,_⟩ | ⟨_,z⟩
   ·exact⟨ds,by rw [q];exact hi⟩
   ·exact⟨gs,z⟩
  obtain⟨y,U⟩:=c1;obtain⟨I,z2⟩:=c2;exact r.rc.ne j k b y I U z2 Y e4
 ·rcases z3 g with⟨_,z,_⟩ | ⟨hj,z⟩
  ·cases z
  ·obtain⟨b,bs,y,I,O⟩:=r.rc.nst.1 j rows z
   have a5:=O i ds a hi hs;refine⟨b,bs,y,I.move (Same.refl _) (λc hc=>(I.at hc).1) (λc hc=>zS λq=>a5 (q ▸ hc)),λk fs c e1 e2=>?_⟩;rcases z3 e1 with⟨q,_,_⟩ | ⟨_,U⟩
   ·rw [q,hs]at e2;cases e2;exact a5
   ·exact O k fs c U e2
 ·rcases z3 e1 with⟨_,z,_⟩ | ⟨_,U⟩
  ·cases z
  ·rcases z3 e2 with⟨_,z,_⟩ | ⟨_,z2⟩
   ·cases z
   ·exact r.rc.nst.2 j k r1 r2 U z2
 ·rw [zS (λz=>by rw [z,r.fresh i ds a hi hs]at q;cases q)];exact r.ext.s1 b o q
 ·rw [zS (λz=>by rw [z,g2]at q;cases q)];exact r.ext.sub b o q
 ·rcases z3 e1 with⟨q,_,_⟩ | ⟨_,z⟩
  ·rw [q]at e2;exact r.fresh i ds b hi e2
  ·exact r.fresh j fs b z e2
 ·rcases z3 e1 with⟨_,z,_⟩ | ⟨hj,z⟩
  ·cases z
  ·obtain⟨b',bs,y,I,O⟩:=r.rc.nst.1 j rows z
   rw [e2]at y;cases y;rw [zS (show b≠a from λq=>O i ds a hi hs (by rw [q];exact zdm))]at Y;exact r.fr2 j rows b zs z e2 Y
end
section
variable{X:Cx}{e a b c:Expr}{pos:Pos}{st:Stmt}{xA:List Stmt}
theorem jc:J2 X [] jt:=KT ZB λD σ H y=>by
 obtain⟨E0,E,H0,γ,Y,I,O,U⟩:=y;cases O;exact U σ H H0 I
theorem zf{F G:CO Fl}(h1:PSD X st F)(h2:J2 X xA G):J2 X (st::xA) (zU F G):=KT (ke h1 h2) λD σ H U=>by
 obtain⟨E0,E,H0,γ,Y,rs,y,I⟩:=U;obtain⟨O,e1,y⟩:=bind_some y;refine⟨E0,E,H0,γ,O,rs,e1,?_⟩;cases O with
 | next γ'=>exact λσ' H' H0' a1=>⟨E0,E,H0',γ',Y,a1,y,I⟩
 | brk γ'=>cases y;exact I
 | cont γ'=>cases y;exact I
 | ret r=>cases y;cases r<;>exact I
theorem zn{F:CO Fl}(h1:PSD X st F):J2 X [st] F:=ZA h1
theorem zF{α β:Type}{o:Option α}{f:α->β}{y:β}(h:o.map f=some y) : ∃x,o=some x/\f x=y:=by
 cases o with
 | none=>cases h
 | some x=>exact⟨x,rfl,by simpa using h⟩
theorem zQ{f:CO D}(h:PV X e f):PSD X (.Return (some e) pos) (jV f):=xN (wV h) λD σ H O=>by
 obtain⟨E0,E,H0,γ,Y,I,y,U⟩:=O;obtain⟨d,e1,y⟩:=zF y;subst y;exact⟨H0,γ,d,I.rc,e1,λv H' H0' x r=>U v H' H0' (I.ext.trans x) r⟩
theorem vZ{f:CO (List D)}(h:PO X e f):PSD X (.Return (some e) pos) (JD f):=xN (wV h) λD σ H O=>by
 obtain⟨E0,E,H0,γ,fl,y,I,U⟩:=O;obtain⟨ds,e1,I⟩:=zF I;subst I;refine⟨H0,γ,ds,y.rc,e1,λa xs H' H0' x h1 h2 Y r=>U a xs H' H0' (y.ext.trans x) ?_ h2 Y r⟩;cases q:E a with
 | none=>rfl
 | some o=>rw [y.ext.s1 a o q]at h1;cases h1
theorem qQ(i:Nat)(h:PE X e (VI i)):PSD X (.Return (some e) pos) (xT i):=xN (wV h) λD σ H U=>by
 obtain⟨E0,E,H0,γ,fl,I,y,O⟩:=U;unfold xT at y;cases e1:γ[i]? with
 | none=>rw [e1]at y;cases y
 | some c=>
  rw [e1]at y;cases c with
  | no=>cases y
  | val d=>
   cases y;obtain⟨v,h1,h2⟩:=I.rc.val i d e1;exact⟨v,h1,O v H H0 I.ext h2⟩
  | nest rows=>cases y
  | own ds=>
   cases y;obtain⟨a,xs,h1,h2,Y,h4⟩:=I.rc.own i ds e1;exact⟨_,h1,O a xs H H0 I.ext (I.fresh i ds a e1 h1) h2 Y h4⟩
theorem wU:PSD X (.Continue pos) XI:=xN ZD λD σ H ⟨E0,E,H0,γ,U,y,I,O⟩=>by cases I;exact O σ H H0 y
theorem xW:PSD X st yj:=xN XV λD σ H ⟨E0,E,H0,γ,I,O,y,U⟩=>by cases y
theorem jY{k:CO Bool}{F G:CO Fl}{x y:List Stmt}(hc:PTD X c k)(ha:J2 X x F)(hb:J2 X y G):PSD X (.If c x y pos) (sIf k F G):=xN (YS hc ha hb) λD σ H hZ=>by
 obtain⟨E0,E,H0,γ,U,O,I,Y⟩:=hZ;obtain⟨t,e1,I⟩:=bind_some I;refine⟨H0,γ,t,O.rc,e1,λH' H0' x=>?_⟩;cases t with
 | true=>rw [if_pos rfl]at I ⊢;exact⟨E0,E,H0',γ,U,O.step x,I,Y⟩
 | false=>rw [if_neg zdi]at I ⊢;exact⟨E0,E,H0',γ,U,O.step x,I,Y⟩
theorem zL(i:Nat){f:CO D}(h:PS X st (JY (tV X.K f) (kI i))):PSD X st (jh i f):=xN h λD σ H O=>by
 obtain⟨E0,E,H0,γ,Y,I,y,U⟩:=O;obtain⟨d,e1,y⟩:=zF y;subst y;exact⟨H0,γ,d,I.rc,e1,λv H' H0' x r=>U _ _ H0' ((I.step x).setVal r)⟩
theorem qk(i:Nat){f:CO (List D)}(h:PS X st (JY (tO X.K f) (kI i))):PSD X st (qw i f):=xN h λD σ H O=>by
 obtain⟨E0,E,H0,γ,fl,I,y,U⟩:=O;obtain⟨ds,e1,y⟩:=zF y;subst y;exact⟨H0,γ,ds,I.rc,e1,λa xs H' H0' x h1 h2 Y r=>U _ _ H0' (I.setOwn x h1 h2 Y r)⟩
theorem xm{o:Option Cell}{ds:List D}(h:jX o=some ds):o=some (.own ds):=by
 cases o with
 | none=>cases h
 | some c=>cases c<;>simp [jX]at h;rw [h]
theorem JH(i:Nat){f:CO D}(h:PE X e (tBM X.K "list" Qj (VI i) (V1 (tV X.K f) zbS)))(hs:swapsWith e none pos.line X.env=pure false:=by rfl):PSD X (.Expr e pos) (jP i f):=
 xN (v6 h hs) λD σ H hZ=>by
  obtain⟨E0,E,H0,γ,fl,I,y,a1⟩:=hZ;obtain⟨ds,e1,y⟩:=bind_some y;obtain⟨d,e2,y⟩:=bind_some y;have e1:=xm e1;by_cases O:ds.length<lim
  ·rw [if_pos O]at y;cases y
   obtain⟨a,xs,h1,h2,U,Y⟩:=I.rc.own i ds e1;refine⟨_,h1,.inl ⟨rfl,_,SqL.of U⟩,H0,γ,d,I.rc,e2,λv H' H0' x r=>?_⟩;have a2:=I.step x;have a3:=x.s1 _ _ U;refine⟨a,xs,v,rfl,rfl,a3,?_,?_⟩
   ·exact zc8 (by rw [Y.length];exact O) (xZ (zcZ _))
   ·exact a1 _ _ H0' (a2.rewrite (xs:=xs) e1 h1 ((Y.mono x.s0).append (Reps.cons r Reps.nil)))
  ·rw [if_neg O]at y;cases y
end
def zcE(K:PySem.W.Frag)(H0 H:Hp)(Q:VK):Res->Prop
 | .val d=>∀v H' H0',Ext H0 H H0' H'->Rep K H0' d v->Q v H'
 | .own es=>∀a xs H' H0',Ext H0 H H0' H'->H a=none->H0' a=none->H' a=some (.lst xs)->Reps K H0' es xs->Q (.ref a) H'
def spF(K:PySem.W.Frag)(n:Nat)(F:List D->Option Res):Sp:=λvs H Q _=>∃H0 ds r,Same H0 H/\Reps K H0 ds vs/\ds.length=n/\F ds=some r/\zcE K H0 H Q r
theorem spF.len{K:PySem.W.Frag}{n:Nat}{F:List D->Option Res}{ps:List Str}(hn:ps.length=n) : ∀vs H Q E,spF K n F vs H Q E->vs.length=ps.length:=λvs H Q E h=>by
 obtain⟨H0,ds,r,_,h1,h2,_⟩:=h;rw [h1.length,h2,hn]
section
variable{P:Program}{w:World}{K:PySem.W.Frag}{mg:Str->Option Value}{base:Heap}
theorem Z6{H0 H:Hp}{N:List Str}{ds:List D}{vs:List V}(s:Same H0 H)(h:Reps K H0 ds vs)(hn:ds.length<=N.length):RS K H0 H H0 H (start N vs) (jr N.length ds):=by
 have y:=h.length;refine⟨⟨s,by simp [L2.start,jr,y],λi d e=>?_,λi es e=>?_,λi j a es fs e _ _ _=>?_,NestOk.nil0 λi rows e=>?_⟩,Ext.refl s,λi es a e _=>?_,λi rows a xs e _ _=>?_⟩
 all_goals unfold jr at e
 ·by_cases hi:i<ds.length
  ·rw [zdV (by simpa using hi),zdx]at e
   cases e1:ds[i]? with
   | none=>rw [e1]at e;cases e
   | some d'=>
    rw [e1]at e;cases e;obtain⟨x,I,O⟩:=h.get e1;refine⟨x,?_,O⟩;unfold L2.start;rw [zdV (by simp;omega),zdx,I];rfl
  ·rw [zdI (by simpa using hi),zeH]at e
   split at e<;>cases e
 all_goals
  by_cases hi:i<ds.length
  ·rw [zdV (by simpa using hi),zdx]at e
   cases e1:ds[i]? with
   | none=>rw [e1]at e;cases e
   | some d'=>rw [e1]at e;cases e
  ·rw [zdI (by simpa using hi),zeH]at e
   split at e<;>cases e
theorem zad{x qual:Str}{st:Stmt}{f:Addr}{fd:FuncData}{N ps:List Str}{k:Nat}{F:CO Fl}(O:L2.Fun K x qual st f fd)(S:FnScope N ps (defScope st))
 (U : ∀(cdv:Value) (A:Around) (outer:List Env) (s:Shared) (H:Hp) (E:XK),Room k (A.deeper (envOfC qual (defScope st) s.heap.objs.size f cdv))->J2 (Vr CX0 P w K mg base N qual (defScope st) f cdv A outer s H E).nox (defBody st) F) :
 FnOk P w K mg base CX0 (k+1) f fd ps (spF K ps.length (jO N.length F)):=by
 refine O.ok S (spF.len rfl) (λcdv A outer s H vs Q E Y h=>⟨_,U cdv A outer s H E Y,?_⟩);obtain⟨H0,ds,r,s0,h1,h2,h3,y⟩:=h;obtain⟨I,e1,e2⟩:=bind_some h3;have a2:ps.length<=N.length:=by have:=congrArg List.length S.pre;rw [zeN]at this;omega
 refine⟨H0,H,H0,jr N.length ds,I,Z6 s0 h1 ⋯,e1,?_⟩;cases I with
 | ret r'=>cases e2;cases r<;>exact y
 | next γ=>cases e2;exact λσ' H' H0' rs=>y .non H' H0' rs.ext (show V.non = .non from rfl)
 | brk γ=>cases e2
 | cont γ=>cases e2
end
section
variable{X:Cx}{es:List Expr}{pos p:Pos}{k:Nat}{f:Addr}{fd:FuncData}{ps:List Str}{x:Str}{F:List D->Option Res}{g:CO (List D)}
theorem YQ{A0:List Expr}(G:FnOk X.prog X.w X.K X.mg X.base CX0 k f fd ps (spF X.K ps.length F))(ha:PAD X es g)(Y : ∀γ ds,g γ=some ds->ds.length=ps.length)
 (hc : ∀{t:TA},PA X es t->PE X (.Call (.Name x p) es [] pos) (Yp (spF X.K ps.length F) [] E0 t)):PV X (.Call (.Name x p) es [] pos) (zw F g):=
 qe (hc ha) λσ H Q hZ=>by
  obtain⟨H0,γ,d,rc,y,q⟩:=hZ;obtain⟨ds,e1,y⟩:=bind_some y;obtain⟨r,e2,y⟩:=zF y;refine⟨H0,γ,ds,rc,e1,λvs H1 a2 x1 r1=>⟨a2,ds,r,x1.sub,by simpa using r1,Y γ ds e1,e2,?_⟩⟩;subst y;cases r with
  | val d=>exact λv H' H0' I r2=>q v H' H0' (x1.trans I) r2
  | own fs=>
   refine λa xs H' H0' I h1 h2 h3 r2=>q _ H' _ (x1.trans (I.show h1 h2 h3 x1.sub)) ?_;exact(show ∃O U,V.ref a = .ref O/\SqL X.K _ O U/\Reps X.K _ fs U from⟨a,xs,rfl,SqL.of zR,r2.mono (jm h2 _)⟩)
theorem YV(G:FnOk X.prog X.w X.K X.mg X.base CX0 k f fd ps (spF X.K ps.length F))(ha:PAD X es g)(I : ∀γ ds,g γ=some ds->ds.length=ps.length)
 (O : ∀{t:TA},PA X es t->PE X (.Call (.Name x p) es [] pos) (Yp (spF X.K ps.length F) [] E0 t)):PO X (.Call (.Name x p) es [] pos) (z5 F g):=
 qe (O ha) λσ H Q U=>by
  obtain⟨H0,γ,fs,rc,y,q⟩:=U;obtain⟨ds,e1,y⟩:=bind_some y;obtain⟨r,e2,y⟩:=bind_some y;refine⟨H0,γ,ds,rc,e1,λvs H1 Y x1 r1=>⟨Y,ds,r,x1.sub,by simpa using r1,I γ ds e1,e2,?_⟩⟩;cases r with
  | val d=>cases y
  | own gs=>
   cases y;exact λa xs H' H0' x2 h1 h2 h3 r2=>q a xs H' H0' (x1.trans x2) (by
    cases z:H a with
    | none=>rfl
    | some o=>rw [x1.s1 a o z]at h1;cases h1) h2 h3 r2
end
structure Walk(K:PySem.W.Frag)(H0 Hs:Hp)(J:It)(ds:List D):Prop where
 go : ∀i H1,Same Hs H1->i<ds.length->J.go i H1
 stop : ∀H1,Same Hs H1->J.stop ds.length H1
 yld : ∀i H1 x H1',Same Hs H1->i<ds.length->J.yld i H1 x H1'->∃d,ds[i]? = some d/\∀G0,Same H0 G0->Same G0 H1->∃G0',Ext G0 H1 G0' H1'/\Rep K G0' d x
theorem Walk.weak{K:PySem.W.Frag}{H0 Hs y:Hp}{J:It}{ds:List D}(w:Walk K H0 Hs J ds)(s:Same Hs y):Walk K H0 y J ds:=
 ⟨λi H1 h=>w.go i H1 (s.trans h),λH1 h=>w.stop H1 (s.trans h),λi H1 x H1' h=>w.yld i H1 x H1' (s.trans h)⟩
theorem vM{k:Sk}{K:PySem.W.Frag}{H0 Hs:Hp}{a:Addr}{xs:List V}{ds:List D}(h:SqK k K Hs a xs)(r:Reps K H0 ds xs):Walk K H0 Hs (Itk k K a) ds:=by
 have U:=r.length;refine⟨λi H1 s hi=>?_,λH1 s=>?_,λi H1 x H1' s hi y=>?_⟩
 ·have I:i<xs.length:=by omega
  cases k with
  | L=>exact⟨xs,xs[i],s.seq h,zc7 I⟩
  | T=>exact⟨xs,xs[i],sameT s h,zc7 I⟩
 ·cases k with
  | L=>exact⟨xs,s.seq h,by omega⟩
  | T=>exact⟨xs,sameT s h,by omega⟩
 ·have e:H1'=H1/\xs[i]? = some x:=by
   cases k with
   | L=>exact⟨y.1,y.2 xs (s.seq h)⟩
   | T=>exact⟨y.1,y.2 xs (sameT s h)⟩
  obtain⟨e1,e2⟩:=e;subst e1;obtain⟨d,hd,O⟩:=r.getV e2;exact⟨d,hd,λG0 s1 s2=>⟨G0,Ext.refl s2,O.mono s1⟩⟩
theorem ya(lo:Int)(n:Nat):(ky lo n).length=n:=by simp [ky]
theorem vy{K:PySem.W.Frag}{H0 Hs:Hp}(lo:Int)(n:Nat):Walk K H0 Hs (Itr lo n) (ky lo n):=by
 refine⟨λi H1 s hi=>?_,λH1 s=>?_,λi H1 x H1' s hi y=>?_⟩
 ·rw [ya]at hi;exact hi
 ·rw [ya];exact zcZ _
 ·rw [ya]at hi
  obtain⟨e1,e2⟩:=y;subst e1 e2;exact⟨.int (lo+i),by simp [ky,hi],λG0 s1 s2=>⟨G0,Ext.refl s2,(show V.int (lo+i) = .int (lo+i)from rfl)⟩⟩
theorem Xu{k1 k2:Sk}{K:PySem.W.Frag}{H0 Hs:Hp}{a b:Addr}{xs ys:List V}{ds es:List D}(h1:SqK k1 K Hs a xs)(O:Reps K H0 ds xs)(h2:SqK k2 K Hs b ys)(r2:Reps K H0 es ys) :
 Walk K H0 Hs (Itz k1 k2 K a b) (yh ds es):=by
 have l1:=O.length;have l2:=r2.length;have hz:(yh ds es).length=min ds.length es.length:=by simp [yh]
 refine⟨λi H1 s hi=>?_,λH1 s=>?_,λi H1 x H1' s hi y=>?_⟩
 ·exact⟨xs,ys,kr s h1,kr s h2,by omega,by omega⟩
 ·refine⟨xs,ys,kr s h1,kr s h2,?_⟩
  rw [hz];omega
 ·obtain⟨p,u,v,e1,I,e2,g1,g2⟩:=y
  obtain⟨d,hd,hr⟩:=O.getV (g1 xs (kr s h1));obtain⟨c,hc,a4⟩:=r2.getV (g2 ys (kr s h2));refine⟨.tup [d,c],?_,λG0 s1 s2=>⟨upd G0 p (.tup [u,v]),?_,?_⟩⟩
  ·have a5:(ds.zip es)[i]? = some (d,c):=List.getElem?_zip_eq_some.mpr ⟨hd,hc⟩
   simp [yh,a5]
  ·rw [e2];exact Ext.alloc s2 I _
  ·rw [e1]
   exact(show ∃U Y,V.ref p = .ref U/\SqT K _ U Y/\Reps K _ [d,c] Y from⟨p,[u,v],rfl,SqT.of zR,Reps.cons ((hr.mono s1).mono (jm (jC s2 I) _)) (Reps.cons ((a4.mono s1).mono (jm (jC s2 I) _)) Reps.nil)⟩)
def tIc(K:PySem.W.Frag)(src:CO (List D)):TI:=λσ H R=>∃H0 γ ds,RC K H0 H σ γ/\src γ=some ds/\∀J H' H0',Ext H0 H H0' H'->Walk K H0' H' J ds->R J H'
def tIf(K:PySem.W.Frag)(src:CO (List D)):TI:=λσ H R=>∃H0 γ ds,RC K H0 H σ γ/\src γ=some ds/\∀J H' H0',Ext H0 H H0' H'->Walk K H0' H0' J ds->R J H'
abbrev PIC(X:Cx)(tg e:Expr)(src:CO (List D)):Prop:=PI X tg e (tIc X.K src)
abbrev PIF(X:Cx)(tg e:Expr)(src:CO (List D)):Prop:=PI X tg e (tIf X.K src)
section
variable{X:Cx}{tg e a b:Expr}{pos p:Pos}
theorem PIF.c{src:CO (List D)}(h:PIF X tg e src):PIC X tg e src:=v7 h λσ H R ⟨H0,γ,ds,rc,y,q⟩=>⟨H0,γ,ds,rc,y,λJ H' H0' x w=>q J H' H0' x (w.weak x.sub)⟩
theorem jI{f:CO (Sk×List D)}(h:PQ X e f):PIC X tg e (zW f):=v7 (KW h) λσ H R y=>by
 obtain⟨H0,γ,ds,rc,I,q⟩:=y;obtain⟨⟨k,es⟩,e1,e2⟩:=zF I;subst e2;exact⟨H0,γ,k,es,rc,e1,λa xs H' H0' x h1 _ r=>⟨a,k,rfl,⟨xs,h1⟩,q _ H' H0' x (vM h1 r)⟩⟩
theorem yc{f:CO D}(h:PV X e f):PIF X tg e (zW (zt f)):=v7 (KW h) λσ H R I=>by
 obtain⟨H0,γ,ds,rc,O,q⟩:=I;obtain⟨⟨k,es⟩,e1,e2⟩:=zF O;subst e2;obtain⟨d,U,e1⟩:=bind_some e1;refine⟨H0,γ,d,rc,U,λv H' H0' x r=>?_⟩;cases d with
 | tup fs=>
  obtain⟨e2,y⟩:k = .T/\es=fs:=by simp [jE]at e1;exact⟨e1.1.symm,e1.2.symm⟩
  subst e2 y;obtain⟨a,xs,rfl,h1,h2⟩:=(show ∃a xs,v = .ref a/\SqT X.K H0' a xs/\Reps X.K H0' es xs from r);exact⟨a,.T,rfl,⟨xs,sameT x.sub h1⟩,q _ H' H0' x (vM (k:= .T) h1 h2)⟩
 | lst fs=>
  obtain⟨e2,y⟩:k = .L/\es=fs:=by simp [jE]at e1;exact⟨e1.1.symm,e1.2.symm⟩
  subst e2 y;obtain⟨a,xs,rfl,h1,h2⟩:=(show ∃a xs,v = .ref a/\SqL X.K H0' a xs/\Reps X.K H0' es xs from r);exact⟨a,.L,rfl,⟨xs,x.sub.seq h1⟩,q _ H' H0' x (vM (k:= .L) h1 h2)⟩
 | _=>simp [jE]at e1
theorem qB{d:D}{i:Int}(h:asI d=some i):d = .int i:=by cases d<;>simp [asI]at h;rw [h]
theorem va{i:Int}(h:inR i=true) : -(2 ^ 62)<=i/\i<2 ^ 62:=by
 unfold inR at h;have h:=of_decide_eq_true h;omega
theorem JL{f:CO D}(I:Gl X "range")(hm:X.mg "range" = none)(ha:PV X a f)(hs:starEach [a] X.env=[(false,eval a X.env)]:=by rfl):PIF X tg (.Call (.Name "range" p) [a] [] pos) (zJ f):=
 v7 (QA I hm (jx ha qs hs) hs) λσ H R O=>by
  obtain⟨H0,γ,ds,rc,y,q⟩:=O;obtain⟨n,e1,y⟩:=bind_some y;obtain⟨d,U,e1⟩:=bind_some e1;by_cases hn:inR n=true
  ·rw [if_pos hn]at y;cases y
   refine⟨H0,γ,d,rc,U,λv H' H0' x r=>?_⟩;rw [qB e1]at r;obtain⟨h1,h2⟩:=va hn;exact⟨n,by rw [show v = .int n from r],h1,h2,q _ H' H0' x (vy 0 n.toNat)⟩
  ·rw [if_neg hn]at y;cases y
theorem JK{f g:CO D}(U:Gl X "range")(hm:X.mg "range" = none)(ha:PV X a f)(Y:PV X b g)(hs:starEach [a,b] X.env=[(false,eval a X.env),(false,eval b X.env)]:=by rfl)(I:starEach [b] X.env=[(false,eval b X.env)]:=by rfl) :
 PIF X tg (.Call (.Name "range" p) [a,b] [] pos) (vV f g):=
 v7 (Qz U hm (jx ha (jx Y qs I) (by rw [hs,I])) hs I) λσ H R hZ=>by
  obtain⟨H0,γ,ds,rc,y,q⟩:=hZ;obtain⟨m,e1,y⟩:=bind_some y;obtain⟨d,e0,e1⟩:=bind_some e1;obtain⟨n,O,y⟩:=bind_some y;obtain⟨c,e2,O⟩:=bind_some O;by_cases hn:inR m=true/\inR n=true
  ·rw [if_pos hn]at y;cases y
   refine⟨H0,γ,d,rc,e0,λv H' H0' x r=>⟨H0',γ,c,rc.ext x,e2,λv2 H2 a3 x2 r2=>?_⟩⟩;rw [qB e1]at r;rw [qB O]at r2;obtain⟨h1,h2⟩:=va hn.1;obtain⟨h3,h4⟩:=va hn.2;exact⟨m,n,by rw [show v = .int m from r,show v2 = .int n from r2],⟨h1,h2,h3,h4⟩,q _ H2 a3 (x.trans x2) (vy m (n - m).toNat)⟩
  ·rw [if_neg hn]at y;cases y
theorem vT{K:PySem.W.Frag}{H:Hp}{d:D}{v:V}{k:Sk}{ds:List D}(r:Rep K H d v)(e:jE d=some (k,ds)) : ∃a xs,v = .ref a/\SqK k K H a xs/\Reps K H ds xs:=by
 cases d with
 | tup fs=>simp [jE]at e;obtain⟨e1,e2⟩:=e;subst e1 e2;exact r
 | lst fs=>simp [jE]at e;obtain⟨e1,e2⟩:=e;subst e1 e2;exact r
 | _=>simp [jE]at e
theorem YW{f g:CO D}{elts:List Expr}{x1:Nat}{tpos:Pos}(hg:Gl X "zip")(hm:X.mg "zip" = none)(ha:PV X a f)(hb:PV X b g)(hs:starEach [a,b] X.env=[(false,eval a X.env),(false,eval b X.env)]:=by rfl)(O:starEach [b] X.env=[(false,eval b X.env)]:=by rfl) :
 PIF X (.Tuple elts x1 tpos) (.Call (.Name "zip" p) [a,b] [] pos) (Zo f g):=
 v7 (Wz hg hm (jx ha (jx hb qs O) (by rw [hs,O])) PyProof.Rows.boot_zip hs O) λσ H R hZ=>by
  obtain⟨H0,γ,ds,rc,y,q⟩:=hZ;obtain⟨⟨k1,m⟩,e1,y⟩:=bind_some y;obtain⟨d,e0,e1⟩:=bind_some e1;obtain⟨⟨k2,n⟩,U,y⟩:=zF y;obtain⟨c,e2,U⟩:=bind_some U;subst y;refine⟨H0,γ,d,rc,e0,λv H' H0' x r=>⟨H0',γ,c,rc.ext x,e2,λv2 H2 a7 I r2=>?_⟩⟩;obtain⟨a1,xs,rfl,Y,g2⟩:=vT (r.mono I.s0) e1;obtain⟨a2,ys,rfl,g3,g4⟩:=vT r2 U;exact⟨k1,k2,a1,a2,rfl,⟨xs,kr I.sub Y⟩,⟨ys,kr I.sub g3⟩,q _ H2 a7 (x.trans I) (Xu Y g2 g3 g4)⟩
end
def setAll:List Nat->List V->St->St
 | i::is,v::vs,σ=>setAll is vs (σ.set i (some v))
 | _,_,σ=>σ
def gs:List Nat->TGs
 | []=>zb1
 | i::is=>zab (kI i) (gs is)
def gOf(K:PySem.W.Frag):Tg->TG
 | .nm i=>kI i
 | .tp is=>zb0 K is.length (gs is)
theorem QS : ∀{is:List Nat} {vs:List V} {σ:St} {H:Hp} {Q:St->Hp->Prop},vs.length=is.length->Q (setAll is vs σ) H->gs is vs σ H Q
 | [],[],_,_,_,_,q=>⟨rfl,q⟩
 | i::is,v::vs,σ,H,Q,hl,q=>⟨v,vs,rfl,QS (by simpa using hl) q⟩
 | [],_::_,_,_,_,hl,_=>by simp at hl
 | _::_,[],_,_,_,hl,_=>by simp at hl
theorem RS.setAll{K:PySem.W.Frag}{E0 E H0 H:Hp} : ∀{is:List Nat} {ds:List D} {vs:List V} {σ:St} {γ:Ctx},RS K E0 E H0 H σ γ->Reps K H0 ds vs->RS K E0 E H0 H (setAll is vs σ) (qG is ds γ)
 | [],ds,vs,σ,γ,r,h=>by cases ds<;>cases vs<;>exact r
 | i::is,[],vs,σ,γ,r,h=>by rw [h.inv_nil];exact r
 | i::is,d::ds,vs,σ,γ,r,h=>by
  obtain⟨x,t,e,h1,h2⟩:=h.inv_cons;subst e;show RS K E0 E H0 H (DL.setAll is t (σ.set i (some x))) (qG is ds (γ.set i (.val d)));exact RS.setAll (r.setVal h1) h2
theorem RC.setAll{K:PySem.W.Frag}{H0 H:Hp} : ∀{is:List Nat} {ds:List D} {vs:List V} {σ:St} {γ:Ctx},RC K H0 H σ γ->Reps K H0 ds vs->RC K H0 H (setAll is vs σ) (qG is ds γ)
 | [],ds,vs,σ,γ,r,h=>by cases ds<;>cases vs<;>exact r
 | i::is,[],vs,σ,γ,r,h=>by rw [h.inv_nil];exact r
 | i::is,d::ds,vs,σ,γ,r,h=>by
  obtain⟨x,t,e,h1,h2⟩:=h.inv_cons;subst e;show RC K H0 H (DL.setAll is t (σ.set i (some x))) (qG is ds (γ.set i (.val d)));exact RC.setAll (r.setVal h1) h2
theorem vk{K:PySem.W.Frag}{H0 H:Hp}{T:Tg}{d:D}{v:V}{σ:St}{γ y:Ctx}{Q:St->Hp->Prop}(s:Same H0 H)(h:Rep K H0 d v)(e:qE T d γ=some y)
 (q : ∀I,(RC K H0 H σ γ->RC K H0 H I y)->(∀E0 E,RS K E0 E H0 H σ γ->RS K E0 E H0 H I y)->Q I H):gOf K T v σ H Q:=by
 cases T with
 | nm i=>cases e;exact q _ (λr=>r.setVal h) λE0 E r=>r.setVal h
 | tp is=>
  cases d with
  | tup ds=>
   simp only [qE]at e;by_cases O:ds.length=is.length
   ·rw [if_pos O]at e;cases e
    obtain⟨a,xs,rfl,h1,h2⟩:=(show ∃a xs,v = .ref a/\SqT K H0 a xs/\Reps K H0 ds xs from h);have U:xs.length=is.length:=by rw [h2.length,O]
    exact⟨a,xs,rfl,sameT s h1,U,QS U (q _ (λr=>r.setAll h2) λE0 E r=>r.setAll h2)⟩
   ·rw [if_neg O]at e;cases e
  | _=>simp [qE]at e
theorem Ext.rebase{E0 E y H0 H B:Hp}(e:Ext E0 E y B)(x:Ext y E H0 H):Ext E0 E H0 H:=
 ⟨e.s0.trans x.s0,x.s1,x.sub,λa h1 h2=>x.new a (e.new a h1 h2) h2⟩
theorem Ext.base{E0 E y B:Hp}(e:Ext E0 E y B):Ext y E y B:=⟨Same.refl _,e.s1,e.sub,λa h _=>h⟩
theorem Sat.rebase{K:PySem.W.Frag}{E0 E I B:Hp}{D:Ends}{y:Fl}(e:Ext E0 E I B)(h:Sat K E0 E D y):Sat K I E D y:=by
 cases y with
 | next γ=>exact λσ H H0 r=>h σ H H0 ⟨r.rc,e.rebase r.ext,r.fresh,r.fr2⟩
 | brk γ=>exact λσ H H0 r=>h σ H H0 ⟨r.rc,e.rebase r.ext,r.fresh,r.fr2⟩
 | cont γ=>exact λσ H H0 r=>h σ H H0 ⟨r.rc,e.rebase r.ext,r.fresh,r.fr2⟩
 | ret r=>
  cases r with
  | val d=>exact λv H H0 x q=>h v H H0 (e.rebase x) q
  | own es=>exact λa xs H H0 x h1 h2 O q=>h a xs H H0 (e.rebase x) h1 h2 O q
section
variable{X:Cx}{tg iter:Expr}{body:List Stmt}{pos:Pos}
theorem jH{src:CO (List D)}{T:Tg}{F:CO Fl}(hp:PassesOwn (model X.prog X.w) X.A X.env X.xe)(hc:X.calm=true)(hi:PIF X tg iter src)(hg:PG X tg (gOf X.K T))(hb:J2 X body F)
 (hs : ∀x,foldedSetIterable iter X.env x=pure x:=by intro _;rfl):PSD X (.For tg iter body [] pos) (qV src T F):=
 xN (Wu hp hc hi hg hb hs) λD σ H hZ=>by
  obtain⟨E0,E,H0,γ,O,U,I,a0⟩:=hZ;obtain⟨ds,e1,I⟩:=bind_some I;refine⟨H0,γ,ds,U.rc,e1,λJ H1 Y x1 wk=>?_⟩;have rs1:=U.step x1;have ex:=rs1.ext;refine⟨λi m σ H=>m=ds.length - i/\i<=ds.length/\∃H0 γ O,RS X.K Y E H0 H σ γ/\qD T F (ds.drop i) γ=some O/\Sat X.K Y E D O,⟨_,rfl,zef _,Y,γ,O,⟨rs1.rc,ex.base,rs1.fresh,rs1.fr2⟩,I,a0.rebase ex⟩,?_⟩;rintro i m σ H ⟨rfl,hi,H0,γ,O,U,I,a0⟩;have a4:Same Y H:=U.ext.s0.trans U.ext.sub;by_cases a1:i<ds.length
  ·refine .inr ⟨wk.go i H a4 a1,λσ H=>i+1<=ds.length/\∃H0 γ O,RS X.K Y E H0 H σ γ/\qD T F (ds.drop (i+1)) γ=some O/\Sat X.K Y E D O,λσ' H' n=>⟨ds.length - (i+1),by omega,rfl,n.1,n.2⟩,λx H' y=>?_⟩
   obtain⟨d,hd,hx⟩:=wk.yld i H x H' a4 a1 y;obtain⟨G0,xg,rg⟩:=hx H0 U.ext.s0 U.rc.sub;have ag:ds.drop i=d::ds.drop (i+1):=by
    have ah:d=ds[i]:=by rw [zc7 a1]at hd;exact(zdH hd).symm
    rw [ah];exact ze2 a1
   rw [ag]at I;simp only [qD]at I;obtain⟨γ1,eb,I⟩:=bind_some I;obtain⟨f1,eF,I⟩:=bind_some I;refine vk xg.sub rg eb λσ1 _ am=>⟨Y,E,G0,γ1,f1,am Y E (U.step xg),eF,?_⟩;cases f1 with
   | next γ2=>exact λσ2 H2 a5 r2=>⟨a1,a5,γ2,O,r2,I,a0⟩
   | cont γ2=>exact λσ2 H2 a5 r2=>⟨a1,a5,γ2,O,r2,I,a0⟩
   | brk γ2=>cases I;exact a0
   | ret r=>cases I;cases r<;>exact a0
  ·have e:i=ds.length:=by omega
   subst e;rw [List.drop_length]at I;cases I;exact .inl ⟨wk.stop H a4,a0 σ H H0 U⟩
end
theorem qY{n:Nat}{fr:List Nat}{γ:Ctx}{i:Nat}{c:Cell}(h:(jy n fr γ)[i]? = some c):c = .no\/(∃d j,c = .val d/\n<=i/\fr[i - n]? = some j/\γ[j]? = some (.val d)):=by
 unfold jy at h;by_cases hi:i<n
 ·rw [zdV (by simpa using hi),zeH,if_pos hi]at h
  exact .inl (zdH h).symm
 ·rw [zdI (by simpa using hi),zdx,List.length_replicate]at h
  cases e:fr[i - n]? with
  | none=>rw [e]at h;cases h
  | some j=>
   rw [e]at h;have h':xo (γ[j]?.getD .no)=c:=by simpa using h
   cases e2:γ[j]? with
   | none=>rw [e2]at h';exact .inl h'.symm
   | some y=>
    rw [e2]at h';cases y with
    | no=>exact .inl h'.symm
    | own ds=>exact .inl h'.symm
    | nest rows=>exact .inl h'.symm
    | val d=>exact .inr ⟨d,j,h'.symm,by omega,rfl,e2⟩
theorem RC.pull{K:PySem.W.Frag}{H0 H:Hp}{σ:St}{γ:Ctx}{own:List Str}{fr:List (Str×Nat)}(r:RC K H0 H σ γ):RC K H0 H (L2.pull own fr σ) (jy own.length (fr.map (·.2)) γ):=by
 refine⟨r.sub,by simp [L2.pull,jy],λi d h=>?_,λi ds h=>?_,λi j a ds es h _ _ _=>?_,NestOk.nil0 λi rows h=>?_⟩
 ·rcases qY h with z | ⟨d',j,z,hi,y,I⟩
  ·cases z
  ·cases z
   obtain⟨v,h1,h2⟩:=r.val j d I;refine⟨v,?_,h2⟩;rw [zdx]at y;cases q:fr[i - own.length]? with
   | none=>rw [q]at y;cases y
   | some p=>
    rw [q]at y;have O:p.2=j:=by simpa using y
    unfold L2.pull;rw [zdI (by simpa using hi),zdx,zdY,q];simp [O,h1]
 ·rcases qY h with z | ⟨d',j,z,_⟩<;>cases z
 ·rcases qY h with z | ⟨d',j,z,_⟩<;>cases z
 ·rcases qY h with z | ⟨d',j,z,_⟩<;>cases z
theorem RC.weak{K:PySem.W.Frag}{H0 H:Hp}{σ:St}{γ γ':Ctx}(r:RC K H0 H σ γ)(I:γ'.length=γ.length)(O : ∀(i:Nat) d,γ'[i]? = some (.val d)->γ[i]? = some (.val d))(y : ∀(i:Nat) ds,γ'[i]? ≠ some (.own ds))(U : ∀(i:Nat) rows,γ'[i]? ≠ some (.nest rows)):RC K H0 H σ γ':=
 ⟨r.sub,by rw [I];exact r.len,λi d h=>r.val i d (O i d h),λi ds h=>absurd h (y i ds),λi j a ds es h _ _ _=>absurd h (y i ds),NestOk.nil0 U⟩
theorem RC.upd{K:PySem.W.Frag}{H0 H:Hp}{σ:St}{γ:Ctx}{D:Addr}{o:HO}(r:RC K H0 H σ γ)(I:H0 D=none)(y : ∀(i:Nat) ds,γ[i]? ≠ some (.own ds))(O : ∀(i:Nat) rows,γ[i]? ≠ some (.nest rows)):RC K H0 (upd H D o) σ γ:=
 ⟨λb u q=>by rw [zS (λz=>by rw [z,I]at q;cases q)];exact r.sub b u q,r.len,r.val,λi ds h=>absurd h (y i ds),λi j a ds es h _ _ _=>absurd h (y i ds),NestOk.nil0 O⟩
theorem yP : ∀{is:List Nat} {ds:List D} {γ:Ctx},(qG is ds γ).length=γ.length
 | [],ds,γ=>by cases ds<;>rfl
 | i::is,[],γ=>rfl
 | i::is,d::ds,γ=>by show(qG is ds (γ.set i (.val d))).length=_;rw [yP];simp
theorem yQ : ∀{is:List Nat} {ds:List D} {γ:Ctx} {i:Nat},i∉is->(qG is ds γ)[i]? = γ[i]?
 | [],ds,γ,i,_=>by cases ds<;>rfl
 | j::is,[],γ,i,_=>rfl
 | j::is,d::ds,γ,i,h=>by
  show(qG is ds (γ.set j (.val d)))[i]? = _;rw [yQ (λz=>h (zdp _ z)),zc2 (λz=>h (by rw [<- z];exact zdm))]
theorem Xc{T:Tg}{d:D}{γ y:Ctx}(h:qE T d γ=some y):y.length=γ.length/\∀i,i∉T.idx->y[i]? = γ[i]? :=by
 cases T with
 | nm j=>cases h;exact⟨by simp,λi hi=>zc2 (λz=>hi (by simp [Tg.idx,z]))⟩
 | tp is=>
  cases d with
  | tup ds=>
   simp only [qE]at h;by_cases I:ds.length=is.length
   ·rw [if_pos I]at h;cases h;exact⟨yP,λi hi=>yQ hi⟩
   ·rw [if_neg I]at h;cases h
  | _=>simp [qE]at h
section
variable{K:PySem.W.Frag}{own:List Str}{fr:List (Str×Nat)}{src:CO (List D)}{T:Tg}{k:CO Bool}{f:CO D}
theorem kZ(hT : ∀i∈T.idx,i<own.length){tt:TT}(b1 : ∀σ H Q,tT K k σ H Q->tt σ H Q) : ∀σ H Q,tO K (zV src T own.length (fr.map (·.2)) k f) σ H Q->Xy (tIc K src) own fr (gOf K T) tt (tV K f) σ H Q:=λσ H Q hZ=>by
 obtain⟨H0,γ,ds,rc,Y,q⟩:=hZ;obtain⟨O,e1,Y⟩:=bind_some Y;by_cases hl:O.length<=lim
 ·rw [if_pos hl]at Y
  refine⟨H0,γ,O,rc,e1,λJ H1 a9 x1 wk D hD=>?_⟩;have ab : ∀(i:Nat) es,(jy own.length (fr.map (·.2)) γ)[i]? ≠ some (.own es):=λi es h=>by rcases qY h with z | ⟨d',j,z,_⟩<;>cases z
  have ac : ∀(i:Nat) rows,(jy own.length (fr.map (·.2)) γ)[i]? ≠ some (.nest rows):=λi es h=>by rcases qY h with z | ⟨d',j,z,_⟩<;>cases z
  have an:a9 D=none:=jC x1.sub hD;have b3:H D=none:=by
   cases z:H D with
   | none=>rfl
   | some o=>rw [x1.s1 D o z]at hD;cases hD
  refine⟨λi m ys σ' H'=>m=O.length - i/\i<=O.length/\ys.length<=i/\H' D=some (.lst ys)/\∃H0' a4 a6,RC K H0' H' σ' (jy own.length (fr.map (·.2)) γ)/\H0' D=none/\Ext a9 H1 H0' H'/\Reps K H0' a4 ys/\ji T k f (jy own.length (fr.map (·.2)) γ) (O.drop i)=some a6/\ds=a4++a6,
   ⟨_,rfl,zef _,zcZ _,zR,a9,[],ds,((rc.ext x1).pull).upd an ab ac,an,Ext.hide x1.sub hD _,Reps.nil,Y,rfl⟩,?_⟩
  rintro i m ys σ' H' ⟨rfl,hi,hy,a7,H0',a4,a6,ae,ao,x',r',I,rfl⟩;refine⟨a7,?_⟩;by_cases a1:i<O.length
  ·refine .inr ⟨wk.go i H' x'.s1 a1,?_,λx af y=>?_⟩
   ·have:=xZ (zcZ lim);omega
   obtain⟨d,hd,hx⟩:=wk.yld i H' x af x'.s1 a1 y;obtain⟨G0,U,rg⟩:=hx H0' x'.s0 ae.sub;have b6:O.drop i=d::O.drop (i+1):=by
    have b7:d=O[i]:=by rw [zc7 a1]at hd;exact(zdH hd).symm
    rw [b7];exact ze2 a1
   rw [b6]at I;simp only [ji]at I;obtain⟨γ1,eb,I⟩:=bind_some I;obtain⟨b,ek,I⟩:=bind_some I;have b9:G0 D=none:=U.new D ao (by rw [a7];simp);have aq:af D=some (.lst ys):=U.s1 _ _ a7;obtain⟨bl,bg⟩:=Xc eb;have ar : ∀{σ2:St} {G2 H2:Hp},RC K G2 H2 σ2 γ1->RC K G2 H2 σ2 (jy own.length (fr.map (·.2)) γ):=λr=>r.weak bl.symm (λj d' hj=>by
    by_cases hm:j∈T.idx
    ·rcases qY hj with z | ⟨d2,j2,_,hn,_⟩
     ·cases z
     ·exact absurd (hT j hm) ⋯
    ·rw [bg j hm];exact hj) ab ac
   refine vk U.sub rg eb λσ1 aw _=>b1 σ1 af _ ⟨G0,γ1,b,aw (ae.ext U),ek,λH3 ah x3=>?_⟩;have ai:=(aw (ae.ext U)).ext x3;have xa:=x'.trans (U.trans x3);have ay:ah D=none:=x3.new D b9 (by rw [aq];simp);have aj:H3 D=some (.lst ys):=x3.s1 _ _ aq;cases b with
   | true=>
    dsimp only;rw [if_pos rfl]at I ⊢;obtain⟨e,ee,I⟩:=bind_some I;obtain⟨xA,er,I⟩:=zF I;refine⟨ah,γ1,e,ai,ee,λv H4 az x4 r4=>?_⟩;have ak:az D=none:=x4.new D ay (by rw [aj];simp);have bi:H4 D=some (.lst ys):=x4.s1 _ _ aj;have xb:=xa.trans x4;refine⟨bi,O.length - (i+1),by omega,rfl,a1,by rw [zdK,zes];omega,zR,az,a4++[e],xA,(ar (ai.ext x4)).upd ak ab ac,ak,?_,(r'.mono ((U.trans (x3.trans x4)).s0)).append (Reps.cons r4 Reps.nil),er,?_⟩
    ·exact⟨xb.s0,λc o z=>by rw [zS (λw=>by rw [w,hD]at z;cases z)];exact xb.s1 c o z,λc o z=>by rw [zS (λw=>by rw [w,ak]at z;cases z)];exact xb.sub c o z,xb.new⟩
    ·rw [<- I];simp
   | false=>
    dsimp only;rw [if_neg zdi]at I ⊢;exact⟨O.length - (i+1),by omega,rfl,a1,by omega,aj,ah,a4,a6,ar ai,ay,xa,r'.mono ((U.trans x3).s0),I,rfl⟩
  ·have e:i=O.length:=by omega
   subst e;rw [List.drop_length]at I;cases I;rw [zei]at q;exact .inl ⟨wk.stop H' x'.s1,q D ys H' H0' (x1.trans x') b3 ao a7 r'⟩
 ·rw [if_neg hl]at Y;cases Y
end
section
variable{X:Cx}{scope:Scope}{own:List Str}{fr:List (Str×Nat)}{elt tg iter c:Expr}{pos:Pos}{src:CO (List D)}{T:Tg}{k:CO Bool}{f:CO D}
theorem jk(y:X.calm=true)(ok:CompOk X scope fr)(I : ∀i∈T.idx,i<own.length)(hi:PIC X tg iter src)(O : ∀fp s2 H2,PG (jz X scope (own++fr.map (·.1)) fp s2 H2) tg (gOf X.K T))
 (U : ∀fp s2 H2,PV (jz X scope (own++fr.map (·.1)) fp s2 H2) elt f) (hs : ∀x,foldedSetIterable iter X.env x=pure x:=by intro _;rfl) :
 PO X (.ListComp elt [⟨tg,iter,[],0⟩] scope pos) (zV src T own.length (fr.map (·.2)) js f):=
 qe (ZE y ok hi O (λ_ _ _=>Z9) U hs) (kZ I λσ H Q ⟨H0,γ,b,rc,Y,q⟩=>by cases Y;exact q H H0 (Ext.refl rc.sub))
theorem Qw(y:X.calm=true)(ok:CompOk X scope fr)(I : ∀i∈T.idx,i<own.length)(hi:PIC X tg iter src)(O : ∀fp s2 H2,PG (jz X scope (own++fr.map (·.1)) fp s2 H2) tg (gOf X.K T))
 (U : ∀fp s2 H2,PTD (jz X scope (own++fr.map (·.1)) fp s2 H2) c k) (Y : ∀fp s2 H2,PV (jz X scope (own++fr.map (·.1)) fp s2 H2) elt f) (hs : ∀x,foldedSetIterable iter X.env x=pure x:=by intro _;rfl) :
 PO X (.ListComp elt [⟨tg,iter,[c],0⟩] scope pos) (zV src T own.length (fr.map (·.2)) k f):=
 qe (ZE y ok hi O (λfp s2 H2=>Z8 (U fp s2 H2)) Y hs) (kZ I λσ H Q h=>h)
theorem XW{y:Str}{I O:Pos}{i:Nat}(U:X.N.Nodup)(Y:X.N[i]? = some y)(hy:Loc X.env.scope y)(hf:X.fn y=true\/X.env.scope.names.lookup y=some .local)
 (hc:X.calm=true) (ok:CompOk X scope fr) (hT : ∀i∈T.idx,i<own.length) (hi:PIC X tg iter src) (hg : ∀fp s2 H2,PG (jz X scope (own++fr.map (·.1)) fp s2 H2) tg (gOf X.K T))
 (he : ∀fp s2 H2,PV (jz X scope (own++fr.map (·.1)) fp s2 H2) elt f) (hs : ∀x,foldedSetIterable iter X.env x=pure x:=by intro _;rfl) :
 PS X (.Assign [.Name y I] (.ListComp elt [⟨tg,iter,[],0⟩] scope pos) O) (JY (tO X.K (zV src T own.length (fr.map (·.2)) js f)) (kI i)):=
 xN (vG U Y hy hf hc ok hi hg (λ_ _ _=>Z9) he hs) λD σ H h=>kZ hT (λσ H Q hZ=>by obtain⟨H0,γ,b,rc,ef,q⟩:=hZ;cases ef;exact q H H0 (Ext.refl rc.sub)) σ H _ h
theorem JI{y:Str}{I O:Pos}{i:Nat}(U:X.N.Nodup)(Y:X.N[i]? = some y)(hy:Loc X.env.scope y)(hf:X.fn y=true\/X.env.scope.names.lookup y=some .local)
 (hc:X.calm=true) (ok:CompOk X scope fr) (hT : ∀i∈T.idx,i<own.length) (hi:PIC X tg iter src) (hg : ∀fp s2 H2,PG (jz X scope (own++fr.map (·.1)) fp s2 H2) tg (gOf X.K T))
 (hk : ∀fp s2 H2,PTD (jz X scope (own++fr.map (·.1)) fp s2 H2) c k) (he : ∀fp s2 H2,PV (jz X scope (own++fr.map (·.1)) fp s2 H2) elt f) (hs : ∀x,foldedSetIterable iter X.env x=pure x:=by intro _;rfl) :
 PS X (.Assign [.Name y I] (.ListComp elt [⟨tg,iter,[c],0⟩] scope pos) O) (JY (tO X.K (zV src T own.length (fr.map (·.2)) k f)) (kI i)):=
 xN (vG U Y hy hf hc ok hi hg (λfp s2 H2=>Z8 (hk fp s2 H2)) he hs) λD σ H h=>kZ hT (λσ H Q h=>h) σ H _ h
end
theorem jW{K:PySem.W.Frag}{H:Hp}{i:Int}{v:V}(h:Rep K H (.int i) v):v = .int i:=h
theorem Qc{K:PySem.W.Frag}{g:Int->Int->D}{I:Int->Int->V}(U : ∀H i j,Rep K H (g i j) (I i j)):Snd K (rI0 I) (dI g):=λH0 H x y dx Y d Q s rx ry O q=>by
 cases dx<;>cases Y<;>simp [dI]at O;subst O;exact⟨_,_,jW rx,jW ry,q _ H H0 (Ext.refl s) (U H0 _ _)⟩
theorem Qb{K:PySem.W.Frag}{C:Int->Int->Prop}{c:Int->Int->Bool}{g:Int->Int->D}{I:Int->Int->V}(U : ∀i j,c i j=true->C i j)(Y : ∀H i j,Rep K H (g i j) (I i j)):Snd K (rI C I) (dIc c g):=λH0 H x y dx dy d Q s rx ry O q=>by
 cases dx<;>cases dy<;>simp [dIc]at O;obtain⟨e1,e2⟩:=O;subst e2;exact⟨_,_,jW rx,jW ry,U _ _ e1,q _ H H0 (Ext.refl s) (Y H0 _ _)⟩
theorem Yz{K:PySem.W.Frag}:Snd K (rI0 λi j=> .int (i - j)) Jh:=Qc λ_ _ _=>rfl
theorem Kx{i j:Int}(h:yp i j=true):CMul i j:=by
 unfold yp at h;rw [zdL,decide_eq_true_eq,decide_eq_true_eq]at h;unfold CMul;omega
theorem YD{K:PySem.W.Frag}:Snd K (rI zcc λi j=> .int (i/j)) kJ:=Qb (λi j h=>by
 unfold VN at h;rw [Bool.and_eq_true,decide_eq_true_eq,decide_eq_true_eq]at h;exact⟨h.1,by omega⟩) λ_ _ _=>rfl
theorem YC{K:PySem.W.Frag}:Snd K (rI (λ_ j=>0<j) λi j=> .int (i%j)) qL:=Qb (λi j h=>by
 unfold zaI at h;exact of_decide_eq_true h) λ_ _ _=>rfl
theorem YA{K:PySem.W.Frag}:Snd K (rI zcb λi j=> .int (i ^ j.toNat)) Vo:=Qb (λi j h=>by
 unfold zag at h;rw [Bool.and_eq_true,Bool.and_eq_true,decide_eq_true_eq,decide_eq_true_eq,decide_eq_true_eq]at h;exact⟨h.1.1,by omega,h.2⟩) λ_ _ _=>rfl
theorem V5{K:PySem.W.Frag}:Snd K (rI0 λi j=> .bl (decide (i<j))) dLt:=Qc λ_ _ _=>rfl
theorem V6{K:PySem.W.Frag}:Snd K (rI0 λi j=> .bl (decide (i<=j))) dLe:=Qc λ_ _ _=>rfl
theorem V7{K:PySem.W.Frag}:Snd K (rI0 λi j=> .bl (decide (j<i))) dGt:=Qc λ_ _ _=>rfl
theorem KJ{K:PySem.W.Frag}:Snd K (rI0 λi j=> .bl (decide (j<=i))) dGe:=Qc λ_ _ _=>rfl
section
variable{X:Cx}
def KO(K:PySem.W.Frag):R2:=λx y H Q=>∃a b xs ys,x = .ref a/\y = .ref b/\SqT K H a xs/\SqT K H b ys/\xs.length+ys.length<=sizeLine/\
 (xs=[]->Q (.ref b) H)/\(ys=[]->Q (.ref a) H)/\∀p,H p=none->Q (.ref p) (upd H p (.tup (xs++ys)))
theorem X7:OpR X (binaryOp .Add) (KO X.K):=by
 intro pins s σ H x y v u Q I rx ry h;obtain⟨a,b,xs,ys,rfl,rfl,ha,hb,hz,q0,q1,q2⟩:=h;cases rx;cases ry;obtain⟨its,r,U,z1⟩:=I.tuple ha;obtain⟨aa,r2,Y,z2⟩:=I.tuple hb;by_cases O:xs=[]
 ·have e1:its=[]:=(r.nil_iff).mpr O
  obtain⟨⟨cls,dd,data,sl⟩,ho,hc,n,hd⟩:=id U;obtain⟨⟨ai,ac,data2,ae⟩,a2,a3,n2,a4⟩:=id Y;simp only at hc hd a3 a4;subst hc hd a3 a4;exact zfV ⟨_,ho,rfl⟩ ⟨_,a2,rfl⟩ zfY seq_tuple_add zfb ze8 (zeZ _ _)
   (tuple_addW0 a b its.toArray aa.toArray n n2 dd ac sl ae (by simp [e1])) ⟨ho,a2,⟨.ref b,H,I,rfl,q0 O⟩⟩
 ·have e1:its ≠ []:=λz=>O ((r.nil_iff).mp z)
  refine HT.cat_tup U Y e1 (λz=>⟨.ref a,H,I,rfl,q1 ((r2.nil_iff).mp z)⟩) (λ_=>?_) (by rw [<- r.length,<- r2.length];exact hz);refine⟨.ref s.heap.objs.size,_,I.laid (t':=s.toks) (o:= .tup (xs++ys)) (λc ob q=>zcO _ q) (zcZ _) ?_,rfl,q2 _ (I.hok.fresh (zcZ _))⟩;exact⟨by rw [zdK];exact hz,_,r.append r2,IsTupD.new _ _⟩
def Wj(K:PySem.W.Frag):R2:=λx y H Q=>∃l b xs zs,x = .ref l/\y = .ref b/\SqL K H l xs/\SqL K H b zs/\xs.length+zs.length<=sizeLine/\∀p,H p=none->Q (.ref p) (upd H p (.lst (xs++zs)))
theorem X8:OpR X (binaryOp .Add) (Wj X.K):=by
 intro pins s σ H x y v u Q I rx ry h;obtain⟨l,b,xs,zs,rfl,rfl,hH,hB,hz,q⟩:=h;cases rx;cases ry;obtain⟨its,r,⟨o,n,e,U,Y,c3⟩,z1⟩:=I.list hH;obtain⟨O,r2,⟨o2,n2,e2,d1,d2,d3⟩,z2⟩:=I.list hB;have l1:=r.length;have l2:=r2.length;obtain⟨cls,dct,dt,sl⟩:=o;obtain⟨ah,ai,aj,a9⟩:=o2;simp only at U Y c3 d1 d2 d3;subst U Y c3 d1 d2 d3;have aa:EP X pins σ Q (.ref s.heap.objs.size) {s with heap:=s.heap.push {cls:= .type "list",data:= .seq (its++O).toArray}}:=
  ⟨.ref _,_,I.lnew (t':=s.toks) (r.append r2) (by rw [zdK];omega),rfl,q _ I.fresh⟩
 have ea:its.toArray++O.toArray=(its++O).toArray:=by simp
 refine zfV ⟨_,e,rfl⟩ ⟨_,e2,rfl⟩ noFill_list_add seq_list_add PySem.F.slot_list_add PySem.F.entry_list_add (PySem.F.args_list_add_2 _ _)
  (list_addW l b its.toArray O.toArray n n2 none none sl a9 (by rw [zcV,zcV];omega)) ⟨e,e2,?_⟩
 rw [ea];exact aa
end
def kR(scope sc:Scope):Scope:={scope with names:=scope.names.map λp=>if p.2==NameKind.free && sc.kind == .function && sc.names.lookup p.1==some .cell then (p.1,zeh)else (p.1,p.2)}
theorem JE(scope:Scope)(env:Env):relabel scope env=kR scope env.scope:=by
 unfold relabel kR;rfl
structure SX(X:Cx)(sc:Scope)(N T:List Str)(k:Nat):Prop where
 esc:X.env.scope=sc
 eN:X.N=N
 nd:N.Nodup
 calm:X.calm=true
 room:Room k X.A
 fn : ∀x∈T,X.fn x=true\/sc.names.lookup x=some .local
def Jt(sc:Scope)(N:List Str)(i:Nat)(x:Str):Bool:=
 decide (N[i]? = some x) && (decide (sc.names.lookup x=some .local) || decide (sc.names.lookup x=some .cell) || decide (sc.names.lookup x=some .free)) && !(x==("__debug__" : Str)) && !(x==("__classdict__" : Str))
def JA(sc:Scope)(N T:List Str)(i:Nat)(x:Str):Bool:=decide (x∈T) && decide (N[i]? = some x) && (decide (sc.names.lookup x=some .local) || decide (sc.names.lookup x=some .cell))
def kt(sc:Scope)(x:Str):Bool:=decide (sc.names.lookup x=some .globalImplicit) && !(x==("__name__" : Str)) && !(x==("__debug__" : Str))
section
variable{X:Cx}{sc:Scope}{N T:List Str}{k:Nat}{i:Nat}{x:Str}{pos:Pos}
theorem SX.var(h:SX X sc N T k)(c:Jt sc N i x=true):PE X (.Name x pos) (VI i):=by
 unfold Jt at c;simp only [Bool.and_eq_true,zdL,decide_eq_true_eq,zfa]at c;obtain⟨⟨⟨h1,h2⟩,y⟩,I⟩:=c;refine WC (by rw [h.eN];exact h1) ?_ y I;unfold Vis;rw [h.esc];rcases h2 with(h2 | h2) | h2
 ·exact .inl h2
 ·exact .inr (.inl h2)
 ·exact .inr (.inr h2)
theorem SX.loc(h:SX X sc N T k)(c:JA sc N T i x=true):X.N[i]? = some x/\L2.Loc X.env.scope x/\(X.fn x=true\/X.env.scope.names.lookup x=some .local):=by
 unfold JA at c;simp only [Bool.and_eq_true,zdL,decide_eq_true_eq]at c;refine⟨by rw [h.eN];exact c.1.2,?_,?_⟩
 ·unfold L2.Loc;rw [h.esc];exact c.2
 ·rw [h.esc];exact h.fn x c.1.1
theorem SX.ndX(h:SX X sc N T k):X.N.Nodup:=by rw [h.eN];exact h.nd
theorem SX.tgt(h:SX X sc N T k)(i:Nat)(c:JA sc N T i x=true):PG X (.Name x pos) (kI i):=by
 obtain⟨h1,h2,y⟩:=h.loc c;exact QB h.ndX h1 h2 y
theorem SX.tgts(h:SX X sc N T k){es:List Expr}{is:List Nat}{j:Nat}(g:PGs X es (gs is))(hn:(assignEach es X.env).length=is.length:=by rfl)(y:(assignEach es X.env).findIdx? (·.1)=none:=by rfl):PG X (.Tuple es j pos) (gOf X.K (.tp is)):=
 WA h.calm g hn y
theorem SX.set(h:SX X sc N T k)(i:Nat){e:Expr}{te:TE}{y:Pos}(c:JA sc N T i x=true)(I:PE X e te)(hs:swapsWith e (some (.Name x y)) pos.line X.env=pure false:=by rfl):PS X (.Assign [.Name x y] e pos) (JY te (kI i)):=by
 obtain⟨h1,h2,O⟩:=h.loc c;exact Ws h.ndX h1 h2 I hs O
theorem SX.gl(h:SX X sc N T k)(c:kt sc x=true):Gl X x/\x ≠ "__name__"/\(x==("__debug__" : Str))=false:=by
 unfold kt at c;simp only [Bool.and_eq_true,decide_eq_true_eq,zfa]at c;refine⟨?_,?_,c.2⟩
 ·show X.env.scope.names.lookup x=_
  rw [h.esc];exact c.1.1
 ·intro e;rw [e]at c;simp at c
def Q4(sc scope:Scope)(N:List Str)(fr:List (Str×Nat)):Bool:=
 decide (scope.kind = .function) && decide ((scope.names.map (·.1)).Nodup) && scope.names.all (λp=> !(p.2==NameKind.free) || decide (sc.names.lookup p.1=some .cell) || decide (sc.names.lookup p.1=some .free)) &&
 fr.all λp=>decide (scope.names.lookup p.1=some .free) && decide (N[p.2]? = some p.1)
def zbT(own:List Str)(scope:Scope)(fr:List (Str×Nat)):Bool:=decide ((own++fr.map (·.1)).Nodup) && own.all (λx=>decide (scope.names.lookup x=some .local) || decide (scope.names.lookup x=some .cell))
theorem SX.compOk(h:SX X sc N T k){scope:Scope}{fr:List (Str×Nat)}(c:Q4 sc scope N fr=true):CompOk X scope fr:=by
 unfold Q4 at c;simp only [Bool.and_eq_true,decide_eq_true_eq,zdr,zdL,zfa]at c;obtain⟨⟨⟨I,O⟩,U⟩,c4⟩:=c;refine⟨I,O,λp y Y=>?_,λp y=>⟨(c4 p y).1,by rw [h.eN];exact(c4 p y).2⟩⟩;have e:X.env.kindOf p.1=sc.names.lookup p.1:=by show X.env.scope.names.lookup p.1=_;rw [h.esc]
 rw [e];rcases U p y with(q | q) | q
 ·rw [Y]at q;exact absurd q ⋯
 ·exact .inl q
 ·exact .inr q
theorem yY(scope sc:Scope)(x:Str):(kR scope sc).names.lookup x=(scope.names.lookup x).map λk=>if (k==NameKind.free && sc.kind == .function && sc.names.lookup x==some .cell)then zeh else k:=by
 unfold kR;dsimp only;generalize scope.names=l
 induction l with
 | nil=>rfl
 | cons p r I=>
  obtain⟨n,O⟩:=p;rw [zdn];cases hx:x==n with
  | true=>
   have e:x=n:=by simpa using hx
   subst e;dsimp only;split
   ·rename_i y;rw [zdw,zdw,beq_self_eq_true];dsimp only [zfC];rw [if_pos y]
   ·rename_i y;rw [zdw,zdw,beq_self_eq_true];dsimp only [zfC];rw [if_neg y]
  | false=>
   dsimp only;split
   ·rw [zdw,zdw,hx];exact I
   ·rw [zdw,zdw,hx];exact I
theorem SX.comp(h:SX X sc N T k){scope:Scope}{own:List Str}{fr:List (Str×Nat)}{fp:List Addr}{s2:Shared}{H2:Hp}(c:zbT own scope fr=true) :
 SX (jz X scope (own++fr.map (·.1)) fp s2 H2) (kR scope sc) (own++fr.map (·.1)) own k:=by
 unfold zbT at c;simp only [Bool.and_eq_true,decide_eq_true_eq,zdr,zdL]at c;refine⟨?_,rfl,c.1,h.calm,h.room,λx y=>?_⟩
 ·show relabel scope X.env=_
  rw [JE,h.esc]
 ·rcases c.2 x y with q | q
  ·right;rw [yY,q];rfl
  ·left
   show(scope.names.lookup x==some .cell)=true;rw [q];rfl
theorem SX.cq(h:SX X sc N T k){scope:Scope}(own:List Str)(fr:List (Str×Nat))(fp:List Addr)(s2:Shared)(H2:Hp)(c:zbT own scope fr=true) :
 SX (jz X scope (own++fr.map (·.1)) fp s2 H2) (kR scope sc) (own++fr.map (·.1)) own k:=h.comp c
end
mutual
def toP:D->PyData
 | .non=> .none
 | .bl b=> .bool b
 | .int i=> .int i
 | .str x=> .str x
 | .tup ds=> .tuple (toPs ds)
 | .lst ds=> .list (toPs ds)
 | .exc _ _=> .none
 | .dic _ _=> .none
 | .dct _ _=> .none
def toPs:List D->List PyData
 | []=>[]
 | d::ds=>toP d::toPs ds
end
theorem okS_exc{c:Str}{n:Option Int}(h:okS (.exc c n)=true):False:=by simp [okS]at h
theorem okS_dic{ks vs:List D}(h:okS (.dic ks vs)=true):False:=by simp [okS]at h
theorem okS_dct{ks:List (List Int)}{vs:List D}(h:okS (.dct ks vs)=true):False:=by simp [okS]at h
mutual
theorem eqv_toP : ∀x y:D,okS x=true->okS y=true->PyData.eqv (toP x) (toP y)=eqD x y
 | .non,y,_,h=>by cases y<;>first | exact(okS_exc h).elim | exact(okS_dic h).elim | exact(okS_dct h).elim | simp [toP,PyData.eqv,eqD]
 | .bl a,y,_,h=>by cases y<;>first | exact(okS_exc h).elim | exact(okS_dic h).elim | exact(okS_dct h).elim | simp [toP,PyData.eqv,eqD]
 | .int a,y,_,h=>by cases y<;>first | exact(okS_exc h).elim | exact(okS_dic h).elim | exact(okS_dct h).elim | simp [toP,PyData.eqv,eqD]
 | .str a,y,_,h=>by cases y<;>first | exact(okS_exc h).elim | exact(okS_dic h).elim | exact(okS_dct h).elim | simp [toP,PyData.eqv,eqD]
 | .exc c n,y,h,_=>(okS_exc h).elim
 | .dic c n,y,h,_=>(okS_dic h).elim
 | .dct c n,y,h,_=>(okS_dct h).elim
 | .tup xs,y,h1,h2=>by
  cases y with
  | tup ys=>simp only [okS]at h1 h2;simp only [toP,PyData.eqv,eqD];exact eqvs_toP xs ys h1 h2
  | exc c n=>exact(okS_exc h2).elim
  | dic c n=>exact(okS_dic h2).elim
  | dct c n=>exact(okS_dct h2).elim
  | _=>simp [toP,PyData.eqv,eqD]
 | .lst xs,y,h1,h2=>by
  cases y with
  | lst ys=>simp only [okS]at h1 h2;simp only [toP,PyData.eqv,eqD];exact eqvs_toP xs ys h1 h2
  | exc c n=>exact(okS_exc h2).elim
  | dic c n=>exact(okS_dic h2).elim
  | dct c n=>exact(okS_dct h2).elim
  | _=>simp [toP,PyData.eqv,eqD]
theorem eqvs_toP : ∀xs ys:List D,okSs xs=true->okSs ys=true->PyData.eqvAll (toPs xs) (toPs ys)=eqDs xs ys
 | [],ys,_,_=>by cases ys<;>simp [toPs,PyData.eqvAll,eqDs]
 | x::xs,ys,h1,h2=>by
  cases ys with
  | nil=>simp [toPs,PyData.eqvAll,eqDs]
  | cons y ys=>
   simp only [okSs,Bool.and_eq_true]at h1 h2;simp only [toPs,PyData.eqvAll,eqDs];rw [eqv_toP x y h1.1 h2.1,eqvs_toP xs ys h1.2 h2.2]
end
mutual
theorem lay_toP : ∀x:D,okS x=true->(toP x).canLay0=true
 | .non,_=>by simp [toP,PyData.canLay0]
 | .bl a,_=>by simp [toP,PyData.canLay0]
 | .int a,_=>by simp [toP,PyData.canLay0]
 | .str a,h=>by simpa [toP,PyData.canLay0,okS,PyData.strOk]using h
 | .tup xs,h=>by simp only [okS]at h;simp only [toP,PyData.canLay0];exact lays_toP xs h
 | .lst xs,h=>by simp only [okS]at h;simp only [toP,PyData.canLay0];exact lays_toP xs h
 | .exc c n,h=>(okS_exc h).elim
 | .dic c n,h=>(okS_dic h).elim
 | .dct c n,h=>(okS_dct h).elim
theorem lays_toP : ∀xs:List D,okSs xs=true->PyData.canLayAll0 (toPs xs)=true
 | [],_=>by simp [toPs,PyData.canLayAll0]
 | x::xs,h=>by
  simp only [okSs,Bool.and_eq_true]at h;simp only [toPs,PyData.canLayAll0];rw [lay_toP x h.1,lays_toP xs h.2];rfl
end
mutual
theorem depth_toP : ∀x:D,(toP x).depth=deep x
 | .non=>by simp [toP,PyData.depth,deep]
 | .bl a=>by simp [toP,PyData.depth,deep]
 | .int a=>by simp [toP,PyData.depth,deep]
 | .str a=>by simp [toP,PyData.depth,deep]
 | .exc c n=>by simp [toP,PyData.depth,deep]
 | .dic c n=>by simp [toP,PyData.depth,deep]
 | .dct c n=>by simp [toP,PyData.depth,deep]
 | .tup xs=>by simp only [toP,PyData.depth,deep];rw [depths_toP xs]
 | .lst xs=>by simp only [toP,PyData.depth,deep];rw [depths_toP xs]
theorem depths_toP : ∀xs:List D,PyData.depthAll (toPs xs)=deeps xs
 | []=>by simp [toPs,PyData.depthAll,deeps]
 | x::xs=>by simp only [toPs,PyData.depthAll,deeps];rw [depth_toP x,depths_toP xs]
end
theorem xY{d:D}(h:okD d=true):okS d=true:=by
 unfold okD at h;rw [Bool.and_eq_true]at h;exact h.2
theorem kP{d:D}(h:okD d=true):SeqAt.shaped (toP d)=true:=by
 unfold okD at h;rw [Bool.and_eq_true,decide_eq_true_eq]at h;unfold SeqAt.shaped;rw [lay_toP d h.2,Bool.true_and,depth_toP];exact decide_eq_true ⋯
section
variable{X:Cx}{pins:List (Addr×Obj)}{σ:St}{H0 H:Hp}{s:Shared}
mutual
theorem reads_of(I:Inv X pins σ H s)(sub:Same H0 H) : ∀{d:D} {v:V} {u:Value},okS d=true->Rep X.K H0 d v->RelV v u->∃y,Reads s.heap u (toP d) y
 | .non,v,u,_,h,r=>by cases (show v = .non from h);cases r;exact⟨_,.none⟩
 | .bl b,v,u,_,h,r=>by cases (show v = .bl b from h);cases r;exact⟨_,.bool b⟩
 | .int i,v,u,_,h,r=>by cases (show v = .int i from h);obtain⟨t,rfl⟩:=r;exact⟨_,.int i t⟩
 | .str x,v,u,_,h,r=>by cases (show v = .str x from h);obtain⟨t,rfl⟩:=r;exact⟨_,.str x t⟩
 | .exc c n,v,u,o,_,_=>(okS_exc o).elim
 | .dic c n,v,u,o,_,_=>(okS_dic o).elim
 | .dct c n,v,u,o,_,_=>(okS_dct o).elim
 | .tup ds,v,u,o,h,r=>by
  obtain⟨a,xs,rfl,h1,h2⟩:=(show ∃a xs,v = .ref a/\SqT X.K H0 a xs/\Reps X.K H0 ds xs from h);cases r;simp only [okS]at o;obtain⟨its,O,⟨ob,U,Y,n,hd⟩,hz⟩:=I.tuple (sameT sub h1);obtain⟨y,ra⟩:=readsAll_of I sub o h2 O;exact⟨y,.tuple U Y hd (by simpa using ra)⟩
 | .lst ds,v,u,o,h,r=>by
  obtain⟨a,xs,rfl,h1,h2⟩:=(show ∃a xs,v = .ref a/\SqL X.K H0 a xs/\Reps X.K H0 ds xs from h);cases r;simp only [okS]at o;obtain⟨its,O,p,hz⟩:=I.list (sub.seq h1);obtain⟨ob,U,Y,n,hd⟩:=p.isList;obtain⟨y,ra⟩:=readsAll_of I sub o h2 O;exact⟨_,.list U Y hd (by simpa using ra)⟩
theorem readsAll_of(I:Inv X pins σ H s)(sub:Same H0 H) : ∀{ds:List D} {xs:List V} {us:List Value},okSs ds=true->Reps X.K H0 ds xs->Vals xs us->∃y,ReadsAll s.heap us (toPs ds) y
 | [],xs,us,_,h,r=>by rw [h.inv_nil]at r;cases r;exact⟨_,.nil⟩
 | d::ds,xs,us,o,h,r=>by
  obtain⟨x,t,e,h1,h2⟩:=h.inv_cons;subst e;simp only [okSs,Bool.and_eq_true]at o;cases r with
  | cons O r2=>
   obtain⟨y,U⟩:=reads_of I sub o.1 h1 O;obtain⟨bs,Y⟩:=readsAll_of I sub o.2 h2 r2;exact⟨_,.cons U Y⟩
end
end
def zbW(K:PySem.W.Frag):R2:=λx y H Q=>∃H0 dx I,Same H0 H/\Rep K H0 dx x/\Rep K H0 I y/\okD dx=true/\okD I=true/\Q (.bl (eqD dx I)) H
def zbV(K:PySem.W.Frag):R2:=λx y H Q=>∃H0 dx I,Same H0 H/\Rep K H0 dx x/\Rep K H0 I y/\okD dx=true/\okD I=true/\Q (.bl (!eqD dx I)) H
theorem K0{X:Cx}(Y:X.A.units+64<cLine):OpR X (compareOp .Eq) (zbW X.K):=by
 intro pins s σ H x y v u Q I rx ry h;obtain⟨H0,dx,dy,sub,r1,r2,O,U,q⟩:=h;obtain⟨as,ra⟩:=reads_of I sub (xY O) r1 rx;obtain⟨bs,rb⟩:=reads_of I sub (xY U) r2 ry;exact eq_dataH ra rb (kP O) (kP U) Y ⟨.bl _,H,I,by rw [eqv_toP _ _ (xY O) (xY U)];rfl,q⟩
theorem KZ{X:Cx}(Y:X.A.units+64<cLine):OpR X (compareOp .NotEq) (zbV X.K):=by
 intro pins s σ H x y v u Q I rx ry h;obtain⟨H0,dx,dy,sub,r1,r2,O,U,q⟩:=h;obtain⟨as,ra⟩:=reads_of I sub (xY O) r1 rx;obtain⟨bs,rb⟩:=reads_of I sub (xY U) r2 ry;exact ne_dataH ra rb (kP O) (kP U) Y ⟨.bl _,H,I,by rw [eqv_toP _ _ (xY O) (xY U)];rfl,q⟩
theorem Qd{K:PySem.W.Frag}:Snd K (zbW K) dEq:=λH0 H x y dx O d Q s rx U I q=>by
 unfold dEq at I;split at I
 ·rename_i h;cases I;exact⟨H0,dx,O,s,rx,U,h.1,h.2,q _ H H0 (Ext.refl s) rfl⟩
 ·cases I
theorem Qa{K:PySem.W.Frag}:Snd K (zbV K) dNe:=λH0 H x y dx O d Q s rx U I q=>by
 unfold dNe at I;split at I
 ·rename_i h;cases I;exact⟨H0,dx,O,s,rx,U,h.1,h.2,q _ H H0 (Ext.refl s) rfl⟩
 ·cases I
theorem SX.u64{X:Cx}{sc:Scope}{N T:List Str}{k:Nat}(h:SX X sc N T k):X.A.units+64<cLine:=by have:=h.room.un;omega
section
variable{X:Cx}{sc:Scope}{N T:List Str}{k:Nat}{a b c:Expr}{pos p:Pos}{fa fb fc:CO D}
theorem yT(ha:PV X a fa)(y:PV X b fb):PV X (.BinOp a .Sub b pos) (zy Jh fa fb):=vE WN Yz ha y
theorem xv(ha:PV X a fa)(y:PV X b fb):PV X (.BinOp a .FloorDiv b pos) (zy kJ fa fb):=vE Y9 YD ha y
theorem qd(ha:PV X a fa)(y:PV X b fb):PV X (.BinOp a .Mod b pos) (zy qL fa fb):=vE WQ YC ha y
theorem Ql(ha:PV X a fa)(y:PV X b fb):PV X (.BinOp a .Pow b pos) (zy Vo fa fb):=vE WP YA ha y
theorem za8(ha:PV X a fa)(y:PV X b fb):PV X (.Compare a [.GtE] [b] pos) (zy dGe fa fb):=Qq WR KJ ha y (ym b)
theorem XO(h:SX X sc N T k)(ha:PV X a fa)(y:PV X b fb):PV X (.Compare a [.Eq] [b] pos) (zy dEq fa fb):=Qq (K0 h.u64) Qd ha y (ym b)
theorem za6(h:SX X sc N T k)(ha:PV X a fa)(y:PV X b fb):PV X (.Compare a [.NotEq] [b] pos) (zy dNe fa fb):=Qq (KZ h.u64) Qa ha y (ym b)
theorem wS(ha:PV X a fa)(y:PV X b fb):PTD X (.Compare a [.Gt] [b] pos) (sB (zy dGt fa fb)):=yU zbe V7 ha y (ym b)
theorem Wp(ha:PV X a fa)(y:PV X b fb):PTD X (.Compare a [.GtE] [b] pos) (sB (zy dGe fa fb)):=yU WR KJ ha y (ym b)
theorem xJ(h:SX X sc N T k)(ha:PV X a fa)(y:PV X b fb):PTD X (.Compare a [.Eq] [b] pos) (sB (zy dEq fa fb)):=yU (K0 h.u64) Qd ha y (ym b)
theorem xV(h:SX X sc N T k)(ha:PV X a fa)(y:PV X b fb):PTD X (.Compare a [.NotEq] [b] pos) (sB (zy dNe fa fb)):=yU (KZ h.u64) Qa ha y (ym b)
theorem Zz{K:PySem.W.Frag}{H:Hp}{d:D}(h:Rep K H d .non):d = .non:=by
 cases d with
 | non=>rfl
 | bl b=>exact V.noConfusion (show V.non = .bl b from h)
 | int b=>exact V.noConfusion (show V.non = .int b from h)
 | str b=>exact V.noConfusion (show V.non = .str b from h)
 | tup b=>obtain⟨a,xs,e,_⟩:=h;cases e
 | lst b=>obtain⟨a,xs,e,_⟩:=h;cases e
 | exc c n=>obtain⟨a,e,_⟩:=h;cases e
 | dic c n=>obtain⟨a,xs,e,_⟩:=h;cases e
 | dct c n=>obtain⟨a,xs,e,_⟩:=h;cases e
theorem JC{K:PySem.W.Frag}:Snd K (λx y H Q=>y = .non/\Q (.bl (!decide (x = .non))) H) vg:=λH0 H x y dx O d Q s rx U I q=>by
 cases O with
 | non=>
  refine⟨U,?_⟩;cases dx with
  | non=>cases I;rw [show x=V.non from rx];exact q _ H H0 (Ext.refl s) (by simp;rfl)
  | _=>
   cases I;refine q _ H H0 (Ext.refl s) ?_;have : ¬x=V.non:=λe=>by rw [e]at rx;exact D.noConfusion (Zz rx)
   rw [decide_eq_false this];rfl
 | _=>cases dx<;>cases I
theorem vF(ha:PV X a fa)(y:PV X b fb):PTD X (.Compare a [.IsNot] [b] pos) (sB (zy vg fa fb)):=yU Y8 JC ha y (ym b)
theorem k9{K:PySem.W.Frag}{H:Hp}{ds:List D}{v:V}(h:Rep K H (.tup ds) v) : ∃a xs,v = .ref a/\SqT K H a xs/\Reps K H ds xs:=h
theorem QH{K:PySem.W.Frag}{H:Hp}{ds:List D}{v:V}(h:Rep K H (.lst ds) v) : ∃a xs,v = .ref a/\SqL K H a xs/\Reps K H ds xs:=h
theorem qH{K:PySem.W.Frag}{H:Hp}{ds:List D}{a:Addr}{xs:List V}(h1:SqT K H a xs)(h2:Reps K H ds xs):Rep K H (.tup ds) (.ref a):=⟨a,xs,rfl,h1,h2⟩
theorem yS{K:PySem.W.Frag}{H:Hp}{ds:List D}{a:Addr}{xs:List V}(h1:SqL K H a xs)(h2:Reps K H ds xs):Rep K H (.lst ds) (.ref a):=⟨a,xs,rfl,h1,h2⟩
theorem YE{K:PySem.W.Frag}:Snd K (λx y H Q=>rI0 (λi j=> .int (i+j)) x y H Q\/KO K x y H Q) qb:=λH0 H x y dx dy d Q s rx U O q=>by
 cases dx<;>cases dy<;>simp [qb]at O
 ·subst O;exact .inl ⟨_,_,jW rx,jW U,q _ H H0 (Ext.refl s) rfl⟩
 ·rename_i ds es
  obtain⟨hl,rfl⟩:=O;obtain⟨a,xs,rfl,h1,h2⟩:=k9 rx;obtain⟨b,ys,rfl,Y,I⟩:=k9 U;refine .inr ⟨a,b,xs,ys,rfl,rfl,sameT s h1,sameT s Y,xZ (by rw [h2.length,I.length];exact hl),λe=>?_,λe=>?_,λp hp=>?_⟩
  ·have e2:ds=[]:=by
    have:=h2.length;rw [e]at this;exact zdd this.symm
   subst e2;exact q _ H H0 (Ext.refl s) (qH Y I)
  ·have e2:es=[]:=by
    have:=I.length;rw [e]at this;exact zdd this.symm
   subst e2;exact q _ H H0 (Ext.refl s) (by rw [zei];exact qH h1 h2)
  ·exact q _ _ _ (Ext.alloc s hp _) (qH (SqT.of zR) ((h2.append I).mono (jm (jC s hp) _)))
theorem jG(ha:PV X a fa)(y:PV X b fb):PV X (.BinOp a .Add b pos) (zy qb fa fb):=vE (op_add.or X7) YE ha y
end
theorem vL{P:Program}{w:World}{A:Around}(U:A.handled=none)(k:Sk)(I y:Addr)(Y:y≠I)(O:Array Value) :
 Walks P w A I [I,y] [I] O.size (λi v=>O[i]? = some v) (λi h=>ItAt k h I y i/\SqAt k h y O):=by
 cases k
 ·exact Walks.list U I y Y O
 ·exact Walks.tuple U I y Y O
theorem yV(zs:List Int) : ∀n,preSum (λi=>zs.getD i 0) n=(zs.take n).sum
 | 0=>by simp [preSum]
 | n+1=>by
  have y:=yV zs n;simp only [preSum,y];by_cases h:n<zs.length
  ·rw [List.take_succ_eq_append_getElem h,List.sum_append]
   simp [h]
  ·rw [zfh ⋯,zfh ⋯]
   simp [h]
section
variable{X:Cx}{pins:List (Addr×Obj)}{σ:St}{H:Hp}{s:Shared}
theorem Q7(hc:X.calm=true):vn X (.builtin "sum") (λxs H Q=>∃p k ys zs,xs=[.ref p]/\SqK k X.K H p ys/\ys=(zs:List Int).map V.int/\Q (.int zs.sum) H):=by
 intro pins s σ H vs us Q I rv h;obtain⟨p,k,ys,zs,rfl,hq,rfl,q⟩:=h;obtain⟨u,rfl,y⟩:=k8 rv;cases y;obtain⟨its,r,hs,hz⟩:=I.sq hq;have lt:=hs.lt;have O:=r.length;rw [zdY]at O;refine call_sum_walkG (wZ hs ⟨_,[_,p],[_],its.toArray.size,_,_,λi=>zs.getD i 0,rfl,vL (A:=X.A.in1) (I.ok.hd hc) k _ p (zda lt) its.toArray,⟨yn k _ p,hs.at λo e=>zcO _ e⟩,?_,?_,?_⟩)
 ·intro b U
  rw [zdg];simp only [zcY,zc3,or_false]at U;rcases U with rfl | rfl
  ·exact zdR _
  ·exact zdB lt
 ·intro i v hv
  have Y:its[i]? = some v:=by simpa using hv
  have hi:i<zs.length:=by rw [O];exact(zc9.mp Y).1
  obtain⟨u,e1,y⟩:=r.get (i:=i) (x:= .int zs[i]) (by simp [hi]);rw [Y]at e1;cases e1;obtain⟨t,rfl⟩:=y;exact⟨t,by simp [hi]⟩
 ·intro h' tk t' hk
  have e:preSum (λi=>zs.getD i 0) its.toArray.size=zs.sum:=by
   rw [yV,zfh (by rw [zcV,O];exact zcZ _)]
  refine⟨.int zs.sum,H,I.kept (t':=tk) (λb u e=>hk b u ?_ (zcO _ e)),⟨t',by rw [e]⟩,q⟩;simp only [zcY,zc3,or_false];exact zda (zcX e)
def VV:V->Option Bool
 | .non=>some false
 | .bl b=>some b
 | .int i=>some (i != 0)
 | _=>none
theorem ZX{P:Program}{w:World}{A:Around}{E:Value->Shared->Prop}{s:Shared}{Q:Bool->Shared->Prop}{x:V}{u:Value}{b:Bool}(r:RelV x u)(e:VV x=some b)(q:Q b s):wpAny (model P w) A (truthy u) Q E s:=by
 cases x with
 | non=>cases r;cases e;exact λ_ _ _=>q
 | bl c=>cases r;cases e;exact zej q
 | int i=>obtain⟨t,rfl⟩:=r;cases e;exact PyProof.Rows.truthy_int q
 | _=>cases e
def Jy:List V->Option (List Bool)
 | []=>some []
 | x::r=>(VV x).bind λb=>(Jy r).map λl=>b::l
theorem yI : ∀{xs:List V} {bs:List Bool},Jy xs=some bs->bs.length=xs.length/\∀(i:Nat) x,xs[i]? = some x->VV x=some (bs.getD i false)
 | [],bs,h=>by cases h;exact⟨rfl,λi x e=>by simp at e⟩
 | y::xs,bs,h=>by
  obtain⟨b,e1,h⟩:=bind_some h;obtain⟨l,e2,h⟩:=zF h;subst h;obtain⟨h1,h2⟩:=yI e2;refine⟨by simp [h1],λi x e=>?_⟩;cases i with
  | zero=>simp at e;subst e;simpa using e1
  | succ i=>simpa using h2 i x (by simpa using e)
theorem Xi(bs:List Bool):(zcP bs.length).all (λi=>bs.getD i false)=bs.all id:=by
 rw [zeV];simp only [zdr,zc1,id_eq];constructor
 ·intro h b y
  obtain⟨i,hi,e⟩:=List.mem_iff_getElem.mp y;have:=h i hi;rw [zev,zc7 hi]at this;rw [<- e];exact this
 ·intro h i hi
  rw [zev,zc7 hi];exact h _ (List.getElem_mem hi)
theorem Xh(bs:List Bool):(zcP bs.length).any (λi=>bs.getD i false)=bs.any id:=by
 rw [zeV];simp only [List.any_eq_true,zc1,id_eq];constructor
 ·rintro⟨i,hi,h⟩
  rw [zev,zc7 hi]at h;exact⟨_,List.getElem_mem hi,h⟩
 ·rintro⟨b,y,h⟩
  obtain⟨i,hi,e⟩:=List.mem_iff_getElem.mp y;refine⟨i,hi,?_⟩;rw [zev,zc7 hi,Option.getD_some,e];exact h
theorem Xb(Y:X.calm=true):vn X (.builtin "all") (λxs H Q=>∃p k ys bs,xs=[.ref p]/\SqK k X.K H p ys/\Jy ys=some bs/\Q (.bl (bs.all id)) H):=by
 intro pins s σ H vs us Q I rv h;obtain⟨p,k,ys,bs,rfl,hq,ht,q⟩:=h;obtain⟨u,rfl,y⟩:=k8 rv;cases y;obtain⟨its,r,hs,hz⟩:=I.sq hq;have lt:=hs.lt;have O:=r.length;obtain⟨a3,a4⟩:=yI ht;refine call_all_walk (wZ hs ⟨_,[_,p],[_],its.toArray.size,_,_,λi=>bs.getD i false,rfl,vL (A:=X.A.in1) (I.ok.hd Y) k _ p (zda lt) its.toArray,⟨yn k _ p,hs.at λo e=>zcO _ e⟩,?_,?_⟩)
 ·intro i v s' Q' E' hv hQ
  have U:its[i]? = some v:=by simpa using hv
  have hi:i<ys.length:=by rw [O];exact(zc9.mp U).1
  obtain⟨u,e1,y⟩:=r.get (i:=i) (x:=ys[i]) (by simp [hi]);rw [U]at e1;cases e1;exact ZX y (a4 i ys[i] (by simp [hi])) hQ
 ·intro h' tk hk
  have e:(zcP its.toArray.size).all (λi=>bs.getD i false)=bs.all id:=by
   rw [zcV,<- O,<- a3];exact Xi bs
  refine⟨.bl (bs.all id),H,I.kept (t':=tk) (λb u e=>hk b u ?_ (zcO _ e)),by rw [e];rfl,q⟩;simp only [zcY,zc3,or_false];exact zda (zcX e)
theorem Xa(Y:X.calm=true):vn X (.builtin "any") (λxs H Q=>∃p k ys bs,xs=[.ref p]/\SqK k X.K H p ys/\Jy ys=some bs/\Q (.bl (bs.any id)) H):=by
 intro pins s σ H vs us Q I rv h;obtain⟨p,k,ys,bs,rfl,hq,ht,q⟩:=h;obtain⟨u,rfl,y⟩:=k8 rv;cases y;obtain⟨its,r,hs,hz⟩:=I.sq hq;have lt:=hs.lt;have O:=r.length;obtain⟨a3,a4⟩:=yI ht;refine call_any_walk (wZ hs ⟨_,[_,p],[_],its.toArray.size,_,_,λi=>bs.getD i false,rfl,vL (A:=X.A.in1) (I.ok.hd Y) k _ p (zda lt) its.toArray,⟨yn k _ p,hs.at λo e=>zcO _ e⟩,?_,?_⟩)
 ·intro i v s' Q' E' hv hQ
  have U:its[i]? = some v:=by simpa using hv
  have hi:i<ys.length:=by rw [O];exact(zc9.mp U).1
  obtain⟨u,e1,y⟩:=r.get (i:=i) (x:=ys[i]) (by simp [hi]);rw [U]at e1;cases e1;exact ZX y (a4 i ys[i] (by simp [hi])) hQ
 ·intro h' tk hk
  have e:(zcP its.toArray.size).any (λi=>bs.getD i false)=bs.any id:=by
   rw [zcV,<- O,<- a3];exact Xh bs
  refine⟨.bl (bs.any id),H,I.kept (t':=tk) (λb u e=>hk b u ?_ (zcO _ e)),by rw [e];rfl,q⟩;simp only [zcY,zc3,or_false];exact zda (zcX e)
end
section
variable{X:Cx}{sc:Scope}{N T:List Str}{k:Nat}{e a b c:Expr}{pos p p2:Pos}{f g:CO D}{fq:CO (Sk×List D)}
theorem V4{K:PySem.W.Frag}{H:Hp}{k:Sk}{a:Addr}{xs:List V}(h:SqK k K H a xs):SqL K H a xs\/SqT K H a xs:=by
 cases k
 ·exact .inl h
 ·exact .inr h
theorem qF(h:SX X sc N T k)(c:kt sc "len" = true)(z:X.mg "len" = none)(y:PQ X e fq)(hs:starEach [e] X.env=[(false,eval e X.env)]:=by rfl):PV X (.Call (.Name "len" p) [e] [] pos) (xH fq):=
 qe (kg Zd (h.gl c).1 z PySem.boot_len (jx y qs hs) ⋯ ⋯ hs rfl) λσ H Q I=>by
  obtain⟨H0,γ,d,rc,O,q⟩:=I;obtain⟨⟨U,ds⟩,e1,e2⟩:=zF O;subst e2;refine⟨H0,γ,U,ds,rc,e1,λa xs H' H0' ext h1 h2 r=>⟨a,xs,rfl,V4 h1,?_⟩⟩;exact q _ H' H0' ext (show V.int xs.length = .int ds.length by rw [r.length])
theorem jM(h:SX X sc N T k)(c:kt sc "tuple" = true)(z:X.mg "tuple" = none)(O:PQ X e fq)(hs:starEach [e] X.env=[(false,eval e X.env)]:=by rfl):PV X (.Call (.Name "tuple" p) [e] [] pos) (zT fq):=
 qe (yW wm (h.gl c).1 z PyProof.Rows.boot_tuple (jx O qs hs) ⋯ ⋯ hs rfl) λσ H Q U=>by
  obtain⟨H0,γ,d,rc,Y,q⟩:=U;obtain⟨⟨y,ds⟩,e1,e2⟩:=zF Y;subst e2;refine⟨H0,γ,y,ds,rc,e1,λa xs H' H0' ext h1 h2 r=>⟨a,xs,rfl,?_⟩⟩;cases y with
  | L=>exact .inl ⟨h1,λl I=>q _ _ _ (ext.trans (Ext.alloc ext.sub I _)) (qH (SqT.of zR) (r.mono (jm (jC ext.sub I) _)))⟩
  | T=>exact .inr ⟨h1,q _ H' H0' ext (qH (h2 rfl) r)⟩
theorem kT{H H':Hp}(s:Same H H'){a:Addr}(h:H' a=none):H a=none:=by
 cases z:H a with
 | none=>rfl
 | some o=>rw [s a o z]at h;cases h
theorem Qv(h:SX X sc N T k)(c:kt sc "list" = true)(z:X.mg "list" = none)(I:PQ X e fq)(hs:starEach [e] X.env=[(false,eval e X.env)]:=by rfl):PO X (.Call (.Name "list" p) [e] [] pos) (kG fq):=
 qe (yW Zb (h.gl c).1 z zeW (jx I qs hs) ⋯ ⋯ hs rfl) λσ H Q O=>by
  obtain⟨H0,γ,d,rc,U,q⟩:=O;obtain⟨⟨Y,ds⟩,e1,e2⟩:=zF U;subst e2;refine⟨H0,γ,Y,ds,rc,e1,λa xs H' H0' ext h1 h2 r=>⟨a,xs,rfl,V4 h1,λl y=>?_⟩⟩;exact q l xs _ H0' (ext.trans (Ext.hide ext.sub y _)) (kT ext.s1 y) (jC ext.sub y) zR r
theorem wB : ∀{ds:List D} {n:Int},Xm ds=some n->∃zs:List Int,ds=zs.map D.int/\n=zs.sum
 | [],n,h=>by cases h;exact⟨[],rfl,rfl⟩
 | d::ds,n,h=>by
  cases d with
  | int i=>
   obtain⟨s,e,h⟩:=zF h;obtain⟨zs,rfl,rfl⟩:=wB e;exact⟨i::zs,rfl,by rw [<- h];simp⟩
  | _=>cases h
theorem wL{K:PySem.W.Frag}{H:Hp} : ∀{zs:List Int} {xs:List V},Reps K H (zs.map D.int) xs->xs=zs.map V.int
 | [],xs,h=>h.inv_nil
 | z::zs,xs,h=>by
  obtain⟨x,r,e,h1,h2⟩:=Reps.inv_cons h;rw [e,jW h1,wL h2];rfl
theorem wO(h:SX X sc N T k)(c:kt sc "sum" = true)(z:X.mg "sum" = none)(U:PQ X e fq)(hs:starEach [e] X.env=[(false,eval e X.env)]:=by rfl):PV X (.Call (.Name "sum" p) [e] [] pos) (JZ fq):=
 qe (kg (Q7 h.calm) (h.gl c).1 z PyProof.Rows.boot_sum (jx U qs hs) ⋯ ⋯ hs rfl) λσ H Q Y=>by
  obtain⟨H0,γ,d,rc,y,q⟩:=Y;obtain⟨⟨O,ds⟩,e1,y⟩:=bind_some y;obtain⟨n,e2,e3⟩:=zF y;subst e3;obtain⟨zs,I,rfl⟩:=wB e2;have I:ds=zs.map D.int:=I;subst I;exact⟨H0,γ,O,_,rc,e1,λa xs H' H0' ext h1 h2 r=>⟨a,O,xs,zs,rfl,h1,wL r,q _ H' H0' ext rfl⟩⟩
theorem Yn{K:PySem.W.Frag}{H:Hp}{d:D}{x:V}{b:Bool}(h:Rep K H d x)(e:VW d=some b):VV x=some b:=by
 cases d with
 | non=>cases (show x = .non from h);exact e
 | bl c=>cases (show x = .bl c from h);exact e
 | int i=>cases (show x = .int i from h);exact e
 | _=>cases e
theorem vP{K:PySem.W.Frag}{H:Hp} : ∀{ds:List D} {xs:List V} {bs:List Bool},Reps K H ds xs->yu ds=some bs->Jy xs=some bs
 | [],xs,bs,h,e=>by rw [h.inv_nil];exact e
 | d::ds,xs,bs,h,e=>by
  obtain⟨x,r,y,h1,h2⟩:=h.inv_cons;obtain⟨b,e1,e⟩:=bind_some e;obtain⟨l,e2,e⟩:=zF e;subst y e;show(VV x).bind _=_;rw [Yn h1 e1];show((Jy r).map λl=>b::l)=_;rw [vP h2 e2];rfl
theorem KS(h:SX X sc N T k)(c:kt sc "all" = true)(z:X.mg "all" = none)(O:PQ X e fq)(hs:starEach [e] X.env=[(false,eval e X.env)]:=by rfl):PV X (.Call (.Name "all" p) [e] [] pos) (KL fq):=
 qe (kg (Xb h.calm) (h.gl c).1 z PyProof.Rows.boot_all (jx O qs hs) ⋯ ⋯ hs rfl) λσ H Q U=>by
  obtain⟨H0,γ,d,rc,y,q⟩:=U;obtain⟨⟨I,ds⟩,e1,y⟩:=bind_some y;obtain⟨bs,e2,Y⟩:=zF y;subst Y;exact⟨H0,γ,I,_,rc,e1,λa xs H' H0' ext h1 h2 r=>⟨a,I,xs,bs,rfl,h1,vP r e2,q _ H' H0' ext rfl⟩⟩
theorem KR(h:SX X sc N T k)(c:kt sc "any" = true)(z:X.mg "any" = none)(O:PQ X e fq)(hs:starEach [e] X.env=[(false,eval e X.env)]:=by rfl):PV X (.Call (.Name "any" p) [e] [] pos) (KK fq):=
 qe (kg (Xa h.calm) (h.gl c).1 z PyProof.Rows.boot_any (jx O qs hs) ⋯ ⋯ hs rfl) λσ H Q U=>by
  obtain⟨H0,γ,d,rc,y,q⟩:=U;obtain⟨⟨I,ds⟩,e1,y⟩:=bind_some y;obtain⟨bs,e2,Y⟩:=zF y;subst Y;exact⟨H0,γ,I,_,rc,e1,λa xs H' H0' ext h1 h2 r=>⟨a,I,xs,bs,rfl,h1,vP r e2,q _ H' H0' ext rfl⟩⟩
theorem YO(h:SX X sc N T k)(c:kt sc "int" = true)(z:X.mg "int" = none)(O:PV X e f)(hs:starEach [e] X.env=[(false,eval e X.env)]:=by rfl):PV X (.Call (.Name "int" p) [e] [] pos) (XH f):=
 qe (yW Q9 (h.gl c).1 z PyProof.Rows.boot_int (jx O qs hs) ⋯ ⋯ hs rfl) λσ H Q U=>by
  obtain⟨H0,γ,d,rc,y,q⟩:=U;obtain⟨I,e1,y⟩:=bind_some y;refine⟨H0,γ,I,rc,e1,λv H' H0' ext r=>?_⟩;cases I with
  | int i=>cases y;exact .inl ⟨i,by rw [jW r],q _ H' H0' ext rfl⟩
  | bl b=>cases y;exact .inr ⟨b,by rw [show v = .bl b from r],q _ H' H0' ext rfl⟩
  | _=>cases y
end
end DL
namespace DL
open PySem PySem.Spec PySem.Calls PyProof.Rows PySem.W PySem.Builtin PySem.Builtin.ObjectAttr PySem.Builtin.Getset_descriptor
section
variable{prog:Program}{w:World}{A:Around}{E:Value->Shared->Prop}{s:Shared}{K:Frag}{x C:Addr}
theorem yC{M:Model}{h:Heap}{a C:Addr}(x:XObj h a C):Looks M h (typeOf (.ref a)) (.ref C):=by
 obtain⟨o,vs,y,I,hd⟩:=x;exact I ▸ (Looks.ld y).andThen .now
structure XGet(K:Frag)(C:Addr):Prop where
 ga:findIn K (.ref C) "__getattribute__" = some (some (.builtin "BaseException.__getattribute__"))
 gn:findIn K (.ref C) "__getattr__" = some none
 ca:findIn K (.ref C) "__class__" = some (some (.builtin "object.__class__"))
 gt:specialIn K (.builtin "object.__class__") "__get__" = some (some (.builtin "getset_descriptor.__get__"))
 tk:takesIn K (.builtin "object.__class__")=some true
 mo:mroIn K C (.type "object")=some true
 mb:mroIn K C (.type "BaseException")=some true
theorem Kn{M:Model}{h:Heap}(X:K.In h)(G:XGet K C):Looks M h (find (.ref x) (.ref C) "__class__") (.bind (.builtin "getset_descriptor.__get__") (.builtin "object.__class__")):=by
 have y:=looks_findIn (M:=M) X G.ca;have I:Looks M h (getOf (some (.builtin "object.__class__"))) (some (.builtin "getset_descriptor.__get__")):=looks_specialIn X G.gt;have O:=looks_takesIn (M:=M) X G.tk;have U:Looks M h (dataDescriptor? (some (.builtin "object.__class__")) (some (.builtin "getset_descriptor.__get__"))) (some (.builtin "getset_descriptor.__get__",.builtin "object.__class__")):=O.andThen .now;exact y.andThen (I.andThen (U.andThen (Looks.tag .now)))
theorem Ko{tp:Value}{R:Result->Shared->Prop}(X:K.In s.heap)(I:XObj s.heap x C)(G:XGet K C)(h:R (.ok (.ret (.ref C))) s) :
 codeAny (model prog w) A (.call (.builtin "getset_descriptor.__get__") ⟨[.builtin "object.__class__",.ref x,tp],[]⟩) R s:=by
 obtain⟨y,O,U,Y,o0⟩:=s;have L0:=yC (M:=model prog w) I;have L1:=looks_mroIn (M:=model prog w) X G.mo;refine codeAny_call_builtin KF.slot_gs.plain KF.entry_gs (KF.slot_gs.check _ _ _ _ _ _ _ _ KF.type_class (KF.args_gs _ _ _) ?_);unfold Builtin.«getset_descriptor.__get__» descrGet;rw [dga_obj];refine zcM (zcT ?_);unfold descrGetter descrCheckInstance descrNameAndClass isInstance;simp only [KF.owner_class]
 repeat lk
 refine And.intro (Code.quiet_builtin _ ⋯) (codeAny_builtin KF.entry_class ?_);unfold Builtin.«object.__class__» shownTypeOf
 repeat lk
 exact h
theorem QW{y:Value}{Q:Unit->Shared->Prop}{M:Model}(X:K.In s.heap)(I:XObj s.heap x C)(G:XGet K C)(O:Q () s):wpAny M A (checkBuiltinCall "BaseException.__getattribute__" ⟨[.ref x,y],[]⟩) Q E s:=by
 obtain⟨h0,g0,d0,t0,o0⟩:=s;have U:=yC (M:=M) I;have Y:=looks_mroIn (M:=M) X G.mb;have hk:builtinKind "BaseException.__getattribute__" = some .slot:=by decide +kernel
 have a1:splitId "BaseException.__getattribute__" = some ("BaseException","__getattribute__"):=by decide +kernel
 have ha:=PySem.F.args_bexc_ga (.ref x) y;simp only [checkBuiltinCall,hk,a1];refine zcM (show wpAny _ _ (isInstance (.ref x) (.type "BaseException")) _ _ _ from ?_);refine(U.andThen Y).at ?_;rw [if_neg ⋯];unfold argsOk at ha;cases hs:Manifest.signature? "BaseException.__getattribute__" with
 | none=>exact zcT O
 | some a7=>
  rw [hs]at ha;exact wpAny_of_eq ha O
theorem QV{Q:Option Value->Shared->Prop}(X:K.In s.heap)(I:XObj s.heap x C)(G:XGet K C)(h:Q (some (.ref C)) {s with toks:=s.toks+1}):wpAny (model prog w) A (getAttr? (.ref x) "__class__") Q E s:=by
 obtain⟨y,O,U,Y,o0⟩:=s;have L0:=yC (M:=model prog w) I;have L1:=looks_findIn (M:=model prog w) X G.ga;have L2:=looks_findIn (M:=model prog w) X G.gn;have L3:=Kn (M:=model prog w) (x:=x) X G;have B:=PySem.F.attr_ValueError.ga.bind (.ref x);unfold getAttr? getAttrBy? getAttrBy;refine zcM (wpAny_mkText (zcM (zd1 (zd8 (zcM (L0.at (zcM (L1.at ?_))))))));show wpAny _ _ (getAttrByItsOwn _ _ _ _ _ _) _ _ _;unfold getAttrByItsOwn;refine zcM (L2.at ?_);refine zcM (zd1 (zd8 ?_));show wpAny _ _ (boundAndCalled (.builtin "BaseException.__getattribute__") (.ref x) _) _ _ _;unfold boundAndCalled;refine zcM (wpAny_of_eq B ?_);refine wpAny_call (codeAny_call_builtin PySem.F.attr_ValueError.ga.plain PySem.F.entry_bexc_ga (QW (s:=⟨y,O,U,Y+1,o0⟩) X I G ?_));refine zcM (zcT ?_);refine zcM (zcT ?_);refine zcM (L0.at (zcM (L3.at ?_)));show wpAny _ _ (bindTo _ _ _ _) _ _ _;unfold bindTo;refine zcM (zd8 (wpAny_call (Ko (s:=⟨y,O,U,Y+1,o0⟩) X I G ?_)));refine zcT ?_;exact zcT (zcT h)
theorem Ye(h:Yh K C=true):XGet K C:=by
 unfold Yh at h;simp only [Bool.and_eq_true,beq_iff_eq]at h;exact⟨h.1.1.1.1.1.1.1.1.2,h.1.1.1.1.1.1.1.2,h.1.1.1.1.1.1.2,h.1.1.1.2,h.1.1.2,h.1.1.1.1.1.2,h.1.1.1.1.2⟩
theorem Kd(G:XGet K C)(U:(clsIn K C).isSome=true):KitX K (.ref x) (.ref C) (λh=>XObj h x C) where
 ty:=λ_ _ _ I=>yC I
 it:=λ_ _ X _=>by
  obtain⟨Y,y⟩:=zeg.mp U;unfold clsIn at y;split at y
  ·rename_i c' d' a1 a2 O
   intro A' Q' E' s' k q;unfold isType loadHead;exact zcM (wpAny_loadPart (k _ _ (X _ _ O)) (zcT q))
  ·cases y
 ne:=λh tp dd its n sl X a3=>by
  obtain⟨Y,y⟩:=zeg.mp U;refine Bool.eq_false_iff.mpr λq=>?_;have e:C=tp:=zdu.inj (beq_iff_eq.mp q);subst e;unfold clsIn at y;split at y
  ·rename_i c' d' a1 a2 O
   have z:=(X _ _ O).symm.trans a3;cases z
  ·cases y
 ca:=λX I k=>QV X I G k
theorem Yf(h:Yh K C=true):(clsIn K C).isSome=true:=by
 unfold Yh at h;simp only [Bool.and_eq_true]at h;have:=h.1.2;cases q:clsIn K C with
 | none=>rw [q]at this;cases this
 | some y=>rfl
end
end DL
namespace DL
open PySem PySem.Spec PyProof.Rows L2
section
variable{X:Cx}{sc:Scope}{N T:List Str}{k:Nat}{e a b c:Expr}{pos p p2:Pos}{f g:CO D}{fq:CO (Sk×List D)}
theorem QN{n:Nat}{i:Int}{j:Nat}(h:ixD n i=some j):ixN n i=some j:=by
 unfold ixD at h;unfold ixN;split at h
 ·rename_i h1;rw [if_pos h1.1,if_pos h1.2];exact h
 ·split at h
  ·rename_i h1 h2;rw [if_neg ⋯,if_pos ⋯];exact h
  ·cases h
theorem zC(ha:PQ X a fq)(hb:PV X b g)(hs:wq b:=by intro _ _;rfl):PV X (.Subscript a b pos) (sIx fq g):=
 qe (Y1 (ix_list.or K3) ha hb hs) λσ H Q hZ=>by
  obtain⟨H0,γ,d,rc,y,q⟩:=hZ;obtain⟨⟨O,ds⟩,e1,y⟩:=bind_some y;obtain⟨i,e2,y⟩:=bind_some y;obtain⟨di,e3,e2⟩:=bind_some e2;obtain⟨j,e4,y⟩:=bind_some y;refine⟨H0,γ,O,ds,rc,e1,λp xs H' H0' ext h1 h2 r=>⟨H0',γ,di,rc.ext ext,e3,λv2 H2 a5 I r2=>?_⟩⟩;rw [qB e2]at r2;obtain⟨x,hx,rx⟩:=r.get y;have U:atI xs i=some x:=by
   unfold atI;rw [r.length,QN e4];exact hx
  have Y:=q x H2 a5 (ext.trans I) (rx.mono I.s0);cases O with
  | L=>exact .inl ⟨p,xs,i,x,rfl,jW r2,I.s1.seq h1,U,Y⟩
  | T=>exact .inr ⟨p,xs,i,x,rfl,jW r2,sameT I.s1 h1,U,Y⟩
theorem yd{P:Program}{w:World}{A:Around}{E:Value->Shared->Prop}{s:Shared}{t sl:Addr}{y:Array Value}{O U:Value}{lo hi:Option Int}{Q:Value->Shared->Prop}(I:IsTup s.heap t y)(hs:s.heap.IsSliceOf sl O U .none)(pl:IsPart O lo)(Y:IsPart U hi)
 (hw:HT.sIx y.size 0 lo=0/\HT.sIx y.size y.size hi=y.size) (h:Q (.ref t) s):wpAny (model P w) A (getItem (.ref t) (.ref sl)) Q E s:=by
 obtain⟨os,a0,a1,a4⟩:=id hs;have a2:s.TypeIs (.ref sl) "slice":=⟨os,a0,a1⟩;unfold getItem
 try with_reducible refine zd8 ?_
 first | refine zcM (zcT ?_) | skip
 refine zcM (wpAny_sequenceKey I.typeIs ⋯ ?_);refine zcM (zde (name:=zdC "__getitem__") I.typeIs zdF
  (zds zdF I.typeIs entry_tuple_getitem ?_ (args_tuple_getitem _ _)))
 show wpAny _ _ (Builtin.Tuple.tupleItemsOf (.ref t) >>= _) _ _ s;refine zcM (zfm I ?_);refine zcM (zfd a2 ?_);rw [if_pos ⋯];refine zcM (HT.sliceApplied_gen hs pl Y ?_);have a3:(((HT.sIx y.size 0 lo:Nat):Int)==0 && (1:Int)==1 && (HT.sIx y.size y.size hi - HT.sIx y.size 0 lo)==y.size)=true:=by
  rw [hw.1,hw.2];simp
 show wpAny _ _ (if (((HT.sIx y.size 0 lo:Nat):Int)==0 && (1:Int)==1 && (HT.sIx y.size y.size hi - HT.sIx y.size 0 lo)==y.size)=true then _ else _) _ _ s;rw [if_pos a3];refine zcM (m:=zem _) ?_;unfold zem;refine zcM (zfd I.typeIs (zcT ?_));rw [if_pos ⋯];exact zcM (zfi (zcT ⟨_,rfl,zcT h⟩))
def za1(K:PySem.W.Frag):V->Option Int->Option Int->Hp->VK->Prop:=λx lo hi H Q=>∃a xs,x = .ref a/\SqT K H a xs/\(HT.sIx xs.length 0 lo=0/\HT.sIx xs.length xs.length hi=xs.length->Q (.ref a) H)/\∀p,H p=none->Q (.ref p) (upd H p (.tup (Vt xs lo hi)))
theorem YF:SlR X (za1 X.K):=by
 intro pins s σ H x v Y vu lo hi sl Q I rx hs pl y h;obtain⟨a,xs,rfl,O,q1,q2⟩:=h;by_cases hw:HT.sIx xs.length 0 lo=0/\HT.sIx xs.length xs.length hi=xs.length
 ·cases rx
  obtain⟨its,r,U,hz⟩:=I.tuple O;have a3:its.toArray.size=xs.length:=by rw [zcV];exact r.length.symm
  refine⟨"tuple",_,zdF.lookup,U.typeIs,?_⟩;exact yd U hs pl y (by rw [a3];exact hw) ⟨.ref a,H,I,rfl,q1 hw⟩
 ·exact V8 pins s σ H (.ref a) v Y vu lo hi sl Q I rx hs pl y ⟨a,xs,rfl,O,hw,q2⟩
theorem yF(n d:Nat)(o:Option Int):Q3 n d o=HT.sIx n d o:=by cases o<;>rfl
theorem XL{K:PySem.W.Frag}{H:Hp}{ds:List D}{xs:List V}(r:Reps K H ds xs)(lo hi:Option Int):Reps K H (Kv ds lo hi) (Vt xs lo hi):=by
 unfold Kv Vt;rw [<- yF,<- yF,r.length];exact(r.drop _).take _
theorem Q1{ds:List D}{lo hi:Option Int}(h:HT.sIx ds.length 0 lo=0/\HT.sIx ds.length ds.length hi=ds.length):Kv ds lo hi=ds:=by
 unfold Kv;rw [yF,yF,h.1,h.2];simp
def tB(K:PySem.W.Frag)(f:CO (Option Int)):TO:=λσ H Q=>∃H0 γ o,RC K H0 H σ γ/\f γ=some o/\∀H' H0',Ext H0 H H0' H'->Q o H'
theorem Y4:L2.PO X none (tB X.K zar):=λpins s σ H Q I ⟨H0,γ,o,rc,y,q⟩=>YU pins s σ H Q I (by cases y;exact q H H0 (Ext.refl rc.sub))
theorem ZG(h:PV X e f):L2.PO X (some e) (tB X.K (sBd f)):=λpins s σ H Q I ⟨H0,γ,o,rc,y,q⟩=>YT h pins s σ H Q I (by
 obtain⟨i,e1,e2⟩:=zF y;obtain⟨d,O,e1⟩:=bind_some e1;subst e2;refine⟨H0,γ,d,rc,O,λv H' H0' x r=>?_⟩;rw [qB e1]at r;exact⟨i,jW r,q H' H0' x⟩)
theorem KP{lo hi:Option Expr}{U Y:CO (Option Int)}(ha:PV X a f)(hl:L2.PO X lo (tB X.K U))(hh:L2.PO X hi (tB X.K Y)):PV X (.Subscript a (.Slice lo hi none p2) pos) (XF f U Y):=
 qe (X2 YF ha hl hh) λσ H Q hZ=>by
  obtain⟨H0,γ,d,rc,y,q⟩:=hZ;obtain⟨d1,e1,y⟩:=bind_some y;obtain⟨l,e2,y⟩:=bind_some y;obtain⟨u,e3,y⟩:=bind_some y;refine⟨H0,γ,d1,rc,e1,λv H' H0' x r=>⟨H0',γ,l,rc.ext x,e2,λH2 a8 O=>⟨a8,γ,u,(rc.ext x).ext O,e3,λH3 aa I=>?_⟩⟩⟩;have xa:=x.trans (O.trans I);cases d1 with
  | tup ds=>
   cases y;obtain⟨a1,xs,rfl,h1,h2⟩:=k9 (r.mono (O.trans I).s0);have ac:=h2.length;refine⟨a1,xs,rfl,sameT I.sub h1,λhw=>?_,λp hp=>?_⟩
   ·rw [ac]at hw
    exact q _ H3 aa xa (by rw [Q1 hw];exact qH h1 h2)
   ·exact q _ _ _ (xa.trans (Ext.alloc I.sub hp _)) (qH (SqT.of zR) ((XL h2 _ _).mono (jm (jC I.sub hp) _)))
  | _=>cases y
theorem vW{K:PySem.W.Frag}{H:Hp}{ds:List D}{xs:List V}(r:Reps K H ds xs) : ∀n:Nat,Reps K H (zcS n ds).flatten (zcS n xs).flatten
 | 0=>Reps.nil
 | n+1=>by rw [zd7,zd7,zeu,zeu];exact r.append (vW r n)
theorem Wv{Y:CO (Sk×List D)}(ha:PQ X a fq)(hb:PQ X b Y):PO X (.BinOp a .Add b pos) (XJ fq Y):=
 qe (Y0 X8 ha hb) λσ H Q hZ=>by
  obtain⟨H0,γ,ds,rc,y,q⟩:=hZ;obtain⟨⟨k1,d1⟩,e1,y⟩:=bind_some y;obtain⟨⟨k2,d2⟩,e2,y⟩:=bind_some y;cases k1<;>cases k2<;>try (simp at y;done)
  dsimp only at y;by_cases O:d1.length+d2.length<=lim
  ·rw [if_pos O]at y;cases y
   refine⟨H0,γ,.L,d1,rc,e1,λa1 xs H1 a8 x1 h1 h2 r1=>⟨a8,γ,.L,d2,rc.ext x1,e2,λa2 ys H2 aa I h3 h4 r2=>⟨a1,a2,xs,ys,rfl,rfl,I.s1.seq h1,h3,xZ (by rw [r1.length,r2.length];exact O),λp U=>?_⟩⟩⟩;exact q p (xs++ys) _ aa (x1.trans (I.trans (Ext.hide I.sub U _))) (kT (x1.trans I).s1 U) (jC I.sub U) zR ((r1.mono I.s0).append r2)
  ·rw [if_neg O]at y;cases y
theorem KU{gn:CO (List D)}(ha:PO X a gn)(hb:PV X b g):PO X (.BinOp a .Mult b pos) (Zw (jw gn) g):=
 qe (Y0 WO ha hb) λσ H Q hZ=>by
  obtain⟨H0,γ,ds,rc,y,q⟩:=hZ;obtain⟨⟨k1,Y⟩,e1,y⟩:=bind_some y;obtain⟨ab,e0,e1⟩:=zF e1;cases e1;obtain⟨j,e2,y⟩:=bind_some y;obtain⟨dj,e3,e2⟩:=bind_some e2;dsimp only at y;by_cases O:Y.length*j.toNat<=lim/\inR j=true
  ·rw [if_pos O]at y;cases y
   refine⟨H0,γ,Y,rc,e0,λa1 xs H1 a8 x1 h1 h2 h3 r1=>⟨a8,γ,dj,rc.ext x1,e3,λv H2 aa I r2=>?_⟩⟩;rw [qB e2]at r2;obtain⟨q1,q2⟩:=va O.2;refine⟨a1,j,xs,rfl,jW r2,I.s1 _ _ h3,by omega,by omega,xZ (by rw [r1.length];exact O.1),λp U=>?_⟩;exact q p _ _ aa (x1.trans (I.trans (Ext.hide I.sub U _))) (kT (x1.trans I).s1 U) (jC I.sub U) zR ((vW r1 _).mono I.s0)
  ·rw [if_neg O]at y;cases y
theorem jn{K:PySem.W.Frag}{t c:String}{b:Bool}(h:(if ((zd5 t) == .type c)=true then some true else if PySem.W.kitMeta c=true then (fastBuiltinMro t).map (·.contains (.type c))else none)=some b):zd4 K (.type t) (.type c)=some b:=h
def tyN:Ty->String
 | .int=>"int"
 | .bool=>"bool"
 | .str=>"str"
 | .tuple=>"tuple"
 | .list=>"list"
def zbf:D->String
 | .non=>"NoneType"
 | .bl _=>"bool"
 | .int _=>"int"
 | .str _=>"str"
 | .tup _=>"tuple"
 | .lst _=>"list"
 | .exc _ _=>""
 | .dic _ _=>"dict"
 | .dct _ _=>"dict"
theorem wY{K:PySem.W.Frag}(T:Ty)(d:D)(I : ∀c n,d ≠ .exc c n):zd4 K (.type (zbf d)) (.type (tyN T))=some (J1 T d):=by
 cases d with
 | non=>
  cases T with
  | int=>exact jn (t:="NoneType") (c:="int") (b:=false) ⋯
  | bool=>exact jn (t:="NoneType") (c:="bool") (b:=false) ⋯
  | str=>exact jn (t:="NoneType") (c:="str") (b:=false) ⋯
  | tuple=>exact jn (t:="NoneType") (c:="tuple") (b:=false) ⋯
  | list=>exact jn (t:="NoneType") (c:="list") (b:=false) ⋯
 | bl y=>
  cases T with
  | int=>exact jn (t:="bool") (c:="int") (b:=true) ⋯
  | bool=>exact jn (t:="bool") (c:="bool") (b:=true) ⋯
  | str=>exact jn (t:="bool") (c:="str") (b:=false) ⋯
  | tuple=>exact jn (t:="bool") (c:="tuple") (b:=false) ⋯
  | list=>exact jn (t:="bool") (c:="list") (b:=false) ⋯
 | int y=>
  cases T with
  | int=>exact jn (t:="int") (c:="int") (b:=true) ⋯
  | bool=>exact jn (t:="int") (c:="bool") (b:=false) ⋯
  | str=>exact jn (t:="int") (c:="str") (b:=false) ⋯
  | tuple=>exact jn (t:="int") (c:="tuple") (b:=false) ⋯
  | list=>exact jn (t:="int") (c:="list") (b:=false) ⋯
 | str y=>
  cases T with
  | int=>exact jn (t:="str") (c:="int") (b:=false) ⋯
  | bool=>exact jn (t:="str") (c:="bool") (b:=false) ⋯
  | str=>exact jn (t:="str") (c:="str") (b:=true) ⋯
  | tuple=>exact jn (t:="str") (c:="tuple") (b:=false) ⋯
  | list=>exact jn (t:="str") (c:="list") (b:=false) ⋯
 | tup y=>
  cases T with
  | int=>exact jn (t:="tuple") (c:="int") (b:=false) ⋯
  | bool=>exact jn (t:="tuple") (c:="bool") (b:=false) ⋯
  | str=>exact jn (t:="tuple") (c:="str") (b:=false) ⋯
  | tuple=>exact jn (t:="tuple") (c:="tuple") (b:=true) ⋯
  | list=>exact jn (t:="tuple") (c:="list") (b:=false) ⋯
 | lst y=>
  cases T with
  | int=>exact jn (t:="list") (c:="int") (b:=false) ⋯
  | bool=>exact jn (t:="list") (c:="bool") (b:=false) ⋯
  | str=>exact jn (t:="list") (c:="str") (b:=false) ⋯
  | tuple=>exact jn (t:="list") (c:="tuple") (b:=false) ⋯
  | list=>exact jn (t:="list") (c:="list") (b:=true) ⋯
 | exc c n=>exact absurd rfl (I c n)
 | dic c n=>
  cases T with
  | int=>exact jn (t:="dict") (c:="int") (b:=false) ⋯
  | bool=>exact jn (t:="dict") (c:="bool") (b:=false) ⋯
  | str=>exact jn (t:="dict") (c:="str") (b:=false) ⋯
  | tuple=>exact jn (t:="dict") (c:="tuple") (b:=false) ⋯
  | list=>exact jn (t:="dict") (c:="list") (b:=false) ⋯
 | dct c n=>
  cases T with
  | int=>exact jn (t:="dict") (c:="int") (b:=false) ⋯
  | bool=>exact jn (t:="dict") (c:="bool") (b:=false) ⋯
  | str=>exact jn (t:="dict") (c:="str") (b:=false) ⋯
  | tuple=>exact jn (t:="dict") (c:="tuple") (b:=false) ⋯
  | list=>exact jn (t:="dict") (c:="list") (b:=false) ⋯
theorem Kf{pins:List (Addr×Obj)}{σ:St}{H0 H:Hp}{s:Shared}{A:Around}{E:Value->Shared->Prop}{Q:Value->Shared->Prop}{d:D}{x:V}{u:Value}(I:Inv X pins σ H s)(sub:Same H0 H)(rx:RelV x u)(r:Rep X.K H0 d x)(T:Ty)
 (h : ∀tk,Q (.bool (J1 T d)) {s with toks:=tk}):wpAny (model X.prog X.w) A (call (.builtin "isinstance") [u,.type (tyN T)]) Q E s:=by
 cases d with
 | non=>have e:=wY (K:=X.K) T .non (λ_ _ z=>nomatch z);cases (show x = .non from r);cases (show u=zel from rx);exact zdh PySem.W.kitx_none I.kIn zeJ e (λz=>nomatch z) h
 | bl y=>have e:=wY (K:=X.K) T (.bl y) (λ_ _ z=>nomatch z);cases (show x = .bl y from r);cases (show u=Value.bool y from rx);exact zdh PySem.W.kitx_bool I.kIn zeJ e (λz=>nomatch z) h
 | int i=>have e:=wY (K:=X.K) T (.int i) (λ_ _ z=>nomatch z);cases (show x = .int i from r);obtain⟨t,q⟩:=(show ∃t,u=Value.int i t from rx);cases q;exact zdh PySem.W.kitx_int I.kIn zeJ e (λz=>nomatch z) h
 | str y=>have e:=wY (K:=X.K) T (.str y) (λ_ _ z=>nomatch z);cases (show x = .str y from r);obtain⟨t,q⟩:=(show ∃t,u=Value.str y t from rx);cases q;exact zdh PySem.W.kitx_str I.kIn zeJ e (λz=>nomatch z) h
 | tup ds=>
  have e:=wY (K:=X.K) T (.tup ds) (λ_ _ z=>nomatch z);obtain⟨a,xs,rfl,h1,h2⟩:=k9 r;cases (show u=zdu a from rx);obtain⟨its,rv,⟨o,O,U,_⟩,hz⟩:=I.tuple (sameT sub h1);exact zdh PySem.W.kitx_tuple I.kIn ⟨o,O,U⟩ e (λz=>nomatch z) h
 | lst ds=>
  have e:=wY (K:=X.K) T (.lst ds) (λ_ _ z=>nomatch z);obtain⟨a,xs,rfl,h1,h2⟩:=QH r;cases (show u=zdu a from rx);obtain⟨its,rv,p,hz⟩:=I.list (sub.seq h1);obtain⟨o,O,U,_⟩:=p.isList;exact zdh zfz I.kIn ⟨o,O,U⟩ e (λz=>nomatch z) h
 | exc c n=>
  obtain⟨a,rfl,Y⟩:=(show ∃a,x = .ref a/\XRep X.K H0 c n a from r);cases (show u=zdu a from rx);obtain⟨C,φ,g1,g2,g3,_⟩:=Y.ex;obtain⟨S,_,x1,_,_⟩:=Yg Y.all Y.mem g1;obtain⟨p,_,_⟩:=(show ObjOk X.prog X.w H s.heap a (.ext φ)from I.hok a _ (sub _ _ g2));have e:zd4 X.K (.ref C) (.type (tyN T))=some (J1 T (.exc c n)):=by
   unfold Yh at x1;simp only [Bool.and_eq_true,List.all_cons,List.all_nil,beq_iff_eq]at x1;have t:=x1.1.1.1.1.1.1.1.1.1.1;cases T
   ·exact t.1
   ·exact t.2.1
   ·exact t.2.2.1
   ·exact t.2.2.2.1
   ·exact t.2.2.2.2.1
  exact zdh (Kd (Ye x1) (Yf x1)) I.kIn (g3 _ p) e (λz=>nomatch z) h
 | dic ks vs=>
  have e:=wY (K:=X.K) T (.dic ks vs) (λ_ _ z=>nomatch z);obtain⟨a,xs,rfl,⟨kk,_,_,h1⟩,_⟩:=(show ∃a xs,x = .ref a/\DRp H0 a ks xs/\Reps X.K H0 vs xs from r);exact QO I rx (.dK (sub _ _ h1)) e h
 | dct ks vs=>
  have e:=wY (K:=X.K) T (.dct ks vs) (λ_ _ z=>nomatch z);obtain⟨a,xs,rfl,⟨_,o,zs,h1,h2,_⟩,_⟩:=(show ∃a xs,x = .ref a/\DRt X.K H0 a ks xs/\Reps X.K H0 vs xs from r);cases (show u=zdu a from rx);obtain⟨O,_⟩:=(show ObjOk X.prog X.w H s.heap a (atO a o)from I.hok a _ (sub _ _ h1));exact zdh zfA I.kIn ⟨o,O,h2.1.1⟩ e (λz=>nomatch z) h
theorem XN{ty:Str}(T:Ty)(h:SX X sc N L k)(c:kt sc "isinstance" = true)(z:X.mg "isinstance" = none)(y:kt sc ty=true)(Y:X.mg ty=none)(hb:bootBuiltins ty=some (.type (tyN T)))(ha:PV X a f)
 (hs:starEach [a,.Name ty p2] X.env=[(false,eval a X.env),(false,eval (.Name ty p2) X.env)]:=by rfl):PV X (.Call (.Name "isinstance" p) [a,.Name ty p2] [] pos) (sIs T f):=by
 intro pins s σ H Q I ⟨H0,γ,d,rc,ef,q⟩;obtain⟨U,e1,e2⟩:=zF ef;subst e2;refine zeK (xK I (h.gl c).1 z PyProof.Rows.boot_isinstance ?_ ⋯ ⋯);refine zfn ?_ (by rw [hs];rfl) rfl;rw [hs];show wpAny _ _ (spliced ((false,eval a X.env)::backTo pos [(false,eval (.Name ty p2) X.env)])) _ _ s;refine zeX (thn (ha pins s σ H _ I ⟨H0,γ,U,rc,e1,λv H' H0' x r=>(show(λv H'=>∃H0',Ext H0 H H0' H'/\Rep X.K H0' U v) v H' from⟨H0',x,r⟩)⟩) λu s1 hZ=>?_);obtain⟨x,H1,O,r1,a4,x1,rr⟩:=hZ;show wpAny _ _ (spliced ((false,eval (.Name ty p2) X.env)::[])) _ _ s1;refine zeX (xK O (h.gl y).1 Y hb ?_ (h.gl y).2.1 (h.gl y).2.2);refine zfI ?_;exact Kf O x1.sub r1 rr T λtk=>⟨.bl _,H1,O.tok tk,rfl,q _ H1 a4 x1 rfl⟩
end
section
variable{X:Cx}{sc:Scope}{N L:List Str}{k:Nat}{e a b c:Expr}{pos p p2:Pos}{f g:CO D}{fq:CO (Sk×List D)}
theorem jd{tg:Expr}(h:SX X sc N L k)(c:kt sc "range" = true)(z:X.mg "range" = none)(ha:PV X a f)(hs:starEach [a] X.env=[(false,eval a X.env)]:=by rfl):PIF X tg (.Call (.Name "range" p) [a] [] pos) (zJ f):=JL (h.gl c).1 z ha hs
theorem XY{tg:Expr}(h:SX X sc N L k)(c:kt sc "range" = true)(z:X.mg "range" = none)(ha:PV X a f)(y:PV X b g)(hs:starEach [a,b] X.env=[(false,eval a X.env),(false,eval b X.env)]:=by rfl)(I:starEach [b] X.env=[(false,eval b X.env)]:=by rfl) :
 PIF X tg (.Call (.Name "range" p) [a,b] [] pos) (vV f g):=JK (h.gl c).1 z ha y hs I
theorem yl{elts:List Expr}{x1:Nat}{tpos:Pos}(h:SX X sc N L k)(c:kt sc "zip" = true)(z:X.mg "zip" = none)(ha:PV X a f)(y:PV X b g)(hs:starEach [a,b] X.env=[(false,eval a X.env),(false,eval b X.env)]:=by rfl)(I:starEach [b] X.env=[(false,eval b X.env)]:=by rfl) :
 PIF X (.Tuple elts x1 tpos) (.Call (.Name "zip" p) [a,b] [] pos) (Zo f g):=YW (h.gl c).1 z ha y hs I
theorem Qp(h:SX X sc N L k)(c:kt sc "isinstance" = true)(z:X.mg "isinstance" = none)(y:kt sc "int" = true)(I:X.mg "int" = none)(ha:PV X a f)
 (hs:starEach [a,.Name "int" p2] X.env=[(false,eval a X.env),(false,eval (.Name "int" p2) X.env)]:=by rfl):PV X (.Call (.Name "isinstance" p) [a,.Name "int" p2] [] pos) (sIs .int f):=XN .int h c z y I PyProof.Rows.boot_int ha hs
theorem JG(h:SX X sc N L k)(c:kt sc "isinstance" = true)(z:X.mg "isinstance" = none)(y:kt sc "bool" = true)(I:X.mg "bool" = none)(ha:PV X a f)
 (hs:starEach [a,.Name "bool" p2] X.env=[(false,eval a X.env),(false,eval (.Name "bool" p2) X.env)]:=by rfl):PV X (.Call (.Name "isinstance" p) [a,.Name "bool" p2] [] pos) (sIs .bool f):=XN .bool h c z y I PyProof.Rows.boot_bool ha hs
theorem qX(h:SX X sc N L k)(c:kt sc "isinstance" = true)(z:X.mg "isinstance" = none)(y:kt sc "tuple" = true)(I:X.mg "tuple" = none)(ha:PV X a f)
 (hs:starEach [a,.Name "tuple" p2] X.env=[(false,eval a X.env),(false,eval (.Name "tuple" p2) X.env)]:=by rfl):PV X (.Call (.Name "isinstance" p) [a,.Name "tuple" p2] [] pos) (sIs .tuple f):=XN .tuple h c z y I PyProof.Rows.boot_tuple ha hs
theorem JF(h:SX X sc N L k)(c:kt sc "isinstance" = true)(z:X.mg "isinstance" = none)(y:kt sc "list" = true)(I:X.mg "list" = none)(ha:PV X a f)
 (hs:starEach [a,.Name "list" p2] X.env=[(false,eval a X.env),(false,eval (.Name "list" p2) X.env)]:=by rfl):PV X (.Call (.Name "isinstance" p) [a,.Name "list" p2] [] pos) (sIs .list f):=XN .list h c z y I zeW ha hs
theorem XR(ha:PQ X a fq)(O : ∀y,isTrue a X.env y=(do let v <- y;standAt a.pos;holding [v] (truthy v)):=by intro _;rfl):PTD X a (XE fq):=
 XT (XS ha O) λσ H Q U=>by
  obtain⟨H0,γ,t,rc,Y,q⟩:=U;obtain⟨⟨I,ds⟩,e1,e2⟩:=zF Y;subst e2;refine⟨H0,γ,I,ds,rc,e1,λp xs H' H0' ext h1 h2 r=>⟨!ds.isEmpty,?_,q H' H0' ext⟩⟩;have e:xs.isEmpty=ds.isEmpty:=by
   have:=r.length;cases xs<;>cases ds<;>simp_all
  rw [<- e];cases I with
  | L=>exact .inl ⟨xs,h1,rfl⟩
  | T=>exact .inr (.inl ⟨xs,h1,rfl⟩)
theorem Qn(ha:PV X a f):PV X (.UnaryOp .USub a pos) (VL f):=
 qe (zba VT ha) λσ H Q y=>by
  obtain⟨H0,γ,d,rc,I,q⟩:=y;obtain⟨i,e1,e2⟩:=zF I;obtain⟨O,U,e1⟩:=bind_some e1;subst e2;refine⟨H0,γ,O,rc,U,λv H' H0' x r=>?_⟩;rw [qB e1]at r;exact⟨i,jW r,q _ H' H0' x rfl⟩
theorem xX(i:Nat){x:Str}{apos cpos y:Pos}(h:SX X sc N L k)(c:Jt sc N i x=true)(ha:PV X a f)(hs:starEach [a] X.env=[(false,eval a X.env)]:=by rfl)
 (I:attributeBase (.Name x y) "append" X.env (eval (.Name x y) X.env)=eval (.Name x y) X.env:=by rfl)
 (O:((backTo cpos (starEach [a] X.env)).all (λx=> !x.1) && (backToKw cpos (keywordEach [] X.env)).all (λx=>x.1.isSome)
   && decide ([a].length+([]:List Keyword).length+(if ([]:List Keyword).isEmpty then 0 else 1)<30))=true:=by rfl)
 (U:(apos.endLine==cpos.line)=true:=by rfl) (Y:swapsWith (.Call (.Attribute (.Name x y) "append" apos) [a] [] cpos) none pos.line X.env=pure false:=by rfl) :
 PSD X (.Expr (.Call (.Attribute (.Name x y) "append" apos) [a] [] cpos) pos) (jP i f):=
 JH i (Y3 ze7 PySem.F.slot_list_append PySem.F.type_list_append QG (h.var c) (jx ha qs hs) I O U hs rfl) Y
theorem qA(i:Nat){st:Stmt}{f:CO (List D)}(h:PS X st (JY (tO X.K f) (kI i))):PSD X st (jh i (jA f)):=xN h λD σ H O=>by
 obtain⟨E0,E,H0,γ,fl,y,I,U⟩:=O;obtain⟨d,e1,I⟩:=zF I;obtain⟨ds,Y,e1⟩:=zF e1;subst I e1;exact⟨H0,γ,ds,y.rc,Y,λa xs H' H0' x h1 h2 h3 r=>U _ _ _ ((y.step (x.show h1 h2 h3 y.rc.sub)).setVal (yS (SqL.of zR) (r.mono (jm h2 _))))⟩
theorem psc{scope:Scope}{own:List Str}{fr:List (Str×Nat)}{elt tg iter:Expr}{cpos I O:Pos}{src:CO (List D)}{T:Tg}{y:Str}(i:Nat)(h:SX X sc N L k)(c:JA sc N L i y=true)
 (U:X.calm=true) (ok:CompOk X scope fr) (Y : ∀i∈T.idx,i<own.length) (hi:PIC X tg iter src) (hg : ∀fp s2 H2,PG (jz X scope (own++fr.map (·.1)) fp s2 H2) tg (gOf X.K T))
 (he : ∀fp s2 H2,PV (jz X scope (own++fr.map (·.1)) fp s2 H2) elt f) (hs : ∀x,foldedSetIterable iter X.env x=pure x:=by intro _;rfl) :
 PS X (.Assign [.Name y O] (.ListComp elt [⟨tg,iter,[],0⟩] scope cpos) I) (JY (tO X.K (zV src T own.length (fr.map (·.2)) js f)) (kI i)):=by
 obtain⟨h1,h2,h3⟩:=h.loc c;exact XW h.ndX h1 h2 h3 U ok Y hi hg he hs
theorem za9{scope:Scope}{own:List Str}{fr:List (Str×Nat)}{elt tg iter I:Expr}{cpos U Y:Pos}{src:CO (List D)}{T:Tg}{y:Str}{O:CO Bool}(i:Nat)(h:SX X sc N L k)(c:JA sc N L i y=true)
 (hc:X.calm=true) (ok:CompOk X scope fr) (hT : ∀i∈T.idx,i<own.length) (hi:PIC X tg iter src) (hg : ∀fp s2 H2,PG (jz X scope (own++fr.map (·.1)) fp s2 H2) tg (gOf X.K T))
 (hk : ∀fp s2 H2,PTD (jz X scope (own++fr.map (·.1)) fp s2 H2) I O) (he : ∀fp s2 H2,PV (jz X scope (own++fr.map (·.1)) fp s2 H2) elt f) (hs : ∀x,foldedSetIterable iter X.env x=pure x:=by intro _;rfl) :
 PS X (.Assign [.Name y Y] (.ListComp elt [⟨tg,iter,[I],0⟩] scope cpos) U) (JY (tO X.K (zV src T own.length (fr.map (·.2)) O f)) (kI i)):=by
 obtain⟨h1,h2,h3⟩:=h.loc c;exact JI h.ndX h1 h2 h3 hc ok hT hi hg hk he hs
theorem wT(i:Nat){x:Str}{I:Pos}(h:SX X sc N L k)(c:Jt sc N i x=true)(hi:PV X b g)(he:PV X e f)
 (ha : ∀v,assign (.Subscript (.Name x I) b p) X.env v=(do
   let O <- holding [v] (eval (.Name x I) X.env);let Y <- holding [v,O] (eval b X.env)
   standAt p
   holding [v,O,Y] (setItem O Y v)
   release [v,O,Y] []):=by intro _;rfl)
 (hs:swapsWithSole [.Subscript (.Name x I) b p] e pos.line X.env=pure false:=by rfl) (hw:swappedStores [.Subscript (.Name x I) b p] e X.env=pure none:=by rfl)
 (h1:(assignEach [.Subscript (.Name x I) b p] X.env).map (·.2)=[assign (.Subscript (.Name x I) b p) X.env]:=by rfl) :
 PSD X (.Assign [.Subscript (.Name x I) b p] e pos) (vC i g f):=
 xN (Qt he (WB (h.var c) hi XC ha) hs hw h1) λD σ H hZ=>by
  obtain⟨E0,E,H0,γ,fl,rs,y,a6⟩:=hZ;obtain⟨d,e1,y⟩:=bind_some y;obtain⟨ds,e2,y⟩:=bind_some y;obtain⟨kk,e3,y⟩:=bind_some y;obtain⟨dk,e4,e3⟩:=bind_some e3;obtain⟨j,e5,y⟩:=zF y;subst y;have e2:=xm e2;refine⟨H0,γ,d,rs.rc,e1,λv H' H0' x r=>?_⟩;have a1:=rs.step x;obtain⟨a,xs,h1,h2,h3,h4⟩:=a1.rc.own i ds e2;refine⟨_,h1,H0',γ,dk,a1.rc,e4,λv2 H2 ac U r2=>?_⟩;rw [qB e3]at r2;have ae:=a1.step U;refine⟨a,xs,kk,j,rfl,jW r2,U.s1 _ _ h3,by rw [h4.length];exact QN e5,?_⟩;exact a6 _ _ ac (ae.rewrite (xs:=xs) e2 h1 ((h4.mono U.s0).set j (r.mono U.s0)))
theorem xD{tg:Expr}{T:Tg}(O:PG X tg (gOf X.K T))(U:PV X e f)(hs:swapsWithSole [tg] e pos.line X.env=pure false:=by rfl)(hw:swappedStores [tg] e X.env=pure none:=by rfl)
 (h1:(assignEach [tg] X.env).map (·.2)=[assign tg X.env]:=by rfl):PSD X (.Assign [tg] e pos) (xh T f):=
 xN (Qt U O hs hw h1) λD σ H Y=>by
  obtain⟨E0,E,H0,γ,fl,I,y,a0⟩:=Y;obtain⟨d,e1,y⟩:=bind_some y;obtain⟨γ1,e2,y⟩:=zF y;subst y;refine⟨H0,γ,d,I.rc,e1,λv H' H0' x r=>?_⟩;exact vk x.sub r e2 λσ1 _ a2=>a0 σ1 H' H0' (a2 E0 E (I.step x))
end
structure FnD(P:Program)(w:World)(K:PySem.W.Frag)(mg:Str->Option Value)(base:Heap)(k:Nat)(x:Str)(n:Nat)(F:List D->Option Res):Prop where
 ex : ∃(f:Addr) (fd:FuncData) (ps:List Str),ps.length=n/\FnOk P w K mg base CX0 k f fd ps (spF K ps.length F)/\mg x=some (.ref f)/\PySem.W.keepIn K (.ref f)=true/\Binds K fd ps []
structure DefAt(K:PySem.W.Frag)(mg:Str->Option Value)(x:Str)(st:Stmt)(ps:List Str):Prop where
 ex : ∃(f:Addr) (fd:FuncData),L2.Fun K x x st f fd/\(∀us:List Value,us.length=ps.length->bindArgs fd ⟨us,[]⟩=pure (ps.zip us))/\mg x=some (.ref f)
def PAn(X:Cx)(es:List Expr)(n:Nat)(g:CO (List D)):Prop:=PAD X es g/\∀γ ds,g γ=some ds->ds.length=n
section
variable{X:Cx}{sc:Scope}{N L:List Str}{k:Nat}{e:Expr}{es:List Expr}{f:CO D}{g:CO (List D)}{n:Nat}{pos p:Pos}{x:Str}
theorem zk:PAn X [] 0 zB:=⟨Y6,λγ ds h=>by cases h;rfl⟩
theorem za(ha:PV X e f)(I:PAn X es n g)(hs:starEach (e::es) X.env=(false,eval e X.env)::starEach es X.env:=by rfl):PAn X (e::es) (n+1) (zb f g):=
 ⟨X5 ha I.1 hs,λγ ds h=>by
  obtain⟨y,e1,h⟩:=bind_some h;obtain⟨r,e2,h⟩:=zF h;subst h;rw [zcU,I.2 γ r e2]⟩
variable{j:Nat}{F:List D->Option Res}
theorem z9(y:FnD X.prog X.w X.K X.mg X.base j x n F)(I:j<=k)(h:SX X sc N L k)(c:kt sc x=true)(ha:PAn X (e::es) n g)
 (O:starEach (e::es) X.env=(false,eval e X.env)::starEach es X.env:=by rfl) (U:(backTo pos (starEach es X.env)).any (·.1)=false:=by rfl):PV X (.Call (.Name x p) (e::es) [] pos) (zw F g):=by
 obtain⟨fa,fd,ps,hn,G,hm,Y,hb⟩:=y.ex;subst hn;exact YQ (A0:=[]) G ha.1 ha.2 λ{t} a1=>ZF G (h.room.mono I) (h.gl c).1 hm Y hb .nil Y5 a1 (h.gl c).2.2 O U
theorem q8(y:FnD X.prog X.w X.K X.mg X.base j x n F)(I:j<=k)(h:SX X sc N L k)(c:kt sc x=true)(ha:PAn X (e::es) n g)
 (O:starEach (e::es) X.env=(false,eval e X.env)::starEach es X.env:=by rfl) (U:(backTo pos (starEach es X.env)).any (·.1)=false:=by rfl):PO X (.Call (.Name x p) (e::es) [] pos) (z5 F g):=by
 obtain⟨fa,fd,ps,hn,G,hm,Y,hb⟩:=y.ex;subst hn;exact YV G ha.1 ha.2 λ{t} a1=>ZF G (h.room.mono I) (h.gl c).1 hm Y hb .nil Y5 a1 (h.gl c).2.2 O U
end
section
variable{P:Program}{w:World}{K:PySem.W.Frag}{mg:Str->Option Value}{base:Heap}
def Q0(N ps:List Str)(st:Stmt):Bool:=
 decide ((defScope st).kind = .function) && decide ((defScope st).isCoroutine=false) && decide ((defScope st).isGenerator=false) && decide N.Nodup && decide (N.take ps.length=ps) &&
 ps.all (λx=>decide ((defScope st).names.lookup x=some .local) || decide ((defScope st).names.lookup x=some .cell)) && (defScope st).names.all (λy=> !(y.2==NameKind.free))
theorem vU{N ps:List Str}{st:Stmt}(h:Q0 N ps st=true):FnScope N ps (defScope st):=by
 unfold Q0 at h;simp only [Bool.and_eq_true,decide_eq_true_eq,zdr,zdL,zfa]at h;obtain⟨⟨⟨⟨⟨⟨h1,h2⟩,I⟩,O⟩,U⟩,Y⟩,h7⟩:=h;exact⟨h1,h2,I,O,U,Y,λy hy e=>by have:=h7 y hy;rw [e]at this;exact absurd this ⋯⟩
theorem qg{X:Cx}(y:X.xe=λ_ _=>False):PassesOwn (model X.prog X.w) X.A X.env X.xe:=by rw [y];exact PassesOwn.never
theorem qS{x:Str}{st:Stmt}{N ps:List Str}{k:Nat}{F:CO Fl}(A:DefAt K mg x st ps)(hd:Q0 N ps st=true)
 (I : ∀X:Cx,X.prog=P->X.w=w->X.K=K->X.mg=mg->X.base=base->SX X (defScope st) N N k->X.xe=(λ_ _=>False)->J2 X (defBody st) F) :
 FnD P w K mg base (k+1) x ps.length (jO N.length F):=by
 obtain⟨f,fd,y,O,hm⟩:=A.ex;have S:=vU hd;refine⟨f,fd,ps,rfl,zad y S λcdv A outer s H E U=>?_,hm,y.kp,.all O⟩;exact I _ rfl rfl rfl rfl rfl ⟨rfl,rfl,S.nd,rfl,U,λ_ _=> .inl rfl⟩ rfl
theorem def_mk{h:Heap}{x:Str}{st:Stmt}{ps:List Str}{f:Addr}{oc:Value}{od an:Option Addr}{osl:Array (Option Value)}{kV doc pm cdv ct:Value}(y:K.In h)(G:h.Ns mainGlobals mg)
 (a:zff K mainGlobals x=some (some (.ref f))) (l:K.lookup f=some ⟨oc,od,.func (PySem.W.fnOf x x (defArgs st) (defBody st) (defScope st) .none kV doc pm an cdv ct),osl⟩)
 (c:PySem.W.codeIn K cdv x=true) (kp:PySem.W.keepIn K (.ref f)=true)
 (b : ∀(kV doc pm:Value) (an:Option Addr) (cdv ct:Value) (us:List Value),us.length=ps.length->bindArgs (PySem.W.fnOf x x (defArgs st) (defBody st) (defScope st) .none kV doc pm an cdv ct) ⟨us,[]⟩=pure (ps.zip us)):DefAt K mg x st ps:=
 ⟨f,_,zac l c kp,b kV doc pm an cdv ct,PySem.W.mg_of y G a⟩
theorem zbq{x:Str}{st:Stmt}{f:Addr}{fd:FuncData}{N ps:List Str}{k:Nat}{F:CO Fl}(y:L2.Fun K x x st f fd)(hd:Q0 N ps st=true)
 (I : ∀X:Cx,X.prog=P->X.w=w->X.K=K->X.mg=mg->X.base=base->SX X (defScope st) N N k->X.xe=(λ_ _=>False)->J2 X (defBody st) F) :
 FnOk P w K mg base CX0 (k+1) f fd ps (spF K ps.length (jO N.length F)):=by
 have S:=vU hd;exact zad y S λcdv A outer s H E O=>I _ rfl rfl rfl rfl rfl ⟨rfl,rfl,S.nd,rfl,O,λ_ _=> .inl rfl⟩ rfl
theorem law_true{F:List D->Option Res}{H:Hp}{a:Addr}{ns:List Int}(y:SqL K H a (ns.map V.int))(I:F [.lst (ns.map D.int)]=some (.val (.bl true))) :
 spF K 1 F [.ref a] H (λv _=>v = .bl true) λ_ _ _=>False:=by
 refine⟨H,[.lst (ns.map D.int)],.val (.bl true),Same.refl _,Reps.cons (yS y ?_) Reps.nil,rfl,I,λv H' H0' _ r=>r⟩;clear I y
 induction ns with
 | nil=>exact Reps.nil
 | cons n ns O=>exact Reps.cons rfl O
end
end DL
namespace DL
open PySem PySem.Spec PyProof.Rows L2
open AutoSeq1 (wpAny_loadPart')
theorem yw:fillsNumberSlot (.type "tuple") "mul" = pure false:=
 PySem.fillsNumberSlot_seq (id:="tuple.__mul__") (r:=some (.builtin "tuple.__rmul__")) zeQ.lookup ⋯ F.slot_tuple_rmul.lookup ⋯
theorem wM:seqRepeat? (.type "tuple")=pure (some (.builtin "tuple.__mul__")):=by
 unfold seqRepeat?;rw [PySem.seqSlot_of (T:="tuple") (name:="__mul__") (id:="tuple.__mul__") zeQ.lookup ⋯,PySem.seqSlot_of (T:="tuple") (name:="__rmul__") (id:="tuple.__rmul__") F.slot_tuple_rmul.lookup ⋯];rfl
theorem vt(a:Int)(t:Tok)(l:Addr)(y:Array Value)(n:Nat)(I:Option Addr)(sl:Array (Option Value)) :
 Meets (Builtin.«int.__rmul__» ⟨[.int a t,.ref l],[]⟩) (λ_ R s=>s.heap.get? l=some {cls:= .type "tuple",dict:=I,data:= .seq y n,slots:=sl}/\R (.ok (.ret Value.notImplemented)) s):=
 .of_wp λprog w A R s h=>by obtain⟨O,g,d,tk,os⟩:=s;obtain⟨U,h⟩:=h;wp_walk;exact⟨_,rfl,h⟩
theorem vO(a:Int)(t:Tok)(l:Addr)(y:Array Value)(n:Nat)(O:Option Addr)(sl:Array (Option Value))(h1 : ¬(decide (a < -(2 ^ 63)) || decide (a>=2 ^ 63))=true)(h2 : ¬(y.isEmpty || a==1)=true)
 (U : ¬(decide (a<=0) || y.isEmpty)=true) (Y : ¬((y.size:Int)*a>(2 ^ 63 - 1)/8)) (h5 : ¬Builtin.Tuple.tupleTooMany ((y.size:Int)*a)=true) (hz:((zcS a.toNat y).foldl (· ++ ·) #[]).size<=sizeLine) :
 Meets (Builtin.«tuple.__mul__» ⟨[.ref l,.int a t],[]⟩) (λ_ R s=>s.heap.get? l=some {cls:= .type "tuple",dict:=O,data:= .seq y n,slots:=sl}/\
  R (.ok (.ret (.ref s.heap.objs.size))) {s with heap:=s.heap.push {cls:= .type "tuple",data:= .seq ((zcS a.toNat y).foldl (· ++ ·) #[])}}):=
 .of_wp λprog w A R s h=>by
  obtain⟨hp,g,d,tk,os⟩:=s;obtain⟨I,h⟩:=h
  wp_walk using zeb I
  rw [if_neg h1];refine zcM (zfm (s:=⟨hp,g,d,tk,os⟩) ⟨_,I,rfl,n,rfl⟩ ?_);dsimp only;rw [if_neg h2,if_neg U,if_neg Y,if_neg h5];refine zcM (m:=zdT _) (zdZ ?_ hz);exact zcT ⟨_,rfl,h⟩
theorem vq(a:Int)(t:Tok)(l:Addr)(y:Array Value)(n:Nat)(O:Option Addr)(sl:Array (Option Value))(h1 : ¬(decide (a < -(2 ^ 63)) || decide (a>=2 ^ 63))=true)(h2 : ¬(y.isEmpty || a==1)=true)
 (U:(decide (a<=0) || y.isEmpty)=true) :
 Meets (Builtin.«tuple.__mul__» ⟨[.ref l,.int a t],[]⟩) (λ_ R s=>s.heap.get? l=some {cls:= .type "tuple",dict:=O,data:= .seq y n,slots:=sl}/\
  R (.ok (.ret (.ref s.heap.objs.size))) {s with heap:=s.heap.push {cls:= .type "tuple",data:= .seq #[]}}):=
 .of_wp λprog w A R s h=>by
  obtain⟨Y,g,d,tk,os⟩:=s;obtain⟨I,h⟩:=h
  wp_walk using zeb I
  rw [if_neg h1];refine zcM (zfm (s:=⟨Y,g,d,tk,os⟩) ⟨_,I,rfl,n,rfl⟩ ?_);dsimp only;rw [if_neg h2,if_pos U];refine zcM (m:=zdT _) (zdZ ?_ (zef _));exact zcT ⟨_,rfl,h⟩
theorem vp(a:Int)(t:Tok)(l:Addr)(I:Array Value)(n:Nat)(O:Option Addr)(sl:Array (Option Value))(h1 : ¬(decide (a < -(2 ^ 63)) || decide (a>=2 ^ 63))=true)(h2:(I.isEmpty || a==1)=true) :
 Meets (Builtin.«tuple.__mul__» ⟨[.ref l,.int a t],[]⟩) (λ_ R s=>s.heap.get? l=some {cls:= .type "tuple",dict:=O,data:= .seq I n,slots:=sl}/\R (.ok (.ret (.ref l))) s):=
 .of_wp λprog w A R s h=>by
  obtain⟨U,g,d,tk,os⟩:=s;obtain⟨y,h⟩:=h
  wp_walk using zeb y
  rw [if_neg h1];refine zcM (zfm (s:=⟨U,g,d,tk,os⟩) ⟨_,y,rfl,n,rfl⟩ ?_);dsimp only;rw [if_pos h2];refine zcM (m:=zem _) ?_;unfold zem;refine zcM (zfd (T:="tuple") ⟨_,y,rfl⟩ (zcT ?_));rw [if_pos ⋯];exact zcM (zfi (zcT ⟨_,rfl,h⟩))
section
variable{X:Cx}
def Wh(K:PySem.W.Frag):R2:=λx y H Q=>∃l k xs,x = .ref l/\y = .int k/\SqT K H l xs/\ -(2 ^ 62)<=k/\k<2 ^ 62/\xs.length*k.toNat<=sizeLine/\(xs=[]\/k=1->Q (.ref l) H)/\
 ∀p,H p=none->Q (.ref p) (upd H p (.tup (zcS k.toNat xs).flatten))
theorem Y7:OpR X (binaryOp .Mult) (Wh X.K):=by
 intro pins s σ H x y v u Q I rx ry h;obtain⟨l,k,xs,rfl,rfl,hq,h1,h2,hz,q1,q2⟩:=h;cases rx;obtain⟨t,rfl⟩:=ry;obtain⟨its,r,ht,z1⟩:=I.tuple hq;obtain⟨⟨cls,dd,data,sl⟩,O,hc,n,hd⟩:=id ht;simp only at hc hd;subst hc hd;have ae:=r.length;have g1 : ¬(decide (k < -(2 ^ 63)) || decide (k>=2 ^ 63))=true:=by simp;omega
 refine wpAny_binaryOp_repeat_ref (T:="tuple") (U:="int") ⋯ ⟨_,O,rfl⟩ (λs'=>zfU s' k t) yw F.fills_int_mul zfv wM F.slot_int_index.lookup
  (zep zfv (zfU s k t) F.entry_int_rmul (F.args_int_rmul_2 _ _) (vt k t l its.toArray n dd sl) ⟨O,rfl,⟨_,O,rfl⟩,?_⟩)
 have f0 : ∀m:Nat,zfK (λx1 x2=>x1++x2) #[] (zcS m its.toArray)=(zcS m its).flatten.toArray:=λm=>by
  have:=vd its m [];rw [zfk]at this;exact this
 by_cases Y:(its.toArray.isEmpty || k==1)=true
 ·refine zep zeQ ⟨_,O,rfl⟩ zfT (zfQ _ _) (vp k t l its.toArray n dd sl g1 Y) ⟨O,⟨.ref l,H,I,rfl,q1 ?_⟩⟩
  rw [zdL]at Y;rcases Y with g | g
  ·left
   have:its=[]:=by simpa using g
   exact(r.nil_iff).mp this
  ·right;simpa using g
 ·have a4:=Y
  simp only [zdL,not_or]at a4;have af:its ≠ []:=by intro e;exact a4.1 (by rw [e];rfl)
  have aj:0<its.length:=List.length_pos_iff.mpr af;by_cases g3:(decide (k<=0) || its.toArray.isEmpty)=true
  ·have hk:k.toNat=0:=by
    rw [zdL]at g3;rcases g3 with g | g
    ·have:=of_decide_eq_true g;omega
    ·exact absurd g a4.1
   refine zep zeQ ⟨_,O,rfl⟩ zfT (zfQ _ _) (vq k t l its.toArray n dd sl g1 Y g3) ⟨O,?_⟩;refine⟨.ref s.heap.objs.size,_,I.laid (t':=s.toks) (o:= .tup (zcS k.toNat xs).flatten) (λc ob q=>zcO _ q) (zcZ _) ?_,rfl,q2 _ (I.hok.fresh (zcZ _))⟩;rw [hk];exact⟨zef _,[],.nil,IsTupD.new _ _⟩
  ·have hk : ¬k<=0:=by intro g;exact g3 (by rw [zdL];exact .inl (decide_eq_true g))
   have hsz:its.length*k.toNat<=sizeLine:=by rw [<- ae];exact hz
   have ak:((its.toArray.size:Nat):Int)*k<=(sizeLine:Int):=by
    rw [zcV];have e:((its.length*k.toNat:Nat):Int)=(its.length:Int)*k:=by
     rw [zeI,Int.toNat_of_nonneg ⋯]
    omega
   have am:sizeLine=16777216:=sizeLine_eq;have ah:(zfK (λx1 x2=>x1++x2) #[] (zcS k.toNat its.toArray)).size<=sizeLine:=by
    rw [f0,zcV,ZM,zfp];exact hsz
   refine zep zeQ ⟨_,O,rfl⟩ zfT (zfQ _ _) (vO k t l its.toArray n dd sl g1 Y g3 ⋯ (by unfold Builtin.Tuple.tupleTooMany;simp only [decide_eq_true_eq];omega) ah) ⟨O,?_⟩;rw [f0];refine⟨.ref s.heap.objs.size,_,I.laid (t':=s.toks) (o:= .tup (zcS k.toNat xs).flatten) (λc ob q=>zcO _ q) (zcZ _) ?_,rfl,q2 _ (I.hok.fresh (zcZ _))⟩;exact⟨by rw [ZM,zfp];exact hz,_,r.rep k.toNat,IsTupD.new _ _⟩
theorem YB{K:PySem.W.Frag}:Snd K (λx y H Q=>rI CMul (λi j=> .int (i*j)) x y H Q\/Wh K x y H Q) qK:=λH0 H x y dx Y d Q s rx O I q=>by
 cases dx<;>cases Y<;>simp [qK]at I
 ·obtain⟨e1,e2⟩:=I
  subst e2;exact .inl ⟨_,_,jW rx,jW O,Kx e1,q _ H H0 (Ext.refl s) rfl⟩
 ·rename_i ds j
  obtain⟨⟨hl,hj⟩,rfl⟩:=I;obtain⟨a,xs,rfl,h1,h2⟩:=k9 rx;obtain⟨q1,q2⟩:=va hj;refine .inr ⟨a,j,xs,rfl,jW O,sameT s h1,q1,q2,xZ (by rw [h2.length];exact hl),λe=>?_,λp U=>?_⟩
  ·refine q _ H H0 (Ext.refl s) ?_
   rcases e with e | e
   ·have e2:ds=[]:=by
     have:=h2.length;rw [e]at this;exact zdd this.symm
    subst e2;rw [show(zcS j.toNat ([]:List D)).flatten=[]by simp];exact qH h1 h2
   ·subst e
    rw [show(zcS (1:Int).toNat ds).flatten=ds by simp];exact qH h1 h2
  ·exact q _ _ _ (Ext.alloc s U _) (qH (SqT.of zR) ((vW h2 _).mono (jm (jC s U) _)))
theorem qm{a b:Expr}{pos:Pos}{fa fb:CO D}(ha:PV X a fa)(y:PV X b fb):PV X (.BinOp a .Mult b pos) (zy qK fa fb):=vE (op_mul.or Y7) YB ha y
end
end DL
namespace DL
open PySem PySem.Spec PyProof.Rows L2
theorem RC.lendAt{K:PySem.W.Frag}{H0 H:Hp}{σ:St}{γ:Ctx}{i:Nat}{ds:List D}{a:Addr}{xs:List V}(r:RC K H0 H σ γ)(e:γ[i]? = some (.own ds))(h1:σ[i]? = some (some (.ref a)))(h2:H0 a=none)(h3:H a=some (.lst xs))(h4:Reps K H0 ds xs):RC K (L2.upd H0 a (.lst xs)) H σ (γ.set i (.val (.lst ds))):=by
 refine⟨λb o q=>?_,by simp [r.len],λj d g=>?_,λj es g=>?_,λj k b es fs e1 e2 e3 e4=>?_,⟨λj rows g=>?_,λj k r1 r2 e1 e2=>?_⟩⟩
 ·by_cases z:b=a
  ·subst z;rw [zR]at q;rw [h3];exact q
  ·rw [zS z]at q;exact r.sub b o q
 ·rcases z3 g with⟨rfl,z,hl⟩ | ⟨I,z⟩
  ·cases z;exact⟨_,h1,yS (SqL.of zR) (h4.mono (jm h2 _))⟩
  ·obtain⟨v,O,U⟩:=r.val j d z
   exact⟨v,O,U.mono (jm h2 _)⟩
 ·rcases z3 g with⟨_,z,_⟩ | ⟨I,z⟩
  ·cases z
  ·obtain⟨b,ys,O,U,g3,g4⟩:=r.own j es z
   refine⟨b,ys,O,?_,g3,g4.mono (jm h2 _)⟩;rw [zS (λq=>I (r.ne j i a es ds z e (by rw [O,q]) h1))];exact U
 ·rcases z3 e1 with⟨_,z,_⟩ | ⟨I,y⟩
  ·cases z
  ·rcases z3 e2 with⟨_,z,_⟩ | ⟨hk,Y⟩
   ·cases z
   ·exact r.ne j k b es fs y Y e3 e4
 ·rcases z3 g with⟨_,z,_⟩ | ⟨I,z⟩
  ·cases z
  ·obtain⟨b,bs,f1,f2,f3⟩:=r.nst.1 j rows z
   have ab:=f3 i ds a e h1;refine⟨b,bs,f1,f2.move (jm h2 _) (λc hc=>by rw [zS (λq=>ab (by rw [<- q];exact hc))];exact(f2.at hc).1) (λc hc=>rfl),λk fs c e1 e2=>?_⟩;rcases z3 e1 with⟨_,z,_⟩ | ⟨_,y⟩
   ·cases z
   ·exact f3 k fs c y e2
 ·rcases z3 e1 with⟨_,z,_⟩ | ⟨_,y⟩
  ·cases z
  ·rcases z3 e2 with⟨_,z,_⟩ | ⟨_,Y⟩
   ·cases z
   ·exact r.nst.2 j k r1 r2 y Y
end DL
namespace L2
open PySem PySem.Spec PyProof.Rows
open AutoSeq1 (wpAny_loadPart')
section
variable{prog:Program}{w:World}{A:Around}{E:Value->Shared->Prop}{s:Shared}
theorem JS{z it l:Addr}{n:Nat}{xs:Array Value}{x O:Value}{Q:Value->Shared->Prop}(hz:IsEnum s.heap z it n O)(h1:ItAt .T s.heap it l n)(hl:SqAt .T s.heap l xs)(hx:xs[n]? = some x)(a0:z≠it)
 (hQ : ∀g,IsEnumOut g z it ((n:Int)+1) x s.heap.objs.size->ItAt .T g it l (n+1)->IsPair g s.heap.objs.size (.int n s.toks) x->g.objs.size=s.heap.objs.size+1->
   (∀c o,c≠z->c≠it->s.heap.get? c=some o->g.get? c=some o)->Q (.ref s.heap.objs.size) {s with heap:=g,toks:=s.toks+1}) :
 wpAny (model prog w) A (Builtin.«enumerate.__next__» ⟨[.ref z],[]⟩) (λaq s'=>∃v,aq = .done (.ret v)/\Q v s') E s:=by
 refine zcM (m:=field (.ref z) 2) (zdk hz rfl (x:= .ref it) rfl ?_);refine zcM (m:=zc6 (.ref it)) (xc h1 hl hx λg1 ar a4=>?_);have a5:IsEnum g1 z it n O:=a4.extBut _ _ a0 hz;refine zcM (m:=field (.ref z) 3) (zdk a5 rfl (x:=rawInt n) rfl ?_);refine zcM (m:=field (.ref z) 4) (zdk a5 rfl (x:= .none) rfl ?_);refine zcM (m:=mkInt n) (wpAny_mkInt ?_);refine zcM (m:=setField (.ref z) 3 (rawInt ((n:Int)+1))) (zdG a5 ⋯ λg2 a7 a8=>?_);replace a7:IsEnum g2 z it ((n:Int)+1) O:=a7;refine zcM (m:=setField (.ref z) 4 .none) (zdG a7 ⋯ λU a9 aa=>?_);replace a9:IsEnum U z it ((n:Int)+1) O:=a9;refine zcM (m:=newTuple [.int n s.toks,x]) (wpAny_newTuple ?_);have a1:IsEnum (U.push {cls:= .type "tuple",data:= .seq #[.int n s.toks,x]}) z it ((n:Int)+1) O:=zcO _ a9;generalize a2:U.push {cls:= .type "tuple",data:= .seq #[.int n s.toks,x]}=I at a1;have y1:g1.objs.size=s.heap.objs.size:=a4.1;have y2:g2.objs.size=g1.objs.size:=a8.1;have y3:U.objs.size=g2.objs.size:=aa.1;have hsz:U.objs.size=s.heap.objs.size:=by rw [y3,y2,y1]
 have aw:z<s.heap.objs.size:=zcX hz;have ax:IsPair I s.heap.objs.size (.int n s.toks) x:=by
  show I.get? _=_;rw [<- a2,<- hsz];exact zc5 _ rfl
 have y4:I.objs.size=s.heap.objs.size+1:=by rw [<- a2,zdg,hsz]
 have az : ∀c o,c≠z->c≠it->s.heap.get? c=some o->I.get? c=some o:=λc o y c2 e=>by
  rw [<- a2];exact zcO _ (aa.extBut _ _ y (a8.extBut _ _ y (a4.extBut _ _ c2 e)))
 have b0:ItAt .T I it l (n+1):=ar.at λo e=>by rw [<- a2];exact zcO _ (aa.extBut _ _ a0.symm (a8.extBut _ _ a0.symm e))
 refine zcM (m:=zdb (.ref z)) ?_;unfold zdb;refine zcM (zdk a1 rfl (x:= .none) rfl (zcT ?_));simp only [if_true];refine zcM (zfi (zcM (zdk a1 rfl (x:=O) rfl ?_)));refine zcM (zdG a1 ⋯ λg5 ae aj=>?_);replace ae:IsEnum g5 z it ((n:Int)+1) x:=ae;rw [hsz];refine zcM (m:=zdU (.ref z) (.ref s.heap.objs.size)) ?_;unfold zdU;refine zcM (zdG ae ⋯ λg6 ag ak=>?_);replace ag:IsEnumOut g6 z it ((n:Int)+1) x s.heap.objs.size:=ag;refine zdG ag ⋯ λY ah am=>?_;replace ah:IsEnumOut Y z it ((n:Int)+1) x s.heap.objs.size:=ah;have up : ∀c o,c≠z->I.get? c=some o->Y.get? c=some o:=λc o y e=>am.extBut _ _ y (ak.extBut _ _ y (aj.extBut _ _ y e));have y7:Y.objs.size=s.heap.objs.size+1:=by
  have q5:g5.objs.size=I.objs.size:=aj.1;have q6:g6.objs.size=g5.objs.size:=ak.1;have q7:Y.objs.size=g6.objs.size:=am.1;rw [q7,q6,q5,y4]
 exact zcM (zfL (zcT ⟨_,rfl,hQ Y ah (b0.at λo e=>up _ o a0.symm e) (up _ _ (zd0 aw) ax) y7 λc o y c2 e=>up c o y (az c o y c2 e)⟩))
theorem QY{z it l:Addr}{n:Nat}{xs:Array Value}{y:Value}{Q:Fin->Shared->Prop}(I:A.handled=none)(hz:IsEnum s.heap z it n y)(h1:ItAt .T s.heap it l n)(O:SqAt .T s.heap l xs)(U:xs[n]? = none)
 (Y : ∀g e,Heap.ExtBut it s.heap g->(∃o,g.get? e=some o/\o.cls = .type "StopIteration")->E (.ref e) {s with heap:=g}) :
 wpAny (model prog w) A (Builtin.«enumerate.__next__» ⟨[.ref z],[]⟩) Q E s:=
 zcM (m:=field (.ref z) 2) (zdk hz rfl (x:= .ref it) rfl (zcM (m:=zc6 (.ref it)) (kW I h1 O U Y)))
end
def Vn(i:Addr):Obj:={cls:= .type "enumerate",data:= .fields #[.none,.bool false,.ref i,rawInt 0,.none,.none]}
def ve(h:Heap)(l:Addr):Heap:=zdc (zdc h (itO .T l)) (Vn h.objs.size)
theorem QX(l:Addr)(xs:Array Value) :
 Meets (Builtin.«enumerate.__new__» ⟨[.type "enumerate",.ref l],[]⟩) (λ_ R s=>SqAt .T s.heap l xs/\R (.ok (.ret (.ref (s.heap.objs.size+1)))) {s with heap:=ve s.heap l}):=
 .of_wp λprog w A R s h=>by
  obtain⟨U,g,d,tk,os⟩:=s;obtain⟨Y,h⟩:=h;have a0:=sub_enumerate;have y:Heap.IsTuple (Shared.heap ⟨U,g,d,tk,os⟩) l xs:=Y;obtain⟨o,I,O,m,hd⟩:=id y;obtain⟨cls,dct,a1,sl⟩:=o;simp only at O hd;subst O hd;simp only [ve,Vn,itO,zdg]at h
  wp_walk using zeb I
  refine wpAny_stack_any λst=>zcT ?_;split
  ·rename_i c _ _ _ _ _
   cases (c==zd5 "enumerate")<;>(wp_walk using zeb I,zfe y;exact⟨_,rfl,by simpa [zdg,zeY]using h⟩)
  ·wp_walk using zeb I,zfe y
   exact⟨_,rfl,by simpa [zdg,zeY]using h⟩
def Ite(K:PySem.W.Frag)(a:Addr):It:=
 ⟨λi H=>∃xs,SqK .T K H a xs/\i<xs.length,
  λi H x H'=>∃p u,x = .ref p/\H p=none/\H'=upd H p (.tup [.int i,u])/\(∀xs,SqK .T K H a xs->xs[i]? = some u),
  λi H=>∃xs,SqK .T K H a xs/\xs.length<=i⟩
theorem xw{prog:Program}{w:World}{A:Around}{E:Value->Shared->Prop}{s:Shared}{z it:Addr}{n:Int}{O:Value}{Q:Value->Shared->Prop}(hz:IsEnum s.heap z it n O)(h:Q (.ref z) s):wpAny (model prog w) A (pyIter (.ref z)) Q E s:=by
 have y:s.TypeIs (.ref z) "enumerate":=⟨_,hz,rfl⟩;refine wpAny_pyIter_slot y F.slot_enumerate_iter (zds F.slot_enumerate_iter y F.entry_enumerate_iter ?_ (F.args_enumerate_iter_1 _));have I:wpAny (model prog w) A.in1 (ret (.ref z)) (λI s'=>∃v,I = .done (.ret v)/\∃T m,s'.TypeIs v T/\typeLookup (.type T) "__next__" = pure (some m)/\Q v s') E s:=zcT ⟨_,rfl,"enumerate",_,y,zex.lookup,h⟩;exact I
theorem J7{P:Program}{w:World}{K:PySem.W.Frag}{elts:List Expr}{x1:Nat}{tpos:Pos}{z it a:Addr}(ag:z≠it) :
 Turn P w K (.Tuple elts x1 tpos) (Ite K a) [z,it] z (λi h=>(∃Y,IsEnum h z it i Y)/\ItAt .T h it a i) where
 mem:=by simp
 obj:=λi h ⟨⟨Y,hz⟩,h1⟩ y hy=>by
  simp only [zcY,zc3,or_false]at hy;rcases hy with rfl | rfl
  ·exact⟨_,hz,λv q=>by cases q⟩
  ·exact h1.obj
 keep:=λi h h' ⟨⟨Y,hz⟩,h1⟩ k=>⟨⟨Y,k z ⋯ _ hz⟩,h1.at λo e=>k it ⋯ o e⟩
 item:=by
  rintro X hP hw hK hc i pins s σ H E I hf ⟨⟨Y,hz⟩,h1⟩ ⟨xs,a7,ak⟩;subst hP hw hK;obtain⟨am,aa,p1,z1⟩:=I.sq a7;have hx:xs[i]? = some xs[i]:=zc7 ak;obtain⟨u1,ao,ap⟩:=aa.get hx;have hT:s.TypeIs (.ref z) "enumerate":=⟨_,hz,rfl⟩;unfold pyNext;refine zcM (zd1 (zde (name:=zdC "__next__") hT zex (zds zex hT F.entry_enumerate_next
   (JS hz h1 p1 (x:=u1) (by simpa using ao) ag λg a1 a2 a3 a4 a5=>zcT ⟨_,rfl,?_⟩) (F.args_enumerate_next_1 _))))
  refine wpAny_letOwnedTupleGo_enum a1 λg2 av af=>?_;have lt : ∀{c o},s.heap.get? c=some o->s.heap.objs.size≠c:=λe=>zd0 (zcX e);have aw:IsPair g2 s.heap.objs.size (.int i s.toks) u1:=af.extBut _ _ (lt hz) a3;have kk : ∀U u,U ∉ [z,it]->s.heap.get? U=some u->g2.get? U=some u:=λU u O e=>by
   simp only [zcY,zc3,or_false,not_or]at O;exact af.extBut _ _ O.1 (a5 U u O.1 O.2 e)
  have I1:Inv X pins σ (upd H s.heap.objs.size (.tup [.int i,xs[i]])) {s with heap:=g2,toks:=s.toks+1}:=
   I.turnLaid (fp:=[z,it]) kk hf (zcZ _) ⟨by show 2<=sizeLine;decide,[.int i s.toks,u1],.cons ⟨_,rfl⟩ (.cons ap .nil),⟨_,aw,rfl,_,rfl⟩⟩
  have az:H s.heap.objs.size=none:=I.fresh;refine⟨.ref s.heap.objs.size,_,I1,rfl,⟨_,_,rfl,az,rfl,λb7 b0=>by rw [I.sq_inj b0 a7];exact hx⟩,?_,λU O=>?_⟩
  ·exact⟨⟨_,by have:=av;rwa [show((i:Int)+1)=((i+1:Nat):Int)by omega]at this⟩,a2.at λo e=>af.extBut _ _ ag.symm e⟩
  ·have b1:U≠s.heap.objs.size:=by
    simp only [zcY,zc3,or_false]at O;rcases O with rfl | rfl
    ·exact(lt hz).symm
    ·obtain⟨o,e,_⟩:=h1.obj;exact(lt e).symm
   rw [zS b1];exact(hf U O).1
 done:=by
  rintro X hP hw hK hc i pins s σ H E I hf ⟨⟨Y,hz⟩,h1⟩ ⟨xs,a7,hi⟩;subst hP hw hK;obtain⟨am,aa,p1,z1⟩:=I.sq a7;have hT:s.TypeIs (.ref z) "enumerate":=⟨_,hz,rfl⟩;have l1:=aa.length;unfold pyNext;refine zcM (zd1 (zde (name:=zdC "__next__") hT zex (zds zex hT F.entry_enumerate_next
   (QY (show X.A.handled=none from I.ok.hd hc) hz h1 p1 (by simp;omega) λg e hk he=>?_) (F.args_enumerate_next_1 _))))
  obtain⟨o,ho,b5⟩:=he;refine zcM (zfs (T:="StopIteration") (b:=true) ⟨o,ho,b5⟩ zfJ (zcT ⟨rfl,?_⟩));refine I.turnedL (t':=s.toks) (fp:=[z,it]) (λU u O e=>?_) hf;simp only [zcY,zc3,or_false,not_or]at O;exact hk U u O.2 e
 self:=λ_ _ _ _ _ st h=>xw st.1.choose_spec h
def zbn(K:PySem.W.Frag)(ta:TA):TI:=λσ H R=>ta σ H λvs H1=>∃a,vs=[.ref a]/\(∃xs,SqK .T K H1 a xs)/\R (Ite K a) H1
theorem YZ{X:Cx}{e1:Expr}{ta:TA}{p pos:Pos}{elts:List Expr}{x1:Nat}{tpos:Pos}(hg:Gl X "enumerate")(hm:X.mg "enumerate" = none)(ha:PA X [e1] ta)
 (hv:bootBuiltins "enumerate" = some (.type "enumerate")) (hs:starEach [e1] X.env=[(false,eval e1 X.env)]:=by rfl) :
 PI X (.Tuple elts x1 tpos) (.Call (.Name "enumerate" p) [e1] [] pos) (zbn X.K ta):=by
 intro pins s σ H R I h;refine Call_ (xK I hg hm hv (zdl (thn (ha pos pins s σ H _ I h) λus s1 hZ=>?_) (by rw [hs];rfl) rfl));obtain⟨vs,H1,y,r1,q1⟩:=hZ;obtain⟨a,e,⟨xs,a6⟩,q⟩:=q1;subst e;obtain⟨w1,eu,a8⟩:=k8 r1;subst eu;cases a8;obtain⟨a9,af,U,z1⟩:=y.sq a6;have la:=U.lt;refine callType_new F.called_enumerate ⋯ (F.typeCall_enumerate_1 _) (F.newCall_enumerate_1 _) (λobj=>F.args_object_init_2 obj _) F.entry_enumerate_new (QX a a9.toArray) ⟨U,?_⟩;have keep : ∀c o,s1.heap.get? c=some o->(ve s1.heap a).get? c=some o:=λc o e=>zcO _ (zcO _ e);have y1:(zdc s1.heap (itO .T a)).objs.size=s1.heap.objs.size+1:=zdg ..;have g0:ItAt .T (ve s1.heap a) s1.heap.objs.size a 0:=(yn .T s1.heap a).at λo e=>zcO _ e;have O:IsEnum (ve s1.heap a) (s1.heap.objs.size+1) s1.heap.objs.size 0 .none:=by
  have q:=zc5 (zdc s1.heap (itO .T a)) (o:=Vn s1.heap.objs.size) rfl;rw [y1]at q;exact q
 refine⟨⟨_,O,rfl⟩,xw (s:={s1 with heap:=ve s1.heap a}) O ?_⟩;have I2:Inv X pins σ H1 {s1 with heap:=ve s1.heap a,toks:=s1.toks}:=y.kept keep;refine⟨_,[s1.heap.objs.size+1,s1.heap.objs.size],_,_,H1,rfl,I2,J7 (zd0 (zdR _)),⟨⟨_,O⟩,g0⟩,λc Y=>?_,q⟩;have a0:s1.heap.objs.size<=c:=by
  simp only [zcY,zc3,or_false]at Y;rcases Y with rfl | rfl
  ·exact zdj _ _
  ·exact zcZ _
 exact y.fpOk a0 (y.hok.fresh a0)
end L2
namespace DL
open PySem PySem.Spec PyProof.Rows L2
theorem J5{K:PySem.W.Frag}{H0 Hs:Hp}{a:Addr}{xs:List V}{ds:List D}(h:SqT K Hs a xs)(r:Reps K H0 ds xs):Walk K H0 Hs (Ite K a) (qx ds):=by
 have hl:=r.length;have hz:(qx ds).length=ds.length:=by simp [qx]
 refine⟨λi H1 s hi=>?_,λH1 s=>?_,λi H1 x H1' s hi y=>?_⟩
 ·exact⟨xs,sameT s h,by omega⟩
 ·exact⟨xs,sameT s h,by omega⟩
 ·obtain⟨p,u,e1,I,e2,O⟩:=y
  obtain⟨d,hd,U⟩:=r.getV (O xs (sameT s h));refine⟨.tup [.int i,d],?_,λG0 s1 s2=>⟨upd G0 p (.tup [.int i,u]),?_,?_⟩⟩
  ·have Y:i<ds.length:=by omega
   unfold qx;rw [zdx,zfw Y,zcN,hd];rfl
  ·rw [e2];exact Ext.alloc s2 I _
  ·rw [e1]
   exact qH (SqT.of zR) (Reps.cons (show V.int i = .int i from rfl) (Reps.cons ((U.mono s1).mono (jm (jC s2 I) _)) Reps.nil))
section
variable{X:Cx}{sc:Scope}{N L:List Str}{k:Nat}{a b c:Expr}{pos p:Pos}{f fa fb fc:CO D}
theorem Wy{elts:List Expr}{x1:Nat}{tpos:Pos}(h:SX X sc N L k)(c:kt sc "enumerate" = true)(z:X.mg "enumerate" = none)(ha:PV X a f)(hs:starEach [a] X.env=[(false,eval a X.env)]:=by rfl) :
 PIF X (.Tuple elts x1 tpos) (.Call (.Name "enumerate" p) [a] [] pos) (YH f):=
 v7 (YZ (h.gl c).1 z (jx ha qs hs) boot_enumerate hs) λσ H R O=>by
  obtain⟨H0,γ,ds,rc,y,q⟩:=O;obtain⟨d,U,y⟩:=bind_some y;cases d with
  | tup es=>
   cases y;refine⟨H0,γ,_,rc,U,λv H' H0' x r=>?_⟩;obtain⟨Y,xs,rfl,I,g2⟩:=k9 r;exact⟨Y,rfl,⟨xs,sameT x.sub I⟩,q _ H' H0' x (J5 I g2)⟩
  | _=>cases y
theorem XQ{Y a0:CmpOp}{r r':R2}{F G:D->D->Option D}(ho:OpR X (compareOp Y) r)(a7:OpR X (compareOp a0) r')(s1:Snd X.K r F)(s2:Snd X.K r' G)(ha:PV X a fa)(hb:PV X b fb)(hc:PV X c fc)
 (hm:lastMarks [Y,a0] [b,c]=false:=by with_unfolding_all rfl):PV X (.Compare a [Y,a0] [b,c] pos) (yR F G fa fb fc):=
 qe (X4 ho a7 ha hb hc hm) λσ H Q hZ=>by
  obtain⟨H0,γ,d,rc,I,q⟩:=hZ;obtain⟨x,e1,I⟩:=bind_some I;obtain⟨y,e2,I⟩:=bind_some I;obtain⟨k,e3,I⟩:=bind_some I;obtain⟨bb,e4,e5⟩:=bind_some e3;refine⟨H0,γ,x,rc,e1,λv1 H1 af x1 r1=>⟨af,γ,y,rc.ext x1,e2,λv2 H2 ah O r2=>s1 ah H2 v1 v2 x y bb _ O.sub (r1.mono O.s0) r2 e4 λv3 H3 a5 U r3=>?_⟩⟩;cases bb with
  | bl k'=>
   cases e5;refine⟨k,show v3 = .bl k from r3,?_⟩;cases k with
   | true=>
    rw [if_pos rfl];rw [if_pos rfl]at I;obtain⟨z,e6,e7⟩:=bind_some I;exact⟨a5,γ,z,((rc.ext x1).ext O).ext U,e6,λv4 H4 aq x4 r4=>s2 aq H4 v2 v4 y z d _ x4.sub ((r2.mono U.s0).mono x4.s0) r4 e7 λv5 H5 av x5 r5=>q v5 H5 av (((x1.trans O).trans U).trans (x4.trans x5)) r5⟩
   | false=>
    rw [if_neg ⋯];rw [if_neg ⋯]at I;cases I;exact q _ H3 a5 ((x1.trans O).trans U) rfl
  | _=>cases e5
end
theorem kM : ∀{l:List Int} {us:List Value},Vals (l.map V.int) us->∀i,i<us.toArray.size->∃z u,us.toArray[i]? = some (.int z u)/\l[i]? = some z
 | [],us,r,i,hi=>by cases r;exact absurd hi (zdM _)
 | z::l,u::us,.cons r t,i,hi=>by
  cases i with
  | zero=>
   obtain⟨tk,rfl⟩:=r;exact⟨z,tk,by simp,by simp⟩
  | succ i=>
   obtain⟨y,I,e1,e2⟩:=kM t i (by simpa using hi);exact⟨y,I,by simpa using e1,by simpa using e2⟩
section
variable{K:PySem.W.Frag}{E0 E H0 H:Hp}{σ:St}{γ:Ctx}
theorem RS.freeze{i:Nat}{ds:List D}(r:RS K E0 E H0 H σ γ)(e:γ[i]? = some (.own ds)) : ∃H0',RS K E0 E H0' H σ (γ.set i (.val (.lst ds))):=by
 obtain⟨a,xs,h1,h2,Y,h4⟩:=r.rc.own i ds e;have ea:=r.fresh i ds a e h1;obtain⟨H0',s0,U⟩ : ∃H0',H0'=upd H0 a (.lst xs)/\RC K H0' H σ (γ.set i (.val (.lst ds))):=by
  refine⟨_,rfl,?_⟩;exact RC.lendAt r.rc e h1 h2 Y h4
 subst s0;refine⟨_,U,⟨r.ext.s0.trans (jm h2 _),r.ext.s1,U.sub,λc q1 y=>?_⟩,λj es b I O=>?_,λj rows b ys I O g3=>?_⟩
 ·rw [zS (λz=>by rw [z,ea]at y;exact y rfl)];exact r.ext.new c q1 y
 ·rcases z3 I with⟨_,z,_⟩ | ⟨_,z⟩
  ·cases z
  ·exact r.fresh j es b z O
 ·rcases z3 I with⟨_,z,_⟩ | ⟨_,z⟩
  ·cases z
  ·exact r.fr2 j rows b ys z O g3
end
section
variable{X:Cx}{st:Stmt}{F:CO Fl}
theorem ZC(i:Nat)(h:PSD X st F):PSD X st (Qf i F):=xN h λD σ H I=>by
 obtain⟨E0,E,H0,γ,O,U,y,Y⟩:=I;obtain⟨ds,e1,y⟩:=bind_some y;obtain⟨H0',a0⟩:=U.freeze (xm e1);exact⟨E0,E,H0',_,O,a0,y,Y⟩
end
end DL
namespace L2
open PySem PySem.Spec PyProof.Rows
def za3(K:PySem.W.Frag):V->List V->Hp->VK->Prop:=λx vs H Q=>∃y p zs,x = .str y/\vs=[.ref p]/\SqL K H p (zs.map V.str)/\Builtin.Str.tooLong (zs.toArray.foldl (λa p=>a+p.length+y.length) 0)=false/\Q (.str (zfF y zs)) H
theorem wy : ∀{zs:List Str} {us:List Value},Vals (zs.map V.str) us->∃l:List (Str×Tok),strValues l=us/\l.map (·.1)=zs
 | [],us,r=>by cases r;exact⟨[],rfl,rfl⟩
 | z::zs,u::us,.cons r t=>by
  obtain⟨tk,rfl⟩:=r;obtain⟨l,rfl,h⟩:=wy t;exact⟨(z,tk)::l,rfl,by simp [h]⟩
theorem Vb{X:Cx}:MtR X "str.join" (za3 X.K):=by
 intro pins s σ H x vs v us Q I rx U h;obtain⟨y,p,zs,rfl,rfl,Y,O,q⟩:=h;obtain⟨t,rfl⟩:=rx;obtain⟨w1,rfl,rw⟩:=k8 U;cases rw;obtain⟨its,r,pl,hz⟩:=I.list Y;obtain⟨l,rfl,e⟩:=wy r;subst e;refine zep F.slot_str_join (typeIs_str _ _ _) F.entry_str_join (F.args_str_join_2 _ _) (meets_str_join_list y t p l O) ⟨pl.isList,post_join l ⟨joinFit_length O,λt' k=>?_⟩⟩;refine⟨.str (zfF y (l.map (·.1))),H,(I.kept (h':=s.heap) (t':=k) λb o e=>e),⟨t',?_⟩,q⟩;show Value.str (Builtin.Str.glued y (l.map (·.1))) t'=_;rw [StrLaws.glued_eq_join]
end L2
namespace DL
open PySem PySem.Spec PyProof.Rows L2
theorem wC{K:PySem.W.Frag}{H:Hp} : ∀{ds:List D} {xs:List V} {l:List Str},Reps K H ds xs->wD ds=some l->xs=l.map V.str
 | [],xs,l,r,e=>by cases e;rw [show xs=[]from r];rfl
 | d::ds,xs,l,r,e=>by
  obtain⟨x,r',rfl,y,r2⟩:=(show ∃x r,xs=x::r/\Rep K H d x/\Reps K H ds r from r);cases d with
  | str i=>
   obtain⟨l',e1,rfl⟩:=zF (show(wD ds).map (λl=>i::l)=some l from e);rw [wC r2 e1,show x = .str i from y];rfl
  | _=>cases e
section
variable{X:Cx}{sc:Scope}{N L:List Str}{k:Nat}{o e a b:Expr}{apos cpos pos p:Pos}{f g:CO D}{q:CO (Sk×List D)}
theorem vS{x:Str}(h:jF x=true):x.length<=1000:=of_decide_eq_true h
theorem vB{x:Str}(h:jF x=true):x.length<=sizeLine:=zdP (vS h) ⋯
theorem Qo(Y:PV X o f)(he:PQ X e q)(a1:attributeBase o "join" X.env (eval o X.env)=eval o X.env:=by rfl)
 (a2:((backTo cpos (starEach [e] X.env)).all (λx=> !x.1) && (backToKw cpos (keywordEach [] X.env)).all (λx=>x.1.isSome) && decide ([e].length+([]:List Keyword).length+(if ([]:List Keyword).isEmpty then 0 else 1)<30))=true:=by rfl)
 (a3:(apos.endLine==cpos.line)=true:=by rfl) (hs:starEach [e] X.env=[(false,eval e X.env)]:=by rfl):PV X (.Call (.Attribute o "join" apos) [e] [] cpos) (XG f q):=
 qe (Y3 PySem.F.plainAttrs_str PySem.F.slot_str_join PySem.F.type_str_join Vb Y (jx he qs hs) a1 a2 a3 hs rfl) λσ H Q hZ=>by
  obtain⟨H0,γ,d,rc,I,qq⟩:=hZ;obtain⟨d1,e1,I⟩:=bind_some I;obtain⟨⟨kk,ds⟩,e2,I⟩:=bind_some I;cases d1 with
  | str U=>
   cases kk with
   | L=>
    obtain⟨l,e3,I⟩:=bind_some I;by_cases O:l.length<=lim/\l.all jF=true/\jF U=true
    ·rw [if_pos O]at I;cases I
     refine⟨H0,γ,_,rc,e1,λv H' H0' x r=>?_⟩;rw [show v = .str U from r];refine⟨rfl,H0',γ,.L,ds,rc.ext x,e2,λa xs H2 a9 x2 h1 h2 r2=>?_⟩;have ex:=wC r2 e3;subst ex;refine⟨U,a,l,rfl,rfl,h1,StrLaws.joinFits (B:=1000) (λy hy=>vS (zdr.mp O.2.1 y hy)) ?_,qq _ H2 a9 (x.trans x2) rfl⟩;have hl:=O.1;have:lim=2500:=rfl;have h3:=vS O.2.2;have:l.length*U.length<=2500*1000:=Nat.mul_le_mul ⋯ h3;omega
    ·rw [if_neg O]at I;cases I
   | T=>cases I
  | _=>cases I
theorem vX(ha:PV X a f)(O:PV X b g)(hs:wq b:=by intro _ _;rfl):PV X (.Subscript a b pos) (kw f g):=
 qe (Y1 W2 ha O hs) λσ H Q U=>by
  obtain⟨H0,γ,d,rc,y,q⟩:=U;obtain⟨Y,e1,y⟩:=bind_some y;obtain⟨i,e2,y⟩:=bind_some y;obtain⟨di,e3,e2⟩:=bind_some e2;cases Y with
  | str z=>
   by_cases I:jF z=true
   ·have y:(if jF z=true then (ixD z.cps.toList.length i).bind λk=>z.cps.toList[k]?.map λc=>D.str ⟨#[c]⟩else none)=some d:=y
    rw [if_pos I]at y;obtain⟨j,e4,y⟩:=bind_some y;obtain⟨c,e5,rfl⟩:=zF y;refine⟨H0,γ,_,rc,e1,λv H' H0' x r=>⟨H0',γ,di,rc.ext x,e3,λv2 H2 a4 x2 r2=>?_⟩⟩;rw [qB e2]at r2;refine⟨z,i,c,r,jW r2,vB I,?_,q _ H2 a4 (x.trans x2) rfl⟩;unfold atI;rw [QN e4];exact e5
   ·have y:(if jF z=true then (ixD z.cps.toList.length i).bind λk=>z.cps.toList[k]?.map λc=>D.str ⟨#[c]⟩else none)=some d:=y
    rw [if_neg I]at y;cases y
  | _=>cases y
theorem xC(h:SX X sc N L k)(c:kt sc "len" = true)(z:X.mg "len" = none)(ha:PV X e f)(hs:starEach [e] X.env=[(false,eval e X.env)]:=by rfl):PV X (.Call (.Name "len" p) [e] [] pos) (qN f):=
 qe (kg Zc (h.gl c).1 z PySem.boot_len (jx ha qs hs) ⋯ ⋯ hs rfl) λσ H Q O=>by
  obtain⟨H0,γ,d,rc,y,q⟩:=O;obtain⟨U,e1,y⟩:=bind_some y;cases U with
  | str z=>
   by_cases I:jF z=true
   ·have y:(if jF z=true then some (D.int z.length)else none)=some d:=y
    rw [if_pos I]at y;cases y;refine⟨H0,γ,_,rc,e1,λv H' H0' x r=>⟨z,by rw [show v = .str z from r],vB I,q _ H' H0' x rfl⟩⟩
   ·have y:(if jF z=true then some (D.int z.length)else none)=some d:=y
    rw [if_neg I]at y;cases y
  | _=>cases y
end
section
variable{X:Cx}{sc:Scope}{N L:List Str}{k:Nat}{b:Expr}{f:CO D}
theorem Wo{a:Expr}{g:CO D}{p pos:Pos}(h:SX X sc N L k)(c:kt sc "min" = true)(z:X.mg "min" = none)(ha:PV X a f)(U:PV X b g)(hs:starEach [a,b] X.env=[(false,eval a X.env),(false,eval b X.env)]:=by rfl)(I:starEach [b] X.env=[(false,eval b X.env)]:=by rfl) :
 PV X (.Call (.Name "min" p) [a,b] [] pos) (YG f g):=
 qe (kg (Q8 h.calm) (h.gl c).1 z PyProof.Rows.boot_min (jx ha (jx U qs I) (by rw [hs,I])) ⋯ ⋯ (by rw [hs,I]) (by rw [I];rfl)) λσ H Q Y=>by
  obtain⟨H0,γ,d,rc,y,q⟩:=Y;obtain⟨i,e1,y⟩:=bind_some y;obtain⟨d1,e0,e1⟩:=bind_some e1;obtain⟨j,O,y⟩:=zF y;obtain⟨d2,e2,O⟩:=bind_some O;subst y;refine⟨H0,γ,d1,rc,e0,λv H' H0' x r=>⟨H0',γ,d2,rc.ext x,e2,λv2 H2 a3 x2 r2=>⟨i,j,?_,q _ H2 a3 (x.trans x2) rfl⟩⟩⟩;rw [qB e1]at r;rw [qB O]at r2;rw [jW r,jW r2]
end
section ap
variable(γ:Ctx)
@[simp] theorem z7(f):zt f γ=(f γ).bind jE:=rfl
@[simp] theorem j5(f):jA f γ=(f γ).map D.lst:=rfl
@[simp] theorem xf(f):jw f γ=(f γ).map λds=>(Sk.L,ds):=rfl
@[simp] theorem zH(i):ze i γ=ZP γ[i]? :=rfl
@[simp] theorem zI(i):zh i γ=kK γ[i]? :=rfl
@[simp] theorem jf(d):zu d γ=some d:=rfl
@[simp] theorem qt(F a b):zy F a b γ=(a γ).bind λx=>(b γ).bind λy=>F x y:=rfl
@[simp] theorem JW(f):sB f γ=(f γ).bind asB:=rfl
@[simp] theorem zbM(f g):YI f g γ=(f γ).bind λb=>if b=true then g γ else some false:=rfl
@[simp] theorem Ya(f g):yi f g γ=(f γ).bind λb=>if b=true then some true else g γ:=rfl
@[simp] theorem ye(f):j8 f γ=(f γ).map λb=> !b:=rfl
@[simp] theorem zam(f g):J0 f g γ=((f γ).bind asB).bind λb=>if b=true then g γ else some (.bl false):=rfl
@[simp] theorem zak(f):VJ f γ=((f γ).bind asB).map λb=> .bl (!b):=rfl
@[simp] theorem zb7(c f g):Wd c f g γ=(c γ).bind λb=>if b=true then f γ else g γ:=rfl
@[simp] theorem z6:zB γ=some []:=rfl
@[simp] theorem zN(f g):zb f g γ=(f γ).bind λx=>(g γ).map λr=>x::r:=rfl
@[simp] theorem kA(f):qU f γ=(f γ).bind λds=>if ds.length<=lim then some (.tup ds)else none:=rfl
@[simp] theorem VC(f):qc f γ=(f γ).bind λds=>if ds.length<=lim then some ds else none:=rfl
@[simp] theorem zbF:jt γ=some (.next γ):=rfl
@[simp] theorem xM(f):jV f γ=(f γ).map λd=> .ret (.val d):=rfl
@[simp] theorem zbE(f):JD f γ=(f γ).map λd=> .ret (.own d):=rfl
@[simp] theorem zbD(i):xT i γ=wj γ[i]? :=rfl
@[simp] theorem zbJ:XI γ=some (.cont γ):=rfl
@[simp] theorem kv(k F G):sIf k F G γ=(k γ).bind λb=>if b=true then F γ else G γ:=rfl
@[simp] theorem ju(i f):jh i f γ=(f γ).map λd=> .next (γ.set i (.val d)):=rfl
@[simp] theorem zbC(i f):qw i f γ=(f γ).map λds=> .next (γ.set i (.own ds)):=rfl
@[simp] theorem ZS(f):yv f γ=(f γ).map λ_=> .next γ:=rfl
@[simp] theorem xz(i f):jP i f γ=(jX γ[i]?).bind λds=>(f γ).bind λd=>if ds.length<lim then some (.next (γ.set i (.own (ds++[d]))))else none:=rfl
@[simp] theorem jb(F g):zw F g γ=(g γ).bind λds=>(F ds).map xB:=rfl
@[simp] theorem ql(F g):z5 F g γ=(g γ).bind λds=>(F ds).bind wK:=rfl
@[simp] theorem jU(f):zW f γ=(f γ).map (·.2):=rfl
@[simp] theorem qh(f):zJ f γ=((f γ).bind asI).bind λn=>if inR n=true then some (ky 0 n.toNat)else none:=rfl
@[simp] theorem zaj(f g):vV f g γ=((f γ).bind asI).bind λm=>((g γ).bind asI).bind λn=>if inR m=true/\inR n=true then some (ky m (n - m).toNat)else none:=rfl
@[simp] theorem Xg(f g):Zo f g γ=((f γ).bind jE).bind λm=>((g γ).bind jE).map λn=>yh m.2 n.2:=rfl
@[simp] theorem kB(src T F):qV src T F γ=(src γ).bind λds=>qD T F ds γ:=rfl
@[simp] theorem jK(src T n fr k f):zV src T n fr k f γ=(src γ).bind λds=>if ds.length<=lim then ji T k f (jy n fr γ) ds else none:=rfl
@[simp] theorem zb5:js γ=some true:=rfl
@[simp] theorem zbK(f g):XJ f g γ=(f γ).bind λa=>(g γ).bind λb=>match a.1,b.1 with
 | .L,.L=>if a.2.length+b.2.length<=lim then some (a.2++b.2)else none
 | _,_=>none:=rfl
@[simp] theorem VB(f g):Zw f g γ=(f γ).bind λa=>((g γ).bind asI).bind λj=>match a.1 with
 | .L=>if a.2.length*j.toNat<=lim/\inR j=true then some (zcS j.toNat a.2).flatten else none
 | _=>none:=rfl
@[simp] theorem jT(f g):sIx f g γ=(f γ).bind λa=>((g γ).bind asI).bind λi=>(ixD a.2.length i).bind λk=>a.2[k]? :=rfl
@[simp] theorem Ky(i g f):vC i g f γ=(f γ).bind λd=>(jX γ[i]?).bind λds=>((g γ).bind asI).bind λk=>(ixD ds.length k).map λj=> .next (γ.set i (.own (ds.set j d))):=rfl
@[simp] theorem zb6:zar γ=some none:=rfl
@[simp] theorem zbL(f):sBd f γ=((f γ).bind asI).map some:=rfl
@[simp] theorem K9(f l h):XF f l h γ=(f γ).bind λd=>(l γ).bind λlo=>(h γ).bind λhi=>match d with
 | .tup xs=>some (.tup (Kv xs lo hi))
 | _=>none:=rfl
@[simp] theorem Zk(f):xH f γ=(f γ).map λa=> .int a.2.length:=rfl
@[simp] theorem zcy(T f):sIs T f γ=(f γ).map λd=> .bl (J1 T d):=rfl
@[simp] theorem ko(f):zT f γ=(f γ).map λa=> .tup a.2:=rfl
@[simp] theorem Zj(f):kG f γ=(f γ).map λa=>a.2:=rfl
@[simp] theorem Jm(f):JZ f γ=(f γ).bind λa=>(Xm a.2).map D.int:=rfl
@[simp] theorem Yc(f):KL f γ=(f γ).bind λa=>(yu a.2).map λs=> .bl (s.all id):=rfl
@[simp] theorem Yb(f):KK f γ=(f γ).bind λa=>(yu a.2).map λs=> .bl (s.any id):=rfl
@[simp] theorem zbH(f):XH f γ=(f γ).bind λd=>match d with
 | .int i=>some (.int i)
 | .bl b=>some (.int (if b then 1 else 0))
 | _=>none:=rfl
@[simp] theorem zbA(f):XE f γ=(f γ).map λa=> !a.2.isEmpty:=rfl
theorem j4(F G):zU F G γ=(F γ).bind λy=>match y with
 | .next γ'=>G γ'
 | f=>some f:=rfl
end ap
@[simp] theorem zai(ds):jE (.tup ds)=some (.T,ds):=rfl
@[simp] theorem zb3(ds):jE (.lst ds)=some (.L,ds):=rfl
@[simp] theorem zg(d):ZP (some (.val d))=some d:=rfl
@[simp] theorem zo(d):kK (some (.val d))=jE d:=rfl
@[simp] theorem vi(d):kK (some (.own d))=some (.L,d):=rfl
@[simp] theorem Vx(d):jX (some (.own d))=some d:=rfl
@[simp] theorem Vv(d):wj (some (.val d))=some (.ret (.val d)):=rfl
@[simp] theorem Vw(d):wj (some (.own d))=some (.ret (.own d)):=rfl
@[simp] theorem x9(b):asB (.bl b)=some b:=rfl
@[simp] theorem zM(b):asI (.int b)=some b:=rfl
@[simp] theorem zat(d):xB (.val d)=d:=rfl
@[simp] theorem zau(d):xB (.own d) = .lst d:=rfl
@[simp] theorem zas(d):wK (.own d)=some d:=rfl
@[simp] theorem wf(i j):Jh (.int i) (.int j)=some (.int (i - j)):=rfl
@[simp] theorem kn(i j):qb (.int i) (.int j)=some (.int (i+j)):=rfl
@[simp] theorem Ji(i j):qL (.int i) (.int j)=if 0<j then some (.int (i%j))else none:=by
 show(if zaI i j=true then _ else _)=_;simp [zaI]
@[simp] theorem Ku(i j):kJ (.int i) (.int j)=if 0<j/\j<1073741824 then some (.int (i/j))else none:=by
 show(if VN i j=true then _ else _)=_;have e:(VN i j=true)=(0<j/\j<1073741824):=by
  unfold VN;rw [Bool.and_eq_true,decide_eq_true_eq,decide_eq_true_eq];apply propext;constructor<;>intro h<;>exact⟨h.1,by omega⟩
 simp only [e]
@[simp] theorem km(i j):qK (.int i) (.int j)=if yp i j=true then some (.int (i*j))else none:=rfl
@[simp] theorem zaH(i j):Vo (.int i) (.int j)=if zag i j=true then some (.int (i ^ j.toNat))else none:=rfl
@[simp] theorem zbv(i j):dLt (.int i) (.int j)=some (.bl (decide (i<j))):=rfl
@[simp] theorem zbw(i j):dLe (.int i) (.int j)=some (.bl (decide (i<=j))):=rfl
@[simp] theorem Vp(i j):dGt (.int i) (.int j)=some (.bl (decide (j<i))):=rfl
@[simp] theorem Vq(i j):dGe (.int i) (.int j)=some (.bl (decide (j<=i))):=rfl
@[simp] theorem zbx(i j):dEq (.int i) (.int j)=some (.bl (decide (i=j))):=by
 unfold dEq;rw [if_pos ⟨rfl,rfl⟩];exact congrArg (λb=>some (D.bl b)) (by rw [zeV];simp [eqD])
@[simp] theorem zbu(i j):dNe (.int i) (.int j)=some (.bl (!decide (i=j))):=by
 unfold dNe;rw [if_pos ⟨rfl,rfl⟩];exact congrArg (λb=>some (D.bl !b)) (by rw [zeV];simp [eqD])
@[simp] theorem Wb(i is d ds γ):qG (i::is) (d::ds) γ=qG is ds (γ.set i (.val d)):=rfl
@[simp] theorem Wa(ds γ):qG [] ds γ=γ:=by cases ds<;>rfl
@[simp] theorem yH(i d γ):qE (.nm i) d γ=some (γ.set i (.val d)):=rfl
@[simp] theorem zah(i j a b γ):qE (.tp [i,j]) (.tup [a,b]) γ=some ((γ.set i (.val a)).set j (.val b)):=rfl
@[simp] theorem XD(γ:Ctx)(G:CO Fl):(some (Fl.next γ)).bind (λy=>match y with
 | .next γ'=>G γ'
 | f=>some f)=G γ:=rfl
theorem yo(i j:Int)(h1 : -(2 ^ 64)<j)(h2:j<2 ^ 64):yp i j=true:=by
 unfold yp;rw [zdL];right;exact decide_eq_true ⋯
theorem xL(i j:Int)(h1 : -(2 ^ 64)<i)(h2:i<2 ^ 64):yp i j=true:=by
 unfold yp;rw [zdL];left;exact decide_eq_true ⋯
theorem qP{i:Int}(h1 : -(2 ^ 62)<i)(h2:i<2 ^ 62):inR i=true:=by
 unfold inR;exact decide_eq_true ⋯
@[simp] theorem je(n k:Nat):ixD n (k:Int)=if k<n then some k else none:=by
 unfold ixD;by_cases h:k<n
 ·rw [if_pos ⟨Int.natCast_nonneg k,by omega⟩,if_pos h];simp
 ·rw [if_neg ⋯,if_neg ⋯,if_neg h]
theorem jB:lim=2500:=rfl
@[simp] theorem zaG:0<=lim:=zef _
@[simp] theorem zaF:1<=lim:=by decide
@[simp] theorem zaE:2<=lim:=by decide
@[simp] theorem zaD:3<=lim:=by decide
@[simp] theorem zaC:4<=lim:=by decide
@[simp] theorem zaB:5<=lim:=by decide
@[simp] theorem zaA:6<=lim:=by decide
@[simp] theorem zaz:7<=lim:=by decide
@[simp] theorem zay:8<=lim:=by decide
@[simp] theorem zax:0<lim:=by decide
@[simp] theorem zbk{n:Nat}(h:n<=lim):inR (n:Int)=true:=qP ⋯ (by have:=jB;omega)
@[simp] theorem ix0(n:Nat):ixD (n+1) 0=some 0:=je (n+1) 0 ▸ rfl
@[simp] theorem ix1(n:Nat):ixD (n+2) 1=some 1:=by
 have:=je (n+2) 1;simpa using this
@[simp] theorem ix2(n:Nat):ixD (n+3) 2=some 2:=by
 have:=je (n+3) 2;simpa using this
theorem zA{α:Type}{T:Tg}{k:CO Bool}{f:CO D}{γ:Ctx}{g:α->D}(r:α->D) : ∀(l:List α),(∀x∈l,ji T k f γ [g x]=some [r x])->ji T k f γ (l.map g)=some (l.map r)
 | [],_=>rfl
 | x::l,h=>by
  have h1:=h x zdm;have h2:=zA r l λy O=>h y (zdp _ O);simp only [zdn,ji]at h1 ⊢;cases e1:qE T (g x) γ with
  | none=>rw [e1]at h1;simp at h1
  | some I=>
   rw [e1]at h1;simp only [zcL]at h1 ⊢;cases e2:k I with
   | none=>rw [e2]at h1;simp at h1
   | some b=>
    rw [e2]at h1;simp only [zcL]at h1 ⊢;cases b with
    | false=>simp at h1
    | true=>
     simp only [if_pos]at h1 ⊢;cases e3:f I with
     | none=>rw [e3]at h1;simp at h1
     | some e=>
      rw [e3]at h1;simp at h1;rw [h2];simp [h1]
theorem zD{k:CO Bool}{f:CO D}{γ y:Ctx}{T:Tg}{d e:D}(h1:qE T d γ=some y)(h2:k y=some true)(I:f y=some e):ji T k f γ [d]=some [e]:=by
 simp [ji,h1,h2,I]
theorem jR(T F d ds γ):qD T F (d::ds) γ=(qE T d γ).bind λI=>(F I).bind λO=>match O with
 | .next y=>qD T F ds y
 | .cont y=>qD T F ds y
 | .brk y=>some (.next y)
 | .ret r=>some (.ret r):=rfl
theorem kY{T:Tg}{F:CO Fl}(P:Nat->Ctx->Prop) : ∀(ds:List D) (k:Nat) (γ:Ctx),P k γ->(∀i d γ,ds[i]? = some d->P (k+i) γ->∃γ',((qE T d γ).bind F=some (.next γ')\/(qE T d γ).bind F=some (.cont γ'))/\P (k+i+1) γ')->
 ∃γ',qD T F ds γ=some (.next γ')/\P (k+ds.length) γ'
 | [],k,γ,h,_=>⟨γ,rfl,h⟩
 | d::ds,k,γ,h,step=>by
  obtain⟨y,e,h1⟩:=step 0 d γ rfl h;obtain⟨γ',e2,h2⟩:=kY P ds (k+1) y (by simpa using h1) (λi d' I hd O=>by
   have:=step (i+1) d' I (by simpa using hd) (by rw [show k+(i+1)=k+1+i by omega];exact O);rw [show k+(i+1)+1=k+1+i+1 by omega]at this;exact this)
  refine⟨γ',?_,by rw [show k+(d::ds).length=k+1+ds.length by simp;omega];exact h2⟩;rw [jR];cases eb:qE T d γ with
  | none=>rw [eb]at e;simp at e
  | some U=>
   rw [eb]at e;simp only [zcL]at e ⊢;rcases e with e | e<;>rw [e]<;>exact e2
def zx(n:Nat)(f:Nat->Int):List D:=(zcP n).map λi=>D.int (f i)
theorem zY(n f):zx n f=(zcP n).map λi=>D.int (f i):=rfl
def jN(h w:Nat)(f:Nat->Nat->Int):List D:=(zcP h).map λi=>D.tup (zx w (f i))
def jD(h w:Nat)(f:Nat->Nat->Int):D:= .tup [.int h,.int w,.tup (jN h w f)]
@[simp] theorem Jg(n f):(zx n f).length=n:=by simp [zx]
@[simp] theorem Kt(h w f):(jN h w f).length=h:=by simp [jN]
@[simp] theorem zbs{n i:Nat}(f)(h:i<(zx n f).length):(zx n f)[i] = .int (f i):=by simp [zx]
theorem Kr{n i:Nat}(f)(h:i<n):(zx n f)[i]? = some (.int (f i)):=by simp [zx,h]
@[simp] theorem zbt{h w i:Nat}(f)(hi:i<(jN h w f).length):(jN h w f)[i] = .tup (zx w (f i)):=by simp [jN]
theorem wc{n:Nat}{f g:Nat->Int}(h : ∀i,i<n->f i=g i):zx n f=zx n g:=by
 unfold zx;apply zdA;intro i hi;rw [h i (zc1.mp hi)]
theorem jL(n:Nat):ky 0 n=zx n λi=>(i:Int):=by simp [ky,zx]
theorem kc(n:Nat)(f g:Nat->Int):yh (zx n f) (zx n g)=(zcP n).map λi=>D.tup [.int (f i),.int (g i)]:=by
 unfold yh zx;rw [zfD];simp
theorem Xq(n w:Nat)(f g:Nat->Nat->Int):yh (jN n w f) (jN n w g)=(zcP n).map λi=>D.tup [.tup (zx w (f i)),.tup (zx w (g i))]:=by
 unfold yh jN;rw [zfD];simp
def zv(f:Nat->Int):Nat->Int
 | 0=>0
 | n+1=>zv f n+f n
theorem yO : ∀(xs:List Int) (y:Int),Xm (xs.map D.int++[.int y])=(Xm (xs.map D.int)).map λs=>s+y
 | [],y=>by simp [Xm]
 | x::xs,y=>by
  simp only [zdn,List.cons_append,Xm];rw [yO xs y];cases e:Xm (xs.map D.int)<;>simp [zfH]
theorem xu(f:Nat->Int) : ∀n,Xm (zx n f)=some (zv f n)
 | 0=>rfl
 | n+1=>by
  have y:=xu f n;have e : ∀m,zx m f=((zcP m).map f).map D.int:=λm=>by simp [zx]
  rw [e]at y ⊢;rw [zeq,zdX,zdX,List.map_singleton,List.map_singleton,yO,y];simp [zv]
def F_rests:List D->Option Res:=jO 2 (jV (zT (jw (zV (zW (zh 1)) (.nm 0) 1 [0] js (zy qL (ze 0) (ze 1))))))
def F_led:List D->Option Res:=jO 3 (jV (zw F_rests (zb (ze 0) (zb (jA (zV (zW (zt (sIx (zh 1) (zu (.int 2))))) (.nm 0) 1 [2] js (JZ (jw (zV (Zo (ze 0) (ze 1)) (.tp [0,1]) 2 [] js (zy qK (ze 0) (ze 1))))))) zB))))
def F_turned_over:List D->Option Res:=jO 2 (zU (jh 1 (jA (zV (zJ (sIx (zh 0) (zu (.int 1)))) (.nm 0) 1 [0] js (zT (jw (zV (zW (zt (sIx (zh 1) (zu (.int 2))))) (.nm 0) 1 [0] js (sIx (zh 0) (ze 1)))))))) (jV (qU (zb (sIx (zh 0) (zu (.int 1))) (zb (sIx (zh 0) (zu (.int 0))) (zb (zT (zh 1)) zB))))))
def F_product:List D->Option Res:=jO 4 (zU (jh 3 (zw F_turned_over (zb (ze 2) zB))) (jV (qU (zb (sIx (zh 1) (zu (.int 0))) (zb (sIx (zh 2) (zu (.int 1))) (zb (zT (jw (zV (zW (zt (sIx (zh 1) (zu (.int 2))))) (.nm 0) 1 [0,3] js (zw F_led (zb (ze 1) (zb (ze 2) (zb (ze 0) zB))))))) zB))))))
def F_added_times:List D->Option Res:=jO 5 (zU (jh 4 (jA (zV (Zo (sIx (zh 1) (zu (.int 2))) (sIx (zh 3) (zu (.int 2)))) (.tp [0,1]) 2 [0,2] js (zw F_rests (zb (ze 2) (zb (jA (zV (Zo (ze 0) (ze 1)) (.tp [0,1]) 2 [3] js (zy qb (ze 0) (zy qK (ze 2) (ze 1))))) zB)))))) (jV (qU (zb (sIx (zh 1) (zu (.int 0))) (zb (sIx (zh 1) (zu (.int 1))) (zb (zT (zh 4)) zB))))))
def F_same_table:List D->Option Res:=jO 2 (zU (jh 1 (jA (zV (zJ (ze 0)) (.nm 0) 1 [0] js (zT (jw (zV (zJ (ze 1)) (.nm 0) 1 [0] js (Wd (sB (zy dEq (ze 1) (ze 0))) (zu (.int 1)) (zu (.int 0))))))))) (jV (qU (zb (ze 0) (zb (ze 0) (zb (zT (zh 1)) zB))))))
def F_law_whole:List D->Option Res:=jO 1 (jV (J0 (sIs .int (ze 0)) (VJ (sIs .bool (ze 0)))))
def F_inverse:List D->Option Res:=jO 3 (zU (qV (vV (zu (.int 1)) (ze 0)) (.nm 2) (sIf (sB (zy dEq (zy qL (zy qK (ze 1) (ze 2)) (ze 0)) (zu (.int 1)))) (xT 2) jt)) yj)
def F_cleared:List D->Option Res:=jO 5 (zU (jh 4 (sIx (zh 1) (ze 3))) (zU (sIf (sB (zy dEq (ze 4) (zu (.int 0)))) (xT 1) jt) (jV (zw F_rests (zb (ze 0) (zb (jA (zV (Zo (ze 1) (ze 2)) (.tp [0,1]) 2 [4] js (zy Jh (ze 0) (zy qK (ze 2) (ze 1))))) zB))))))
def F_base_of:List D->Option Res:=jO 9 (zU (jh 3 (jA (zV (zW (zh 2)) (.nm 0) 1 [0] js (zw F_rests (zb (ze 1) (zb (ze 0) zB)))))) (zU (qw 4 (qc zB)) (zU (qV (zJ (ze 1)) (.nm 5) (zU (jh 6 (jA (zV (zW (zh 3)) (.nm 0) 1 [5] (sB (zy dNe (sIx (zh 0) (ze 1)) (zu (.int 0)))) (ze 0)))) (zU (sIf (j8 (XE (zh 6))) XI jt) (zU (jh 7 (zw F_inverse (zb (ze 0) (zb (sIx (zt (sIx (zh 6) (zu (.int 0)))) (ze 5)) zB)))) (zU (jh 8 (zw F_rests (zb (ze 0) (zb (jA (zV (zW (zt (sIx (zh 6) (zu (.int 0))))) (.nm 0) 1 [7] js (zy qK (ze 1) (ze 0)))) zB)))) (zU (jh 3 (jA (zV (zW (zh 3)) (.nm 0) 1 [0,5,8] js (zw F_cleared (zb (ze 1) (zb (ze 0) (zb (ze 3) (zb (ze 2) zB)))))))) (qw 4 (XJ (jw (zV (zW (zh 4)) (.nm 0) 1 [0,5,8] js (zw F_cleared (zb (ze 1) (zb (ze 0) (zb (ze 3) (zb (ze 2) zB))))))) (jw (qc (zb (ze 8) zB))))))))))) (xT 4))))
def F_lead_of:List D->Option Res:=jO 1 (jV (sIx (jw (zV (YH (ze 0)) (.tp [0,1]) 2 [] (sB (zy dNe (ze 1) (zu (.int 0)))) (ze 0))) (zu (.int 0))))
def F_solved:List D->Option Res:=jO 7 (zU (jh 3 (sIx (zh 1) (zu (.int 1)))) (zU (qw 4 (Zw (jw (qc (zb (zu (.int 0)) zB))) (ze 3))) (zU (qV (zW (zt (jA (z5 F_base_of (zb (ze 0) (zb (zy qb (ze 3) (zu (.int 1))) (zb (jA (zV (Zo (sIx (zh 1) (zu (.int 2))) (ze 2)) (.tp [0,1]) 2 [] js (zy qb (ze 0) (qU (zb (ze 1) zB))))) zB))))))) (.nm 5) (zU (jh 6 (zw F_lead_of (zb (ze 5) zB))) (zU (sIf (sB (zy dEq (ze 6) (ze 3))) (jV (zu .non)) jt) (vC 4 (ze 6) (sIx (zh 5) (ze 3)))))) (jV (zT (zh 4))))))
section
variable(γ:Ctx)
@[simp] theorem zbI(f):YH f γ=(f γ).bind λd=>match d with
 | .tup ds=>some (qx ds)
 | _=>none:=rfl
@[simp] theorem zaM(F G a b c):yR F G a b c γ=(a γ).bind λx=>(b γ).bind λy=>((F x y).bind asB).bind λk=>if k=true then (c γ).bind λz=>G y z else some (.bl false):=rfl
@[simp] theorem zbB(T f):xh T f γ=(f γ).bind λd=>(qE T d γ).map .next:=rfl
end
section
variable(γ:Ctx)
@[simp] theorem zb8(i F):Qf i F γ=(jX γ[i]?).bind λds=>F (γ.set i (.val (.lst ds))):=rfl
end
section
variable(γ:Ctx)
@[simp] theorem wp(f g):kw f g γ=(f γ).bind λd=>((g γ).bind asI).bind λi=>match d with
 | .str z=>if jF z=true then (ixD z.cps.toList.length i).bind λk=>z.cps.toList[k]?.map λc=> .str ⟨#[c]⟩else none
 | _=>none:=rfl
@[simp] theorem VD(f):qN f γ=(f γ).bind λd=>match d with
 | .str z=>if jF z=true then some (.int z.length)else none
 | _=>none:=rfl
@[simp] theorem VE(f g):XG f g γ=(f γ).bind λd=>(g γ).bind λa=>match d,a.1 with
 | .str sep,.L=>(wD a.2).bind λl=>if l.length<=lim/\l.all jF=true/\jF sep=true then some (.str (zfF sep l))else none
 | _,_=>none:=rfl
end
def F_beginning_of:List D->Option Res:=jO 2 (jV (Wd (sB (zy dEq (ze 1) (zu (.str "r")))) (ze 0) (zy qb (ze 0) (zu (.int 1)))))
def F_end_of:List D->Option Res:=jO 2 (jV (Wd (sB (zy dEq (ze 1) (zu (.str "r")))) (zy qb (ze 0) (zu (.int 1))) (ze 0)))
def F_ways_of:List D->Option Res:=jO 1 (jV (XG (zu (.str "")) (jw (zV (zW (zt (sIx (zh 0) (zu (.int 2))))) (.nm 0) 1 [] js (sIx (zh 0) (zu (.int 0)))))))
def F_one_kind:List D->Option Res:=jO 2 (jV (J0 (zy dEq (sIx (zh 0) (zu (.int 0))) (sIx (zh 1) (zu (.int 0)))) (zy dEq (zw F_ways_of (zb (ze 0) zB)) (zw F_ways_of (zb (ze 1) zB)))))
def F_ask_one_kind:List D->Option Res:=jO 2 (sIf (j8 (sB (zw F_one_kind (zb (ze 0) (zb (ze 1) zB))))) yj jt)
def kC:List D->Option Xn:=zbU 2 (xIf (j8 (sB (zw F_one_kind (zb (ze 0) (zb (ze 1) zB))))) (zbR "Unlike") xNo)
section
variable{X:Cx}{sc:Scope}{N L:List Str}{k:Nat}{a e:Expr}{es:List Expr}{f:CO D}{g:CO (List D)}{pos p p2:Pos}
theorem kf(O:PV X e f)(hs:swapsWith e none pos.line X.env=pure false:=by rfl):PSD X (.Expr e pos) (yv f):=xN (v6 O hs) λD σ H U=>by
 obtain⟨E0,E,H0,γ,fl,I,y,Y⟩:=U;obtain⟨d,e1,y⟩:=zF y;subst y;exact⟨H0,γ,d,I.rc,e1,λv H' H0' x r=>Y σ H' H0' (I.step x)⟩
structure GL(K:PySem.W.Frag)(mg:Str->Option Value)(x:Str)(d:D):Prop where
 ex : ∃u v,mg x=some u/\RelV v u/\∀H,Rep K H d v
theorem za7{x:Str}{d:D}(h:SX X sc N L k)(c:kt sc x=true)(y:GL X.K X.mg x d):PV X (.Name x pos) (zu d):=by
 intro pins s σ H Q I ⟨H0,γ,d',rc,O,q⟩;cases O;obtain⟨u,v,h1,h2,U⟩:=y.ex;exact QL I (h.gl c).1 h1 ⟨v,H,I,h2,q v H H0 (Ext.refl rc.sub) (U H0)⟩ (h.gl c).2.2
end
section
variable{K:PySem.W.Frag}{mg:Str->Option Value}{h:Heap}
theorem gl_int{x:Str}{n:Int}{t:Tok}(y:K.In h)(G:h.Ns mainGlobals mg)(a:zff K mainGlobals x=some (some (.int n t))):GL K mg x (.int n):=
 ⟨_,.int n,PySem.W.mg_of y G a,⟨t,rfl⟩,λ_=>(show V.int n = .int n from rfl)⟩
end
theorem xP{X:Cx}{es:List Expr}{n:Nat}{g:CO (List D)}(h:PAn X es n g):PAD X es g:=h.1
section
variable{K:PySem.W.Frag}{E0 E H0 H:Hp}{σ:St}{γ:Ctx}
theorem Reps.dropLast : ∀{ds:List D} {xs:List V},Reps K H ds xs->Reps K H ds.dropLast xs.dropLast
 | [],xs,r=>by rw [r.inv_nil];exact Reps.nil
 | [d],xs,r=>by
  obtain⟨x,r',e,_,r2⟩:=r.inv_cons;rw [e,r2.inv_nil];exact Reps.nil
 | d::d2::ds,xs,r=>by
  obtain⟨x,r',e,y,r2⟩:=r.inv_cons;obtain⟨I,O,e2,_,_⟩:=r2.inv_cons;subst e e2;exact Reps.cons y (Reps.dropLast r2)
end
end DL
namespace L2
open PySem PySem.Spec PyProof.Rows
theorem zbi(z:Str):strIterType z = "str_ascii_iterator"\/strIterType z = "str_iterator":=by unfold strIterType;split<;>simp
theorem Jf{X:Cx}{pins:List (Addr×Obj)}{σ:St}{H:Hp}{s:Shared}{E:Value->Shared->Prop}{z it:Addr}{i tk:Nat}{x:Value}{v:V}{g:Heap}{elts:List Expr}{x1:Nat}{tpos:Pos}{Q:Unit->Shared->Prop}
 (I:Inv X pins σ H s) (hf : ∀b ∈ [z,it],FpOk X pins H b) (hz:z<s.heap.objs.size) (hi:it<s.heap.objs.size) (a1:IsEnumOut g z it ((i:Int)+1) x s.heap.objs.size)
 (a3:IsPair g s.heap.objs.size (.int i tk) x) (a5 : ∀b o,b≠z->b≠it->s.heap.get? b=some o->g.get? b=some o) (rx:RelV v x)
 (a7 : ∀y,IsEnum y z it ((i+1:Nat):Int) x->zeL z g y->Inv X pins σ (upd H s.heap.objs.size (.tup [.int i,v])) {s with heap:=y,toks:=tk+1}->H s.heap.objs.size=none->
   (∀b ∈ [z,it],upd H s.heap.objs.size (.tup [.int i,v]) b=none)->Q () {s with heap:=y,toks:=tk+1}) :
 wpAny (model X.prog X.w) X.A (letOwnedTupleGo (.Tuple elts x1 tpos) (.ref z) (.ref s.heap.objs.size)) Q E {s with heap:=g,toks:=tk+1}:=by
 refine wpAny_letOwnedTupleGo_enum a1 λy a8 Y=>?_;have a9:IsPair y s.heap.objs.size (.int i tk) x:=Y.extBut _ _ (zd0 hz) a3;have kk : ∀O u,O ∉ [z,it]->s.heap.get? O=some u->y.get? O=some u:=λO u U e=>by
  simp only [zcY,zc3,or_false,not_or]at U;exact Y.extBut _ _ U.1 (a5 O u U.1 U.2 e)
 refine a7 y (by have:=a8;rwa [show((i:Int)+1)=((i+1:Nat):Int)by omega]at this) Y (I.turnLaid (fp:=[z,it]) kk hf (zcZ _) ⟨by show 2<=sizeLine;decide,[.int i tk,x],.cons ⟨_,rfl⟩ (.cons rx .nil),⟨_,a9,rfl,_,rfl⟩⟩) I.fresh λO U=>?_;have ab:O≠s.heap.objs.size:=by
  simp only [zcY,zc3,or_false]at U;rcases U with rfl | rfl
  ·exact zda hz
  ·exact zda hi
 rw [zS ab];exact(hf O U).1
def zbQ(K:PySem.W.Frag)(a:Addr):It:=
 ⟨λi H=>∃xs,SqL K H a xs/\i<xs.length,
  λi H x H'=>∃p u,x = .ref p/\H p=none/\H'=upd H p (.tup [.int i,u])/\(∀xs,SqL K H a xs->xs[i]? = some u),
  λi H=>∃xs,SqL K H a xs/\xs.length=i⟩
theorem Jx{P:Program}{w:World}{K:PySem.W.Frag}{elts:List Expr}{x1:Nat}{tpos:Pos}{z it a:Addr}(a9:z≠it) :
 Turn P w K (.Tuple elts x1 tpos) (zbQ K a) [z,it] z (λi h=>(∃U,IsEnum h z it i U)/\h.IsListIter it a i) where
 mem:=by simp
 obj:=λi h ⟨⟨U,hz⟩,h1⟩ y hy=>by
  simp only [zcY,zc3,or_false]at hy;rcases hy with rfl | rfl
  ·exact⟨_,hz,λv q=>by cases q⟩
  ·obtain⟨o,e,c,d⟩:=h1
   exact⟨o,e,λv q=>by rw [d]at q;cases q⟩
 keep:=λi h h' ⟨⟨U,hz⟩,h1⟩ k=>⟨⟨U,k z ⋯ _ hz⟩,h1.at λo e=>k it ⋯ o e⟩
 item:=by
  rintro X rfl rfl rfl hc i pins s σ H E I hf ⟨⟨U,hz⟩,h1⟩ ⟨xs,a0,am⟩;obtain⟨a6,a7,p1,z1⟩:=I.list a0;have Y:=p1.isList;have hx:xs[i]? = some xs[i]:=zc7 am;have l1:=a7.length;have ae:a≠it:=λe=>by
   obtain⟨o,e1,O,_⟩:=Y;obtain⟨o2,e2,c2,_⟩:=h1;rw [e,e2]at e1;cases e1;rw [c2]at O;exact absurd O ⋯
  have ap:z≠a:=λe=>by
   obtain⟨o,e1,O,_⟩:=Y;have aj:s.heap.get? z=some _:=hz;rw [e,e1]at aj;cases aj;exact absurd O ⋯
  have aq:it<s.heap.objs.size:=by obtain⟨o2,e2,_⟩:=h1;exact zcX e2
  have Dr:=Draws.list (prog:=X.prog) (w:=X.w) (A:=X.A.in1) (show X.A.in1.handled=none from I.ok.hd hc) it a ae a6.toArray;refine wpAny_pyNext_enum_itemD Dr hz ⟨h1,Y⟩ (by simp;omega) a9 (by simp;exact⟨a9,ap⟩) λx g tk hP a1 a2 a3 a4 a5=>⟨_,rfl,?_⟩;obtain⟨u1,ay,az⟩:=a7.get hx;obtain rfl:u1=x:=by have:=hP;simp [ay]at this;exact this
  refine Jf I hf (zcX hz) aq a1 a3 a5 az λg2 b1 b2 I1 b5 hn=>⟨.ref s.heap.objs.size,_,I1,rfl,⟨_,_,rfl,b5,rfl,λbc b6=>by rw [I.list_inj b6 a0];exact hx⟩,⟨⟨_,b1⟩,a2.1.at λo e=>b2.extBut _ _ a9.symm e⟩,hn⟩
 done:=by
  rintro X rfl rfl rfl hc i pins s σ H E I hf ⟨⟨U,hz⟩,h1⟩ ⟨xs,a0,hi⟩;obtain⟨a6,a7,p1,z1⟩:=I.list a0;have Y:=p1.isList;have l1:=a7.length;have ae:a≠it:=λe=>by
   obtain⟨o,e1,O,_⟩:=Y;obtain⟨o2,e2,c2,_⟩:=h1;rw [e,e2]at e1;cases e1;rw [c2]at O;exact absurd O ⋯
  have Dr:=Draws.list (prog:=X.prog) (w:=X.w) (A:=X.A.in1) (show X.A.in1.handled=none from I.ok.hd hc) it a ae a6.toArray;have en:a6.toArray.size=i:=by simp;omega
  rw [en]at Dr;refine wpAny_pyNext_enum_endD Dr hz ⟨h1,Y⟩ λg hk=>⟨rfl,?_⟩;refine I.turnedL (t':=s.toks) (fp:=[z,it]) (λb' u hb e=>?_) hf;simp only [zcY,zc3,or_false,not_or]at hb;exact hk b' u hb.2 e
 self:=λ_ _ _ _ _ st h=>xw st.1.choose_spec h
def zbP(z:Str):It:=
 ⟨λi _=>i<z.cps.size,λi H x H'=>∃p c,x = .ref p/\H p=none/\H'=upd H p (.tup [.int i,.str ⟨#[c]⟩])/\z.cps[i]? = some c,λi _=>i=z.cps.size⟩
theorem w9{prog:Program}{w:World}{A:Around}(y:A.handled=none)(it:Addr)(x:Str)(t:Tok) :
 Draws prog w A it [it] x.cps.size (λi v=>∃c u,x.cps[i]? = some c/\v = .str ⟨#[c]⟩ u) (λi h=>h.IsStrIter it (strIterType x) x t i):=by
 rcases zbi x with q | q
 ·rw [q];exact Draws.strAscii y it x t
 ·rw [q];exact Draws.strWide y it x t
theorem Jw{P:Program}{w:World}{K:PySem.W.Frag}{elts:List Expr}{x1:Nat}{tpos:Pos}{z it:Addr}(x:Str)(t:Tok)(U:z≠it) :
 Turn P w K (.Tuple elts x1 tpos) (zbP x) [z,it] z (λi h=>(∃O,IsEnum h z it i O)/\h.IsStrIter it (strIterType x) x t i) where
 mem:=by simp
 obj:=λi h ⟨⟨O,hz⟩,h1⟩ y hy=>by
  simp only [zcY,zc3,or_false]at hy;rcases hy with rfl | rfl
  ·exact⟨_,hz,λv q=>by cases q⟩
  ·obtain⟨o,e,c,d⟩:=h1
   exact⟨o,e,λv q=>by rw [d]at q;cases q⟩
 keep:=λi h h' ⟨⟨O,hz⟩,h1⟩ k=>⟨⟨O,k z ⋯ _ hz⟩,by obtain⟨o,e,r⟩:=h1;exact⟨o,k it ⋯ o e,r⟩⟩
 item:=by
  rintro X rfl rfl rfl Y i pins s σ H E I hf ⟨⟨O,hz⟩,h1⟩ a9;have aa:it<s.heap.objs.size:=by obtain⟨o2,e2,_⟩:=h1;exact zcX e2
  have Dr:=w9 (prog:=X.prog) (w:=X.w) (A:=X.A.in1) (show X.A.in1.handled=none from I.ok.hd Y) it x t;refine wpAny_pyNext_enum_itemD Dr hz h1 a9 U (by simp;exact U) λu g tk hP a1 a2 a3 a4 a5=>⟨_,rfl,?_⟩;obtain⟨c,tu,ah,rfl⟩:=hP;refine Jf (v:= .str ⟨#[c]⟩) I hf (zcX hz) aa a1 a3 a5 ⟨_,rfl⟩ λg2 b1 b2 I1 am hn=>⟨.ref s.heap.objs.size,_,I1,rfl,⟨_,_,rfl,am,rfl,ah⟩,⟨⟨_,b1⟩,?_⟩,hn⟩;obtain⟨o,e,r⟩:=a2;exact⟨o,b2.extBut _ _ U.symm e,r⟩
 done:=by
  rintro X rfl rfl rfl Y i pins s σ H E I hf ⟨⟨O,hz⟩,h1⟩ hi;have hi:i=x.cps.size:=hi;subst hi;have Dr:=w9 (prog:=X.prog) (w:=X.w) (A:=X.A.in1) (show X.A.in1.handled=none from I.ok.hd Y) it x t;refine wpAny_pyNext_enum_endD Dr hz h1 λg hk=>⟨rfl,?_⟩;refine I.turnedL (t':=s.toks) (fp:=[z,it]) (λb' u hb e=>?_) hf;simp only [zcY,zc3,or_false,not_or]at hb;exact hk b' u hb.2 e
 self:=λ_ _ _ _ _ st h=>xw st.1.choose_spec h
def W8(K:PySem.W.Frag)(ta:TA):TI:=λσ H R=>ta σ H λvs H1=>∃a,vs=[.ref a]/\(∃xs,SqL K H1 a xs)/\R (zbQ K a) H1
def W7(ta:TA):TI:=λσ H R=>ta σ H λvs H1=>∃z,vs=[.str z]/\R (zbP z) H1
section
variable{X:Cx}{e1:Expr}{ta:TA}{p pos:Pos}{elts:List Expr}{x1:Nat}{tpos:Pos}
theorem X1(hg:Gl X "enumerate")(hm:X.mg "enumerate" = none)(ha:PA X [e1] ta)
 (hv:bootBuiltins "enumerate" = some (.type "enumerate")) (hs:starEach [e1] X.env=[(false,eval e1 X.env)]:=by rfl) :
 PI X (.Tuple elts x1 tpos) (.Call (.Name "enumerate" p) [e1] [] pos) (W8 X.K ta):=by
 intro pins s σ H R I h;refine Call_ (xK I hg hm hv (zdl (thn (ha pos pins s σ H _ I h) λus s1 hZ=>?_) (by rw [hs];rfl) rfl));obtain⟨vs,H1,y,r1,q1⟩:=hZ;obtain⟨a,rfl,⟨xs,a5⟩,q⟩:=q1;obtain⟨w1,rfl,a6⟩:=k8 r1;cases a6;obtain⟨ab,ac,p1,z1⟩:=y.list a5;refine call_enumerate_list p1.isList λg O b2 b3 b4=>xw (s:={s1 with heap:=g}) O ?_;refine⟨_,[s1.heap.objs.size+1,s1.heap.objs.size],_,_,H1,rfl,y.kept (t':=s1.toks) b4,Jx (zd0 (zdR _)),⟨⟨_,O⟩,b2⟩,λc U=>?_,q⟩;have Y:s1.heap.objs.size<=c:=by
  simp only [zcY,zc3,or_false]at U;rcases U with rfl | rfl
  ·exact zdj _ _
  ·exact zcZ _
 exact y.fpOk Y (y.hok.fresh Y)
theorem X0(hg:Gl X "enumerate")(hm:X.mg "enumerate" = none)(ha:PA X [e1] ta)
 (hv:bootBuiltins "enumerate" = some (.type "enumerate")) (hs:starEach [e1] X.env=[(false,eval e1 X.env)]:=by rfl) :
 PI X (.Tuple elts x1 tpos) (.Call (.Name "enumerate" p) [e1] [] pos) (W7 ta):=by
 intro pins s σ H R I h;refine Call_ (xK I hg hm hv (zdl (thn (ha pos pins s σ H _ I h) λus s1 hZ=>?_) (by rw [hs];rfl) rfl));obtain⟨vs,H1,y,r1,q1⟩:=hZ;obtain⟨z,rfl,q⟩:=q1;obtain⟨w1,rfl,a5⟩:=k8 r1;obtain⟨t,rfl⟩:=a5;refine call_enumerate_str λg O b2 b3 b4=>xw (s:={s1 with heap:=g}) O ?_;refine⟨_,[s1.heap.objs.size+1,s1.heap.objs.size],_,_,H1,rfl,y.kept (t':=s1.toks) b4,Jw z t (zd0 (zdR _)),⟨⟨_,O⟩,b2⟩,λc U=>?_,q⟩;have Y:s1.heap.objs.size<=c:=by
  simp only [zcY,zc3,or_false]at U;rcases U with rfl | rfl
  ·exact zdj _ _
  ·exact zcZ _
 exact y.fpOk Y (y.hok.fresh Y)
end
end L2
namespace DL
open PySem PySem.Spec PyProof.Rows L2
theorem wG(z:Str):(qO z).length=z.cps.size:=by simp [qO]
theorem XB(z:Str){i c:Nat}(h:z.cps[i]? = some c):(qO z)[i]? = some (.str ⟨#[c]⟩):=by simp [qO,h]
theorem Jr{K:PySem.W.Frag}{H0 Hs:Hp}(z:Str):Walk K H0 Hs (zbP z) (qx (qO z)):=by
 have hz:(qx (qO z)).length=z.cps.size:=by simp [qx,wG]
 refine⟨λi H1 s hi=>?_,λH1 s=>?_,λi H1 x H1' s hi y=>?_⟩
 ·rw [hz]at hi;exact hi
 ·rw [hz];exact rfl
 ·obtain⟨p,c,rfl,I,rfl,O⟩:=y
  refine⟨.tup [.int i,.str ⟨#[c]⟩],?_,λG0 s1 s2=>⟨upd G0 p (.tup [.int i,.str ⟨#[c]⟩]),Ext.alloc s2 I _,?_⟩⟩
  ·rw [hz]at hi
   unfold qx;rw [zdx,zfw (by rw [wG];exact hi),zcN,XB z O];rfl
  ·exact qH (SqT.of zR) (Reps.cons (show V.int i = .int i from rfl) (Reps.cons (show V.str ⟨#[c]⟩ = .str ⟨#[c]⟩from rfl) Reps.nil))
theorem Js{K:PySem.W.Frag}{H0 Hs:Hp}{a:Addr}{xs:List V}{ds:List D}(h:SqL K Hs a xs)(r:Reps K H0 ds xs):Walk K H0 Hs (zbQ K a) (qx ds):=by
 have Y:=r.length;have hz:(qx ds).length=ds.length:=by simp [qx]
 refine⟨λi H1 s hi=>?_,λH1 s=>?_,λi H1 x H1' s hi y=>?_⟩
 ·exact⟨xs,s.seq h,by omega⟩
 ·exact⟨xs,s.seq h,by omega⟩
 ·obtain⟨p,u,rfl,I,rfl,O⟩:=y
  obtain⟨d,hd,U⟩:=r.getV (O xs (s.seq h));refine⟨.tup [.int i,d],?_,λG0 s1 s2=>⟨upd G0 p (.tup [.int i,u]),Ext.alloc s2 I _,?_⟩⟩
  ·unfold qx
   rw [zdx,zfw ⋯,zcN,hd];rfl
  ·exact qH (SqT.of zR) (Reps.cons (show V.int i = .int i from rfl) (Reps.cons ((U.mono s1).mono (jm (jC s2 I) _)) Reps.nil))
section
variable{X:Cx}{sc:Scope}{N L:List Str}{k:Nat}{a b e:Expr}{pos p p2:Pos}{f fa fb:CO D}
theorem YX{elts:List Expr}{x1:Nat}{tpos:Pos}(h:SX X sc N L k)(c:kt sc "enumerate" = true)(z:X.mg "enumerate" = none)(ha:PV X a f)(hs:starEach [a] X.env=[(false,eval a X.env)]:=by rfl) :
 PIF X (.Tuple elts x1 tpos) (.Call (.Name "enumerate" p) [a] [] pos) (vD f):=
 v7 (X0 (h.gl c).1 z (jx ha qs hs) boot_enumerate hs) λσ H R O=>by
  obtain⟨H0,γ,ds,rc,y,q⟩:=O;obtain⟨d,U,y⟩:=bind_some y;cases d with
  | str z=>
   by_cases I:jF z=true
   ·have y:(if jF z=true then some (qx (qO z))else none)=some ds:=y
    rw [if_pos I]at y;cases y;exact⟨H0,γ,_,rc,U,λv H' H0' x r=>⟨z,by rw [show v = .str z from r],q _ H' H0' x (Jr z)⟩⟩
   ·have y:(if jF z=true then some (qx (qO z))else none)=some ds:=y
    rw [if_neg I]at y;cases y
  | _=>cases y
theorem YY{elts:List Expr}{x1:Nat}{tpos:Pos}(h:SX X sc N L k)(c:kt sc "enumerate" = true)(z:X.mg "enumerate" = none)(ha:PV X a f)(hs:starEach [a] X.env=[(false,eval a X.env)]:=by rfl) :
 PIF X (.Tuple elts x1 tpos) (.Call (.Name "enumerate" p) [a] [] pos) (wI f):=
 v7 (X1 (h.gl c).1 z (jx ha qs hs) boot_enumerate hs) λσ H R O=>by
  obtain⟨H0,γ,ds,rc,y,q⟩:=O;obtain⟨d,U,y⟩:=bind_some y;cases d with
  | lst es=>
   cases y;refine⟨H0,γ,_,rc,U,λv H' H0' x r=>?_⟩;obtain⟨Y,xs,rfl,I,g2⟩:=QH r;exact⟨Y,rfl,⟨xs,x.sub.seq I⟩,q _ H' H0' x (Js I g2)⟩
  | _=>cases y
end
theorem vN{H:Hp}{x:Addr}{o o':HO}:upd (upd H x o) x o'=upd H x o':=by
 funext b;by_cases h:b=x
 ·subst h;rw [zR,zR]
 ·rw [zS h,zS h,zS h]
section
variable{X:Cx}{pins:List (Addr×Obj)}{σ:St}{H H0:Hp}{s:Shared}
theorem Kp{ta:TA}{e1 e2:Expr}{p pos:Pos}{Q:Value->Shared->Prop}{xs ys:List V}(I:Inv X pins σ H s)(hg:Gl X "zip")(hm:X.mg "zip" = none)(ha:PA X [e1,e2] ta)
 (h:ta σ H λvs H1=>∃k1 k2 a b,vs=[.ref a,.ref b]/\(∃xs,SqK k1 X.K H1 a xs)/\(∃ys,SqK k2 X.K H1 b ys)/\
   ∀s2 z TI TO i1 i2,Inv X pins σ H1 s2->ZipApart z TI TO i1 i2 a b->ZSt k1 k2 z TI TO i1 i2 a b 0 s2.heap->IsZip s2.heap z TI TO .none->(∀c ∈ [z,TI,TO,i1,i2],FpOk X pins H1 c)->Q (.ref z) s2)
 (hs:starEach [e1,e2] X.env=[(false,eval e1 X.env),(false,eval e2 X.env)]:=by rfl) (a0:starEach [e2] X.env=[(false,eval e2 X.env)]:=by rfl) :
 wpAny (model X.prog X.w) X.A (eval (.Call (.Name "zip" p) [e1,e2] [] pos) X.env) Q X.xe s:=by
 refine Call_ (xK I hg hm PyProof.Rows.boot_zip (zdl (thn (ha pos pins s σ H _ I h) λus s1 hZ=>?_) (by rw [hs,a0]) (by rw [a0];rfl)));obtain⟨vs,H1,y,r1,q1⟩:=hZ;obtain⟨k1,k2,a,b,e,⟨xs,ab⟩,⟨ys,ac⟩,q⟩:=q1;subst e;obtain⟨w1,w2,eu,af,ag⟩:=Ym r1;subst eu;cases af;cases ag;obtain⟨ah,av,p1,z1⟩:=y.sq ab;obtain⟨ai,ax,p2,z2⟩:=y.sq ac;have la:=p1.lt;have lb:=p2.lt;refine callType_new F.called_zip ⋯ (F.typeCall_zip_2 _ _) (F.newCall_zip_2 _ _) (λobj=>F.args_object_init_3 obj _ _) F.entry_zip_new (ZU k1 k2 a b ah.toArray ai.toArray) ⟨p1,p2,?_⟩;have keep : ∀c o,s1.heap.get? c=some o->(xQ k1 k2 s1.heap a b).get? c=some o:=λc o e=>
  zcO _ (zcO _ (zcO _ (zcO _ (zcO _ e))))
 have y1:(zdc s1.heap (itO k1 a)).objs.size=s1.heap.objs.size+1:=zdg ..;have y2:(zdc (zdc s1.heap (itO k1 a)) (itO k2 b)).objs.size=s1.heap.objs.size+2:=by rw [zdg,y1]
 have y3:(zdc (zdc (zdc s1.heap (itO k1 a)) (itO k2 b)) (q9 (.ref s1.heap.objs.size) (.ref (s1.heap.objs.size+1)))).objs.size=s1.heap.objs.size+3:=by rw [zdg,y2]
 have y4:(zdc (zdc (zdc (zdc s1.heap (itO k1 a)) (itO k2 b)) (q9 (.ref s1.heap.objs.size) (.ref (s1.heap.objs.size+1)))) (q9 .none .none)).objs.size=s1.heap.objs.size+4:=by rw [zdg,y3]
 have g0:ItAt k1 (xQ k1 k2 s1.heap a b) s1.heap.objs.size a 0:=(yn k1 s1.heap a).at λo e=>zcO _ (zcO _ (zcO _ (zcO _ e)));have g1:ItAt k2 (xQ k1 k2 s1.heap a b) (s1.heap.objs.size+1) b 0:=by
  have q:=yn k2 (zdc s1.heap (itO k1 a)) b;rw [y1]at q;exact q.at λo e=>zcO _ (zcO _ (zcO _ e))
 have g2:IsPair (xQ k1 k2 s1.heap a b) (s1.heap.objs.size+2) (.ref s1.heap.objs.size) (.ref (s1.heap.objs.size+1)):=by
  have q:_=some (q9 (.ref s1.heap.objs.size) (.ref (s1.heap.objs.size+1))):=zc5 (zdc (zdc s1.heap (itO k1 a)) (itO k2 b)) (o:=q9 (.ref s1.heap.objs.size) (.ref (s1.heap.objs.size+1))) rfl;rw [y2]at q;exact zcO _ (zcO _ q)
 have g3:IsPair (xQ k1 k2 s1.heap a b) (s1.heap.objs.size+3) .none .none:=by
  have q:_=some (q9 .none .none):=zc5 (zdc (zdc (zdc s1.heap (itO k1 a)) (itO k2 b)) (q9 (.ref s1.heap.objs.size) (.ref (s1.heap.objs.size+1)))) (o:=q9 .none .none) rfl;rw [y3]at q;exact zcO _ q
 have Y:IsZip (xQ k1 k2 s1.heap a b) (s1.heap.objs.size+4) (s1.heap.objs.size+2) (s1.heap.objs.size+3) .none:=by
  have q:=zc5 (zdc (zdc (zdc (zdc s1.heap (itO k1 a)) (itO k2 b)) (q9 (.ref s1.heap.objs.size) (.ref (s1.heap.objs.size+1)))) (q9 .none .none)) (o:=zap (s1.heap.objs.size+2) (s1.heap.objs.size+3)) rfl;rw [y4]at q;exact q
 refine⟨⟨_,Y,rfl⟩,?_⟩;have I2:Inv X pins σ H1 {s1 with heap:=xQ k1 k2 s1.heap a b,toks:=s1.toks}:=y.kept keep;have O : ∀m:Nat,a≠s1.heap.objs.size+m:=λm=>zda (zc8 la (zdj _ m));have U : ∀m:Nat,b≠s1.heap.objs.size+m:=λm=>zda (zc8 lb (zdj _ m));have ne : ∀m n:Nat,m≠n->(s1.heap.objs.size+m:Nat)≠s1.heap.objs.size+n:=λm n h=>by omega
 have D:ZipApart (s1.heap.objs.size+4) (s1.heap.objs.size+2) (s1.heap.objs.size+3) s1.heap.objs.size (s1.heap.objs.size+1) a b:=
  ⟨ne 2 4 ⋯,ne 3 4 ⋯,ne 0 4 ⋯,ne 1 4 ⋯,ne 2 3 ⋯,ne 2 0 ⋯,ne 2 1 ⋯,ne 3 0 ⋯,ne 3 1 ⋯,ne 0 1 ⋯,
   O 4,O 3,O 0,O 1,U 4,U 3,U 0,U 1⟩
 refine q _ _ _ _ _ _ I2 D ⟨.inl Y,g2,⟨_,_,g3⟩,g0,g1⟩ Y λc hc=>?_;have a6:s1.heap.objs.size<=c:=by
  simp only [zcY,zc3,or_false]at hc;rcases hc with rfl | rfl | rfl | rfl | rfl
  ·exact zdj _ _
  ·exact zdj _ _
  ·exact zdj _ _
  ·exact zcZ _
  ·exact zdj _ _
 exact y.fpOk a6 (y.hok.fresh a6)
theorem vc{o:HO}{c p:Addr}(h:FpOk X pins H c)(y:c≠p):FpOk X pins (upd H p o) c:=⟨by rw [zS y];exact h.1,h.2⟩
end
def Zx(i:Nat)(g:CO (Sk×List D)):CO Fl:=λγ=>(jX γ[i]?).bind λds=>(g γ).bind λa=>match a.1 with
 | .T=>if ds.length+a.2.length<=lim then some (.next (γ.set i (.own (ds++a.2))))else none
 | .L=>none
end DL
namespace L2
open PySem PySem.Spec PyProof.Rows
theorem JQ(l b:Addr)(its:Array Value)(n:Nat)(y:Array Value)(U:Nat)(o:Obj)(Y : ¬(!its.isEmpty && zea (its.size+y.size))=true)(a0:its.size<=sizeLine)(a1:its.size+y.size<=sizeLine+1) :
 Meets (Builtin.«list.extend» ⟨[.ref l,.ref b],[]⟩) (λ_ R s=>s.heap.get? l=some {cls:= .type "list",dict:=none,data:= .seq its n,slots:=#[]}/\s.heap.get? b=some o/\o.cls = .type "tuple"/\o.data = .seq y U/\R (.ok (.ret zel)) {s with heap:=s.heap.update l (zeD λx=>x++y)}):=
 .of_wp λprog w A R s h=>by
  obtain⟨I,O,hc,hd,h⟩:=h;have a3:(its++y).size<=sizeLine+1:=by rw [Array.size_append];exact a1
  refine zcM (m:=PySem.selfAndOne "list.extend" ⟨[.ref l,.ref b],[]⟩) (zcT ?_);show wpAny _ _ (zd3 (.ref l) (.ref b) .none) _ _ s;unfold zd3;refine zcM (m:=typeOf (.ref b)) (zfd ⟨o,O,hc⟩ ?_);have e1:(zeP (.ref l) (.ref b) || zd5 "tuple" == zd5 "list" || zd5 "tuple" == zd5 "tuple")=true:=by simp
  rw [if_pos e1];refine zcM (m:=zeA (.ref b)) ?_;unfold zeA;refine zcM (m:=seqItems? (.ref b)) (zdO O hd (zcT ?_));refine zcM ?_;refine zcM (m:=seqItems? (.ref l)) (zdO I rfl (zcT ?_));rw [if_neg Y];exact zcM (m:=updateSeq l λx=>x++y) (ze3 I rfl (hz:=a0) (_hz':=a3) (zcT ⟨_,rfl,h⟩))
def za4(K:PySem.W.Frag):V->List V->Hp->VK->Prop:=λx vs H Q=>∃l b xs zs,x = .ref l/\vs=[.ref b]/\H l=some (.lst xs)/\SqT K H b zs/\xs.length+zs.length<=sizeLine/\Q .non (upd H l (.lst (xs++zs)))
theorem Vd{X:Cx}:MtM X "list.extend" (za4 X.K):=by
 intro pins s σ H x vs v us Q I rx U h;obtain⟨l,b,xs,zs,rfl,rfl,O,Y,hz,q⟩:=h;cases rx;obtain⟨u,rfl,ru⟩:=U.one;cases ru;obtain⟨z,its,n,r,hl,e⟩:=I.lstM O;obtain⟨y,r2,⟨o,ho,hc,n2,hd⟩,a6⟩:=I.tuple Y;have len1:=r.length;have len2:=r2.length;have hsz:its.toArray.size+y.toArray.size<=sizeLine:=by rw [zcV,zcV];omega
 have a4 : ¬(!its.toArray.isEmpty && zea (its.toArray.size+y.toArray.size))=true:=by
  rw [Ja hsz,Bool.and_false];exact zdi
 refine zep F.slot_list_extend ⟨_,e,rfl⟩ F.entry_list_extend (F.args_list_extend_2 _ _) (JQ l b its.toArray n y.toArray n2 o a4 (by rw [zcV];omega) ⋯) ⟨e,ho,hc,hd,?_⟩;exact⟨.non,_,I.lset (its':=its++y) O e ⋯ (r.append r2) (by rw [zdK];omega),rfl,q⟩
end L2
namespace DL
open PySem PySem.Spec PyProof.Rows L2
section
variable{X:Cx}{sc:Scope}{N L:List Str}{k:Nat}{a:Expr}{g:CO (Sk×List D)}{pos:Pos}
theorem XU(i:Nat){x:Str}{apos cpos I:Pos}(h:SX X sc N L k)(c:Jt sc N i x=true)(ha:PQ X a g)(hs:starEach [a] X.env=[(false,eval a X.env)]:=by rfl)
 (a2:attributeBase (.Name x I) "extend" X.env (eval (.Name x I) X.env)=eval (.Name x I) X.env:=by rfl)
 (a3:((backTo cpos (starEach [a] X.env)).all (λx=> !x.1) && (backToKw cpos (keywordEach [] X.env)).all (λx=>x.1.isSome)
   && decide ([a].length+([]:List Keyword).length+(if ([]:List Keyword).isEmpty then 0 else 1)<30))=true:=by rfl)
 (a4:(apos.endLine==cpos.line)=true:=by rfl) (a5:swapsWith (.Call (.Attribute (.Name x I) "extend" apos) [a] [] cpos) none pos.line X.env=pure false:=by rfl) :
 PSD X (.Expr (.Call (.Attribute (.Name x I) "extend" apos) [a] [] cpos) pos) (Zx i g):=
 xN (v6 (Y3 ze7 PySem.F.slot_list_extend PySem.F.type_list_extend Vd (h.var c) (jx ha qs hs) a2 a3 a4 hs rfl) a5) λD σ H hZ=>by
  obtain⟨E0,E,H0,γ,fl,O,y,a8⟩:=hZ;obtain⟨ds,e1,y⟩:=bind_some y;obtain⟨⟨kk,es⟩,e2,y⟩:=bind_some y;have e1:=xm e1;cases kk with
  | L=>cases y
  | T=>
   have y:(if ds.length+es.length<=lim then some (Fl.next (γ.set i (.own (ds++es))))else none)=some fl:=y;by_cases U:ds.length+es.length<=lim
   ·rw [if_pos U]at y;cases y
    obtain⟨l,xs,h1,h2,Y,h4⟩:=O.rc.own i ds e1;refine⟨_,h1,.inl ⟨rfl,_,SqL.of Y⟩,H0,γ,.T,es,O.rc,e2,λb zs H' H0' x g1 g2 g3=>?_⟩;have hl:xs.length+zs.length<=sizeLine:=by
     rw [h4.length,g3.length];have:lim<=sizeLine:=by decide
     omega
    refine⟨l,b,xs,zs,rfl,rfl,x.s1 _ _ Y,g1,hl,?_⟩;have ac:=O.step x;exact a8 _ _ _ (ac.rewrite (xs:=xs) e1 h1 ((h4.mono x.s0).append g3))
   ·rw [if_neg U]at y;cases y
end
def Z3(f g:CO D):CO (List D):=λγ=>((f γ).bind jE).bind λm=>((g γ).bind jE).bind λn=>if m.2.length<=lim then some (yh m.2 n.2)else none
@[simp] theorem Kz{γ:Ctx}(f g):Z3 f g γ=((f γ).bind jE).bind λm=>((g γ).bind jE).bind λn=>if m.2.length<=lim then some (yh m.2 n.2)else none:=rfl
section
variable{prog:Program}{w:World}{A:Around}{E:Value->Shared->Prop}{s:Shared}
theorem Yd{k1 k2:Sk}{z TI TO i1 i2 Y l2:Addr}{n:Nat}{xs ys:Array Value}{x y:Value}{Q:Option Value->Shared->Prop}(D:ZipApart z TI TO i1 i2 Y l2)
 (Z:ZSt k1 k2 z TI TO i1 i2 Y l2 n s.heap) (af:SqAt k1 s.heap Y xs) (ag:SqAt k2 s.heap l2 ys) (hx:xs[n]? = some x) (hy:ys[n]? = some y)
 (hQ : ∀h',ZSt k1 k2 z TI TO i1 i2 Y l2 (n+1) h'->IsPair h' s.heap.objs.size x y->(∀c o,c ∉ [z,TI,TO,i1,i2]->s.heap.get? c=some o->h'.get? c=some o)->Q (some (.ref s.heap.objs.size)) {s with heap:=h'}) :
 wpAny (model prog w) A (pyNext (.ref z)) Q E s:=by
 obtain⟨hz,a0,⟨c,e,ak⟩,h1,h2⟩:=Z;unfold pyNext;rcases hz with hz | ⟨al,b,oa,hz,ha⟩
 ·have U:s.TypeIs (.ref z) "zip":=⟨_,hz,rfl⟩
  refine zcM (zd1 (zde (name:=zdC "__next__") U zdt (zds zdt U zee
   (wv D hz a0 ak h1 h2 af ag hx hy λg a1 a2 a3 a4 a5 a6 O=>zcT ?_) (zd9 _))))
  refine hQ g ⟨.inr ⟨s.heap.objs.size,false,_,a1,a5⟩,O _ _ D.TIz D.TITO D.TIi1 D.TIi2 a0,⟨_,_,a2⟩,a3,a4⟩ a5 λc o I q=>?_;simp only [zcY,zc3,or_false,not_or]at I;exact O c o I.1 I.2.2.1 I.2.2.2.1 I.2.2.2.2 q
 ·have U:s.TypeIs (.ref z) "zip":=⟨_,hz,rfl⟩
  refine zcM (zd1 (zde (name:=zdC "__next__") U zdt (zds zdt U zee
   (J3 D hz ha a0 h1 h2 af ag hx hy λg a1 a3 a4 a5 a6 O=>zcT ?_) (zd9 _))))
  have ac : ∃ae,g.get? al=some ae:=by
   by_cases q1:al=z
   ·exact⟨_,(congrArg g.get? q1).trans a1⟩
   ·by_cases q2:al=i1
    ·obtain⟨o,e,_⟩:=a3.obj;exact⟨o,q2 ▸ e⟩
    ·by_cases q3:al=i2
     ·obtain⟨o,e,_⟩:=a4.obj;exact⟨o,q3 ▸ e⟩
     ·exact⟨oa,O al oa q1 q2 q3 ha⟩
  obtain⟨ae,ac⟩:=ac;refine hQ g ⟨.inr ⟨al,true,ae,a1,ac⟩,O _ _ D.TIz D.TIi1 D.TIi2 a0,⟨_,_,O _ _ D.TOz D.TOi1 D.TOi2 ak⟩,a3,a4⟩ a5 λc o I q=>?_;simp only [zcY,zc3,or_false,not_or]at I;exact O c o I.1 I.2.2.2.1 I.2.2.2.2 q
end
theorem ZSt.keep{k1 k2:Sk}{z TI TO i1 i2 a b:Addr}{n:Nat}{h h':Heap}(Z:ZSt k1 k2 z TI TO i1 i2 a b n h)(k : ∀c ∈ [z,TI,TO,i1,i2],∀o,h.get? c=some o->h'.get? c=some o)(e : ∀c o,h.get? c=some o->∃o',h'.get? c=some o'):ZSt k1 k2 z TI TO i1 i2 a b n h':=by
 obtain⟨y,I,⟨c,d,O⟩,U,Y⟩:=Z;refine⟨?_,k TI ⋯ _ I,⟨c,d,k TO ⋯ _ O⟩,U.at λo q=>k i1 ⋯ o q,Y.at λo q=>k i2 ⋯ o q⟩;rcases y with y | ⟨al,bb,oa,y,a2⟩
 ·exact .inl (k z ⋯ _ y)
 ·obtain⟨a3,y6⟩:=e al oa a2
  exact .inr ⟨al,bb,a3,k z ⋯ _ y,y6⟩
theorem Qr{h:Heap}{o o':Obj}{c:Addr}(y:c≠h.objs.size)(q:(h.push o).get? c=some o'):h.get? c=some o':=by
 unfold Heap.get? zdc at q;unfold Heap.get?;simp only [Array.getElem?_push,if_neg y]at q;exact q
theorem Km{H00 Hb H0 H:Hp}{S p:Addr}{o o':HO}(E:Ext H00 Hb H0 H)(O:Hb S=none)(U:H0 S=none)(I:H p=none)(Y:p≠S):Ext H00 Hb (upd H0 p o) (upd (upd H p o) S o'):=by
 have a0:H0 p=none:=jC E.sub I;refine⟨E.s0.trans (jm a0 o),λb u q=>?_,λb u q=>?_,λb h1 h2=>?_⟩
 ·have h1:=E.s1 b u q
  rw [zS (λz=>by rw [z,O]at q;cases q),zS (λz=>by rw [z,I]at h1;cases h1)];exact h1
 ·by_cases z:b=p
  ·subst z
   rw [zR]at q;rw [zS Y,zR];exact q
  ·rw [zS z]at q
   rw [zS (λy=>by rw [y,U]at q;cases q),zS z];exact E.sub b u q
 ·have:b≠p:=λz=>by
   cases q:Hb b with
   | none=>exact h2 q
   | some u=>have:=E.s1 b u q;rw [z,I]at this;cases this
  rw [zS this];exact E.new b h1 h2
section
variable{X:Cx}{pins:List (Addr×Obj)}{σ:St}{A:Around}{R:Result->Shared->Prop}{H00 Hb:Hp}{k1 k2:Sk}{z TI TO i1 i2 a b S:Addr}{xs ys:List V}{ds es:List D}{res:Value}
theorem Qi{K:PySem.W.Frag}{H:Hp}{d e:D}{x y:V}{p:Addr}(h1:Rep K H d x)(h2:Rep K H e y)(I:H p=some (.tup [x,y])):Rep K H (.tup [d,e]) (.ref p):=
 show ∃a xs,V.ref p = .ref a/\SqT K H a xs/\Reps K H [d,e] xs from⟨p,[x,y],rfl,.inl (.inl I),.cons h1 (.cons h2 .nil)⟩
theorem QJ(hh:A.handled=none)(DA:ZipApart z TI TO i1 i2 a b)(hS:Hb S=none) : ∀(m n:Nat) (s:Shared) (H H0:Hp) (acc:List D) (vs:List V),n+m=(ds.zip es).length->
 Inv X pins σ H s->Ext H00 Hb H0 H->H0 S=none->SqK k1 X.K H0 a xs->SqK k2 X.K H0 b ys->Reps X.K H0 ds xs->Reps X.K H0 es ys->Reps X.K H0 acc vs->(∀c ∈ [z,TI,TO,i1,i2],FpOk X pins H c)->ZSt k1 k2 z TI TO i1 i2 a b n s.heap->H S=some (.lst vs)->vs.length+m<=sizeLine->
 (∀s' H' H0' a1,Inv X pins σ H' s'->Ext H00 Hb H0' H'->H0' S=none->H' S=some (.lst a1)->Reps X.K H0' (acc++(yh ds es).drop n) a1->R (.ok (.ret res)) s')->
 codeAny (model X.prog X.w) A (.builtin "list.extend.loop" ⟨[.ref S,.ref z,res],[]⟩) R s:=by
 intro m
 induction m with
 | zero=>
  intro n s H H0 acc vs hn I E a2 h1 h2 Y r2 ra hf Z hd hz hR;obtain⟨aq,a4,p1,z1⟩:=I.sq (kr E.sub h1);obtain⟨as,a5,p2,z2⟩:=I.sq (kr E.sub h2);have l1:=a4.length;have l2:=a5.length;have l3:=Y.length;have l4:=r2.length;simp only [List.length_zip,Nat.add_zero]at hn;refine codeAny_builtin F.entry_extend_loop ?_;rw [Around.under_plainId ze0 _];show wpAny _ A.in1 (pyNext (.ref z) >>= _) _ _ s;refine zcM (VQ (s:=s) hh DA Z p1 p2 (by rw [hn];rcases Nat.le_total ds.length es.length with q | q;left;simp;omega;right;simp;omega) λh' k=>?_);refine zcT (hR _ H H0 vs (I.turnedL (t':=s.toks) (fp:=[z,TI,TO,i1,i2]) k hf) E a2 hd ?_);rw [List.drop_eq_nil_of_le (by unfold yh;simp;omega),zei];exact ra
 | succ m ih=>
  intro n s H H0 acc vs hn I E a2 h1 h2 Y r2 ra hf Z hd hz hR;obtain⟨aq,a4,p1,z1⟩:=I.sq (kr E.sub h1);obtain⟨as,a5,p2,z2⟩:=I.sq (kr E.sub h2);have l1:=a4.length;have l2:=a5.length;have l3:=Y.length;have l4:=r2.length;have ah:n<(ds.zip es).length:=by omega
  have az:=ah;simp only [List.length_zip]at az;have hk:ds[n]? = some ds[n]:=zc7 ⋯;have hy:es[n]? = some es[n]:=zc7 ⋯;obtain⟨x,ex,rx⟩:=Y.get hk;obtain⟨y,ey,ry⟩:=r2.get hy;obtain⟨u1,b4,b5⟩:=a4.get ex;obtain⟨u2,b6,b7⟩:=a5.get ey;have a6:H s.heap.objs.size=none:=I.fresh;have ac:s.heap.objs.size≠S:=λq=>by rw [q,hd]at a6;cases a6
  refine codeAny_builtin F.entry_extend_loop ?_;rw [Around.under_plainId ze0 _];show wpAny _ A.in1 (pyNext (.ref z) >>= _) _ _ s;refine zcM (Yd (s:=s) DA Z p1 p2 (x:=u1) (y:=u2) (by simpa using b4) (by simpa using b6) λh' Z' hP k=>?_);have I1:Inv X pins σ (upd H s.heap.objs.size (.tup [x,y])) {s with heap:=s.heap.push {cls:= .type "tuple",data:= .seq #[u1,u2]}}:=
   I.laid (t':=s.toks) (λb o e=>zcO _ e) (zcZ _) (show ObjOk X.prog X.w _ _ _ (.tup [x,y])from⟨(show 2<=sizeLine by decide),[u1,u2],.cons b5 (.cons b7 .nil),IsTupD.new _ _⟩)
  have np : ∀c ∈ [z,TI,TO,i1,i2],c≠s.heap.objs.size:=λc O q=>by
   obtain⟨a0,bc,⟨c',e',bd⟩,g1,g2⟩:=Z;obtain⟨o1,e1,_⟩:=g1.obj;obtain⟨o2,e2,_⟩:=g2.obj;have ez : ∃o,s.heap.get? z=some o:=by
    rcases a0 with a0 | ⟨_,_,_,a0,_⟩
    ·exact⟨_,a0⟩
    ·exact⟨_,a0⟩
   obtain⟨oz,ez⟩:=ez;simp only [zcY,zc3,or_false]at O;rcases O with rfl | rfl | rfl | rfl | rfl
   ·exact absurd q (zda (zcX ez))
   ·exact absurd q (zda (zcX bc))
   ·exact absurd q (zda (zcX bd))
   ·exact absurd q (zda (zcX e1))
   ·exact absurd q (zda (zcX e2))
  have ai : ∀c ∈ [z,TI,TO,i1,i2],FpOk X pins (upd H s.heap.objs.size (.tup [x,y])) c:=λc O=>vc (hf c O) (np c O);have I2:=I1.turnedL (h':=h') (t':=s.toks) (fp:=[z,TI,TO,i1,i2]) (λc o O q=>by
   by_cases e:c=s.heap.objs.size
   ·rw [e]at q ⊢
    rw [zc5 _ rfl]at q;cases q;exact hP
   ·exact k c o O (Qr e q)) ai
  have ak:upd H s.heap.objs.size (.tup [x,y]) S=some (.lst vs):=by rw [zS (zdy ac)];exact hd
  obtain⟨zz,its,c0,rl,ll,el⟩:=I2.lstM ak;show wpAny _ A.in1 (updateSeq S (·.push (.ref s.heap.objs.size)) >>= _) _ _ _;refine zcM ?_;refine ze3 el rfl (zcT ⟨plainId_quiet ze0 _,?_⟩) (by rw [zcV];omega) (by show(its.toArray.push _).size<=sizeLine+1;rw [Array.size_push,zcV];omega);have nS : ∀c ∈ [z,TI,TO,i1,i2],c≠S:=λc O q=>by have:=(hf c O).1;rw [q,hd]at this;cases this
  have I3:=I2.lset (t':=s.toks) (f:=(·.push (.ref s.heap.objs.size))) (its':=its++[.ref s.heap.objs.size]) (ys:=vs++[.ref s.heap.objs.size]) ak el ⋯ (rl.append (.cons (show L2.RelV (.ref s.heap.objs.size) (.ref s.heap.objs.size)from rfl) .nil)) (by rw [zdK,zes];omega);have E3:Ext H00 Hb (upd H0 s.heap.objs.size (.tup [x,y])) (upd (upd H s.heap.objs.size (.tup [x,y])) S (.lst (vs++[.ref s.heap.objs.size]))):=Km E hS a2 a6 ac;have U:Same H0 (upd H0 s.heap.objs.size (.tup [x,y])):=jm (jC E.sub a6) _;refine ih (n+1) _ _ _ (acc++[.tup [ds[n],es[n]]]) (vs++[.ref s.heap.objs.size]) ⋯ I3 E3 (by rw [zS (zdy ac)];exact a2) (kr U h1) (kr U h2) (Y.mono U) (r2.mono U) ((ra.mono U).append (.cons (Qi (rx.mono U) (ry.mono U) zR) .nil)) (λc O=>vc (ai c O) (nS c O)) ?_ zR (by rw [zdK,zes];omega) λs' H' H0' a1 I4 E4 y1 y2 y3=>hR s' H' H0' a1 I4 E4 y1 y2 ?_
  ·refine Z'.keep (λc O o q=>(zdD _ _ (zdy (nS c O))).trans q) λc o q=>?_
   by_cases e:c=S
   ·exact⟨_,by rw [e];exact zed _ el rfl⟩
   ·exact⟨o,(zdD _ _ (zdy e)).trans q⟩
  ·have e1:(yh ds es).drop n = .tup [ds[n],es[n]]::(yh ds es).drop (n+1):=by
    have:n<(yh ds es).length:=by unfold yh;simpa using ah
    rw [ze2 this];congr 1;simp [yh]
   rw [e1];rw [List.append_assoc]at y3;exact y3
theorem Jp:typeLookup (.type "zip") "__len__" = pure none:=by rw [typeLookup_type,builtinLookup_eq_fast];kernel_rfl
theorem Zq:typeLookup (.type "zip") "__length_hint__" = pure none:=by rw [typeLookup_type,builtinLookup_eq_fast];kernel_rfl
theorem JV{Q:Value->Shared->Prop}{H0 H:Hp}{s:Shared}(I:Inv X pins σ H s)(hh:X.A.handled=none)(E:Ext H00 Hb H0 H)(DA:ZipApart z TI TO i1 i2 a b)
 (h1:SqK k1 X.K H0 a xs) (h2:SqK k2 X.K H0 b ys) (r1:Reps X.K H0 ds xs) (r2:Reps X.K H0 es ys) (Z:ZSt k1 k2 z TI TO i1 i2 a b 0 s.heap) (hz:IsZip s.heap z TI TO .none) (hf : ∀c ∈ [z,TI,TO,i1,i2],FpOk X pins H c) (hl:(ds.zip es).length<=sizeLine)
 (hQ : ∀s' H' H0' S U,Hb S=none->Inv X pins σ H' s'->Ext H00 Hb H0' H'->H0' S=none->H' S=some (.lst U)->Reps X.K H0' (yh ds es) U->Q (.ref S) s'):wpAny (model X.prog X.w) X.A (call (.type "list") [.ref z]) Q X.xe s:=by
 have hH:H s.heap.objs.size=none:=I.fresh;have a4:Hb s.heap.objs.size=none:=kT E.s1 hH;have ah:H0 s.heap.objs.size=none:=jC E.sub hH;refine callType_codes (Q₁:=λobj s₁=>obj = .ref s.heap.objs.size/\s₁ = {s with heap:=s.heap.push {cls:= .type "list",data:= .seq #[]}}) F.called_list (F.typeCall_list_1 _) F.entry_list_init (code_list_new _ ⟨rfl,rfl⟩) ?_;rintro obj s₁ ⟨rfl,rfl⟩;have I1:Inv X pins σ (upd H s.heap.objs.size (.lst [])) {s with heap:=s.heap.push {cls:= .type "list",data:= .seq #[]}}:=I.lnew (its:=[]) (ys:=[]) (t':=s.toks) .nil (zef _);have E1:Ext H00 Hb H0 (upd H s.heap.objs.size (.lst [])):=E.trans (Ext.hide E.sub hH _);have O:(s.heap.push {cls:= .type "list",data:= .seq #[]}).get? s.heap.objs.size=some {cls:= .type "list",data:= .seq #[]}:=zc5 _ rfl;have nd : ∀c ∈ [z,TI,TO,i1,i2],c≠s.heap.objs.size:=λc y q=>by
  obtain⟨ax,ak,⟨c',e',am⟩,g1,g2⟩:=Z;obtain⟨o1,e1,_⟩:=g1.obj;obtain⟨o2,e2,_⟩:=g2.obj;simp only [zcY,zc3,or_false]at y;rcases y with rfl | rfl | rfl | rfl | rfl
  ·exact absurd q (zda (zcX hz))
  ·exact absurd q (zda (zcX ak))
  ·exact absurd q (zda (zcX am))
  ·exact absurd q (zda (zcX e1))
  ·exact absurd q (zda (zcX e2))
 refine⟨⟨_,O,rfl⟩,F.args_list_init_2 _ _,?_⟩;show wpAny _ X.A.in1.in1 (do let ap <- zeA (.ref s.heap.objs.size);Builtin.List.listUpdate (.ref s.heap.objs.size) (λ_=>#[]);letGo ap.toList.reverse;zd3 (.ref s.heap.objs.size) (.ref z) .none) _ _ _;refine zcM ?_;unfold zeA;refine zcM (zdO O rfl (zcT ?_));show wpAny _ _ (updateSeq s.heap.objs.size (λ_=>#[]) >>= λ_=>letGo (#[]:Array Value).toList.reverse >>= λ_=>zd3 (.ref s.heap.objs.size) (.ref z) .none) _ _ _;refine zcM (ze3 O rfl ?_);have I2:=I1.lset (t':=s.toks) (f:=λ_=>#[]) (its:=[]) (its':=[]) (xs:=[]) (ys:=[]) zR O rfl .nil (zef _);rw [vN]at I2;have a1:=zed (zeD (λ_=>(#[]:Array Value))) O rfl;refine zcM (zfL ?_);unfold zd3;have a2 : ∀c o,c≠s.heap.objs.size->s.heap.get? c=some o->((s.heap.push {cls:= .type "list",data:= .seq #[]}).update s.heap.objs.size (zeD (λ_=>(#[]:Array Value)))).get? c=some o:=λc o y q=>(zdD _ _ (zdy y)).trans (zcO _ q);have Y:=a2 z _ (nd z ⋯) hz;refine zcM (zfd (T:="zip") ⟨_,Y,rfl⟩ ?_);have e1:zeP (.ref s.heap.objs.size) (.ref z)=false:=by
  have:=nd z ⋯;simp [zeP,zdy this]
 have e2:(zd5 "zip" == zd5 "list")=false:=by decide
 have e3:(zd5 "zip" == zd5 "tuple")=false:=by decide
 simp only [e1,e2,e3,Bool.or_false,zeo,if_false];refine zcM (zfX Y ?_);refine zcM (zd8 ?_);unfold Builtin.List.listLengthHint;refine zcM (wpAny_specialOf (T:="zip") ⟨_,Y,rfl⟩ Jp ?_);show wpAny _ _ (specialOf (zdu z) (zdC "__length_hint__") >>= _) _ _ _;refine zcM (wpAny_specialOf (T:="zip") ⟨_,Y,rfl⟩ Zq ?_);refine zcT ?_;show wpAny _ _ (rule "list.extend.makes-room" >>= λ_=>Builtin.List.listTouch (.ref s.heap.objs.size) >>= λ_=>
  again (.builtin "list.extend.loop" ⟨[.ref s.heap.objs.size,.ref z,.none],[]⟩)) _ _ _
 refine zcM (zfi ?_);refine zcM ?_;show wpAny _ _ (updateSeq s.heap.objs.size (·.push .none) >>= λ_=>updateSeq s.heap.objs.size (·.pop)) _ _ _;refine zcM (ze3 a1 rfl ?_);have a3:=zed (zeD (·.push zel)) a1 rfl;have I3:=I2.lset (t':=s.toks) (f:=(·.push zel)) (its:=[]) (its':=[.none]) (xs:=[]) (ys:=[.non]) zR a1 rfl (.cons (show L2.RelV .non .none from rfl) .nil) ⋯;rw [vN]at I3;refine ze3 (hz:=by seq_fits) a3 rfl ?_;have ar:=zed (zeD (·.pop)) a3 rfl;have I4:=I3.lset (t':=s.toks) (f:=(·.pop)) (its:=[.none]) (its':=[]) (xs:=[.non]) (ys:=[]) zR a3 rfl .nil ⋯;rw [vN]at I4;refine zcT ⟨plainId_quiet ze0 _,?_⟩;refine QJ (A:=X.A.in1) (ds:=ds) (es:=es) (xs:=xs) (ys:=ys) (k1:=k1) (k2:=k2) (show X.A.in1.handled=none from hh) DA a4 (ds.zip es).length 0 _ (upd H s.heap.objs.size (.lst [])) H0 [] [] (zc0 _) I4 E1 ah h1 h2 r1 r2 .nil (λc y=>vc (hf c y) (nd c y)) ?_ zR (by simpa using hl) λs' H' H0' U I5 E5 y1 y2 y3=>?_
 ·refine Z.keep (λc y o q=>?_) λc o q=>?_
  ·exact(zdD _ _ (zdy (nd c y))).trans ((zdD _ _ (zdy (nd c y))).trans (a2 c o (nd c y) q))
  ·by_cases e:c=s.heap.objs.size
   ·exact⟨_,by rw [e];exact ar⟩
   ·exact⟨o,(zdD _ _ (zdy e)).trans ((zdD _ _ (zdy e)).trans (a2 c o e q))⟩
 ·rw [zfk,List.drop_zero]at y3
  exact⟨rfl,hQ s' H' H0' _ U a4 I5 E5 y1 y2 y3⟩
end
section
variable{X:Cx}{sc:Scope}{N L:List Str}{k:Nat}{a b:Expr}{f g:CO D}{p p2 pos pos2:Pos}
theorem XX(h:SX X sc N L k)(cd:kt sc "list" = true)(zd:X.mg "list" = none)(cz:kt sc "zip" = true)(zz:X.mg "zip" = none)(ha:PV X a f)(hb:PV X b g)
 (hs:starEach [.Call (.Name "zip" p2) [a,b] [] pos2] X.env=[(false,eval (.Call (.Name "zip" p2) [a,b] [] pos2) X.env)]:=by rfl)
 (Y:starEach [a,b] X.env=[(false,eval a X.env),(false,eval b X.env)]:=by rfl) (U:starEach [b] X.env=[(false,eval b X.env)]:=by rfl) :
 PO X (.Call (.Name "list" p) [.Call (.Name "zip" p2) [a,b] [] pos2] [] pos) (Z3 f g):=by
 intro pins s σ H Q I hZ;obtain⟨H0,γ,d,rc,y,q⟩:=hZ;obtain⟨⟨k1,ds⟩,ab,y⟩:=bind_some y;obtain⟨d1,e1,e3⟩:=bind_some ab;obtain⟨⟨k2,es⟩,af,y⟩:=bind_some y;obtain⟨c1,e2,e4⟩:=bind_some af;have hh:X.A.handled=none:=I.ok.hd h.calm;dsimp only at y;by_cases hc:ds.length<=lim
 ·rw [if_pos hc]at y
  cases y;refine zeK (xK I (h.gl cd).1 zd zeW (zdl ?_ (by rw [hs];rfl) rfl) ⋯ ⋯);rw [hs];show wpAny _ _ (spliced ((false,eval (.Call (.Name "zip" p2) [a,b] [] pos2) X.env)::[])) _ _ s;refine zeX (Kp (xs:=[]) (ys:=[]) I (h.gl cz).1 zz (jx ha (jx hb qs U) (by rw [Y,U])) ?_ Y U);refine⟨H0,γ,d1,rc,e1,λv H' H0' x r=>⟨H0',γ,c1,rc.ext x,e2,λv2 H2 b1 O r2=>?_⟩⟩;obtain⟨a1,xs,rfl,g1,g2⟩:=vT (r.mono O.s0) e3;obtain⟨a2,ys,rfl,g3,g4⟩:=vT r2 e4;refine⟨k1,k2,a1,a2,rfl,⟨xs,kr O.sub g1⟩,⟨ys,kr O.sub g3⟩,λs2 z TI TO i1 i2 I2 DA Z hz hf=>zfI ?_⟩;have xa:=x.trans O;refine JV (H00:=H0) (Hb:=H) I2 hh xa DA g1 g3 g2 g4 Z hz hf ?_ λs' H' H0' S as y0 y1 y2 y3 y4 y5=>?_
  ·have:lim<=sizeLine:=by decide
   simp only [List.length_zip];omega
  ·exact⟨.ref S,H',y1,rfl,q S as H' H0' y2 y0 y3 y4 y5⟩
 ·rw [if_neg hc]at y;cases y
end
def zbZ:List (List Int)->List Int->List Int->Option Int
 | k::ks,n::ns,i=>if k=i then some n else zbZ ks ns i
 | _,_,_=>none
def eqT(ks:List (List Int))(ns:List Int)(y:List (List Int))(I:List Int):Bool:=decide (ks.length=y.length) && (ks.zip ns).all λx=>decide (zbZ y I x.1=some x.2)
def zb2(d e:D):Option Bool:=match d with
 | .dct ks vs=>match e with
  | .dct y I=>(Vg vs).bind λns=>(Vg I).map λO=>eqT ks ns y O
  | _=>none
 | _=>none
@[simp] def zcH(d e:D):Option D:=(zb2 d e).map D.bl
@[simp] def zcG(d e:D):Option D:=(zb2 d e).map λb=>D.bl (!b)
abbrev TT:=List (List (List Int))
def Xo:Cell->Bool
 | .no=>true
 | .val _=>true
 | _=>false
inductive Pl where
 | out | tab (k:Nat) | row (k m:Nat)
deriving DecidableEq
theorem Qx{γ:Ctx}(h:γ.all Xo=true) : ∀(i:Nat) ds,γ[i]? ≠ some (.own ds):=λi ds e=>by
 have:=zdr.mp h _ (zey e);cases this
theorem Qy{γ:Ctx}(h:γ.all Xo=true) : ∀(i:Nat) rows,γ[i]? ≠ some (.nest rows):=λi ds e=>by
 have:=zdr.mp h _ (zey e);cases this
theorem Wx{γ:Ctx}(h:γ.all Xo=true)(j:Nat){c:Cell}(y:Xo c=true):(γ.set j c).all Xo=true:=by
 refine zdr.mpr λI O=>?_;rcases List.mem_or_eq_of_mem_set O with z | z
 ·exact zdr.mp h I z
 ·rw [z];exact y
section
variable{K:PySem.W.Frag}{al:List (Nat×Pl)}{E0 E H0 H H0' H':Hp}{σ σ':St}{γ γ':Ctx}{Z:TT}{ad:Pl->Addr}
theorem RC.pl(sub:Same H0 H)(len:σ.length=γ.length)(val : ∀(i:Nat) d,γ[i]? = some (.val d)->∃v,σ[i]? = some (some v)/\Rep K H0 d v)(pn:γ.all Xo=true):RC K H0 H σ γ:=
 ⟨sub,len,val,λi ds e=>absurd e (Qx pn i ds),λi j a ds es e=>absurd e (Qx pn i ds),NestOk.nil0 (Qy pn)⟩
theorem RS.pl(rc:RC K H0 H σ γ)(x:Ext E0 E H0 H)(pn:γ.all Xo=true):RS K E0 E H0 H σ γ:=
 ⟨rc,x,λi ds a e=>absurd e (Qx pn i ds),λi rows a xs e=>absurd e (Qy pn i rows)⟩
end
section
variable{X:Cx}{sc:Scope}{N L:List Str}{k j i n w:Nat}{st:Stmt}{xA:List Stmt}{e e2:Expr}{es:List Expr}{f:CO D}{g:CO (List D)}{pos p:Pos}{x:Str}{al:List (Nat×Pl)}
theorem Jb{E H:Hp}{c:Addr}(s:Same E H)(h:H c=none):E c=none:=by
 cases q:E c with
 | none=>rfl
 | some o=>rw [s c o q]at h;cases h
end
def Xs(d:D):Option (Str×List D):=match d with
 | .tup [.str z,.lst ds]=>some (z,ds)
 | _=>none
def Z4(F:List D->Option Res)(g:CO (List D)):CO D:=λγ=>(zw F g γ).bind λd=>(Xs d).map λr=> .tup [.str r.1,.lst r.2]
def Qg(i:Nat)(f:CO D)(t:CO Bool)(G:CO Fl):CO Fl:=λγ=>if (γ.set i .no).all Xo=true/\i<γ.length then
 ((f γ).bind Xs).bind λr=>(t (γ.set i (.val (.tup [.str r.1,.lst r.2])))).bind λb=>if b=true then some (.ret (.val (.bl false)))else G (γ.set i (.val (.tup [.str r.1,.lst []])))
 else none
theorem vx{d:D}{r:Str×List D}(h:Xs d=some r):d = .tup [.str r.1,.lst r.2]:=by
 unfold Xs at h;split at h
 ·cases h;rfl
 ·cases h
structure WL(K:PySem.W.Frag)(H H0':Hp)(z:Str)(ds:List D)(t a:Addr)(xs:List V):Prop where
 nw:H a=none
 tu:SqT K H0' t [.str z,.ref a]
 li:H0' a=some (.lst xs)
 re:Reps K H0' ds xs
def tVG(K:PySem.W.Frag)(f:CO D):TE:=λσ H Q=>∃H0 γ z ds,RC K H0 H σ γ/\f γ=some (.tup [.str z,.lst ds])/\∀t a xs H' H0',Ext H0 H H0' H'->WL K H H0' z ds t a xs->Q (.ref t) H'
def spG(K:PySem.W.Frag)(n:Nat)(F:List D->Option Res):Sp:=λvs H Q _=>∃H0 es z ds,Same H0 H/\Reps K H0 es vs/\es.length=n/\F es=some (.val (.tup [.str z,.lst ds]))/\∀t a xs H' H0',Ext H0 H H0' H'->WL K H H0' z ds t a xs->Q (.ref t) H'
structure FnG(P:Program)(w:World)(K:PySem.W.Frag)(mg:Str->Option Value)(base:Heap)(k:Nat)(x:Str)(n:Nat)(F:List D->Option Res):Prop where
 ex : ∃(f:Addr) (fd:FuncData) (ps:List Str),ps.length=n/\FnOk P w K mg base CX0 k f fd ps (spG K ps.length F)/\mg x=some (.ref f)/\PySem.W.keepIn K (.ref f)=true/\Binds K fd ps []
def tSG(K:PySem.W.Frag)(F:CO Fl):TS:=λD σ H=>∃E0 E H0 γ z ds,RS K E0 E H0 H σ γ/\F γ=some (.ret (.val (.tup [.str z,.lst ds])))/\∀t a xs H' H0',Ext E0 E H0' H'->WL K E H0' z ds t a xs->D.rt (.ref t) H'
section
variable{P:Program}{w:World}{K:PySem.W.Frag}{mg:Str->Option Value}{base:Heap}
theorem zcx{x:Str}{st:Stmt}{N ps:List Str}{k:Nat}{F:CO Fl}(A:DefAt K mg x st ps)(hd:Q0 N ps st=true)
 (Y : ∀X:Cx,X.prog=P->X.w=w->X.K=K->X.mg=mg->X.base=base->SX X (defScope st) N N k->X.xe=(λ_ _=>False)->PSs X (defBody st) (tSG X.K F)) :
 FnG P w K mg base (k+1) x ps.length (jO N.length F):=by
 obtain⟨f,fd,I,hb,hm⟩:=A.ex;have S:=vU hd;refine⟨f,fd,ps,rfl,?_,hm,I.kp,.all hb⟩;refine I.ok S (λvs H Q E h=>?_) (λcdv A outer s H vs Q E hr h=>⟨_,Y _ rfl rfl rfl rfl rfl ⟨rfl,rfl,S.nd,rfl,hr,λ_ _=> .inl rfl⟩ rfl,?_⟩)
 ·obtain⟨H0,es,z,ds,_,y,O,_⟩:=h
  rw [y.length,O]
 obtain⟨H0,es,z,ds,s0,y,O,ef,q⟩:=h;have a4:ps.length<=N.length:=by have:=congrArg List.length S.pre;rw [zeN]at this;omega
 obtain⟨U,e1,e2⟩:=bind_some ef;have e3:U = .ret (.val (.tup [.str z,.lst ds])):=by
  cases U with
  | ret r=>cases e2;rfl
  | next γ=>cases e2
  | brk γ=>cases e2
  | cont γ=>cases e2
 subst e3;exact⟨H0,H,H0,_,z,ds,Z6 s0 y ⋯,e1,q⟩
end
section
variable{X:Cx}{sc:Scope}{N L:List Str}{k j n i:Nat}{a b c e:Expr}{es:List Expr}{f:CO D}{g:CO (List D)}{p pos:Pos}{x:Str}{st:Stmt}{body xA:List Stmt}{F:List D->Option Res}
theorem vb{F G:CO Fl}(hn : ∀γ y,F γ=some y->∃γ',y = .next γ')(h1:PSD X st F)(h2:PSs X xA (tSG X.K G)):PSs X (st::xA) (tSG X.K (zU F G)):=by
 intro pins s σ H D I U;refine(ke h1 h2) pins s σ H D I ?_;obtain⟨E0,E,H0,γ,z,ds,Y,O,a0⟩:=U;obtain⟨y,e1,O⟩:=bind_some O;refine⟨E0,E,H0,γ,y,Y,e1,?_⟩;obtain⟨γ',e2⟩:=hn γ y e1;subst e2;exact λσ' H' H0' a1=>⟨E0,E,H0',_,z,ds,a1,O,a0⟩
theorem kU{i:Nat}{f:CO D} : ∀γ y,jh i f γ=some y->∃γ',y = .next γ':=λγ y h=>by
 obtain⟨d,_,e⟩:=zF h;exact⟨_,e.symm⟩
theorem wX{f:CO D} : ∀γ y,yv f γ=some y->∃γ',y = .next γ':=λγ y h=>by
 obtain⟨d,_,e⟩:=zF h;exact⟨_,e.symm⟩
theorem YL{f:CO D} : ∀γ y,jV f γ=some y->∃r,y = .ret r:=λγ y h=>by
 obtain⟨d,_,e⟩:=zF h;exact⟨_,e.symm⟩
theorem zcv{t:CO Bool}{U G:CO Fl}(hr : ∀γ O,U γ=some O->∃r,O = .ret r)(hc:PTD X c t)(h1:PSs X body (tSG X.K U))(h2:PSs X xA (tSG X.K G)):PSs X (.If c body [] pos::xA) (tSG X.K (zU (sIf t U jt) G)):=by
 intro pins s σ H D I hZ;refine(ke (YS hc h1 ZB) h2) pins s σ H D I ?_;obtain⟨E0,E,H0,γ,z,ds,Y,y,a0⟩:=hZ;obtain⟨O,e1,y⟩:=bind_some y;obtain⟨b,e2,e1⟩:=bind_some e1;refine⟨H0,γ,b,Y.rc,e2,λH' H0' x=>?_⟩;cases b with
 | true=>
  rw [if_pos rfl]at e1 ⊢;refine⟨E0,E,H0',γ,z,ds,Y.step x,?_,a0⟩;cases O with
  | ret r=>cases y;exact e1
  | next γ'=>obtain⟨r,q⟩:=hr γ _ e1;cases q
  | brk γ'=>cases y
  | cont γ'=>cases y
 | false=>
  rw [if_neg zdi]at e1 ⊢;cases e1;exact⟨E0,E,H0',γ,z,ds,Y.step x,y,a0⟩
theorem Qk{f1:CO D}{f2:CO (List D)}{kx:Nat}(h1:PV X a f1)(h2:PO X b f2)(hs:starEach [a,b] X.env=(false,eval a X.env)::starEach [b] X.env:=by rfl)(a9:starEach [b] X.env=(false,eval b X.env)::starEach [] X.env:=by rfl) :
 PE X (.Tuple [a,b] kx pos) (tVG X.K (qU (zb f1 (zb (jA f2) zB)))):=qe (KY (jx h1 (jx h2 qs a9) hs)) λσ H Q hZ=>by
 obtain⟨H0,γ,z,ds,rc,y,q⟩:=hZ;obtain⟨es,I,y⟩:=bind_some y;obtain⟨d1,e1,I⟩:=bind_some I;obtain⟨r1,e2,I⟩:=zF I;obtain⟨d2,O,e2⟩:=bind_some e2;obtain⟨r2,e4,e2⟩:=zF e2;cases e4;subst e2;subst I;obtain⟨fs,e5,O⟩:=zF O;subst O;have y:some (D.tup [d1,.lst fs])=some (.tup [.str z,.lst ds]):=by
  rw [<- y];rfl
 injection y with y;injection y with y;injection y with q1 y;injection y with U _;injection U with U;subst q1 U;refine⟨H0,γ,.str z,rc,e1,λv1 H1 ag x1 ah=>⟨ag,γ,fs,rc.ext x1,e5,λl xs H2 ao x2 g1 g2 Y g4=>⟨(show 2<=sizeLine by decide),λt ht=>?_⟩⟩⟩;have y2:=x2.show g1 g2 Y x1.sub;have y3:=Ext.alloc y2.sub ht (.tup [v1,.ref l]);have ak:l≠t:=λe=>by rw [e,ht]at Y;cases Y
 refine q t l xs _ _ (x1.trans (y2.trans y3)) ⟨Jb x1.s1 g1,?_,?_,?_⟩
 ·rw [show v1=V.str z from ah];exact SqT.of zR
 ·rw [zS ak];exact zR
 ·exact(g4.mono (jm g2 _)).mono y3.s0
theorem zaa(h:PE X e (tVG X.K f)):PSs X [.Return (some e) pos] (tSG X.K (jV f)):=by
 intro pins s σ H D I O;refine(ZA (wV h)) pins s σ H D I ?_;obtain⟨E0,E,H0,γ,z,ds,y,U,Y⟩:=O;obtain⟨d,e1,e2⟩:=zF U;cases e2;exact⟨H0,γ,z,ds,y.rc,e1,λt a xs H' H0' x w=>Y t a xs H' H0' (y.ext.trans x) ⟨Jb y.ext.s1 w.nw,w.tu,w.li,w.re⟩⟩
theorem Wn(U:FnG X.prog X.w X.K X.mg X.base j x n F)(Y:j<=k)(h:SX X sc N L k)(c:kt sc x=true)(ha:PAn X (e::es) n g)
 (he:starEach (e::es) X.env=(false,eval e X.env)::starEach es X.env:=by rfl) (a1:(backTo pos (starEach es X.env)).any (·.1)=false:=by rfl) :
 PE X (.Call (.Name x p) (e::es) [] pos) (tVG X.K (Z4 F g)):=by
 obtain⟨fa,fd,ps,hn,G,hm,hk,hb⟩:=U.ex;subst hn;refine qe (ZF (E:=E0) G (h.room.mono Y) (h.gl c).1 hm hk hb .nil Y5 ha.1 (h.gl c).2.2 he a1) λσ H Q hZ=>?_;obtain⟨H0,γ,z,ds,rc,y,q⟩:=hZ;obtain⟨d1,e1,y⟩:=bind_some y;obtain⟨O,e0,y⟩:=zF y;obtain⟨I,e2,e1⟩:=bind_some e1;obtain⟨r,e3,e1⟩:=zF e1;have e6:D.tup [.str O.1,.lst O.2] = .tup [.str z,.lst ds]:=y;rw [vx e0,e6]at e1;have er:r = .val (.tup [.str z,.lst ds]):=by
  cases r with
  | val d=>cases e1;rfl
  | own ds=>cases e1
 subst er;exact⟨H0,γ,I,rc,e2,λvs H1 a9 x1 r1=>⟨a9,I,z,ds,x1.sub,by simpa using r1,ha.2 γ I e2,e3,λt a xs H' H0' x2 w=>q t a xs H' H0' (x1.trans x2) ⟨Jb x1.s1 w.nw,w.tu,w.li,w.re⟩⟩⟩
theorem Qs(i:Nat){e0 b:Expr}{p0 p1 p2 np apos cpos a9:Pos}{t:CO Bool}{G:CO Fl}(h:SX X sc N L k)(cx:Jt sc N i x=true)(h1:PS X st (JY (tVG X.K f) (kI i)))(hc:PTD X c t)(h0:PV X e0 (zu (.bl false)))(hb:PV X b (zu (.int 1)))(h5:J2 X xA G)
 (hx:wq b:=by intro _ _;rfl)
 (av:attributeBase (.Subscript (.Name x np) b p2) "clear" X.env (eval (.Subscript (.Name x np) b p2) X.env)=eval (.Subscript (.Name x np) b p2) X.env:=by rfl) (aw:(apos.endLine==cpos.line)=true:=by rfl)
 (ax:swapsWith (.Call (.Attribute (.Subscript (.Name x np) b p2) "clear" apos) [] [] cpos) none a9.line X.env=pure false:=by rfl) :
 J2 X (st :: .If c [.Return (some e0) p0] [] p1 :: .Expr (.Call (.Attribute (.Subscript (.Name x np) b p2) "clear" apos) [] [] cpos) a9::xA) (Qg i f t G):=by
 intro pins s σ H D I hZ;refine(ke h1 (ke (YS hc (ZA (wV h0)) ZB) (ke (v6 (WJ ze7 PySem.F.slot_list_clear PySem.F.type_list_clear X9 (Y1 K3 (h.var cx) hb hx) av aw) ax) h5))) pins s σ H D I ?_;obtain⟨E0,E,H0,γ,fl,U,y,aa⟩:=hZ;unfold Qg at y;split at y
 ·next b0=>
  obtain⟨b1,b2⟩:=b0;obtain⟨r,e0,y⟩:=bind_some y;obtain⟨d,e1,e0⟩:=bind_some e0;obtain⟨bb,e2,y⟩:=bind_some y;rw [vx e0]at e1;refine⟨H0,γ,r.1,r.2,U.rc,e1,λt a xs H1 ac x1 wl=>?_⟩;have rp:Rep X.K ac (.tup [.str r.1,.lst r.2]) (.ref t):=⟨t,_,rfl,wl.tu,Reps.cons (show V.str r.1 = .str r.1 from rfl) (Reps.cons (yS (SqL.of wl.li) wl.re) Reps.nil)⟩;have rs1:=(U.step x1).setVal (i:=i) rp;refine⟨ac,_,bb,rs1.rc,e2,λH2 a3 x2=>?_⟩;cases bb with
  | true=>
   rw [if_pos rfl]at y ⊢;cases y;exact⟨a3,_,_,(rs1.step x2).rc,rfl,λv H3 Y O r3=>aa v H3 Y ((rs1.step x2).ext.trans O) r3⟩
  | false=>
   rw [if_neg zdi]at y ⊢;have ae:=rs1.step x2;have af:(σ.set i (some (V.ref t)))[i]? = some (some (.ref t)):=zdv (by rw [U.rc.len];exact b2);have b4:SqT X.K a3 t [.str r.1,.ref a]:=sameT x2.s0 wl.tu;have b5:a3 a=some (.lst xs):=x2.s0 _ _ wl.li;have hE:E a=none:=Jb U.ext.s1 wl.nw;have b6:H0 a=none:=jC U.rc.sub wl.nw;refine⟨_,af,a3,_,_,ae.rc,rfl,λv H3 Y O r3=>?_⟩;have ah:=ae.step O;have ai:SqT X.K Y t [.str r.1,.ref a]:=sameT O.s0 b4;have a5:Y a=some (.lst xs):=O.s0 _ _ b5;refine⟨t,[.str r.1,.ref a],1,.ref a,rfl,jW r3,sameT O.sub ai,rfl,.inl ⟨rfl,_,SqL.of (O.sub _ _ a5)⟩,a,xs,rfl,rfl,O.sub _ _ a5,?_⟩;have sm:Same H0 (upd Y a (.lst [])):=λc o q=>by
    rw [zS (λz=>by rw [z,b6]at q;cases q)];exact O.s0 _ _ (x2.s0 _ _ (x1.s0 _ _ q))
   have sb:Same (upd Y a (.lst [])) (upd H3 a (.lst [])):=wH O.sub;have pn:(γ.set i (.val (.tup [.str r.1,.lst []]))).all Xo=true:=by
    have:=Wx b1 i (c:= .val (.tup [.str r.1,.lst []])) rfl
    rwa [List.set_set]at this
   have b7:RC X.K (upd Y a (.lst [])) (upd H3 a (.lst [])) (σ.set i (some (.ref t))) (γ.set i (.val (.tup [.str r.1,.lst []]))):=RC.pl sb (by simp [U.rc.len]) (λm d e=>by
    rcases z3 e with⟨rfl,zz,_⟩ | ⟨hm,zz⟩
    ·cases zz
     refine⟨_,af,t,_,rfl,?_,Reps.cons (show V.str r.1 = .str r.1 from rfl) (Reps.cons (yS (SqL.of zR) Reps.nil) Reps.nil)⟩;rcases ai with(h | ⟨o,h⟩) | h
     ·exact .inl (.inl (by rw [zS (λz=>by rw [z,a5]at h;cases h)];exact h))
     ·exact .inl (.inr ⟨o,by rw [zS (λz=>by rw [z,a5]at h;cases h)];exact h⟩)
     ·exact .inr h
    ·obtain⟨v,g1,g2⟩:=U.rc.val m d zz
     exact⟨v,by rw [zc2 (zdy hm)];exact g1,g2.mono sm⟩) pn
   refine⟨E0,E,_,_,fl,RS.pl b7 ⟨U.ext.s0.trans sm,λc o q=>?_,sb,λc q1 q2=>?_⟩ pn,y,aa⟩
   ·rw [zS (λz=>by rw [z,hE]at q;cases q)];exact ah.ext.s1 c o q
   ·rw [zS (λz=>by rw [z]at q2;exact q2 hE)];exact ah.ext.new c q1 q2
 ·cases y
end
def F_law_ends:List D->Option Res:=jO 2 (zU (sIf (sB (zy dEq (kw (ze 0) (ze 1)) (zu (.str "r")))) (jV (qU (zb (ze 1) (zb (zy qb (ze 1) (zu (.int 1))) zB)))) jt) (jV (qU (zb (zy qb (ze 1) (zu (.int 1))) (zb (ze 1) zB)))))
def F_law_ways_k38:List D->Option Res:=jO 2 (jV (XG (zu (.str "")) (jw (zV (zJ (zy Jh (ze 1) (zu (.int 1)))) (.nm 0) 1 [0] js (kw (zu (.str "rl")) (zy qL (zy kJ (ze 1) (sIx (jw (qc (zb (zu (.int 1)) (zb (zu (.int 2)) (zb (zu (.int 4)) (zb (zu (.int 8)) (zb (zu (.int 16)) zB))))))) (ze 0))) (zu (.int 2))))))))
def F_ask_together:List D->Option Res:=jO 1 (sIf (sB (zy dGt (JZ (zh 0)) (zu (.int 30)))) yj jt)
def F_widths_together:List D->Option Res:=jO 3 (zU (jh 2 (zT (jw (zV (Zo (sIx (zh 0) (zu (.int 1))) (sIx (zh 1) (zu (.int 1)))) (.tp [0,1]) 2 [] js (zy qb (ze 0) (ze 1)))))) (zU (yv (zw F_ask_together (zb (ze 2) zB))) (xT 2)))
def F_arrow_sizes:List D->Option Res:=jO 3 (zU (jh 2 (zw F_ways_of (zb (ze 0) zB))) (JD (zV (vD (ze 2)) (.tp [0,1]) 2 [0,1] js (qU (zb (sIx (zt (sIx (zh 3) (zu (.int 1)))) (zw F_end_of (zb (ze 0) (zb (ze 1) zB)))) (zb (sIx (zt (sIx (zh 2) (zu (.int 1)))) (zw F_beginning_of (zb (ze 0) (zb (ze 1) zB)))) zB))))))
def F_is_join:List D->Option Res:=jO 2 (jV (J0 (sIs .tuple (ze 1)) (zy dEq (XF (ze 1) zar (sBd (zu (.int 2)))) (ze 0))))
def F_ask_joins:List D->Option Res:=jO 6 (zU (yv (zw F_ask_one_kind (zb (ze 0) (zb (ze 1) zB)))) (zU (jh 3 (jA (z5 F_arrow_sizes (zb (ze 1) (zb (ze 0) zB))))) (zU (qV (wI (ze 3)) (.tp [4,5]) (sIf (yi (sB (zy dGe (ze 4) (xH (zh 2)))) (j8 (sB (zw F_is_join (zb (ze 5) (zb (sIx (zh 2) (ze 4)) zB)))))) yj jt)) (sIf (sB (zy dGt (xH (zh 2)) (xH (zh 3)))) yj jt))))
def F_law_cell_44:List D->Option Res:=jO 5 (zU (sIf (YI (sB (zy dGt (xH (zh 0)) (zu (.int 1)))) (sB (zy dEq (zy qL (sIx (zh 0) (zu (.int 0))) (zu (.int 2))) (zu (.int 1))))) (zU (jh 2 (sIx (zh 0) (zy qb (zu (.int 1)) (zy qL (ze 1) (zy Jh (xH (zh 0)) (zu (.int 1))))))) (zU (qV (zJ (YG (zu (.int 60)) (zy kJ (ze 1) (zy Jh (xH (zh 0)) (zu (.int 1)))))) (.nm 3) (jh 2 (zy kJ (ze 2) (zy Vo (zu (.int 10)) (zu (.int 9)))))) (sIf (sB (zy dGt (ze 2) (zu (.int 0)))) (jV (zy qL (ze 2) (zy Vo (zu (.int 10)) (zu (.int 9))))) jt))) jt) (zU (jh 4 (ze 1)) (zU (sIf (sB (zy dGt (xH (zh 0)) (zu (.int 0)))) (jh 4 (sIx (zh 0) (zy qL (ze 1) (xH (zh 0))))) jt) (jV (zy qL (zy qK (zy qL (zy qb (zy qb (zy qb (zy qK (zy qL (ze 4) (zy Vo (zu (.int 10)) (zu (.int 30)))) (zu (.int 48271))) (zy qK (zy qK (zu (.int 7)) (ze 1)) (ze 1))) (zy qK (zu (.int 13)) (ze 1))) (zu (.int 5))) (zu (.int 2147483647))) (zu (.int 69621))) (zu (.int 1000000007)))))))
def F_law_handed_44:List D->Option Res:=jO 10 (zU (xh (.tp [3,4]) (ze 2)) (zU (qw 5 (qc zB)) (zU (qV (zJ (qN (ze 1))) (.nm 6) (zU (xh (.tp [7,8]) (zw F_law_ends (zb (ze 1) (zb (ze 6) zB)))) (zU (jh 9 (zT (jw (zV (zW (zt (sIx (zh 4) (ze 6)))) (.nm 0) 1 [] js (zT (zh 0)))))) (jP 5 (qU (zb (kw (ze 1) (ze 6)) (zb (qU (zb (sIx (zh 3) (ze 8)) (zb (sIx (zh 3) (ze 7)) (zb (ze 9) zB)))) zB))))))) (jV (qU (zb (ze 0) (zb (zT (zh 3)) (zb (zT (zh 5)) zB))))))))
def F_law_table_44:List D->Option Res:=jO 11 (zU (qw 6 (qc zB)) (zU (qV (zJ (ze 3)) (.nm 7) (zU (qw 8 (qc zB)) (zU (qV (zJ (ze 4)) (.nm 9) (zU (jh 10 (zw F_law_cell_44 (zb (ze 0) (zb (zy qb (zy qb (ze 1) (zy qK (ze 4) (ze 7))) (ze 9)) zB)))) (jP 8 (zy qK (zy qL (zy kJ (ze 10) (zu (.int 7))) (ze 2)) (XH (zy dGe (zy qL (zy kJ (ze 10) (zu (.int 64))) (zu (.int 3))) (ze 5))))))) (Qf 8 (jP 6 (ze 8)))))) (xT 6)))
def vv:List D->Option Res:=jO 12 (zU (qw 7 (qc zB)) (zU (qV (zJ (qN (ze 3))) (.nm 8) (zU (xh (.tp [9,10]) (zw F_law_ends (zb (ze 3) (zb (ze 8) zB)))) (zU (jh 11 (jA (z5 F_law_table_44 (zb (ze 0) (zb (zy qb (ze 1) (zy qK (zu (.int 9)) (ze 8))) (zb (ze 2) (zb (sIx (zt (sIx (zh 4) (zu (.int 0)))) (ze 10)) (zb (sIx (zt (sIx (zh 5) (zu (.int 0)))) (ze 9)) (zb (ze 6) zB))))))))) (jP 7 (qU (zb (sIx (zt (sIx (zh 4) (zu (.int 0)))) (ze 10)) (zb (sIx (zt (sIx (zh 5) (zu (.int 0)))) (ze 9)) (zb (zT (jw (zV (zW (zh 11)) (.nm 0) 1 [] js (zT (zh 0))))) zB)))))))) (xT 7)))
def F_law_times_46:List D->Option Res:=jO 6 (zU (qw 4 (qc zB)) (zU (qV (zW (zt (ze 1))) (.nm 5) (jP 4 (jA (zV (zJ (ze 3)) (.nm 0) 1 [0,2,5] js (zy qL (JZ (jw (zV (zJ (xH (zh 3))) (.nm 0) 1 [0,2,3] js (zy qK (sIx (zh 3) (ze 0)) (sIx (zt (sIx (zh 2) (ze 0))) (ze 1)))))) (ze 1)))))) (xT 4)))
def F_law_fit_46:List D->Option Res:=jO 15 (zU (qV (zJ (qN (ze 1))) (.nm 6) (zU (xh (.tp [7,8]) (zw F_law_ends (zb (ze 1) (zb (ze 6) zB)))) (zU (jh 9 (sIx (zt (sIx (zh 3) (zu (.int 0)))) (ze 7))) (zU (jh 10 (jA (z5 F_law_times_46 (zb (ze 0) (zb (sIx (zt (sIx (zh 2) (zu (.int 1)))) (ze 6)) (zb (sIx (zt (sIx (zh 5) (ze 7))) (zu (.int 2))) (zb (ze 9) zB))))))) (zU (jh 11 (jA (z5 F_law_times_46 (zb (ze 0) (zb (sIx (zt (sIx (zh 5) (ze 8))) (zu (.int 2))) (zb (sIx (zt (sIx (zh 3) (zu (.int 1)))) (ze 6)) (zb (ze 9) zB))))))) (qV (zJ (sIx (zt (sIx (zh 2) (zu (.int 0)))) (ze 8))) (.nm 12) (qV (zJ (ze 9)) (.nm 13) (zU (jh 14 (zy Jh (sIx (zt (sIx (zh 10) (ze 12))) (ze 13)) (sIx (zt (sIx (zh 11) (ze 12))) (ze 13)))) (sIf (sB (zy dNe (zy qL (zy Jh (ze 14) (sIx (zt (sIx (zt (sIx (zt (sIx (zh 4) (ze 6))) (zu (.int 2)))) (ze 12))) (ze 13))) (ze 0)) (zu (.int 0)))) (jV (zu (.bl false))) jt))))))))) (jV (zu (.bl true))))
def F_law_is_table_46:List D->Option Res:=jO 5 (zU (sIf (yi (j8 (sB (sIs .tuple (ze 0)))) (yi (sB (zy dNe (xH (zh 0)) (zu (.int 3)))) (yi (j8 (sB (zw F_law_whole (zb (sIx (zh 0) (zu (.int 0))) zB)))) (j8 (sB (zw F_law_whole (zb (sIx (zh 0) (zu (.int 1))) zB))))))) (jV (zu (.bl false))) jt) (zU (sIf (yi (sB (zy dNe (sIx (zh 0) (zu (.int 0))) (ze 2))) (yi (sB (zy dNe (sIx (zh 0) (zu (.int 1))) (ze 3))) (yi (j8 (sB (sIs .tuple (sIx (zh 0) (zu (.int 2)))))) (sB (zy dNe (xH (zt (sIx (zh 0) (zu (.int 2))))) (ze 2)))))) (jV (zu (.bl false))) jt) (zU (qV (zW (zt (sIx (zh 0) (zu (.int 2))))) (.nm 4) (zU (sIf (yi (j8 (sB (sIs .tuple (ze 4)))) (sB (zy dNe (xH (zh 4)) (ze 3)))) (jV (zu (.bl false))) jt) (sIf (j8 (sB (KL (jw (zV (zW (zh 4)) (.nm 0) 1 [1] js (J0 (zw F_law_whole (zb (ze 0) zB)) (yR dLe dLt (zu (.int 0)) (ze 0) (ze 1)))))))) (jV (zu (.bl false))) jt))) (jV (zu (.bl true))))))
def F_law_are_tables_46:List D->Option Res:=jO 4 (zU (sIf (yi (j8 (sB (sIs .list (ze 0)))) (sB (zy dNe (xH (zh 0)) (xH (zh 2))))) (jV (zu (.bl false))) jt) (jV (KL (jw (zV (zJ (xH (zh 2))) (.nm 0) 1 [0,1,2,3] js (zw F_law_is_table_46 (zb (sIx (zh 1) (ze 0)) (zb (ze 2) (zb (sIx (zh 3) (ze 0)) (zb (sIx (zh 4) (ze 0)) zB))))))))))
def F_room_sizes:List D->Option Res:=jO 2 (JD (Z3 (sIx (zh 1) (zu (.int 1))) (sIx (zh 0) (zu (.int 1)))))
def F_numbers_in:List D->Option Res:=jO 1 (jV (JZ (jw (zV (zW (zh 0)) (.tp [0,1]) 2 [] js (zy qK (ze 0) (ze 1))))))
def F_written:List D->Option Res:=jO 4 (zU (qw 1 (qc zB)) (zU (qV (zW (zt (ze 0))) (.nm 2) (qV (zW (zt (sIx (zh 2) (zu (.int 2))))) (.nm 3) (Zx 1 (zh 3)))) (jV (zT (zh 1)))))
def F_less:List D->Option Res:=jO 3 (jV (zw F_added_times (zb (ze 0) (zb (ze 1) (zb (VL (zu (.int 1))) (zb (ze 2) zB))))))
def F_gap:List D->Option Res:=jO 8 (zU (jh 4 (sIx (zh 0) (zu (.int 0)))) (zU (jh 5 (sIx (zt (sIx (zt (sIx (zh 0) (zu (.int 2)))) (ze 3))) (zu (.int 0)))) (zU (jh 6 (zw F_product (zb (ze 4) (zb (sIx (zh 2) (zw F_end_of (zb (ze 3) (zb (ze 5) zB)))) (zb (sIx (zt (sIx (zt (sIx (zh 0) (zu (.int 2)))) (ze 3))) (zu (.int 1))) zB))))) (zU (jh 7 (zw F_product (zb (ze 4) (zb (sIx (zt (sIx (zt (sIx (zh 1) (zu (.int 2)))) (ze 3))) (zu (.int 1))) (zb (sIx (zh 2) (zw F_beginning_of (zb (ze 3) (zb (ze 5) zB)))) zB))))) (jV (zw F_less (zb (ze 4) (zb (ze 6) (zb (ze 7) zB)))))))))
def F_gaps:List D->Option Res:=jO 3 (JD (zV (zJ (xH (zt (sIx (zh 0) (zu (.int 2)))))) (.nm 0) 1 [0,1,2] js (zw F_gap (zb (ze 1) (zb (ze 2) (zb (ze 3) (zb (ze 0) zB)))))))
def F_tables_in:List D->Option Res:=jO 7 (zU (qw 2 (qc zB)) (zU (jh 3 (zu (.int 0))) (zU (qV (zW (zt (ze 0))) (.tp [4,5]) (zU (jh 6 (jA (zV (zJ (ze 4)) (.nm 0) 1 [1,3,5] js (XF (ze 1) (sBd (zy qb (ze 2) (zy qK (ze 0) (ze 3)))) (sBd (zy qb (ze 2) (zy qK (zy qb (ze 0) (zu (.int 1))) (ze 3)))))))) (zU (jP 2 (qU (zb (ze 4) (zb (ze 5) (zb (zT (zh 6)) zB))))) (jh 3 (zy qb (ze 3) (zy qK (ze 4) (ze 5))))))) (xT 2))))
def F_gaps_table:List D->Option Res:=jO 5 (zU (jh 2 (jA (z5 F_room_sizes (zb (ze 0) (zb (ze 1) zB))))) (zU (jh 3 (zw F_numbers_in (zb (ze 2) zB))) (zU (jh 4 (jA (zV (zW (zt (sIx (zt (zw F_same_table (zb (ze 3) zB))) (zu (.int 2))))) (.nm 0) 1 [0,1,2] js (zw F_written (zb (jA (z5 F_gaps (zb (ze 1) (zb (ze 2) (zb (jA (z5 F_tables_in (zb (ze 3) (zb (ze 0) zB)))) zB))))) zB))))) (jV (zw F_turned_over (zb (qU (zb (ze 3) (zb (zw F_numbers_in (zb (jA (z5 F_arrow_sizes (zb (ze 0) (zb (ze 1) zB)))) zB)) (zb (zT (zh 4)) zB)))) zB))))))
def F_weights_against:List D->Option Res:=jO 5 (zU (jh 3 (zw F_turned_over (zb (ze 1) zB))) (zU (jh 4 (qU (zb (zy qb (sIx (zh 3) (zu (.int 0))) (zu (.int 1))) (zb (sIx (zh 3) (zu (.int 1))) (zb (zy qb (sIx (zh 3) (zu (.int 2))) (qU (zb (ze 2) zB))) zB))))) (jV (zw F_solved (zb (ze 0) (zb (ze 4) (zb (zy qb (zy qK (qU (zb (zu (.int 0)) zB)) (sIx (zh 3) (zu (.int 0)))) (qU (zb (zu (.int 1)) zB))) zB)))))))
def F_fallen:List D->Option Res:=jO 8 (zU (yv (zw F_ask_joins (zb (ze 0) (zb (ze 1) (zb (ze 2) zB))))) (zU (yv (zw F_widths_together (zb (ze 0) (zb (ze 1) zB)))) (zU (jh 3 (sIx (zh 0) (zu (.int 0)))) (zU (jh 4 (zw F_gaps_table (zb (ze 1) (zb (ze 0) zB)))) (zU (jh 5 (zw F_rests (zb (ze 3) (zb (jA (zV (zW (zt (zw F_written (zb (ze 2) zB)))) (.nm 0) 1 [] js (VL (ze 0)))) zB)))) (zU (jh 6 (zw F_solved (zb (ze 3) (zb (ze 4) (zb (ze 5) zB))))) (zU (sIf (sB (zy vg (ze 6) (zu .non))) (jV (qU (zb (zu (.str "parted")) (zb (jA (z5 F_tables_in (zb (jA (z5 F_room_sizes (zb (ze 1) (zb (ze 0) zB)))) (zb (ze 6) zB)))) zB)))) jt) (zU (jh 7 (jA (z5 F_tables_in (zb (jA (z5 F_arrow_sizes (zb (ze 1) (zb (ze 0) zB)))) (zb (zw F_weights_against (zb (ze 3) (zb (ze 4) (zb (ze 5) zB)))) zB))))) (jV (qU (zb (zu (.str "stuck")) (zb (jA (zV (zW (zh 7)) (.nm 0) 1 [] js (zw F_turned_over (zb (ze 0) zB)))) zB))))))))))))
theorem zq{F G:CO Fl}{γ γ':Ctx}{r:Option Fl}(h:F γ=some (.next γ'))(g:G γ'=r):zU F G γ=r:=by
 rw [j4,h];exact g
theorem jo{n:Nat}{F:CO Fl}{ds:List D}{r:Res}(h:F (jr n ds)=some (.ret r)):jO n F ds=some r:=by
 show(F (jr n ds)).bind _=_;rw [h];rfl
theorem w4{T:Tg}{F:CO Fl}(P:Nat->Ctx->Prop)(n:Nat){γ:Ctx}(U:P 0 γ)(step : ∀s,s<n->∀γ,P s γ->∃I y,qE T (.int (s:Int)) γ=some I/\F I=some (.next y)/\P (s+1) y) :
 ∃γ',qD T F ((zcP n).map λ(i:Nat)=>D.int (i:Int)) γ=some (.next γ')/\P n γ':=by
 have Y : ∀(k s:Nat) (γ:Ctx),s+k=n->P s γ->∃γ',qD T F ((zeB s k).map λ(i:Nat)=>D.int (i:Int)) γ=some (.next γ')/\P n γ':=by
  intro k
  induction k with
  | zero=>
   intro s γ e O;obtain rfl:s=n:=by omega
   exact⟨γ,rfl,O⟩
  | succ k ih=>
   intro s γ e O;obtain⟨I,y,e1,e2,e3⟩:=step s ⋯ γ O;obtain⟨γ',q1,q2⟩:=ih (s+1) y ⋯ e3;refine⟨γ',?_,q2⟩;rw [zd2,zdn,jR,e1];simp only [zcL,e2];exact q1
 have:=Y n 0 γ ⋯ U;rw [<- zdJ]at this;exact this
theorem qa{T:Tg}{F:CO Fl}{f:CO D}(P:Nat->Ctx->Prop)(n:Nat)(hn:n<=lim){γ:Ctx}(O:f γ=some (.int (n:Int)))(U:P 0 γ)(step : ∀s,s<n->∀γ,P s γ->∃y I,qE T (.int (s:Int)) γ=some y/\F y=some (.next I)/\P (s+1) I) :
 ∃γ',qV (zJ f) T F γ=some (.next γ')/\P n γ':=by
 obtain⟨γ',e,Y⟩:=w4 P n U step;refine⟨γ',?_,Y⟩;have hl:=jB;have r:inR (n:Int)=true:=qP ⋯ ⋯;rw [kB,qh,O];simp only [zcL,zM,r,if_true,zdf,jL];rw [zY n λi=>(i:Int)];exact e
abbrev dsq(k:Sk)(xs:List D):D:=match k with | .T=>D.tup xs | .L=>D.lst xs
@[simp] theorem zb4(k xs):jE (dsq k xs)=some (k,xs):=by cases k<;>rfl
theorem yf{p:Int}{n:Nat}(k:Sk)(f:Nat->Int)(y:0<p)(hn:n<=lim) :
 F_rests [.int p,dsq k (zx n f)]=some (.val (.tup (zx n λi=>f i%p))):=by
 simp [F_rests,jO,jr,jy,hn,xo];unfold zx;rw [zA (r:=λi=>D.int (f i%p))]
 ·simp
 ·intro i hi
  refine zD rfl rfl ?_;simp [y]
theorem Xl{p:Int}{n:Nat}(f:Nat->Int)(y:0<p)(hn:n<=lim) :
 F_rests [.int p,.tup (zx n f)]=some (.val (.tup (zx n λi=>f i%p))):=yf .T f y hn
theorem k4{p:Int}{n:Nat}(f:Nat->Int)(y:0<p)(hn:n<=lim) :
 F_rests [.int p,.lst (zx n f)]=some (.val (.tup (zx n λi=>f i%p))):=yf .L f y hn
theorem KC{p:Int}{h w:Nat}(k:Sk)(f:Nat->Nat->Int)(g:Nat->Int)(I:0<p)(y:h<=lim)(hw:w<=lim)(O : ∀i j,i<h->j<w->0<=f i j/\f i j<100) :
 F_led [.int p,jD h w f,dsq k (zx w g)]=some (.val (.tup (zx h λi=>zv (λj=>f i j*g j) w%p))):=by
 simp [F_led,jO,jr,jy,y,xo,jD,zcS];unfold jN;rw [zA (r:=λi=>D.int (zv (λj=>f i j*g j) w))]
 ·simp
  rw [show(List.map (λi=>D.int (zv (λj=>f i j*g j) w)) (zcP h))=zx h λi=>zv (λj=>f i j*g j) w from rfl,k4 _ I y];rfl
 ·intro i hi
  refine zD rfl rfl ?_;simp [jy,kc,hw];rw [zA (r:=λj=>D.int (f i j*g j))]
  ·simp
   rw [show(List.map (λj=>D.int (f i j*g j)) (zcP w))=zx w λj=>f i j*g j from rfl,xu]
  ·intro j U
   refine zD rfl rfl ?_;have:=O i j (zc1.mp hi) (zc1.mp U);simp [xL (f i j) (g j) ⋯ ⋯]
theorem k5{h w:Nat}(f:Nat->Nat->Int)(y:h<=lim)(hw:w<=lim):F_turned_over [jD h w f]=some (.val (jD w h λi j=>f j i)):=by
 simp [F_turned_over,jO,jr,jy,y,hw,xo,jD,zcS,j4,jL];rw [zY w λi=>(i:Int)];rw [zA (r:=λj=>D.tup (zx h λi=>f i j))]
 ·simp
  rfl
 ·intro j I
  refine zD rfl rfl ?_;simp [jy,y,xo];unfold jN;rw [zA (r:=λi=>D.int (f i j))]
  ·simp
   rfl
  ·intro i hi
   refine zD rfl rfl ?_;have h1:=zc1.mp I;simp [h1,Kr _ h1]
theorem yr{p:Int}{h m w:Nat}(f g:Nat->Nat->Int)(y:0<p)(I:h<=lim)(hm:m<=lim)(hw:w<=lim)(O : ∀i j,i<m->j<w->0<=g i j/\g i j<100) :
 F_product [.int p,jD h m f,jD m w g]=some (.val (jD h w λi j=>zv (λk=>g k j*f i k) m%p)):=by
 simp [F_product,jO,jr,j4,k5 g hm hw];simp [jy,I,hm,hw,xo,jD];rw [show jN h m f=(zcP h).map λi=>D.tup (zx m (f i))from rfl];rw [zA (r:=λi=>D.tup (zx w λj=>zv (λk=>g k j*f i k) m%p))]
 ·simp
  rfl
 ·intro i hi
  refine zD rfl rfl ?_;have e:=KC .T (λi j=>g j i) (f i) y hw hm (λa b ha U=>O b a U ha);simp [jD]at e ⊢;rw [e];simp
theorem yz{p:Int}{h w:Nat}(c:Int)(f g:Nat->Nat->Int)(y : -(2 ^ 64)<c)(I:c<2 ^ 64)(O:0<p)(U:h<=lim)(hw:w<=lim) :
 F_added_times [.int p,jD h w f,.int c,jD h w g]=some (.val (jD h w λi j=>(f i j+c*g i j)%p)):=by
 simp [F_added_times,jO,jr,j4,jD,Xq,U,jy,xo,zcS];rw [zA (r:=λi=>D.tup (zx w λj=>(f i j+c*g i j)%p))]
 ·simp
  rfl
 ·intro i hi
  refine zD rfl rfl ?_;simp [kc,hw,jy,zcS];rw [zA (r:=λj=>D.int (f i j+c*g i j))]
  ·simp
   rw [show(List.map (λj=>D.int (f i j+c*g i j)) (zcP w))=zx w λj=>f i j+c*g i j from rfl,k4 _ O hw];simp
  ·intro j Y
   refine zD rfl rfl ?_;simp [xo,xL c _ y I]
theorem Xk{n:Nat}(hn:n<=lim):F_same_table [.int n]=some (.val (jD n n λi j=>if i=j then 1 else 0)):=by
 simp [F_same_table,jO,jr,j4,hn,jy,xo,zcS,jL];rw [zY n λi=>(i:Int)];rw [zA (r:=λi=>D.tup (zx n λj=>if i=j then 1 else 0))]
 ·simp
  rfl
 ·intro i hi
  refine zD rfl rfl ?_;simp [hn,jy,zcS,jL,xo];rw [zY n λi=>(i:Int)];rw [zA (r:=λj=>D.int (if i=j then 1 else 0))]
  ·simp
   rfl
  ·intro j y
   refine zD rfl rfl ?_;simp;by_cases e:i=j
   ·simp [e]
   ·rw [if_neg ⋯,if_neg e]
theorem wN(d:D)(w:Nat):zcS w d=(zcP w).map λ_=>d:=by
 induction w with
 | zero=>rfl
 | succ n y=>rw [List.replicate_succ',y,zeq,zdX];simp
def xi(ns:List Int):D:= .lst (ns.map D.int)
mutual
theorem eqD_refl : ∀d:D,eqD d d=true
 | .non=>rfl
 | .bl b=>by simp [eqD]
 | .int i=>by simp [eqD]
 | .str x=>by simp [eqD]
 | .tup xs=>by simp only [eqD];exact eqDs_refl xs
 | .lst xs=>by simp only [eqD];exact eqDs_refl xs
 | .exc c n=>by simp [eqD]
 | .dic a b=>by simp only [eqD];rw [eqDs_refl a,eqDs_refl b];rfl
 | .dct a b=>by simp only [eqD];rw [eqDs_refl b];simp
theorem eqDs_refl : ∀ds:List D,eqDs ds ds=true
 | []=>rfl
 | d::ds=>by simp only [eqDs,eqD_refl d,eqDs_refl ds,Bool.and_self]
end
theorem WT{d:D}{n:Nat}(h:deep d<=n)(hn:n<=20)(h2:okS d=true):okD d=true:=by
 unfold okD;rw [h2,Bool.and_true];exact decide_eq_true (zdP h hn)
theorem yE{d:D}(h:okD d=true):dEq d d=some (.bl true):=by unfold dEq;rw [if_pos ⟨h,h⟩,eqD_refl]
theorem yD{d:D}(h:okD d=true):dNe d d=some (.bl false):=by unfold dNe;rw [if_pos ⟨h,h⟩,eqD_refl];rfl
theorem kL(i:Int):F_law_whole [.int i]=some (.val (.bl true)):=by
 simp [F_law_whole,jO,jr,J1]
theorem wz{α:Type}(l:List α):yu (l.map λ_=>D.bl true)=some (l.map λ_=>true):=by
 induction l with
 | nil=>rfl
 | cons a l y=>simp [yu,VW,y]
theorem Jn{α:Type}(l:List α):((l.map λ_=>true).all id)=true:=by
 induction l with
 | nil=>rfl
 | cons a l y=>simp [y]
def wch(b:Bool):Nat:=if b then 108 else 114
def kh(c:Nat):Str:=⟨#[c]⟩
theorem vH : ∀(l:List Nat),(zfF "" (l.map kh)).cps.toList=l
 | []=>rfl
 | [c]=>rfl
 | c::d::l=>by
  have y:=vH (d::l);show((kh c++("" : Str))++zfF "" ((d::l).map kh)).cps.toList=_;have e : ∀a b:Str,(a++b).cps.toList=a.cps.toList++b.cps.toList:=λa b=>by
   show(a.cps++b.cps).toList=_;simp
  rw [e,e,y];rfl
def j7(m:Nat)(w:Nat->Bool):Str:=zfF "" ((zcP m).map λk=>kh (wch (w k)))
theorem qT(m w):(j7 m w).cps.toList=(zcP m).map λk=>wch (w k):=by
 have:=vH ((zcP m).map λk=>wch (w k));rw [zfP]at this;exact this
theorem xj(m w):(j7 m w).length=m:=by
 show(j7 m w).cps.size=m;rw [<- zeS,qT];simp
theorem qj{m:Nat}(w)(hm:m<=1000):jF (j7 m w)=true:=decide_eq_true (by rw [xj];exact hm)
theorem vR{α:Type}(g:α->Str) : ∀l:List α,wD (l.map λx=>D.str (g x))=some (l.map g)
 | []=>rfl
 | a::l=>by simp [wD,vR g l]
def hiW(w:Nat->Bool)(wd:Nat->Nat)(k:Nat):Nat:=if w k then wd k else wd (k+1)
def wiW(w:Nat->Bool)(wd:Nat->Nat)(k:Nat):Nat:=if w k then wd (k+1)else wd k
def VA(w:Nat->Bool)(wd:Nat->Nat)(T:Nat->Nat->Nat->Int)(k:Nat):D:= .tup [.str (kh (wch (w k))),jD (hiW w wd k) (wiW w wd k) (T k)]
def qI(m:Nat)(w:Nat->Bool)(wd:Nat->Nat)(T:Nat->Nat->Nat->Int):List D:=(zcP m).map (VA w wd T)
def zO(p:Int)(m:Nat)(w:Nat->Bool)(wd:Nat->Nat)(T:Nat->Nat->Nat->Int):D:= .tup [.int p,.tup (zx (m+1) λk=>(wd k:Int)),.tup (qI m w wd T)]
@[simp] theorem Zi(m w wd T):(qI m w wd T).length=m:=by simp [qI]
theorem wE{m k:Nat}(w)(hm:m<=1000)(y:k<m)(γ:Ctx)(f g:CO D)(I:f γ=some (.str (j7 m w)))(O:g γ=some (.int k)):kw f g γ=some (.str (kh (wch (w k)))):=by
 rw [wp,I,O];simp only [zcL,zM];rw [if_pos (qj w hm),qT];simp [y,kh]
theorem WS(b:Bool):okD (.str (kh (wch b)))=true:=by cases b<;>decide +kernel
theorem ZN(b:Bool):dEq (.str (kh (wch b))) (.str "r")=some (.bl (!b)):=by
 have e : ∀b:Bool,(kh (wch b)==(zdC "r")) = !b:=by decide +kernel
 have y:okD (.str (zdC "r"))=true:=by decide +kernel
 unfold dEq;rw [if_pos ⟨WS b,y⟩];show some (D.bl (kh (wch b)==zdC "r"))=_;rw [e]
theorem Q2{n i j:Nat}(f:Nat->D)(h1:i<=j)(h2:j<=n):Kv ((zcP n).map f) (some (i:Int)) (some (j:Int))=(zcP (j - i)).map λk=>f (i+k):=by
 have c : ∀(d k:Nat),k<=n->Q3 n d (some (k:Int))=k:=λd k I=>by
  show(if (k:Int)<0 then ((k:Int)+n).toNat else min (k:Int).toNat n)=k;rw [if_neg ⋯];simp only [zdf];omega
 have y:((zcP n).map f).length=n:=by simp
 unfold Kv;rw [y,c 0 i ⋯,c n j h2];apply List.ext_getElem
 ·simp;omega
 ·intro k O U
  simp
theorem zE{f g:Nat->Int} : ∀{n:Nat},(∀k,k<n->f k=g k)->zv f n=zv g n
 | 0,_=>rfl
 | n+1,h=>by
  simp only [zv];rw [zE (n:=n) λk y=>h k ⋯,h n ⋯]
theorem jj(n:Nat):zv (λ_=>0) n=0:=by
 induction n with
 | zero=>rfl
 | succ n y=>simp [zv,y]
theorem qo{f:Nat->Int}{n i:Nat}(hi:i<n)(h : ∀k,k<n->k≠i->f k=0):zv f n=f i:=by
 induction n with
 | zero=>omega
 | succ n y=>
  simp only [zv];by_cases e:i=n
  ·subst e
   rw [zE (g:=λ_=>0) (λk I=>h k ⋯ ⋯),jj];omega
  ·rw [y ⋯ λk I=>h k ⋯,h n ⋯ ⋯]
   omega
theorem qW(f g:Nat->Int)(n:Nat):zv (λk=>f k+g k) n=zv f n+zv g n:=by
 induction n with
 | zero=>rfl
 | succ n y=>simp only [zv,y];omega
theorem vz(f:Nat->Int)(c:Int)(n:Nat):zv (λk=>f k*c) n=zv f n*c:=by
 induction n with
 | zero=>simp [zv]
 | succ n y=>simp only [zv,y,Int.add_mul]
theorem j9(f:Nat->Int)(c:Int)(n:Nat):zv (λk=>c*f k) n=c*zv f n:=by
 induction n with
 | zero=>simp [zv]
 | succ n y=>simp only [zv,y,Int.mul_add]
theorem xt(f:Nat->Nat->Int)(n m:Nat):zv (λi=>zv (λj=>f i j) m) n=zv (λj=>zv (λi=>f i j) n) m:=by
 induction n with
 | zero=>simp [zv,jj]
 | succ n y=>simp only [zv];rw [y,<- qW]
theorem qf{p:Int}{f g:Nat->Int} : ∀{n:Nat},(∀k,k<n->f k%p=g k%p)->zv f n%p=zv g n%p
 | 0,_=>rfl
 | n+1,h=>by
  simp only [zv];rw [zdS,qf (n:=n) (λk y=>h k ⋯),h n ⋯,<- zdS]
abbrev Vc:=Nat->Int
def Pr(p:Int):Prop:=p=2\/p=3\/p=5\/p=7
theorem Pr.pos{p:Int}(h:Pr p):0<p:=by unfold Pr at h;omega
theorem Pr.two{p:Int}(h:Pr p):2<=p:=by unfold Pr at h;omega
theorem Pr.le{p:Int}(h:Pr p):p<=7:=by unfold Pr at h;omega
theorem Pr.one{p:Int}(h:Pr p):(1:Int)%p=1:=zew ⋯ (by have:=h.two;omega)
inductive Span(p:Int)(n:Nat)(G:Vc->Prop):Vc->Prop where
 | zero {v:Vc}:(∀i,i<n->v i%p=0)->Span p n G v
 | step {v w g:Vc} {c:Int}:G g->Span p n G w->(∀i,i<n->v i%p=(w i+c*g i)%p)->Span p n G v
section
variable{p:Int}{n:Nat}{G G':Vc->Prop}
theorem Span.congr{v y:Vc}(h:Span p n G v)(e : ∀i,i<n->y i%p=v i%p):Span p n G y:=by
 cases h with
 | zero h=>exact .zero λi hi=>by rw [e i hi,h i hi]
 | step I hw h=>exact .step I hw λi hi=>by rw [e i hi,h i hi]
theorem Span.gen{g:Vc}(h:G g):Span p n G g:= .step (c:=1) h (.zero (v:=λ_=>0) λi _=>by simp) λi _=>by simp
theorem Span.add{v w:Vc}(I:Span p n G v)(hw:Span p n G w) : ∀c:Int,Span p n G λi=>w i+c*v i:=by
 induction I with
 | zero h=>
  intro c;refine hw.congr λi hi=>?_;rw [zdS,zdo,h i hi];simp
 | @step v w' g y O Y h U=>
  intro c;refine .step (c:=c*y) O (U c) λi hi=>?_;have e:(c*v i)%p=(c*(w' i+y*g i))%p:=by rw [zdo,h i hi,<- zdo]
  rw [zdS,e,<- zdS];congr 1;rw [Int.mul_add,<- Int.mul_assoc,zfH]
theorem Span.smul{v:Vc}(y:Span p n G v)(c:Int):Span p n G λi=>c*v i:=
 (y.add (w:=λ_=>0) (.zero λi _=>by simp) c).congr λi _=>by simp
theorem Span.le{v:Vc}(h:Span p n G v)(y : ∀g,G g->Span p n G' g):Span p n G' v:=by
 induction h with
 | zero h=>exact .zero h
 | step I hw h O=>exact((y _ I).add O _).congr h
end
structure IsB(p:Int)(n r:Nat)(B:Nat->Vc)(l:Nat->Nat):Prop where
 lt : ∀k,k<r->l k<n
 mono : ∀k m,k<m->m<r->l k<l m
 one : ∀k,k<r->B k (l k)=1
 bef : ∀k j,k<r->j<l k->B k j=0
 oth : ∀k m,k<r->m<r->m≠k->B k (l m)=0
 rng : ∀k i,k<r->i<n->0<=B k i/\B k i<p
def Fam(r:Nat)(B:Nat->Vc):Vc->Prop:=λv=>∃k,k<r/\v=B k
section
variable{p:Int}{n r r':Nat}{B B':Nat->Vc}{l l':Nat->Nat}
theorem zaf(I:IsB p n r B l){v:Vc}(h:Span p n (Fam r B) v) : ∀i,i<n->v i%p=zv (λk=>v (l k)*B k i) r%p:=by
 induction h with
 | @zero v h=>
  intro i hi;rw [h i hi];have:zv (λk=>v (l k)*B k i) r%p=zv (λ_=>0) r%p:=qf λk y=>by rw [zdo,h _ (I.lt k y)];simp
  rw [this,jj];rfl
 | @step v w g c O hw h U=>
  intro i hi;obtain⟨m,hm,rfl⟩:=O;rw [h i hi];have e1:zv (λk=>v (l k)*B k i) r%p=zv (λk=>w (l k)*B k i+c*B m (l k)*B k i) r%p:=qf λk y=>by
   rw [zdo,h _ (I.lt k y),<- zdo,Int.add_mul]
  have e2:zv (λk=>c*B m (l k)*B k i) r=c*B m i:=by
   rw [qo (i:=m) hm λk y Y=>by rw [I.oth m k hm y Y];simp,I.one m hm];simp
  rw [e1,qW,e2,zdS,U i hi,<- zdS]
end
theorem xG{α:Type}{T:Tg}{k:CO Bool}{f:CO D}{γ:Ctx}{g:α->D}(q:α->Bool)(r:α->D) : ∀(l:List α),(∀x∈l,∃I,qE T (g x) γ=some I/\k I=some (q x)/\(q x=true->f I=some (r x)))->
 ji T k f γ (l.map g)=some ((l.filter q).map r)
 | [],_=>rfl
 | x::l,h=>by
  obtain⟨I,h1,h2,U⟩:=h x zdm;have O:=xG q r l λy Y=>h y (zdp _ Y);simp only [zdn,ji,h1,h2,zcL];cases e:q x with
  | true=>simp [U e,O,e]
  | false=>simp [O,e]
theorem w6{q:Nat->Bool}{n a:Nat}{xA:List Nat}(h:(zcP n).filter q=a::xA):a<n/\q a=true/\∀i,i<a->q i=false:=by
 have hm:a∈(zcP n).filter q:=by rw [h];exact zdm
 refine⟨zc1.mp (zdW.mp hm).1,(zdW.mp hm).2,λi hi=>?_⟩;apply zeR;intro y;have I:q i=true:=by simpa using y
 have O:i∈a::xA:=by rw [<- h];exact zdW.mpr ⟨zc1.mpr (by have:=zc1.mp (zdW.mp hm).1;omega),I⟩
 have hs:(a::xA).Pairwise (· < ·):=by rw [<- h];exact List.Pairwise.filter _ List.pairwise_lt_range
 rcases zcY.mp O with e | e
 ·omega
 ·have:=(List.pairwise_cons.mp hs).1 i e;omega
theorem QF{q:Nat->Bool}{n:Nat}(h:(zcP n).filter q=[]) : ∀i,i<n->q i=false:=λi hi=>by
 apply zeR;intro y;have:i∈(zcP n).filter q:=zdW.mpr ⟨zc1.mpr hi,by simpa using y⟩;rw [h]at this;simp at this
theorem Zm{p x:Int}(I:Pr p)(O:0<x)(h1:x<p) : ∃y,F_inverse [.int p,.int x]=some (.val (.int y))/\1<=y/\y<p/\x*y%p=1:=by
 rcases I with rfl | rfl | rfl | rfl
 ·have:x=1:=by omega
  subst this;exact⟨1,rfl,by decide,by decide,by decide⟩
 ·have:x=1\/x=2:=by omega
  rcases this with rfl | rfl
  ·exact⟨1,rfl,by decide,by decide,by decide⟩
  ·exact⟨2,rfl,by decide,by decide,by decide⟩
 ·have:x=1\/x=2\/x=3\/x=4:=by omega
  rcases this with rfl | rfl | rfl | rfl
  ·exact⟨1,rfl,by decide,by decide,by decide⟩
  ·exact⟨3,rfl,by decide,by decide,by decide⟩
  ·exact⟨2,rfl,by decide,by decide,by decide⟩
  ·exact⟨4,rfl,by decide,by decide,by decide⟩
 ·have:x=1\/x=2\/x=3\/x=4\/x=5\/x=6:=by omega
  rcases this with rfl | rfl | rfl | rfl | rfl | rfl
  ·exact⟨1,rfl,by decide,by decide,by decide⟩
  ·exact⟨4,rfl,by decide,by decide,by decide⟩
  ·exact⟨5,rfl,by decide,by decide,by decide⟩
  ·exact⟨2,rfl,by decide,by decide,by decide⟩
  ·exact⟨3,rfl,by decide,by decide,by decide⟩
  ·exact⟨6,rfl,by decide,by decide,by decide⟩
theorem yt{p:Int}(I:Pr p){n t:Nat}(hn:n<=lim)(y:t<n)(w P:Nat->Int)(hw : ∀i,i<n->0<=w i/\w i<p) :
 F_cleared [.int p,.tup (zx n w),.tup (zx n P),.int t]=some (.val (.tup (zx n λi=>(w i - w t*P i)%p))):=by
 have Y:=hw t y;have a0:=I.le;have U : ∀x,yp (w t) x=true:=λx=>xL _ _ ⋯ ⋯;by_cases O:w t=0
 ·simp [F_cleared,jO,jr,j4,y,O]
  apply wc;intro i hi;rw [zew (hw i hi).1 (hw i hi).2]
 ·simp [F_cleared,jO,jr,j4,y,O,kc,hn,jy,xo,zcS]
  rw [zA (r:=λi=>D.int (w i - w t*P i))]
  ·rw [<- zY]
   simp [k4 _ I.pos hn]
  ·intro i hi
   refine zD rfl rfl ?_;simp [U]
theorem Ve{l:Nat->Nat}{r t:Nat}(hm : ∀k m,k<m->m<r->l k<l m)(y : ∀k,k<r->l k<t):r<=t:=by
 have I : ∀k,k<r->k<=l k:=by
  intro k
  induction k with
  | zero=>intro _;exact zef _
  | succ k O=>
   intro U;have h1:=O ⋯;have h2:=hm k (k+1) ⋯ U;omega
 cases r with
 | zero=>exact zef _
 | succ r=>
  have h1:=I r ⋯;have h2:=y r ⋯;omega
def yG:CO Fl:=(zU (jh 6 (jA (zV (zW (zh 3)) (.nm 0) 1 [5] (sB (zy dNe (sIx (zh 0) (ze 1)) (zu (.int 0)))) (ze 0)))) (zU (sIf (j8 (XE (zh 6))) XI jt) (zU (jh 7 (zw F_inverse (zb (ze 0) (zb (sIx (zt (sIx (zh 6) (zu (.int 0)))) (ze 5)) zB)))) (zU (jh 8 (zw F_rests (zb (ze 0) (zb (jA (zV (zW (zt (sIx (zh 6) (zu (.int 0))))) (.nm 0) 1 [7] js (zy qK (ze 1) (ze 0)))) zB)))) (zU (jh 3 (jA (zV (zW (zh 3)) (.nm 0) 1 [0,5,8] js (zw F_cleared (zb (ze 1) (zb (ze 0) (zb (ze 3) (zb (ze 2) zB)))))))) (qw 4 (XJ (jw (zV (zW (zh 4)) (.nm 0) 1 [0,5,8] js (zw F_cleared (zb (ze 1) (zb (ze 0) (zb (ze 3) (zb (ze 2) zB))))))) (jw (qc (zb (ze 8) zB))))))))))
def Un(r:Nat)(B:Nat->Vc)(m:Nat)(W:Nat->Vc):Vc->Prop:=λv=>Fam r B v\/Fam m W v
structure BInv(p:Int)(n m:Nat)(W:Nat->Vc)(t r:Nat)(B:Nat->Vc)(l:Nat->Nat)(Wt:Nat->Vc):Prop where
 rng : ∀j i,j<m->i<n->0<=Wt j i/\Wt j i<p
 zer : ∀j i,j<m->i<t->Wt j i=0
 isb:IsB p n r B l
 lt : ∀k,k<r->l k<t
 span : ∀v,Span p n (Un r B m Wt) v↔Span p n (Fam m W) v
section
variable{p:Int}{n m:Nat}{W:Nat->Vc}{t r:Nat}{B:Nat->Vc}{l:Nat->Nat}{Wt:Nat->Vc}
theorem BInv.skip(h:BInv p n m W t r B l Wt)(hz : ∀j,j<m->Wt j t=0):BInv p n m W (t+1) r B l Wt:=
 ⟨h.rng,λj i y hi=>by
  rcases zfq i t with q | q
  ·exact h.zer j i y q
  ·have:i=t:=by omega
   subst this;exact hz j y,h.isb,λk I=>zdB (h.lt k I),h.span⟩
def clr(p:Int)(P:Vc)(t:Nat)(w:Vc):Vc:=λi=>(w i - w t*P i)%p
def JM(p:Int)(P:Vc)(t r:Nat)(B:Nat->Vc):Nat->Vc:=λk=>if k<r then clr p P t (B k)else P
def K1(t r:Nat)(l:Nat->Nat):Nat->Nat:=λk=>if k<r then l k else t
theorem Jk{G:Vc->Prop}{P w:Vc}(y:Span p n G P)(hw:Span p n G w):Span p n G (clr p P t w):=
 (y.add hw (-(w t))).congr λi _=>by unfold clr;rw [zek];congr 1;rw [Int.neg_mul];omega
theorem KG{G:Vc->Prop}{P w:Vc}(y:Span p n G P)(hw:Span p n G (clr p P t w)):Span p n G w:=
 (y.add hw (w t)).congr λi _=>by
   unfold clr;rw [zdS,zek,<- zdS];congr 1;omega
theorem BInv.next(hp:Pr p)(h:BInv p n m W t r B l Wt)(ht:t<n){Y:Nat}(aa:Y<m){y:Int}(hy:Wt Y t*y%p=1){P:Vc}(hP : ∀i,i<n->P i=y*Wt Y i%p) :
 BInv p n m W (t+1) (r+1) (JM p P t r B) (K1 t r l) (λj=>clr p P t (Wt j)):=by
 have p0:=hp.pos;have one:=hp.one;have Pt:P t=1:=by rw [hP t ht,zeE];exact hy
 have Pz : ∀i,i<t->P i=0:=λi hi=>by rw [hP i ⋯,h.zer Y i aa hi];simp
 have ah : ∀i,i<n->0<=P i/\P i<p:=λi hi=>by rw [hP i hi];exact⟨zdQ _ ⋯,zdE _ p0⟩
 have cr : ∀(w:Vc) i,0<=clr p P t w i/\clr p P t w i<p:=λw i=>⟨zdQ _ ⋯,zdE _ p0⟩;have a1 : ∀(w:Vc) i,i<t->0<=w i->w i<p->clr p P t w i=w i:=λw i hi h1 h2=>by
  unfold clr;rw [Pz i hi,zd6,Int.sub_zero];exact zew h1 h2
 have ct : ∀w:Vc,clr p P t w t=0:=λw=>by unfold clr;rw [Pt,zfB,Int.sub_self];simp
 refine⟨λj i O hi=>cr _ _,λj i O hi=>?_,⟨λk I=>?_,λk q ai hq=>?_,λk I=>?_,λk j I O=>?_,λk q I hq ak=>?_,λk i I hi=>?_⟩,λk I=>?_,λv=>?_⟩
 ·rcases zfq i t with q | q
  ·have e:=h.zer j i O q
   rw [a1 _ i q ⋯ ⋯];exact e
  ·have:i=t:=by omega
   subst this;exact ct _
 ·unfold K1;split
  ·rename_i q;exact h.isb.lt k q
  ·exact ht
 ·unfold K1
  have I:k<r:=by omega
  rw [if_pos I];split
  ·rename_i z;exact h.isb.mono k q ai z
  ·exact h.lt k I
 ·unfold K1 JM;split
  ·rename_i q
   have e:=h.isb.one k q;have hl:=h.lt k q;rw [a1 _ _ hl ⋯ (by have:=hp.two;omega)];exact e
  ·exact Pt
 ·unfold JM;unfold K1 at O;split at O
  ·rename_i q
   have e:=h.isb.bef k j q O;have hl:=h.lt k q;rw [if_pos q,a1 _ _ ⋯ ⋯ ⋯];exact e
  ·rename_i q
   rw [if_neg q];exact Pz j O
 ·unfold JM K1
  by_cases z1:k<r
  ·rw [if_pos z1]
   by_cases U:q<r
   ·rw [if_pos U]
    have e:=h.isb.oth k q z1 U ak;have hl:=h.lt q U;rw [a1 _ _ hl ⋯ ⋯];exact e
   ·rw [if_neg U];exact ct _
  ·rw [if_neg z1]
   have U:q<r:=by omega
   rw [if_pos U];exact Pz _ (h.lt q U)
 ·unfold JM;split
  ·exact cr _ _
  ·exact ah i hi
 ·unfold K1;split
  ·rename_i q;exact zdB (h.lt k q)
  ·exact zdR _
 ·rw [<- h.span v]
  have a6:Span p n (Un r B m Wt) P:=((Span.gen (p:=p) (n:=n) (G:=Un r B m Wt) (g:=Wt Y) (.inr ⟨Y,aa,rfl⟩)).smul y).congr λi hi=>by rw [hP i hi,zek]
  have af:Span p n (Un (r+1) (JM p P t r B) m λj=>clr p P t (Wt j)) P:= .gen (.inl ⟨r,zdR r,by unfold JM;rw [if_neg (zdN r)]⟩);constructor
  ·refine λhv=>hv.le λg hg=>?_
   rcases hg with⟨k,I,rfl⟩ | ⟨j,O,rfl⟩
   ·unfold JM;split
    ·rename_i q;exact Jk a6 (.gen (.inl ⟨k,q,rfl⟩))
    ·exact a6
   ·exact Jk a6 (.gen (.inr ⟨j,O,rfl⟩))
  ·refine λhv=>hv.le λg hg=>?_
   rcases hg with⟨k,I,rfl⟩ | ⟨j,O,rfl⟩
   ·refine KG (t:=t) af (.gen (.inl ⟨k,zdB I,?_⟩))
    unfold JM;rw [if_pos I]
   ·exact KG (t:=t) af (.gen (.inr ⟨j,O,rfl⟩))
theorem BInv.done(h:BInv p n m W n r B l Wt)(v:Vc):Span p n (Fam r B) v↔Span p n (Fam m W) v:=by
 rw [<- h.span v];constructor
 ·exact λI=>I.le λg y=> .gen (.inl y)
 ·refine λI=>I.le λg y=>?_
  rcases y with y | ⟨j,O,rfl⟩
  ·exact .gen y
  ·exact .zero λi hi=>by rw [h.zer j i O hi];simp
theorem QZ(I:True)(P:Vc):jN (r+1) n (JM p P t r B)=jN r n (λk=>clr p P t (B k))++[.tup (zx n P)]:=by
 unfold jN;rw [zeq,zdX];congr 1
 ·apply zdA
  intro k y;have:=zc1.mp y;simp [JM,this]
 ·simp [JM]
end
theorem Zn{p:Int}(hp:Pr p){n m:Nat}(hn:n<=100)(hm:m<=lim)(kk:Sk)(W:Nat->Vc) :
 ∃r B l,F_base_of [.int p,.int n,dsq kk (jN m n W)]=some (.own (jN r n B))/\IsB p n r B l/\∀v,Span p n (Fam r B) v↔Span p n (Fam m W) v:=by
 have hl:=jB;have a2:n<=lim:=by omega
 have p0:=hp.pos;have ab:=kY (T:= .nm 5) (F:=yG)
  (λt γ=>∃r B l Wt c5 c6 c7 c8,γ=[.val (.int p),.val (.int n),.val (dsq kk (jN m n W)),.val (.lst (jN m n Wt)),.own (jN r n B),c5,c6,c7,c8]/\BInv p n m W t r B l Wt)
  ((zcP n).map λ(i:Nat)=>D.int i) 0 [.val (.int p),.val (.int n),.val (dsq kk (jN m n W)),.val (.lst (jN m n λj i=>W j i%p)),.own [],.no,.no,.no,.no]
  ⟨0,λ_ _=>0,λ_=>0,λj i=>W j i%p,.no,.no,.no,.no,rfl,λj i _ _=>⟨zdQ _ ⋯,zdE _ p0⟩,λj i _ hi=>absurd hi (zdM _),
   ⟨λk O=>absurd O (zdM _),λk q _ O=>absurd O (zdM _),λk O=>absurd O (zdM _),λk j O=>absurd O (zdM _),λk q O=>absurd O (zdM _),λk i O=>absurd O (zdM _)⟩,
   λk O=>absurd O (zdM _),λv=>⟨λhv=>hv.le λg hg=>by
    rcases hg with⟨k,O,_⟩ | ⟨j,Y,rfl⟩
    ·exact absurd O (zdM _)
    ·exact(Span.gen (p:=p) (n:=n) (G:=Fam m W) (g:=W j) ⟨j,Y,rfl⟩).congr λi _=>zek _ _,λhv=>hv.le λg hg=>by
    obtain⟨j,Y,rfl⟩:=hg;exact(Span.gen (p:=p) (n:=n) (G:=Un 0 (λ_ _=>0) m λj i=>W j i%p) (g:=λi=>W j i%p) (.inr ⟨j,Y,rfl⟩)).congr λi _=>(zek _ _).symm⟩⟩ (by
   rintro t d γ hd ⟨r,B,l,Wt,c5,c6,c7,c8,rfl,U⟩;rw [zc0]at U ⊢;have ht:t<n:=by have:=(zc9.mp hd).1;simpa using this
   have ac:d = .int t:=by simp [ht]at hd;exact hd.symm
   subst ac;have a4:ji (.nm 0) (sB (zy dNe (sIx (zh 0) (ze 1)) (zu (.int 0)))) (ze 0) [Cell.no,Cell.val (.int t)] (jN m n Wt)=some (((zcP m).filter λj=> !decide (Wt j t=0)).map λj=>D.tup (zx n (Wt j))):=by
    unfold jN;refine xG _ _ _ λj Y=>⟨_,rfl,?_,λ_=>rfl⟩;simp [ht]
   have hr:r<=t:=Ve U.isb.mono U.lt;have ae:r<=lim:=by omega
   cases hf:(zcP m).filter λj=> !decide (Wt j t=0)with
   | nil=>
    have hz : ∀j,j<m->Wt j t=0:=λj Y=>by
     apply zeR;intro a8;have:j∈(zcP m).filter λj=> !decide (Wt j t=0):=zdW.mpr ⟨zc1.mpr Y,by simp [a8]⟩;rw [hf]at this;simp at this
    rw [hf]at a4;refine⟨_,.inr ?_,r,B,l,Wt,.val (.int t),.val (.lst []),c7,c8,rfl,U.skip hz⟩;simp only [yH,zcL,zcR,zcQ,yG];rw [j4];simp [j4,jy,xo,zcS,a4,hm]
   | cons I xA=>
    have a9:I∈(zcP m).filter λj=> !decide (Wt j t=0):=by rw [hf];exact zdm
    have aa:I<m:=zc1.mp (zdW.mp a9).1;have a8:Wt I t≠0:=by simpa using (zdW.mp a9).2
    have af:=U.rng I t aa ht;obtain⟨y,ey,y1,y2,yy⟩:=Zm hp (x:=Wt I t) ⋯ af.2;rw [hf]at a4;have nx:=U.next hp ht aa yy (P:=λi=>y*Wt I i%p) λi _=>rfl;refine⟨_,.inl ?_,r+1,JM p (λi=>y*Wt I i%p) t r B,K1 t r l,λj=>clr p (λi=>y*Wt I i%p) t (Wt j),.val (.int t),.val (.lst ((I::xA).map λj=>D.tup (zx n (Wt j)))),.val (.int y),.val (.tup (zx n λi=>y*Wt I i%p)),rfl,nx⟩;have av:=hp.le;have cy : ∀x,yp y x=true:=λx=>xL _ _ ⋯ ⋯;have aj:ji (.nm 0) js (zy qK (ze 1) (ze 0)) [Cell.no,Cell.val (.int y)] (zx n (Wt I))=some (zx n λi=>y*Wt I i):=by
     rw [zY,zY];refine zA _ _ λi hi=>zD rfl rfl ?_;simp [cy]
    have ak:ji (.nm 0) js (zw F_cleared (zb (ze 1) (zb (ze 0) (zb (ze 3) (zb (ze 2) zB))))) [Cell.no,Cell.val (.int p),Cell.val (.int t),Cell.val (.tup (zx n λi=>y*Wt I i%p))] (jN m n Wt)=some (jN m n λj=>clr p (λi=>y*Wt I i%p) t (Wt j)):=by
     unfold jN;refine zA _ _ λj Y=>zD rfl rfl ?_;simp [yt hp a2 ht (Wt j) (λi=>y*Wt I i%p) λi hi=>U.rng j i (zc1.mp Y) hi];rfl
    have am:ji (.nm 0) js (zw F_cleared (zb (ze 1) (zb (ze 0) (zb (ze 3) (zb (ze 2) zB))))) [Cell.no,Cell.val (.int p),Cell.val (.int t),Cell.val (.tup (zx n λi=>y*Wt I i%p))] (jN r n B)=some (jN r n λj=>clr p (λi=>y*Wt I i%p) t (B j)):=by
     unfold jN;refine zA _ _ λj Y=>zD rfl rfl ?_;simp [yt hp a2 ht (B j) (λi=>y*Wt I i%p) λi hi=>U.isb.rng j i (zc1.mp Y) hi];rfl
    have an:r+1<=lim:=by omega
    rw [QZ trivial];simp only [yH,zcL,zcR,zcQ,yG];rw [j4];simp [j4,jy,xo,zcS,a4,hm,a2,ht,ey,aj,k4 _ p0 a2,ak,am,ae,an])
 obtain⟨γ',e1,r,B,l,Wt,c5,c6,c7,c8,rfl,U⟩:=ab;simp only [zdY,ze9,zc0]at U;refine⟨r,B,l,?_,U.isb,U.done⟩;have ao:ji (.nm 0) js (zw F_rests (zb (ze 1) (zb (ze 0) zB))) [Cell.no,Cell.val (.int p)] (jN m n W)=some (jN m n λj i=>W j i%p):=by
  unfold jN;refine zA _ _ λj Y=>zD rfl rfl ?_;simp [Xl _ p0 a2]
 have e0:F_base_of [.int p,.int n,dsq kk (jN m n W)]=jO 9 (zU (jh 3 (jA (zV (zW (zh 2)) (.nm 0) 1 [0] js (zw F_rests (zb (ze 1) (zb (ze 0) zB)))))) (zU (qw 4 (qc zB)) (zU (qV (zJ (ze 1)) (.nm 5) yG) (xT 4)))) [.int p,.int n,dsq kk (jN m n W)]:=rfl;rw [e0];simp [jO,jr,j4,hm,jy,xo,zcS,ao,a2,jL];rw [zY n λi=>(i:Int),e1];simp
section
variable{p:Int}{n m r h w:Nat}
theorem Z1{l:Nat->Nat}(h:Nat) : ∀{r:Nat},(∀k m,k<m->m<r->l k<l m)->∃s,s<=r/\(∀k,k<s->l k<h)/\∀k,s<=k->k<r->h<=l k
 | 0,_=>⟨0,zcZ _,λk y=>absurd y (zdM _),λk _ y=>absurd y (zdM _)⟩
 | r+1,hm=>by
  obtain⟨s,h1,h2,I⟩:=Z1 h (r:=r) λk m y O=>hm k m y ⋯;by_cases e:l r<h
  ·refine⟨r+1,zcZ _,λk y=>?_,λk h1 h2=>by omega⟩
   rcases zfq k r with z | z
   ·have:=hm k r z ⋯;omega
   ·have:k=r:=by omega
    subst this;exact e
  ·refine⟨s,by omega,h2,λk y U=>?_⟩
   rcases zfq k r with z | z
   ·exact I k y z
   ·have:k=r:=by omega
    subst this;omega
end
@[simp] theorem zbG(γ:Ctx)(f g):YG f g γ=((f γ).bind asI).bind λi=>((g γ).bind asI).map λj=> .int (if j<i then j else i):=rfl
theorem Yj{a b:Bool}(h:wch a=wch b):a=b:=by cases a<;>cases b<;>first | rfl | exact absurd h ⋯
def KB(m m':Nat)(w w':Nat->Bool):Prop:=m=m'/\∀k,k<m->w k=w' k
instance (m m':Nat) (w w':Nat->Bool):Decidable (KB m m' w w'):=inferInstanceAs (Decidable (m=m'/\∀k,k<m->w k=w' k))
theorem Yk{m m':Nat}{w w':Nat->Bool}:j7 m w=j7 m' w'↔KB m m' w w':=by
 constructor
 ·intro h
  have h1:=qT m w;rw [h,qT]at h1;have I:m=m':=by have:=congrArg List.length h1;simpa using this.symm
  subst I;refine⟨rfl,λk y=>?_⟩;have:=congrArg (λl=>l[k]?) h1;simp [y]at this;exact(Yj this).symm
 ·rintro⟨rfl,h⟩
  unfold j7;rw [zdA λk y=>by rw [h k (zc1.mp y)]]
theorem QC(m w):okD (.str (j7 m w))=true:=by
 refine WT (n:=0) (by simp [deep]) ⋯ ?_;show(j7 m w).cps.all (· < 0x110000)=true;rw [<- Array.all_toList,qT];simp only [zdr];intro c y;obtain⟨k,_,rfl⟩:=zfO.mp y;unfold wch;split<;>decide
section
variable{p p':Int}{m m':Nat}{w w':Nat->Bool}{wd wd':Nat->Nat}{T T':Nat->Nat->Nat->Int}
theorem Zy:jE (zO p m w wd T)=some (.T,[.int p,.tup (zx (m+1) λk=>(wd k:Int)),.tup (qI m w wd T)]):=rfl
theorem Vz(k):jE (VA w wd T k)=some (.T,[.str (kh (wch (w k))),jD (hiW w wd k) (wiW w wd k) (T k)]):=rfl
theorem J4:ji (.nm 0) js (sIx (zh 0) (zu (.int 0))) [Cell.no] (qI m w wd T)=some ((zcP m).map λk=>D.str (kh (wch (w k)))):=by
 unfold qI;refine zA _ _ λk y=>zD rfl rfl ?_;simp [Vz]
theorem ka(hm:m<=900):F_ways_of [zO p m w wd T]=some (.val (.str (j7 m w))):=by
 have U:=jB;have y:m<=lim:=by omega
 have st:wD ((zcP m).map λk=>D.str (kh (wch (w k))))=some ((zcP m).map λk=>kh (wch (w k))):=vR _ _;have I:((zcP m).map λk=>kh (wch (w k))).all jF=true:=by
  simp only [zdr];intro x O;obtain⟨k,_,rfl⟩:=zfO.mp O;unfold wch;split<;>decide
 have s0:jF "" = true:=by decide +kernel
 simp only [F_ways_of,jO,jr];simp only [xM,VE,jf,xf,jK,jU,z7,jT,zI,zdn,zfl,zcU,zcW,zcS,zei,zcJ,zo,Zy,zcL,zcN,zM,ix2,zcK,zai,Nat.sub_self,zc0];rw [Zi,if_pos y,show jy 1 [] [Cell.val (zO p m w wd T)]=[Cell.no]from rfl,J4];simp only [zcN,zcL,st];rw [if_pos ⟨by simpa using y,I,s0⟩];rfl
theorem wt(hm:m<=900)(I:m'<=900):F_one_kind [zO p m w wd T,zO p' m' w' wd' T']=some (.val (.bl (decide (p=p'/\KB m m' w w')))):=by
 have y:=ka (p:=p) (wd:=wd) (T:=T) (w:=w) hm;have O:=ka (p:=p') (wd:=wd') (T:=T') (w:=w') I;have d:dEq (.str (j7 m w)) (.str (j7 m' w'))=some (.bl (decide (KB m m' w w'))):=by
  unfold dEq;rw [if_pos ⟨QC m w,QC m' w'⟩];congr 2;rw [zeV];simp only [eqD,eqS,beq_iff_eq,decide_eq_true_eq];exact Yk
 by_cases q:p=p'
 ·simp [F_one_kind,jO,jr,Zy,q,y,O,d]
  subst q;simp [y,d]
 ·simp [F_one_kind,jO,jr,Zy,q]
end
section ap
variable(γ:Ctx)
@[simp] theorem zaK(f):vD f γ=(f γ).bind λd=>match d with
 | .str z=>if jF z=true then some (qx (qO z))else none
 | _=>none:=rfl
@[simp] theorem zaL(f):wI f γ=(f γ).bind λd=>match d with
 | .lst ds=>some (qx ds)
 | _=>none:=rfl
end ap
section
variable{p p':Int}{m m':Nat}{w w':Nat->Bool}{wd wd':Nat->Nat}{T T':Nat->Nat->Nat->Int}
theorem Xe(hm:m<=900):kC [zO p m w wd T,zO p m w wd' T']=none/\F_ask_one_kind [zO p m w wd T,zO p m w wd' T']=some (.val .non):=by
 have k1:=wt (p:=p) (p':=p) (w:=w) (w':=w) (wd:=wd) (wd':=wd') (T:=T) (T':=T') hm hm;rw [decide_eq_true ⟨rfl,rfl,λ_ _=>rfl⟩]at k1;constructor
 ·simp [kC,zbU,jr,zcd,xIf,zbR,xNo,k1,zcS]
 ·simp [F_ask_one_kind,jO,jr,k1,zcS]
end
section
variable{p:Int}{m:Nat}{w:Nat->Bool}{wd:Nat->Nat}{T:Nat->Nat->Nat->Int}{a:Nat}
abbrev lk(p:Int)(m:Nat)(w:Nat->Bool)(wd:Nat->Nat)(T:Nat->Nat->Nat->Int)(i j:Int)(a:Nat)(ds:List D)(c:Cell):Ctx:=[.val (zO p m w wd T),.val (.int i),.val (.int j),.val (jD a a λi j=>if i=j then 1 else 0),.own ds,c]
end
@[simp] theorem VM(r):xo (.nest r) = .no:=rfl
@[simp] theorem WV(r):xo (.own r) = .no:=rfl
@[simp] theorem WU(d):xo (.val d) = .val d:=rfl
@[simp] theorem zaw:xo .no = .no:=rfl
def jS(w:Nat->Bool)(k:Nat):Nat:=if w k then k+1 else k
def jJ(w:Nat->Bool)(k:Nat):Nat:=if w k then k else k+1
theorem kD(w:Nat->Bool)(k:Nat):F_beginning_of [.int k,.str (kh (wch (w k)))]=some (.val (.int (jS w k:Nat))):=by
 have q:=ZN (w k);cases h:w k<;>rw [h]at q<;>simp [F_beginning_of,jO,jr,jS,q,h]
theorem Jo(w:Nat->Bool)(k:Nat):F_end_of [.int k,.str (kh (wch (w k)))]=some (.val (.int (jJ w k:Nat))):=by
 have q:=ZN (w k);cases h:w k<;>rw [h]at q<;>simp [F_end_of,jO,jr,jJ,q,h]
section
variable{p:Int}{m:Nat}{w:Nat->Bool}{wd:Nat->Nat}{f g T:Nat->Nat->Nat->Int}
theorem JR(m:Nat)(F:Nat->D):qx ((zcP m).map F)=(zcP m).map λ(k:Nat)=>D.tup [.int k,F k]:=by
 unfold qx;rw [zdY,ze9];apply zdA;intro k y;have y:=zc1.mp y;simp [y]
end
@[simp] theorem zal(γ:Ctx)(f):vD f γ=(f γ).bind λd=>match d with
 | .str z=>if jF z=true then some (qx (qO z))else none
 | _=>none:=rfl
theorem vK(m:Nat)(w:Nat->Bool):qx (qO (j7 m w))=(zcP m).map λ(k:Nat)=>D.tup [.int k,.str (kh (wch (w k)))]:=by
 have e:qO (j7 m w)=(zcP m).map λk=>D.str (kh (wch (w k))):=by
  unfold qO;rw [qT,zfP];rfl
 unfold qx;rw [e];simp only [zdY,ze9];refine zdA λk y=>?_;simp [zc1.mp y]
def pr(a b:Nat):D:= .tup [.int a,.int b]
@[simp] theorem zbX(a b):jE (pr a b)=some (.T,[.int (a:Int),.int (b:Int)]):=rfl
section
variable{m a b c d:Nat}{w:Nat->Bool}
theorem qJ(hm:m<=5){k:Nat}(y:k<m):F_law_ends [.str (j7 m w),.int k]=some (.val (.tup [.int ((jS w k:Nat):Int),.int ((jJ w k:Nat):Int)])):=by
 have I:kw (ze 0) (ze 1) [Cell.val (.str (j7 m w)),Cell.val (.int k)]=some (.str (kh (wch (w k)))):=wE w ⋯ y _ _ _ rfl rfl;simp only [F_law_ends,jO,jr,j4,zcS,zcU,zcW];simp [-wp,I,ZN];cases h:w k<;>simp [h,jS,jJ]
end
def mk(lo:Nat)(ch:List Int)(r:Nat):Int:=if lo<=r then ch.getD (r - lo) 0 else 0
theorem VS{c:Int}(hc:0<=c){m:Nat}(hm:m<=5) : ∃w,F_law_ways_k38 [.int c,.int (1+(m:Int))]=some (.val (.str (j7 m w))):=by
 have hl:=jB;have y:m<=lim:=by omega
 refine⟨λk=>decide (c/2 ^ k%2=1),?_⟩;have O:ji (.nm 0) js (kw (zu (.str "rl")) (zy qL (zy kJ (ze 1) (sIx (jw (qc (zb (zu (.int 1)) (zb (zu (.int 2)) (zb (zu (.int 4)) (zb (zu (.int 8)) (zb (zu (.int 16)) zB))))))) (ze 0))) (zu (.int 2)))) [Cell.no,Cell.val (.int c)] ((zcP m).map λi:Nat=>D.int (i:Int)) =
  some ((zcP m).map λ(k:Nat)=>D.str (kh (wch (decide (c/2 ^ k%2=1))))):=by
  refine zA _ _ λk I=>zD rfl rfl ?_;have I:=zc1.mp I;have U:zy qL (zy kJ (ze 1) (sIx (jw (qc (zb (zu (.int 1)) (zb (zu (.int 2)) (zb (zu (.int 4)) (zb (zu (.int 8)) (zb (zu (.int 16)) zB))))))) (ze 0))) (zu (.int 2)) [Cell.val (.int k),Cell.val (.int c)]=some (.int (c/2 ^ k%2)):=by
   have Y:k=0\/k=1\/k=2\/k=3\/k=4:=by omega
   rcases Y with rfl | rfl | rfl | rfl | rfl<;>simp [jE,ixD]
  show kw _ _ [Cell.val (.int k),Cell.val (.int c)]=_;rw [wp,U];have q:c/2 ^ k%2=0\/c/2 ^ k%2=1:=by omega
  rcases q with q | q
  ·rw [q];rfl
  ·rw [q];rfl
 have all1:((zcP m).map λ(k:Nat)=>kh (wch (decide (c/2 ^ k%2=1)))).all jF=true:=by
  rw [List.all_map];exact zdr.mpr λk _=>by
   show jF (kh _)=true;rfl
 have sm:jF ("" : Str)=true:=rfl;have e1:(1:Int)+(m:Int) - 1=(m:Int):=by omega
 simp [F_law_ways_k38,jO,jr,j4,e1,y,jL,jy,xo,zcS];rw [zY m λi=>(i:Int)];rw [O];simp only [zcN,zcL,Function.comp];rw [vR];simp only [zcL];rw [if_pos ⟨by simpa using y,zdr.mp all1,sm⟩];rfl
theorem ZQ(xs:List D)(n:Nat)(hn:xs.length=n)(a6 : ∀i (h:i<n),∃z,xs[i]'(hn ▸ h) = .int z)(av:n<=63)(k:Int)(hk:0<=k)(aw:k<100000) :
 ∃m,F_law_cell_44 [.lst xs,.int k]=some (.val (.int m))/\0<=m/\m<1000000007:=by
 have I : ∀x:Int,yp x 48271=true:=λx=>yo _ _ ⋯ ⋯;have O : ∀x:Int,yp 7 x=true:=λx=>xL _ _ ⋯ ⋯;have U : ∀x:Int,yp 13 x=true:=λx=>xL _ _ ⋯ ⋯;have c4 : ∀x:Int,yp x 69621=true:=λx=>yo _ _ ⋯ ⋯;have c5:yp (7*k) k=true:=yo _ _ ⋯ ⋯;have y:zag 10 9=true:=by decide
 have Y:zag 10 30=true:=by decide
 have hl:lim=2500:=rfl;by_cases ah:n=0
 ·subst ah
  have e0:xs=[]:=zdd hn;subst e0;simp [F_law_cell_44,jO,jr,j4,I,O,U,c4,c5,y,Y];omega
 ·have hp:0<n:=by omega
  obtain⟨i,hi⟩:=zfg (zdQ k (show(n:Int)≠0 by omega));have a4:i<n:=by have:=zdE k (show(0:Int)<n by omega);omega
  obtain⟨zi,ei⟩:=a6 i a4;have ii:ixD n (i:Int)=some i:=by rw [je,if_pos a4]
  by_cases h1:n=1
  ·subst h1
   have i0:i=0:=by omega
   subst i0;have k1:k%1=0:=by omega
   simp [F_law_cell_44,jO,jr,j4,I,O,U,c4,c5,y,Y,hn,ei];omega
  ·obtain⟨z0,e0⟩:=a6 0 hp
   have i0:ixD n 0=some 0:=by have:=je n 0;rw [if_pos hp]at this;exact this
   have q1:(0:Int)<(n:Int) - 1:=by omega
   have q2:(1:Int)<(n:Int):=by omega
   have a9:1<n:=by omega
   have q3:(n:Int) - 1<1073741824:=by omega
   have q4:(0:Int)<(n:Int):=by omega
   obtain⟨j,hj⟩:=zfg (zdQ k (show(n:Int) - 1≠0 by omega));have aa:1+j<n:=by have:=zdE k q1;omega
   obtain⟨zj,ej⟩:=a6 (1+j) aa;have ij:ixD n (1+(j:Int))=some (1+j):=by
    have:=je n (1+j);rw [if_pos aa]at this;rw [<- this];congr 1
   have hd:0<=k/((n:Int) - 1)/\k/((n:Int) - 1)<=k:=⟨Int.ediv_nonneg hk ⋯,Int.ediv_le_self _ hk⟩;obtain⟨t,ht⟩:=zfg hd.1;by_cases ha:z0%2=1
   ·obtain⟨t',aq,az⟩ : ∃t':Nat,(if (t:Int)<60 then (t:Int)else 60)=t'/\t'<=60:=by
     split
     ·exact⟨t,rfl,by omega⟩
     ·exact⟨60,rfl,by omega⟩
    have ar:inR (t':Int)=true:=qP ⋯ ⋯;simp [F_law_cell_44,jO,jr,j4,I,O,U,c4,c5,hn,hp,aa,q2,a9,e0,i0,q1,q3,ha,hj,ij,ej,ht,y,Y];rw [aq,if_pos ar];simp only [zcL,jL,zdf];rw [zY t' λi=>(i:Int)];have as : ∀(m s:Nat) (v:Int) (c:Cell),∃v' c',qD (.nm 3) (jh 2 (zy kJ (ze 2) (zy Vo (zu (D.int 10)) (zu (D.int 9))))) ((zeB s m).map λ(i:Nat)=>D.int i) [.val (.lst xs),.val (.int k),.val (.int v),c,.no] =
     some (.next [.val (.lst xs),.val (.int k),.val (.int v'),c',.no]):=by
     intro m
     induction m with
     | zero=>intro s v c;exact⟨v,c,rfl⟩
     | succ m ih=>
      intro s v c;rw [zd2,zdn,jR];obtain⟨v',c',h⟩:=ih (s+1) (v/10 ^ 9) (.val (.int s));refine⟨v',c',?_⟩;rw [<- h];simp [y]
    obtain⟨v',c',h⟩:=as t' 0 zj .no;rw [<- zdJ]at h;rw [h];by_cases v0:0<v'
    ·simp [y,v0]
     omega
    ·simp [v0,j4,I,O,U,c4,c5,hn,q2,a9,q4,hp,e0,i0,hi,ei,a4,ii,y,Y]
     omega
   ·simp [F_law_cell_44,jO,jr,j4,I,O,U,c4,c5,hn,q2,a9,q4,hp,e0,i0,ha,hi,ei,a4,ii,y,Y]
    omega
theorem Q6(ns:List Int)(hn:ns.length<=63)(k:Int)(y:0<=k)(I:k<100000) : ∃m,F_law_cell_44 [xi ns,.int k]=some (.val (.int m))/\0<=m/\m<1000000007:=
 ZQ (ns.map D.int) ns.length ⋯ (λi hi=>⟨ns[i],by simp⟩) hn k y I
def qM(ns:List Int)(k:Int):Int:=match F_law_cell_44 [xi ns,.int k]with
 | some (.val (.int m))=>m
 | _=>0
theorem vj{ns:List Int}(hn:ns.length<=63){k:Int}(y:0<=k)(I:k<100000):F_law_cell_44 [xi ns,.int k]=some (.val (.int (qM ns k)))/\0<=qM ns k/\qM ns k<1000000007:=by
 obtain⟨m,h,h1,h2⟩:=Q6 ns hn k y I;have e:qM ns k=m:=by unfold qM;rw [h]
 rw [e];exact⟨h,h1,h2⟩
def jq(h w:Nat)(f:Nat->Nat->Int):List D:=(zcP h).map λi=>D.lst (zx w (f i))
@[simp] theorem xE(h w f):(jq h w f).length=h:=by simp [jq]
def jg(ns:List Int)(t p few:Int)(w i j:Nat):Int:=qM ns (t+(w:Int)*(i:Int)+(j:Int))/7%p*(if few<=qM ns (t+(w:Int)*(i:Int)+(j:Int))/64%3 then 1 else 0)
def QQ:CO Fl:=(zU (jh 10 (zw F_law_cell_44 (zb (ze 0) (zb (zy qb (zy qb (ze 1) (zy qK (ze 4) (ze 7))) (ze 9)) zB)))) (jP 8 (zy qK (zy qL (zy kJ (ze 10) (zu (.int 7))) (ze 2)) (XH (zy dGe (zy qL (zy kJ (ze 10) (zu (.int 64))) (zu (.int 3))) (ze 5))))))
def X6:CO Fl:=(zU (qw 8 (qc zB)) (zU (qV (zJ (ze 4)) (.nm 9) QQ) (Qf 8 (jP 6 (ze 8)))))
theorem J8{ns:List Int}(hn:ns.length<=63){t p few:Int}(ht:0<=t)(af:t<1000)(hp:0<p)(ag:p<10){h w:Nat}(hh:h<=10)(hw:w<=10) :
 F_law_table_44 [xi ns,.int t,.int p,.int h,.int w,.int few]=some (.own (jq h w (jg ns t p few w))):=by
 have hl:=jB;have a8 : ∀(i:Nat),i<10->∀(k s:Nat) (acc:Cell) (c9 c10:Cell),s+k=w->∃y I,qD (.nm 9) QQ ((zeB s k).map λ(i:Nat)=>D.int (i:Int)) [.val (xi ns),.val (.int t),.val (.int p),.val (.int h),.val (.int w),.val (.int few),acc,.val (.int (i:Int)),.own (zx s (jg ns t p few w i)),c9,c10]=some (.next [.val (xi ns),.val (.int t),.val (.int p),.val (.int h),.val (.int w),.val (.int few),acc,.val (.int (i:Int)),.own (zx w (jg ns t p few w i)),y,I]):=by
  intro i hi k
  induction k with
  | zero=>
   intro s acc c9 c10 e;obtain rfl:s=w:=by omega
   exact⟨c9,c10,rfl⟩
  | succ k Y=>
   intro s acc c9 c10 e;have aj:0<=(w:Int)*(i:Int)/\(w:Int)*(i:Int)<=100:=by
    have:w*i<=10*10:=Nat.mul_le_mul hw ⋯;constructor
    ·exact Int.mul_nonneg ⋯ ⋯
    ·have h2:((w*i:Nat):Int)<=100:=by omega
     rw [zeI]at h2;exact h2
   obtain⟨e1,e2,e3⟩:=vj hn (k:=t+(w:Int)*(i:Int)+(s:Int)) ⋯ ⋯;obtain⟨y,I,q⟩:=Y (s+1) acc (.val (.int (s:Int))) (.val (.int (qM ns (t+(w:Int)*(i:Int)+(s:Int))))) ⋯;refine⟨y,I,?_⟩;rw [<- q,zd2,zdn,jR];have cm:yp (w:Int) (i:Int)=true:=xL _ _ ⋯ ⋯;have al:s<lim:=by omega
   have dv:zx (s+1) (jg ns t p few w i)=zx s (jg ns t p few w i)++[.int (jg ns t p few w i s)]:=by
    unfold zx;rw [zeq,zdX];rfl
   have a1:qE (.nm 9) (.int (s:Int)) [.val (xi ns),.val (.int t),.val (.int p),.val (.int h),.val (.int w),.val (.int few),acc,.val (.int (i:Int)),.own (zx s (jg ns t p few w i)),c9,c10]=some [.val (xi ns),.val (.int t),.val (.int p),.val (.int h),.val (.int w),.val (.int few),acc,.val (.int (i:Int)),.own (zx s (jg ns t p few w i)),.val (.int (s:Int)),c10]:=rfl;have st:QQ [.val (xi ns),.val (.int t),.val (.int p),.val (.int h),.val (.int w),.val (.int few),acc,.val (.int (i:Int)),.own (zx s (jg ns t p few w i)),.val (.int (s:Int)),c10]=some (.next [.val (xi ns),.val (.int t),.val (.int p),.val (.int h),.val (.int w),.val (.int few),acc,.val (.int (i:Int)),.own (zx (s+1) (jg ns t p few w i)),.val (.int (s:Int)),.val (.int (qM ns (t+(w:Int)*(i:Int)+(s:Int))))]):=by
    have dl:(zx s (jg ns t p few w i)).length=s:=by simp [zx]
    unfold QQ;rw [dv];by_cases g:few<=qM ns (t+(w:Int)*(i:Int)+(s:Int))/64%3
    ·have a9 : ∀x:Int,yp x 1=true:=λx=>yo _ _ ⋯ ⋯
     simp [j4,e1,cm,hp,g,al,dl,a9,jg]
    ·have aa : ∀x:Int,yp x 0=true:=λx=>yo _ _ ⋯ ⋯
     simp [j4,e1,cm,hp,g,al,dl,aa,jg]
   rw [a1];simp only [zcL,st]
 have outer : ∀(k s:Nat) (c7 c8 c9 c10:Cell),s+k=h->∃a2 a3 y I,qD (.nm 7) X6 ((zeB s k).map λ(i:Nat)=>D.int (i:Int)) [.val (xi ns),.val (.int t),.val (.int p),.val (.int h),.val (.int w),.val (.int few),.own (jq s w (jg ns t p few w)),c7,c8,c9,c10]=some (.next [.val (xi ns),.val (.int t),.val (.int p),.val (.int h),.val (.int w),.val (.int few),.own (jq h w (jg ns t p few w)),a2,a3,y,I]):=by
  intro k
  induction k with
  | zero=>
   intro s c7 c8 c9 c10 e;obtain rfl:s=h:=by omega
   exact⟨c7,c8,c9,c10,rfl⟩
  | succ k Y=>
   intro s c7 c8 c9 c10 e;obtain⟨O,U,qi⟩:=a8 s ⋯ w 0 (.own (jq s w (jg ns t p few w))) c9 c10 ⋯;rw [<- zdJ]at qi;obtain⟨a2,a3,y,I,q⟩:=Y (s+1) (.val (.int (s:Int))) (.val (.lst (zx w (jg ns t p few w s)))) O U ⋯;refine⟨a2,a3,y,I,?_⟩;rw [<- q,zd2,zdn,jR];have al:s<lim:=by omega
   have ab:inR (w:Int)=true:=qP ⋯ ⋯;have dv:jq (s+1) w (jg ns t p few w)=jq s w (jg ns t p few w)++[.lst (zx w (jg ns t p few w s))]:=by
    unfold jq;rw [zeq,zdX];rfl
   have a1:qE (.nm 7) (.int (s:Int)) [.val (xi ns),.val (.int t),.val (.int p),.val (.int h),.val (.int w),.val (.int few),.own (jq s w (jg ns t p few w)),c7,c8,c9,c10]=some [.val (xi ns),.val (.int t),.val (.int p),.val (.int h),.val (.int w),.val (.int few),.own (jq s w (jg ns t p few w)),.val (.int (s:Int)),c8,c9,c10]:=rfl;have s1:(qw 8 (qc zB)) [.val (xi ns),.val (.int t),.val (.int p),.val (.int h),.val (.int w),.val (.int few),.own (jq s w (jg ns t p few w)),.val (.int (s:Int)),c8,c9,c10]=some (.next [.val (xi ns),.val (.int t),.val (.int p),.val (.int h),.val (.int w),.val (.int few),.own (jq s w (jg ns t p few w)),.val (.int (s:Int)),.own (zx 0 (jg ns t p few w s)),c9,c10]):=rfl;have s2:(qV (zJ (ze 4)) (.nm 9) QQ) [.val (xi ns),.val (.int t),.val (.int p),.val (.int h),.val (.int w),.val (.int few),.own (jq s w (jg ns t p few w)),.val (.int (s:Int)),.own (zx 0 (jg ns t p few w s)),c9,c10]=some (.next [.val (xi ns),.val (.int t),.val (.int p),.val (.int h),.val (.int w),.val (.int few),.own (jq s w (jg ns t p few w)),.val (.int (s:Int)),.own (zx w (jg ns t p few w s)),O,U]):=by
    rw [kB];simp only [qh,zH,zcJ,zcK,zg,zcL,zM,ab,if_true,zdf,jL];rw [zY w λi=>(i:Int)];exact qi
   have s3:(Qf 8 (jP 6 (ze 8))) [.val (xi ns),.val (.int t),.val (.int p),.val (.int h),.val (.int w),.val (.int few),.own (jq s w (jg ns t p few w)),.val (.int (s:Int)),.own (zx w (jg ns t p few w s)),O,U]=some (.next [.val (xi ns),.val (.int t),.val (.int p),.val (.int h),.val (.int w),.val (.int few),.own (jq (s+1) w (jg ns t p few w)),.val (.int (s:Int)),.val (.lst (zx w (jg ns t p few w s))),O,U]):=by
    rw [dv];simp [Qf,jX,al]
   rw [a1];simp only [zcL];rw [show X6 _=_ from zq s1 (zq s2 s3)];rfl
 obtain⟨c7,c8,c9,c10,q⟩:=outer h 0 .no .no .no .no ⋯;rw [<- zdJ]at q;have rh:inR (h:Int)=true:=qP ⋯ ⋯;have s1:(qw 6 (qc zB)) (jr 11 [xi ns,.int t,.int p,.int h,.int w,.int few])=some (.next [.val (xi ns),.val (.int t),.val (.int p),.val (.int h),.val (.int w),.val (.int few),.own (jq 0 w (jg ns t p few w)),.no,.no,.no,.no]):=rfl;have s2:(qV (zJ (ze 3)) (.nm 7) X6) [.val (xi ns),.val (.int t),.val (.int p),.val (.int h),.val (.int w),.val (.int few),.own (jq 0 w (jg ns t p few w)),.no,.no,.no,.no]=some (.next [.val (xi ns),.val (.int t),.val (.int p),.val (.int h),.val (.int w),.val (.int few),.own (jq h w (jg ns t p few w)),c7,c8,c9,c10]):=by
  rw [kB];simp only [qh,zH,zcJ,zcK,zg,zcL,zM,rh,if_true,zdf,jL];rw [zY h λi=>(i:Int)];exact q
 have s3:(xT 6) [.val (xi ns),.val (.int t),.val (.int p),.val (.int h),.val (.int w),.val (.int few),.own (jq h w (jg ns t p few w)),c7,c8,c9,c10]=some (.ret (.own (jq h w (jg ns t p few w)))):=rfl;rw [show F_law_table_44=jO 11 (zU (qw 6 (qc zB)) (zU (qV (zJ (ze 3)) (.nm 7) X6) (xT 6)))from rfl];exact jo (zq s1 (zq s2 s3))
theorem zG(ds:List D):jE (.lst ds)=some (.L,ds):=rfl
theorem zZ(ds:List D):jE (.tup ds)=some (.T,ds):=rfl
theorem xk{α:Type}(s:Nat)(f:Nat->α):(zcP (s+1)).map f=(zcP s).map f++[f s]:=by
 rw [zeq,zdX];rfl
theorem jp(w:Nat->Bool)(wd:Nat->Nat)(k:Nat):wd (jJ w k)=hiW w wd k:=by unfold jJ hiW;split<;>rfl
theorem jv(w:Nat->Bool)(wd:Nat->Nat)(k:Nat):wd (jS w k)=wiW w wd k:=by unfold jS wiW;split<;>rfl
theorem xp{w:Nat->Bool}{k m:Nat}(h:k<m):jJ w k<m+1:=by unfold jJ;split<;>omega
theorem xq{w:Nat->Bool}{k m:Nat}(h:k<m):jS w k<m+1:=by unfold jS;split<;>omega
def qy(m:Nat)(w:Nat->Bool)(wd:Nat->Nat)(T:Nat->Nat->Nat->Int):List D:=(zcP m).map λk=>D.lst (jq (hiW w wd k) (wiW w wd k) (T k))
def z4(m:Nat)(w:Nat->Bool)(wd:Nat->Nat)(T:Nat->Nat->Nat->Int):D:= .tup [.lst (zx (m+1) λk=>(wd k:Int)),.lst (qy m w wd T)]
theorem ZY{ns:List Int}{t p few:Int}(y:0<p){w i j:Nat}:0<=jg ns t p few w i j/\jg ns t p few w i j<p:=by
 unfold jg;have h1:=zdQ (qM ns (t+(w:Int)*(i:Int)+(j:Int))/7) (show p≠0 by omega);have h2:=zdE (qM ns (t+(w:Int)*(i:Int)+(j:Int))/7) y;split<;>omega
def zP(m:Nat)(w:Nat->Bool)(wd wd':Nat->Nat)(J:Nat->Nat->Nat->Int):List D:=(zcP m).map λk=>jD (hiW w wd k) (wiW w wd' k) (J k)
theorem KI(h w:Nat)(y:h<=lim)(f:Nat->Nat->Int)(γ:Ctx):ji (.nm 0) js (zT (zh 0)) [Cell.no] (jq h w f)=some (jN h w f):=by
 unfold jq jN;exact zA _ _ λk I=>zD rfl rfl rfl
def zbh:CO Fl:=(zU (xh (.tp [9,10]) (zw F_law_ends (zb (ze 3) (zb (ze 8) zB)))) (zU (jh 11 (jA (z5 F_law_table_44 (zb (ze 0) (zb (zy qb (ze 1) (zy qK (zu (.int 9)) (ze 8))) (zb (ze 2) (zb (sIx (zt (sIx (zh 4) (zu (.int 0)))) (ze 10)) (zb (sIx (zt (sIx (zh 5) (zu (.int 0)))) (ze 9)) (zb (ze 6) zB))))))))) (jP 7 (qU (zb (sIx (zt (sIx (zh 4) (zu (.int 0)))) (ze 10)) (zb (sIx (zt (sIx (zh 5) (zu (.int 0)))) (ze 9)) (zb (zT (jw (zV (zW (zh 11)) (.nm 0) 1 [] js (zT (zh 0))))) zB)))))))
theorem Vf{ns:List Int}(hn:ns.length<=63){p few:Int}(I:0<p)(a5:p<10){m:Nat}(hm:m<=4)(w:Nat->Bool){wd wd':Nat->Nat}(hw : ∀k,wd k<=9)(a6 : ∀k,wd' k<=9)(T T':Nat->Nat->Nat->Int) :
 ∃J,(∀k i j,0<=J k i j/\J k i j<p)/\vv [xi ns,.int 120,.int p,.str (j7 m w),z4 m w wd T,z4 m w wd' T',.int few]=some (.own (zP m w wd wd' J)):=by
 have hl:=jB;have hi3 : ∀k,hiW w wd k<=10:=λk=>by rw [<- jp];have:=hw (jJ w k);omega
 have wi3 : ∀k,wiW w wd' k<=10:=λk=>by rw [<- jv];have:=a6 (jS w k);omega
 refine⟨λk=>jg ns (120+9*(k:Int)) p few (wiW w wd' k),λk i j=>ZY I,?_⟩;have wl:=xj m w;have a7:=qj w (show m<=1000 by omega);have s1:(qw 7 (qc zB)) (jr 12 [xi ns,.int 120,.int p,.str (j7 m w),z4 m w wd T,z4 m w wd' T',.int few])=some (.next [.val (xi ns),.val (.int 120),.val (.int p),.val (.str (j7 m w)),.val (z4 m w wd T),.val (z4 m w wd' T'),.val (.int few),.own [],.no,.no,.no,.no]):=rfl;obtain⟨γ',s2,⟨c8,c9,c10,c11,rfl⟩⟩:=qa (T:= .nm 8) (F:=zbh) (f:=qN (ze 3)) (γ:=[.val (xi ns),.val (.int 120),.val (.int p),.val (.str (j7 m w)),.val (z4 m w wd T),.val (z4 m w wd' T'),.val (.int few),.own [],.no,.no,.no,.no])
  (λs γ=>∃c8 c9 c10 c11,γ=[.val (xi ns),.val (.int 120),.val (.int p),.val (.str (j7 m w)),.val (z4 m w wd T),.val (z4 m w wd' T'),.val (.int few),.own (zP s w wd wd' λk=>jg ns (120+9*(k:Int)) p few (wiW w wd' k)),c8,c9,c10,c11]) m ⋯ (by simp [wl,a7]) ⟨_,_,_,_,rfl⟩ (by
    rintro s hs γ ⟨c8,c9,c10,c11,rfl⟩;refine⟨_,[.val (xi ns),.val (.int 120),.val (.int p),.val (.str (j7 m w)),.val (z4 m w wd T),.val (z4 m w wd' T'),.val (.int few),.own (zP (s+1) w wd wd' λk=>jg ns (120+9*(k:Int)) p few (wiW w wd' k)),.val (.int (s:Int)),.val (.int ((jS w s:Nat):Int)),.val (.int ((jJ w s:Nat):Int)),.val (.lst (jq (hiW w wd s) (wiW w wd' s) (jg ns (120+9*(s:Int)) p few (wiW w wd' s))))],rfl,?_,⟨_,_,_,_,rfl⟩⟩;have en:=qJ (w:=w) (show m<=5 by omega) hs;have tb:=J8 hn (t:=120+9*(s:Int)) (p:=p) (few:=few) ⋯ ⋯ I a5 (hi3 s) (wi3 s);have y:=xp (w:=w) hs;have l2:=xq (w:=w) hs;have al:s<lim:=by omega
    have dl : ∀u:Nat->Nat,(zx (m+1) λk=>(u k:Int)).length=m+1:=λu=>by simp [zx]
    have jl:(zP s w wd wd' λk=>jg ns (120+9*(k:Int)) p few (wiW w wd' k)).length=s:=by simp [zP]
    have cm:yp 9 (s:Int)=true:=xL _ _ ⋯ ⋯;have O:(zx (m+1) λk=>(wd k:Int))[jJ w s]? = some (.int (hiW w wd s:Nat)):=by
     rw [<- jp];unfold zx;simp [y]
    have U:(zx (m+1) λk=>(wd' k:Int))[jS w s]? = some (.int (wiW w wd' s:Nat)):=by
     rw [<- jv];unfold zx;simp [l2]
    have Y:jE (z4 m w wd T)=some (.T,[.lst (zx (m+1) λk=>(wd k:Int)),.lst (qy m w wd T)]):=rfl;have u2:jE (z4 m w wd' T')=some (.T,[.lst (zx (m+1) λk=>(wd' k:Int)),.lst (qy m w wd' T')]):=rfl;have z0:ixD 2 0=some 0:=rfl;have hh:hiW w wd s<=lim:=by have:=hi3 s;omega
    have l3:3<=lim:=by omega
    have a1:(xh (.tp [9,10]) (zw F_law_ends (zb (ze 3) (zb (ze 8) zB)))) [.val (xi ns),.val (.int 120),.val (.int p),.val (.str (j7 m w)),.val (z4 m w wd T),.val (z4 m w wd' T'),.val (.int few),.own (zP s w wd wd' λk=>jg ns (120+9*(k:Int)) p few (wiW w wd' k)),.val (.int (s:Int)),c9,c10,c11]=some (.next [.val (xi ns),.val (.int 120),.val (.int p),.val (.str (j7 m w)),.val (z4 m w wd T),.val (z4 m w wd' T'),.val (.int few),.own (zP s w wd wd' λk=>jg ns (120+9*(k:Int)) p few (wiW w wd' k)),.val (.int (s:Int)),.val (.int ((jS w s:Nat):Int)),.val (.int ((jJ w s:Nat):Int)),c11]):=by
     simp [en]
    refine zq a1 ?_;have a2:(jh 11 (jA (z5 F_law_table_44 (zb (ze 0) (zb (zy qb (ze 1) (zy qK (zu (.int 9)) (ze 8))) (zb (ze 2) (zb (sIx (zt (sIx (zh 4) (zu (.int 0)))) (ze 10)) (zb (sIx (zt (sIx (zh 5) (zu (.int 0)))) (ze 9)) (zb (ze 6) zB))))))))) [.val (xi ns),.val (.int 120),.val (.int p),.val (.str (j7 m w)),.val (z4 m w wd T),.val (z4 m w wd' T'),.val (.int few),.own (zP s w wd wd' λk=>jg ns (120+9*(k:Int)) p few (wiW w wd' k)),.val (.int (s:Int)),.val (.int ((jS w s:Nat):Int)),.val (.int ((jJ w s:Nat):Int)),c11]=some (.next [.val (xi ns),.val (.int 120),.val (.int p),.val (.str (j7 m w)),.val (z4 m w wd T),.val (z4 m w wd' T'),.val (.int few),.own (zP s w wd wd' λk=>jg ns (120+9*(k:Int)) p few (wiW w wd' k)),.val (.int (s:Int)),.val (.int ((jS w s:Nat):Int)),.val (.int ((jJ w s:Nat):Int)),.val (.lst (jq (hiW w wd s) (wiW w wd' s) (jg ns (120+9*(s:Int)) p few (wiW w wd' s))))]):=by
     simp only [ju,j5,ql,zN,z6,zH,qt,jf,jT,zI,z7,zcJ,zcK,zcU,zcW,zc0,zc4,zg,zo,zcL,zcN,kn,km,cm,if_true,zG,zM,dl,je,y,l2,O,U,Y,u2,z0,tb,wK,zcR,zcQ]
    refine zq a2 ?_;have tp:=KI (hiW w wd s) (wiW w wd' s) hh (jg ns (120+9*(s:Int)) p few (wiW w wd' s)) [];have hL:(jq (hiW w wd s) (wiW w wd' s) (jg ns (120+9*(s:Int)) p few (wiW w wd' s))).length<=lim:=by rw [xE];exact hh
    rw [show zP (s+1) w wd wd' (λk=>jg ns (120+9*(k:Int)) p few (wiW w wd' k))=zP s w wd wd' (λk=>jg ns (120+9*(k:Int)) p few (wiW w wd' k))++[jD (hiW w wd s) (wiW w wd' s) (jg ns (120+9*(s:Int)) p few (wiW w wd' s))]from xk _ _];simp only [xz,kA,zN,z6,zH,jf,jT,zI,z7,ko,xf,jK,jU,zcJ,zcK,zcU,zcW,zc0,zc4,zg,zo,jX,zcL,zcN,if_true,zG,zM,dl,je,y,l2,O,U,Y,u2,z0,hL,jy,zcS,zfl,zei,zfk,tp,l3,jl,al,zcR,zcQ];rfl)
 exact jo (zq s1 (zq s2 rfl))
theorem Xt{m k:Nat}(h:k<m+1)(wd:Nat->Nat):(zx (m+1) λk=>(wd k:Int))[k]? = some (.int (wd k:Int)):=by unfold zx;simp [h]
theorem KD(m:Nat)(wd:Nat->Nat):(zx (m+1) λk=>(wd k:Int)).length=m+1:=by simp [zx]
theorem kO(m w wd T):(qy m w wd T).length=m:=by simp [qy]
theorem yK{m k:Nat}(h:k<m)(w wd T):(qy m w wd T)[k]? = some (.lst (jq (hiW w wd k) (wiW w wd k) (T k))):=by unfold qy;simp [h]
theorem ZL{h i:Nat}(hi:i<h)(w f):(jq h w f)[i]? = some (.lst (zx w (f i))):=by unfold jq;simp [hi]
theorem Xf(s w wd T):qI (s+1) w wd T=qI s w wd T++[VA w wd T s]:=xk _ _
def zbo:CO Fl:=(zU (xh (.tp [7,8]) (zw F_law_ends (zb (ze 1) (zb (ze 6) zB)))) (zU (jh 9 (zT (jw (zV (zW (zt (sIx (zh 4) (ze 6)))) (.nm 0) 1 [] js (zT (zh 0)))))) (jP 5 (qU (zb (kw (ze 1) (ze 6)) (zb (qU (zb (sIx (zh 3) (ze 8)) (zb (sIx (zh 3) (ze 7)) (zb (ze 9) zB)))) zB))))))
theorem Je{p:Int}{m:Nat}(hm:m<=4)(w:Nat->Bool){wd:Nat->Nat}(hw : ∀k,wd k<=9)(T:Nat->Nat->Nat->Int) :
 F_law_handed_44 [.int p,.str (j7 m w),z4 m w wd T]=some (.val (zO p m w wd T)):=by
 have hl:=jB;have hi3 : ∀k,hiW w wd k<=10:=λk=>by rw [<- jp];have:=hw (jJ w k);omega
 have wl:=xj m w;have a0:=qj w (show m<=1000 by omega);have s1:(xh (.tp [3,4]) (ze 2)) (jr 10 [.int p,.str (j7 m w),z4 m w wd T])=some (.next [.val (.int p),.val (.str (j7 m w)),.val (z4 m w wd T),.val (.lst (zx (m+1) λk=>(wd k:Int))),.val (.lst (qy m w wd T)),.no,.no,.no,.no,.no]):=rfl;have s2:(qw 5 (qc zB)) [.val (.int p),.val (.str (j7 m w)),.val (z4 m w wd T),.val (.lst (zx (m+1) λk=>(wd k:Int))),.val (.lst (qy m w wd T)),.no,.no,.no,.no,.no]=some (.next [.val (.int p),.val (.str (j7 m w)),.val (z4 m w wd T),.val (.lst (zx (m+1) λk=>(wd k:Int))),.val (.lst (qy m w wd T)),.own [],.no,.no,.no,.no]):=rfl;obtain⟨γ',s3,⟨c6,c7,c8,c9,rfl⟩⟩:=qa (T:= .nm 6) (F:=zbo) (f:=qN (ze 1)) (γ:=[.val (.int p),.val (.str (j7 m w)),.val (z4 m w wd T),.val (.lst (zx (m+1) λk=>(wd k:Int))),.val (.lst (qy m w wd T)),.own [],.no,.no,.no,.no])
  (λs γ=>∃c6 c7 c8 c9,γ=[.val (.int p),.val (.str (j7 m w)),.val (z4 m w wd T),.val (.lst (zx (m+1) λk=>(wd k:Int))),.val (.lst (qy m w wd T)),.own (qI s w wd T),c6,c7,c8,c9]) m ⋯ (by simp [wl,a0]) ⟨_,_,_,_,rfl⟩ (by
    rintro s hs γ ⟨c6,c7,c8,c9,rfl⟩;refine⟨_,[.val (.int p),.val (.str (j7 m w)),.val (z4 m w wd T),.val (.lst (zx (m+1) λk=>(wd k:Int))),.val (.lst (qy m w wd T)),.own (qI (s+1) w wd T),.val (.int (s:Int)),.val (.int ((jS w s:Nat):Int)),.val (.int ((jJ w s:Nat):Int)),.val (.tup (jN (hiW w wd s) (wiW w wd s) (T s)))],rfl,?_,⟨_,_,_,_,rfl⟩⟩;have en:=qJ (w:=w) (show m<=5 by omega) hs;have I:=xp (w:=w) hs;have l2:=xq (w:=w) hs;have al:s<lim:=by omega
    have y:3<=lim:=by omega
    have a5:2<=lim:=by omega
    have O:hiW w wd s<=lim:=by have:=hi3 s;omega
    have hL:(jq (hiW w wd s) (wiW w wd s) (T s)).length<=lim:=by rw [xE];exact O
    have tp:=KI (hiW w wd s) (wiW w wd s) O (T s) [];have U:=Xt I wd;have Y:=Xt l2 wd;rw [jp w wd]at U;rw [jv w wd]at Y;have ta:=yK hs w wd T;have a1:(xh (.tp [7,8]) (zw F_law_ends (zb (ze 1) (zb (ze 6) zB)))) [.val (.int p),.val (.str (j7 m w)),.val (z4 m w wd T),.val (.lst (zx (m+1) λk=>(wd k:Int))),.val (.lst (qy m w wd T)),.own (qI s w wd T),.val (.int (s:Int)),c7,c8,c9]=some (.next [.val (.int p),.val (.str (j7 m w)),.val (z4 m w wd T),.val (.lst (zx (m+1) λk=>(wd k:Int))),.val (.lst (qy m w wd T)),.own (qI s w wd T),.val (.int (s:Int)),.val (.int ((jS w s:Nat):Int)),.val (.int ((jJ w s:Nat):Int)),c9]):=by
     simp [en]
    refine zq a1 ?_;have a2:(jh 9 (zT (jw (zV (zW (zt (sIx (zh 4) (ze 6)))) (.nm 0) 1 [] js (zT (zh 0)))))) [.val (.int p),.val (.str (j7 m w)),.val (z4 m w wd T),.val (.lst (zx (m+1) λk=>(wd k:Int))),.val (.lst (qy m w wd T)),.own (qI s w wd T),.val (.int (s:Int)),.val (.int ((jS w s:Nat):Int)),.val (.int ((jJ w s:Nat):Int)),c9]=some (.next [.val (.int p),.val (.str (j7 m w)),.val (z4 m w wd T),.val (.lst (zx (m+1) λk=>(wd k:Int))),.val (.lst (qy m w wd T)),.own (qI s w wd T),.val (.int (s:Int)),.val (.int ((jS w s:Nat):Int)),.val (.int ((jJ w s:Nat):Int)),.val (.tup (jN (hiW w wd s) (wiW w wd s) (T s)))]):=by
     simp only [ju,ko,xf,jK,jU,z7,jT,zI,zH,zcJ,zcK,zg,zo,zcL,zcN,zG,zM,kO,je,hs,if_true,ta,hL,jy,zcS,zfl,zei,tp,zcR,zcQ]
    refine zq a2 ?_;have sx:=wE w (show m<=1000 by omega) hs [.val (.int p),.val (.str (j7 m w)),.val (z4 m w wd T),.val (.lst (zx (m+1) λk=>(wd k:Int))),.val (.lst (qy m w wd T)),.own (qI s w wd T),.val (.int (s:Int)),.val (.int ((jS w s:Nat):Int)),.val (.int ((jJ w s:Nat):Int)),.val (.tup (jN (hiW w wd s) (wiW w wd s) (T s)))] (ze 1) (ze 6) rfl rfl;rw [Xf,xz,kA,zN,sx];simp only [kA,zN,z6,zH,jT,zI,zcJ,zcK,zcU,zcW,zc0,zc4,zg,zo,jX,zcL,zcN,zG,zM,KD,je,I,l2,U,Y,if_true,y,a5,Zi,al,zcR,zcQ];rfl)
 have s4:(jV (qU (zb (ze 0) (zb (zT (zh 3)) (zb (zT (zh 5)) zB))))) [.val (.int p),.val (.str (j7 m w)),.val (z4 m w wd T),.val (.lst (zx (m+1) λk=>(wd k:Int))),.val (.lst (qy m w wd T)),.own (qI m w wd T),c6,c7,c8,c9]=some (.ret (.val (zO p m w wd T))):=by
  have y:3<=lim:=by omega
  simp [zG,y,zO]
 exact jo (zq s1 (zq s2 (zq s3 s4)))
theorem Z5{n:Nat}{F:CO Fl}{ds:List D}{γ':Ctx}(h:F (jr n ds)=some (.next γ')):jO n F ds=some (.val .non):=by
 show(F (jr n ds)).bind _=_;rw [h];rfl
section
variable{p:Int}{m:Nat}{w:Nat->Bool}{wd wd':Nat->Nat}{T T' J:Nat->Nat->Nat->Int}
theorem qp(p m w wd T):jE (zO p m w wd T)=some (.T,[.int p,.tup (zx (m+1) λk=>(wd k:Int)),.tup (qI m w wd T)]):=rfl
def qv(m:Nat)(w:Nat->Bool)(wd wd':Nat->Nat):List D:=(zcP m).map λk=>D.tup [.int (hiW w wd k:Nat),.int (wiW w wd' k:Nat)]
theorem Zv(hm:m<=4):F_arrow_sizes [zO p m w wd' T',zO p m w wd T]=some (.own (qv m w wd wd')):=by
 have hl:=jB;have a0:m<=lim:=by omega
 have x0:=qp p m w wd T;have x1:=qp p m w wd' T';have wo:=ka (p:=p) (wd:=wd') (T:=T') (w:=w) (show m<=900 by omega);have a3:=qj w (show m<=1000 by omega);have l2:2<=lim:=by omega
 have a4:ji (.tp [0,1]) js (qU (zb (sIx (zt (sIx (zh 3) (zu (.int 1)))) (zw F_end_of (zb (ze 0) (zb (ze 1) zB)))) (zb (sIx (zt (sIx (zh 2) (zu (.int 1)))) (zw F_beginning_of (zb (ze 0) (zb (ze 1) zB)))) zB))) [Cell.no,Cell.no,Cell.val (zO p m w wd' T'),Cell.val (zO p m w wd T)] ((zcP m).map λ(k:Nat)=>D.tup [.int k,.str (kh (wch (w k)))])=some (qv m w wd wd'):=by
  unfold qv;refine zA _ _ λk y=>zD rfl rfl ?_;have y:=zc1.mp y;have I:=xp (w:=w) y;have O:=xq (w:=w) y;have U:=Xt I wd;have Y:=Xt O wd';rw [jp w wd]at U;rw [jv w wd']at Y;have e1:=Jo w k;have e2:=kD w k;have i1:ixD 3 1=some 1:=rfl;show qU _ [Cell.val (.int (k:Int)),Cell.val (.str (kh (wch (w k)))),Cell.val (zO p m w wd' T'),Cell.val (zO p m w wd T)]=_;simp only [kA,zN,z6,jT,z7,zI,zH,jf,jb,zcJ,zcK,zcU,zcW,zc0,zc4,zg,zo,zcL,zcN,x0,x1,zM,i1,zZ,e1,e2,xB,KD,je,I,O,if_true,U,Y,l2]
 have hz:(qx (qO (j7 m w))).length<=lim:=by rw [vK];simpa using a0
 have s1:(jh 2 (zw F_ways_of (zb (ze 0) zB))) (jr 3 [zO p m w wd' T',zO p m w wd T])=some (.next [.val (zO p m w wd' T'),.val (zO p m w wd T),.val (.str (j7 m w))]):=by
  simp [jr,zcS,wo]
 have s2:(JD (zV (vD (ze 2)) (.tp [0,1]) 2 [0,1] js (qU (zb (sIx (zt (sIx (zh 3) (zu (.int 1)))) (zw F_end_of (zb (ze 0) (zb (ze 1) zB)))) (zb (sIx (zt (sIx (zh 2) (zu (.int 1)))) (zw F_beginning_of (zb (ze 0) (zb (ze 1) zB)))) zB))))) [.val (zO p m w wd' T'),.val (zO p m w wd T),.val (.str (j7 m w))]=some (.ret (.own (qv m w wd wd'))):=by
  have src:vD (ze 2) [.val (zO p m w wd' T'),.val (zO p m w wd T),.val (.str (j7 m w))]=some (qx (qO (j7 m w))):=by
   show(if jF (j7 m w)=true then _ else _)=_;rw [if_pos a3]
  have pc:jy 2 [0,1] [.val (zO p m w wd' T'),.val (zO p m w wd T),.val (.str (j7 m w))]=[Cell.no,Cell.no,Cell.val (zO p m w wd' T'),Cell.val (zO p m w wd T)]:=rfl;show((zV _ _ _ _ _ _ _).map λds=>Fl.ret (.own ds))=_;rw [jK,src];simp only [zcL];rw [if_pos hz,vK,pc,a4];rfl
 exact jo (zq s1 s2)
theorem Ke(h w':Nat)(f:Nat->Nat->Int):F_is_join [.tup [.int (h:Int),.int (w':Int)],jD h w' f]=some (.val (.bl true)):=by
 have c:XF (ze 1) zar (sBd (zu (.int 2))) [.val (.tup [.int (h:Int),.int (w':Int)]),.val (jD h w' f)]=some (.tup [.int (h:Int),.int (w':Int)]):=rfl;have ok:okD (.tup [.int (h:Int),.int (w':Int)])=true:=rfl;have q:=yE ok;have ty:J1 Ty.tuple (jD h w' f)=true:=rfl;simp [F_is_join,jO,jr,c,q,ty,zcS,-K9]
def zaJ:CO Fl:=(sIf (yi (sB (zy dGe (ze 4) (xH (zh 2)))) (j8 (sB (zw F_is_join (zb (ze 5) (zb (sIx (zh 2) (ze 4)) zB)))))) yj jt)
theorem kX(m w wd wd' J):(zP m w wd wd' J).length=m:=by simp [zP]
theorem wa{k:Nat}(h:k<m):(zP m w wd wd' J)[k]? = some (jD (hiW w wd k) (wiW w wd' k) (J k)):=by unfold zP;simp [h]
theorem zbz(hm:m<=4):F_ask_joins [zO p m w wd T,zO p m w wd' T',.lst (zP m w wd wd' J)]=some (.val .non):=by
 have hl:=jB;have O:=(Xe (p:=p) (w:=w) (wd:=wd) (wd':=wd') (T:=T) (T':=T') (show m<=900 by omega)).2;have sz:=Zv (p:=p) (w:=w) (wd:=wd) (wd':=wd') (T:=T) (T':=T') hm;have s1:(yv (zw F_ask_one_kind (zb (ze 0) (zb (ze 1) zB)))) (jr 6 [zO p m w wd T,zO p m w wd' T',.lst (zP m w wd wd' J)])=some (.next [.val (zO p m w wd T),.val (zO p m w wd' T'),.val (.lst (zP m w wd wd' J)),.no,.no,.no]):=by
  simp [jr,zcS,O]
 have s2:(jh 3 (jA (z5 F_arrow_sizes (zb (ze 1) (zb (ze 0) zB))))) [.val (zO p m w wd T),.val (zO p m w wd' T'),.val (.lst (zP m w wd wd' J)),.no,.no,.no]=some (.next [.val (zO p m w wd T),.val (zO p m w wd' T'),.val (.lst (zP m w wd wd' J)),.val (.lst (qv m w wd wd')),.no,.no]):=by
  simp [sz]
 have U : ∀(k s:Nat) (c4 c5:Cell),s+k=m->∃y I,qD (.tp [4,5]) zaJ ((zeB s k).map λ(k:Nat)=>D.tup [.int k,.tup [.int (hiW w wd k:Nat),.int (wiW w wd' k:Nat)]]) [.val (zO p m w wd T),.val (zO p m w wd' T'),.val (.lst (zP m w wd wd' J)),.val (.lst (qv m w wd wd')),c4,c5]=some (.next [.val (zO p m w wd T),.val (zO p m w wd' T'),.val (.lst (zP m w wd wd' J)),.val (.lst (qv m w wd wd')),y,I]):=by
  intro k
  induction k with
  | zero=>intro s c4 c5 e;exact⟨c4,c5,rfl⟩
  | succ k Y=>
   intro s c4 c5 e;obtain⟨y,I,q⟩:=Y (s+1) (.val (.int (s:Int))) (.val (.tup [.int (hiW w wd s:Nat),.int (wiW w wd' s:Nat)])) ⋯;refine⟨y,I,?_⟩;rw [zd2,zdn,jR];have a0:qE (.tp [4,5]) (.tup [.int (s:Int),.tup [.int (hiW w wd s:Nat),.int (wiW w wd' s:Nat)]]) [.val (zO p m w wd T),.val (zO p m w wd' T'),.val (.lst (zP m w wd wd' J)),.val (.lst (qv m w wd wd')),c4,c5]=some [.val (zO p m w wd T),.val (zO p m w wd' T'),.val (.lst (zP m w wd wd' J)),.val (.lst (qv m w wd wd')),.val (.int (s:Int)),.val (.tup [.int (hiW w wd s:Nat),.int (wiW w wd' s:Nat)])]:=rfl;have hs:s<m:=by omega
   have ij:=Ke (hiW w wd s) (wiW w wd' s) (J s);have ja:=wa (w:=w) (wd:=wd) (wd':=wd') (J:=J) hs;have ge : ¬((m:Int)<=(s:Int)):=by omega
   have st:zaJ [.val (zO p m w wd T),.val (zO p m w wd' T'),.val (.lst (zP m w wd wd' J)),.val (.lst (qv m w wd wd')),.val (.int (s:Int)),.val (.tup [.int (hiW w wd s:Nat),.int (wiW w wd' s:Nat)])]=some (.next [.val (zO p m w wd T),.val (zO p m w wd' T'),.val (.lst (zP m w wd wd' J)),.val (.lst (qv m w wd wd')),.val (.int (s:Int)),.val (.tup [.int (hiW w wd s:Nat),.int (wiW w wd' s:Nat)])]):=by
    unfold zaJ;simp only [kv,Ya,ye,JW,qt,zH,Zk,zI,jT,jb,zN,z6,zcJ,zcK,zg,zo,zcL,zcN,zG,zM,kX,je,hs,if_true,ja,ij,xB,Vq,x9,decide_eq_false ge,zeo,if_false,Bool.not_true];rfl
   rw [a0];simp only [zcL,st];exact q
 obtain⟨c4,c5,q⟩:=U m 0 .no .no ⋯;rw [<- zdJ]at q;have s3:(qV (wI (ze 3)) (.tp [4,5]) zaJ) [.val (zO p m w wd T),.val (zO p m w wd' T'),.val (.lst (zP m w wd wd' J)),.val (.lst (qv m w wd wd')),.no,.no]=some (.next [.val (zO p m w wd T),.val (zO p m w wd' T'),.val (.lst (zP m w wd wd' J)),.val (.lst (qv m w wd wd')),c4,c5]):=by
  have src:wI (ze 3) [.val (zO p m w wd T),.val (zO p m w wd' T'),.val (.lst (zP m w wd wd' J)),.val (.lst (qv m w wd wd')),.no,.no]=some ((zcP m).map λ(k:Nat)=>D.tup [.int k,.tup [.int (hiW w wd k:Nat),.int (wiW w wd' k:Nat)]]):=by
   show some (qx (qv m w wd wd'))=_;unfold qv;rw [JR]
  rw [kB,src];exact q
 have s4:(sIf (sB (zy dGt (xH (zh 2)) (xH (zh 3)))) yj jt) [.val (zO p m w wd T),.val (zO p m w wd' T'),.val (.lst (zP m w wd wd' J)),.val (.lst (qv m w wd wd')),c4,c5]=some (.next [.val (zO p m w wd T),.val (zO p m w wd' T'),.val (.lst (zP m w wd wd' J)),.val (.lst (qv m w wd wd')),c4,c5]):=by
  have sl:(qv m w wd wd').length=m:=by simp [qv]
  simp [zG,kX,sl]
 exact Z5 (zq s1 (zq s2 (zq s3 s4)))
end
section
variable{p:Int}{m:Nat}{w:Nat->Bool}{wd wd':Nat->Nat}{T T' J:Nat->Nat->Nat->Int}
theorem Jz(hm:m<=4)(le:zv (λk=>((wd k+wd' k:Nat):Int)) (m+1)<=30):F_widths_together [zO p m w wd T,zO p m w wd' T']=some (.val (.tup (zx (m+1) λk=>((wd k+wd' k:Nat):Int)))):=by
 have hl:=jB;have y:m+1<=lim:=by omega
 have I:=qp p m w wd T;have x1:=qp p m w wd' T';have O:ji (.tp [0,1]) js (zy qb (ze 0) (ze 1)) [Cell.no,Cell.no] ((zcP (m+1)).map λi=>D.tup [.int (wd i:Int),.int (wd' i:Int)])=some (zx (m+1) λk=>((wd k+wd' k:Nat):Int)):=by
  rw [zY (m+1) λk=>((wd k+wd' k:Nat):Int)];refine zA _ _ λk hk=>zD rfl rfl ?_;show zy _ _ _ [Cell.val (.int (wd k:Int)),Cell.val (.int (wd' k:Int))]=_;simp
 have i1:ixD 3 1=some 1:=rfl;have s1:(jh 2 (zT (jw (zV (Zo (sIx (zh 0) (zu (.int 1))) (sIx (zh 1) (zu (.int 1)))) (.tp [0,1]) 2 [] js (zy qb (ze 0) (ze 1)))))) (jr 3 [zO p m w wd T,zO p m w wd' T'])=some (.next [.val (zO p m w wd T),.val (zO p m w wd' T'),.val (.tup (zx (m+1) λk=>((wd k+wd' k:Nat):Int)))]):=by
  have src:Zo (sIx (zh 0) (zu (.int 1))) (sIx (zh 1) (zu (.int 1))) [.val (zO p m w wd T),.val (zO p m w wd' T'),.no]=some ((zcP (m+1)).map λi=>D.tup [.int (wd i:Int),.int (wd' i:Int)]):=by
   rw [<- kc (m+1) (λk=>(wd k:Int)) λk=>(wd' k:Int)];simp only [Xg,jT,zI,jf,zcJ,zcK,zcU,zcW,zc0,zc4,zo,zcL,zcN,I,x1,zM,i1,zZ]
  have hz:((zcP (m+1)).map λi=>D.tup [.int (wd i:Int),.int (wd' i:Int)]).length<=lim:=by simpa using y
  show(((zV _ _ _ _ _ _ [.val (zO p m w wd T),.val (zO p m w wd' T'),.no]).map λds=>(Sk.L,ds)).map λa=>D.tup a.2).map _=_;rw [jK,src];simp only [zcL];rw [if_pos hz,show jy 2 [] [.val (zO p m w wd T),.val (zO p m w wd' T'),.no]=[Cell.no,Cell.no]from rfl,O];rfl
 have tg:F_ask_together [.tup (zx (m+1) λk=>((wd k+wd' k:Nat):Int))]=some (.val .non):=by
  have U:=xu (λk=>((wd k+wd' k:Nat):Int)) (m+1);have Y : ¬((30:Int)<zv (λk=>((wd k+wd' k:Nat):Int)) (m+1)):=by omega
  refine Z5 (γ':=[.val (.tup (zx (m+1) λk=>((wd k+wd' k:Nat):Int)))]) ?_;simp only [jr,zdn,zfl,zcU,zcW,zc0,Nat.sub_self,zcS,zei,kv,JW,qt,Jm,zI,jf,zcJ,zo,zZ,zcL,zcN,U,Vp,x9,decide_eq_false Y,zeo,if_false];rfl
 have s2:(yv (zw F_ask_together (zb (ze 2) zB))) [.val (zO p m w wd T),.val (zO p m w wd' T'),.val (.tup (zx (m+1) λk=>((wd k+wd' k:Nat):Int)))]=some (.next [.val (zO p m w wd T),.val (zO p m w wd' T'),.val (.tup (zx (m+1) λk=>((wd k+wd' k:Nat):Int)))]):=by
  simp only [ZS,jb,zN,z6,zH,zcJ,zcK,zg,zcL,zcN,tg]
 exact jo (zq s1 (zq s2 rfl))
end
section
variable{p:Int}{m:Nat}{w:Nat->Bool}{wd wd':Nat->Nat}{T T' J:Nat->Nat->Nat->Int}
theorem xl(m w wd T):jE (z4 m w wd T)=some (.T,[.lst (zx (m+1) λk=>(wd k:Int)),.lst (qy m w wd T)]):=rfl
theorem yL(h w f):jE (jD h w f)=some (.T,[.int (h:Int),.int (w:Int),.tup (jN h w f)]):=rfl
theorem vf{h i:Nat}(hi:i<h)(w:Nat)(f:Nat->Nat->Int):(jN h w f)[i]? = some (.tup (zx w (f i))):=by unfold jN;simp [hi]
theorem xx(h w f):(jN h w f).length=h:=by simp [jN]
end
def wl(l:List Bool):Str:=⟨⟨l.map wch⟩⟩
theorem VF(γ:Ctx)(i g):Zx i g γ=(jX γ[i]?).bind λds=>(g γ).bind λa=>match a.1 with
 | .T=>if ds.length+a.2.length<=lim then some (.next (γ.set i (.own (ds++a.2))))else none
 | .L=>none:=rfl
def off(hs ws:Nat->Nat):Nat->Nat
 | 0=>0
 | k+1=>off hs ws k+hs k*ws k
def wrF(hs ws:Nat->Nat)(T:Nat->Nat->Nat->Int):Nat->Nat->Int
 | 0,_=>0
 | k+1,x=>if x<off hs ws k then wrF hs ws T k x else T k ((x - off hs ws k)/ws k) ((x - off hs ws k)%ws k)
def tbL(n:Nat)(hs ws:Nat->Nat)(T:Nat->Nat->Nat->Int):List D:=(zcP n).map λk=>jD (hs k) (ws k) (T k)
def szL(n:Nat)(hs ws:Nat->Nat):List D:=(zcP n).map λk=>D.tup [.int (hs k:Nat),.int (ws k:Nat)]
section
variable{hs ws:Nat->Nat}{T:Nat->Nat->Nat->Int}
theorem v9{a b:Nat}(h:a<=b):off hs ws a<=off hs ws b:=by
 induction b with
 | zero=>
  obtain rfl:a=0:=by omega
  exact zcZ _
 | succ b y=>
  by_cases e:a=b+1
  ·subst e;exact zcZ _
  ·have:=y ⋯
   show _<=off hs ws b+hs b*ws b;omega
theorem Vu{h w i j:Nat}(hi:i<h)(y:j<w):i*w+j<h*w:=by
 have:(i+1)*w<=h*w:=zfu w hi;rw [zfo]at this;omega
theorem Xd{n k i j:Nat}(I:k<n)(hi:i<hs k)(y:j<ws k):off hs ws k+i*ws k+j<off hs ws n:=by
 have h1:=v9 (hs:=hs) (ws:=ws) (show k+1<=n by omega);have h2:=Vu hi y;have:off hs ws (k+1)=off hs ws k+hs k*ws k:=rfl;omega
theorem K6{w i j:Nat}(y:j<w):(i*w+j)/w=i/\(i*w+j)%w=j:=by
 have hw:0<w:=by omega
 constructor
 ·rw [Nat.add_comm,Nat.add_mul_div_right _ _ hw,Nat.div_eq_of_lt y,zc0]
 ·rw [Nat.add_comm,Nat.add_mul_mod_self_right,Nat.mod_eq_of_lt y]
theorem xR{k i j:Nat}(hi:i<hs k)(y:j<ws k) : ∀n,k<n->wrF hs ws T n (off hs ws k+i*ws k+j)=T k i j
 | 0,h=>by omega
 | n+1,h=>by
  unfold wrF;by_cases e:k=n
  ·subst e
   rw [if_neg ⋯];have:off hs ws k+i*ws k+j - off hs ws k=i*ws k+j:=by omega
   rw [this,(K6 y).1,(K6 y).2]
  ·have:=Xd (hs:=hs) (ws:=ws) (show k<n by omega) hi y
   rw [if_pos this];exact xR hi y n ⋯
theorem Ww : ∀(n x:Nat),x<off hs ws n->∃k i j,k<n/\i<hs k/\j<ws k/\x=off hs ws k+i*ws k+j
 | 0,x,h=>by simp [off]at h
 | n+1,x,h=>by
  by_cases e:x<off hs ws n
  ·obtain⟨k,i,j,h1,h2,y,I⟩:=Ww n x e
   exact⟨k,i,j,by omega,h2,y,I⟩
  ·have h:x<off hs ws n+hs n*ws n:=h
   have hw:0<ws n:=by
    apply Nat.pos_of_ne_zero;intro z;rw [z,Nat.mul_zero]at h;omega
   refine⟨n,(x - off hs ws n)/ws n,(x - off hs ws n)%ws n,by omega,Nat.div_lt_of_lt_mul ?_,Nat.mod_lt _ hw,?_⟩
   ·rw [zfp];omega
   ·have:=Nat.div_add_mod (x - off hs ws n) (ws n)
    rw [zfp]at this;omega
theorem Ks{a b:Nat}{f g h:Nat->Int}(h1 : ∀x,x<a->h x=f x)(h2 : ∀x,x<b->h (a+x)=g x):zx a f++zx b g=zx (a+b) h:=by
 unfold zx;rw [List.range_add,zdX,zfP];congr 1
 ·exact zdA λx y=>by rw [h1 x (zc1.mp y)]
 ·exact zdA λx y=>by simp only [Function.comp];rw [h2 x (zc1.mp y)]
theorem zX(n f):(zx n f).length=n:=by simp [zx]
theorem kF(n hs ws T):(tbL n hs ws T).length=n:=by simp [tbL]
theorem Yx(n hs ws):(szL n hs ws).length=n:=by simp [szL]
theorem yJ{n k:Nat}(h:k<n):(tbL n hs ws T)[k]? = some (jD (hs k) (ws k) (T k)):=by unfold tbL;simp [h]
theorem Yi(O U:Cell)(w:Nat)(f:Nat->Nat->Int)(a:Nat)(g G:Nat->Int)(hG : ∀x,x<a->G x=g x)(h:Nat)(hF : ∀i j,i<h->j<w->G (a+i*w+j)=f i j)(hz:a+h*w<=2000)(y:Cell) :
 ∃I,qD (.nm 3) (Zx 1 (zh 3)) (jN h w f) [O,.own (zx a g),U,y]=some (.next [O,.own (zx (a+h*w) G),U,I]):=by
 have hl:=jB;have a2 : ∀(k s:Nat) (y:Cell),s+k=h->∃I,qD (.nm 3) (Zx 1 (zh 3)) ((zeB s k).map λi=>D.tup (zx w (f i))) [O,.own (zx (a+s*w) G),U,y]=some (.next [O,.own (zx (a+h*w) G),U,I]):=by
  intro k
  induction k with
  | zero=>
   intro s y e;obtain rfl:s=h:=by omega
   exact⟨y,rfl⟩
  | succ k ih=>
   intro s y e;obtain⟨I,q⟩:=ih (s+1) (.val (.tup (zx w (f s)))) ⋯;refine⟨I,?_⟩;rw [<- q,zd2,zdn,jR];have a6:(s+1)*w<=h*w:=zfu w ⋯;have es:(s+1)*w=s*w+w:=zfo s w;have le:a+s*w+w<=lim:=by omega
   have ap:zx (a+s*w) G++zx w (f s)=zx (a+(s+1)*w) G:=by
    rw [show a+(s+1)*w=a+s*w+w by omega];exact Ks (λx _=>rfl) λx Y=>hF s x ⋯ Y
   simp only [yH,zcL,zcR,zcQ,VF,zI,zcJ,zcK,jX,zo,zZ,zX,le,if_true,ap]
 obtain⟨I,q⟩:=a2 h 0 y ⋯;refine⟨I,?_⟩;rw [<- zdJ,Nat.zero_mul,Nat.add_zero]at q;rw [wc (f:=g) (g:=G) λx Y=>(hG x Y).symm];exact q
theorem vw{n:Nat}(hz:off hs ws n<=2000):F_written [.lst (tbL n hs ws T)]=some (.val (.tup (zx (off hs ws n) (wrF hs ws T n)))):=by
 have i2:ixD 3 2=some 2:=rfl;have Y : ∀(k s:Nat) (U y:Cell),s+k=n->∃I O,qD (.nm 2) (qV (zW (zt (sIx (zh 2) (zu (.int 2))))) (.nm 3) (Zx 1 (zh 3))) ((zeB s k).map λk=>jD (hs k) (ws k) (T k)) [.val (.lst (tbL n hs ws T)),.own (zx (off hs ws s) (wrF hs ws T s)),U,y]=some (.next [.val (.lst (tbL n hs ws T)),.own (zx (off hs ws n) (wrF hs ws T n)),I,O]):=by
  intro k
  induction k with
  | zero=>
   intro s U y e;obtain rfl:s=n:=by omega
   exact⟨U,y,rfl⟩
  | succ k ih=>
   intro s U y e;have a5:=v9 (hs:=hs) (ws:=ws) (show s+1<=n by omega);obtain⟨d3,r⟩:=Yi (.val (.lst (tbL n hs ws T))) (.val (jD (hs s) (ws s) (T s))) (ws s) (T s) (off hs ws s) (wrF hs ws T s) (wrF hs ws T (s+1)) (λx hx=>by show(if x<off hs ws s then _ else _)=_;rw [if_pos hx]) (hs s) (λi j hi hj=>xR hi hj (s+1) ⋯) (by
    have:off hs ws (s+1)=off hs ws s+hs s*ws s:=rfl;omega) y
   obtain⟨I,O,q⟩:=ih (s+1) (.val (jD (hs s) (ws s) (T s))) d3 ⋯;refine⟨I,O,?_⟩;rw [<- q,zd2,zdn,jR];have ts:=yL (hs s) (ws s) (T s);simp only [yH,zcL,zcR,zcQ,kB,jU,z7,jT,zI,jf,zcJ,zcK,zcU,zcW,zc0,zc4,zo,zcN,ts,zM,i2,zZ,r];rfl
 obtain⟨I,O,q⟩:=Y n 0 .no .no ⋯;rw [<- zdJ]at q;have s1:(qw 1 (qc zB)) (jr 4 [.lst (tbL n hs ws T)])=some (.next [.val (.lst (tbL n hs ws T)),.own (zx (off hs ws 0) (wrF hs ws T 0)),.no,.no]):=rfl;have s2:(qV (zW (zt (ze 0))) (.nm 2) (qV (zW (zt (sIx (zh 2) (zu (.int 2))))) (.nm 3) (Zx 1 (zh 3)))) [.val (.lst (tbL n hs ws T)),.own (zx (off hs ws 0) (wrF hs ws T 0)),.no,.no]=some (.next [.val (.lst (tbL n hs ws T)),.own (zx (off hs ws n) (wrF hs ws T n)),I,O]):=by
  rw [kB];simp only [jU,z7,zH,zcJ,zg,zcL,zG,zcN];exact q
 exact jo (zq s1 (zq s2 rfl))
theorem Vs{n a b:Nat}(u:Nat->Int)(h1:a<=b)(h2:b<=n):Kv (zx n u) (some (a:Int)) (some (b:Int))=zx (b - a) λx=>u (a+x):=by
 unfold zx;exact Q2 (λx=>D.int (u x)) h1 h2
def tiB:CO Fl:=(zU (jh 6 (jA (zV (zJ (ze 4)) (.nm 0) 1 [1,3,5] js (XF (ze 1) (sBd (zy qb (ze 2) (zy qK (ze 0) (ze 3)))) (sBd (zy qb (ze 2) (zy qK (zy qb (ze 0) (zu (.int 1))) (ze 3)))))))) (zU (jP 2 (qU (zb (ze 4) (zb (ze 5) (zb (zT (zh 6)) zB))))) (jh 3 (zy qb (ze 3) (zy qK (ze 4) (ze 5))))))
def qC(hs ws:Nat->Nat)(u:Nat->Int)(k i j:Nat):Int:=u (off hs ws k+i*ws k+j)
theorem xS{n:Nat}(hn:n<=100)(hh : ∀k,hs k<=100)(hw : ∀k,ws k<=100)(u:Nat->Int){N:Nat}(hN:N=off hs ws n):F_tables_in [.lst (szL n hs ws),.tup (zx N u)]=some (.own (tbL n hs ws (qC hs ws u))):=by
 have hl:=jB;subst hN;have a4 : ∀(k s:Nat) (c4 c5 c6:Cell),s+k=n->∃I O U,qD (.tp [4,5]) tiB ((zeB s k).map λk=>D.tup [.int (hs k:Nat),.int (ws k:Nat)]) [.val (.lst (szL n hs ws)),.val (.tup (zx (off hs ws n) u)),.own (tbL s hs ws (qC hs ws u)),.val (.int (off hs ws s:Nat)),c4,c5,c6]=some (.next [.val (.lst (szL n hs ws)),.val (.tup (zx (off hs ws n) u)),.own (tbL n hs ws (qC hs ws u)),.val (.int (off hs ws n:Nat)),I,O,U]):=by
  intro k
  induction k with
  | zero=>
   intro s c4 c5 c6 e;obtain rfl:s=n:=by omega
   exact⟨c4,c5,c6,rfl⟩
  | succ k ih=>
   intro s c4 c5 c6 e;obtain⟨I,O,U,q⟩:=ih (s+1) (.val (.int (hs s:Nat))) (.val (.int (ws s:Nat))) (.val (.lst (jN (hs s) (ws s) (qC hs ws u s)))) ⋯;refine⟨I,O,U,?_⟩;rw [<- q,zd2,zdn,jR];have ag:=hh s;have Y:=hw s;have ah:=v9 (hs:=hs) (ws:=ws) (show s+1<=n by omega);have ho:off hs ws (s+1)=off hs ws s+hs s*ws s:=rfl;have cm : ∀x y:Nat,y<=100->yp (x:Int) (y:Int)=true:=λx y hy=>yo _ _ ⋯ ⋯;have a8 : ∀x y:Nat,y<=100->yp ((x:Int)+1) (y:Int)=true:=λx y hy=>yo _ _ ⋯ ⋯;have hb:qE (.tp [4,5]) (.tup [.int (hs s:Nat),.int (ws s:Nat)]) [.val (.lst (szL n hs ws)),.val (.tup (zx (off hs ws n) u)),.own (tbL s hs ws (qC hs ws u)),.val (.int (off hs ws s:Nat)),c4,c5,c6]=some [.val (.lst (szL n hs ws)),.val (.tup (zx (off hs ws n) u)),.own (tbL s hs ws (qC hs ws u)),.val (.int (off hs ws s:Nat)),.val (.int (hs s:Nat)),.val (.int (ws s:Nat)),c6]:=rfl;have k1:ji (.nm 0) js (XF (ze 1) (sBd (zy qb (ze 2) (zy qK (ze 0) (ze 3)))) (sBd (zy qb (ze 2) (zy qK (zy qb (ze 0) (zu (.int 1))) (ze 3))))) [Cell.no,.val (.tup (zx (off hs ws n) u)),.val (.int (off hs ws s:Nat)),.val (.int (ws s:Nat))] ((zcP (hs s)).map λi:Nat=>D.int (i:Int))=some (jN (hs s) (ws s) (qC hs ws u s)):=by
    unfold jN;refine zA _ _ λi hi=>zD rfl rfl ?_;have hi:=zc1.mp hi;have h1:(i+1)*ws s<=hs s*ws s:=zfu _ hi;have h2:(i+1)*ws s=i*ws s+ws s:=zfo i (ws s);have cv:=Vs (n:=off hs ws n) (a:=off hs ws s+i*ws s) (b:=off hs ws s+(i+1)*ws s) u ⋯ ⋯;have e1:(off hs ws s:Int)+(i:Int)*(ws s:Int)=((off hs ws s+i*ws s:Nat):Int):=by rw [zfr,zeI]
    have e2:(off hs ws s:Int)+((i:Int)+1)*(ws s:Int)=((off hs ws s+(i+1)*ws s:Nat):Int):=by rw [zfr,zeI];rfl
    show XF _ _ _ [Cell.val (.int (i:Int)),.val (.tup (zx (off hs ws n) u)),.val (.int (off hs ws s:Nat)),.val (.int (ws s:Nat))]=_;simp only [K9,zH,zbL,qt,jf,zcJ,zcK,zg,zcL,kn,km,cm i (ws s) Y,a8 i (ws s) Y,if_true,zM,zcN,e1,e2,cv];congr 2;rw [show off hs ws s+(i+1)*ws s - (off hs ws s+i*ws s)=ws s by omega];rfl
   have rh:inR (hs s:Int)=true:=qP ⋯ ⋯;have ac:hs s<=lim:=by omega
   have s1:(jh 6 (jA (zV (zJ (ze 4)) (.nm 0) 1 [1,3,5] js (XF (ze 1) (sBd (zy qb (ze 2) (zy qK (ze 0) (ze 3)))) (sBd (zy qb (ze 2) (zy qK (zy qb (ze 0) (zu (.int 1))) (ze 3)))))))) [.val (.lst (szL n hs ws)),.val (.tup (zx (off hs ws n) u)),.own (tbL s hs ws (qC hs ws u)),.val (.int (off hs ws s:Nat)),.val (.int (hs s:Nat)),.val (.int (ws s:Nat)),c6]=some (.next [.val (.lst (szL n hs ws)),.val (.tup (zx (off hs ws n) u)),.own (tbL s hs ws (qC hs ws u)),.val (.int (off hs ws s:Nat)),.val (.int (hs s:Nat)),.val (.int (ws s:Nat)),.val (.lst (jN (hs s) (ws s) (qC hs ws u s)))]):=by
    rw [ju,j5,jK,qh,zH];simp only [zcJ,zcK,zg,zcL,zM,rh,if_true,zdf,jL,Jg,ac];rw [zY (hs s) λi=>(i:Int),show jy 1 [1,3,5] [.val (.lst (szL n hs ws)),.val (.tup (zx (off hs ws n) u)),.own (tbL s hs ws (qC hs ws u)),.val (.int (off hs ws s:Nat)),.val (.int (hs s:Nat)),.val (.int (ws s:Nat)),c6]=[Cell.no,.val (.tup (zx (off hs ws n) u)),.val (.int (off hs ws s:Nat)),.val (.int (ws s:Nat))]from rfl,k1];rfl
   have al:s<lim:=by omega
   have l3:3<=lim:=by omega
   have tl:=kF s hs ws (qC hs ws u);have s2:(jP 2 (qU (zb (ze 4) (zb (ze 5) (zb (zT (zh 6)) zB))))) [.val (.lst (szL n hs ws)),.val (.tup (zx (off hs ws n) u)),.own (tbL s hs ws (qC hs ws u)),.val (.int (off hs ws s:Nat)),.val (.int (hs s:Nat)),.val (.int (ws s:Nat)),.val (.lst (jN (hs s) (ws s) (qC hs ws u s)))]=some (.next [.val (.lst (szL n hs ws)),.val (.tup (zx (off hs ws n) u)),.own (tbL (s+1) hs ws (qC hs ws u)),.val (.int (off hs ws s:Nat)),.val (.int (hs s:Nat)),.val (.int (ws s:Nat)),.val (.lst (jN (hs s) (ws s) (qC hs ws u s)))]):=by
    rw [show tbL (s+1) hs ws (qC hs ws u)=tbL s hs ws (qC hs ws u)++[jD (hs s) (ws s) (qC hs ws u s)]from xk _ _];simp only [xz,kA,zN,z6,zH,zI,ko,zcJ,zcK,zg,zo,jX,zG,zcL,zcN,zcU,zcW,zc0,zc4,l3,if_true,tl,al,zcR,zcQ];rfl
   have s3:(jh 3 (zy qb (ze 3) (zy qK (ze 4) (ze 5)))) [.val (.lst (szL n hs ws)),.val (.tup (zx (off hs ws n) u)),.own (tbL (s+1) hs ws (qC hs ws u)),.val (.int (off hs ws s:Nat)),.val (.int (hs s:Nat)),.val (.int (ws s:Nat)),.val (.lst (jN (hs s) (ws s) (qC hs ws u s)))]=some (.next [.val (.lst (szL n hs ws)),.val (.tup (zx (off hs ws n) u)),.own (tbL (s+1) hs ws (qC hs ws u)),.val (.int (off hs ws (s+1):Nat)),.val (.int (hs s:Nat)),.val (.int (ws s:Nat)),.val (.lst (jN (hs s) (ws s) (qC hs ws u s)))]):=by
    simp only [ju,qt,zH,zcJ,zcK,zg,zcL,km,cm (hs s) (ws s) Y,if_true,kn,zcN,zcR,zcQ];rw [ho,zfr,zeI]
   rw [hb];simp only [zcL];rw [show tiB _=_ from zq s1 (zq s2 s3)];rfl
 obtain⟨c4,c5,c6,q⟩:=a4 n 0 .no .no .no ⋯;rw [<- zdJ]at q;have s1:(qw 2 (qc zB)) (jr 7 [.lst (szL n hs ws),.tup (zx (off hs ws n) u)])=some (.next [.val (.lst (szL n hs ws)),.val (.tup (zx (off hs ws n) u)),.own (tbL 0 hs ws (qC hs ws u)),.no,.no,.no,.no]):=rfl;have s2:(jh 3 (zu (.int 0))) [.val (.lst (szL n hs ws)),.val (.tup (zx (off hs ws n) u)),.own (tbL 0 hs ws (qC hs ws u)),.no,.no,.no,.no]=some (.next [.val (.lst (szL n hs ws)),.val (.tup (zx (off hs ws n) u)),.own (tbL 0 hs ws (qC hs ws u)),.val (.int (off hs ws 0:Nat)),.no,.no,.no]):=rfl;have s3:(qV (zW (zt (ze 0))) (.tp [4,5]) tiB) [.val (.lst (szL n hs ws)),.val (.tup (zx (off hs ws n) u)),.own (tbL 0 hs ws (qC hs ws u)),.val (.int (off hs ws 0:Nat)),.no,.no,.no]=some (.next [.val (.lst (szL n hs ws)),.val (.tup (zx (off hs ws n) u)),.own (tbL n hs ws (qC hs ws u)),.val (.int (off hs ws n:Nat)),c4,c5,c6]):=by
  rw [kB];simp only [jU,z7,zH,zcJ,zg,zcL,zG,zcN];exact q
 exact jo (zq s1 (zq s2 (zq s3 rfl)))
theorem QD(hs ws:Nat->Nat) : ∀n,zv (λk=>(hs k:Int)*(ws k:Int)) n=(off hs ws n:Nat)
 | 0=>rfl
 | n+1=>by
  show zv _ n+_=((off hs ws n+hs n*ws n:Nat):Int);rw [QD hs ws n,zfr,zeI]
theorem kS{n:Nat}(hn:n<=100)(hw : ∀k,ws k<=100):F_numbers_in [.lst (szL n hs ws)]=some (.val (.int (off hs ws n:Nat))):=by
 have Y:=jB;have y:n<=lim:=by omega
 have k1:ji (.tp [0,1]) js (zy qK (ze 0) (ze 1)) [Cell.no,Cell.no] (szL n hs ws)=some (zx n λk=>(hs k:Int)*(ws k:Int)):=by
  unfold szL;rw [zY n λk=>(hs k:Int)*(ws k:Int)];refine zA _ _ λk hk=>zD rfl rfl ?_;have I:yp (hs k:Int) (ws k:Int)=true:=yo _ _ ⋯ (by have:=hw k;omega);show zy _ _ _ [Cell.val (.int (hs k:Nat)),Cell.val (.int (ws k:Nat))]=_;simp [I]
 have O:=xu (λk=>(hs k:Int)*(ws k:Int)) n;have U:=Yx n hs ws;refine jo ?_;show((JZ _) [.val (.lst (szL n hs ws))]).map _=_;simp only [Jm,xf,jK,jU,zI,zcJ,zo,zG,zcN,zcL,U,y,if_true];rw [show jy 2 [] [Cell.val (.lst (szL n hs ws))]=[Cell.no,Cell.no]from rfl,k1];simp only [zcN,zcL,O,QD]
end
section
variable{p:Int}{m:Nat}{w:Nat->Bool}{wd wd':Nat->Nat}{T T' S:Nat->Nat->Nat->Int}
def K4(p:Int)(w:Nat->Bool)(wd wd':Nat->Nat)(T T' S:Nat->Nat->Nat->Int)(k i j:Nat):Int:=
 (zv (λt=>T' k t j*S (jJ w k) i t) (hiW w wd' k)%p+(-1)*(zv (λt=>S (jS w k) t j*T k i t) (wiW w wd k)%p))%p
theorem kQ(hm:m<=4):F_room_sizes [zO p m w wd' T',zO p m w wd T]=some (.own (szL (m+1) wd wd')):=by
 have O:=jB;have y:m+1<=lim:=by omega
 have I:=qp p m w wd T;have x1:=qp p m w wd' T';have i1:ixD 3 1=some 1:=rfl;have z:yh (zx (m+1) λk=>(wd k:Int)) (zx (m+1) λk=>(wd' k:Int))=szL (m+1) wd wd':=kc (m+1) (λk=>(wd k:Int)) λk=>(wd' k:Int);refine jo ?_;show((Z3 _ _) [.val (zO p m w wd' T'),.val (zO p m w wd T)]).map _=_;simp only [Kz,jT,zI,jf,zcJ,zcK,zcU,zcW,zc0,zc4,zo,zcL,zcN,I,x1,zM,i1,zZ,zX,y,if_true,z]
theorem WW{h w:Nat}(f g:Nat->Nat->Int)(y:0<p)(I:h<=lim)(hw:w<=lim):F_less [.int p,jD h w f,jD h w g]=some (.val (jD h w λi j=>(f i j+(-1)*g i j)%p)):=by
 have e:=yz (-1) f g ⋯ ⋯ y I hw;refine jo ?_;show((zw F_added_times _) [.val (.int p),.val (jD h w f),.val (jD h w g)]).map _=_;have O:VL (zu (.int 1)) [.val (.int p),.val (jD h w f),.val (jD h w g)]=some (.int (-1)):=rfl;simp only [jb,zN,z6,zH,O,zcJ,zcK,zg,zcL,zcN,e,xB]
theorem W9(I:0<p)(ao:p<=100)(hm:m<=4)(hw : ∀k,wd k<=9)(Y : ∀k,wd' k<=9)(a7 : ∀k i j,0<=T' k i j/\T' k i j<p)(bS : ∀k i j,0<=S k i j/\S k i j<100){k:Nat}(y:k<m) :
 F_gap [zO p m w wd' T',zO p m w wd T,.lst (tbL (m+1) wd wd' S),.int (k:Int)]=some (.val (jD (hiW w wd k) (wiW w wd' k) (K4 p w wd wd' T T' S k))):=by
 have hl:=jB;have x0:=qp p m w wd T;have x1:=qp p m w wd' T';have i0:ixD 3 0=some 0:=rfl;have i2:ixD 3 2=some 2:=rfl;have j0:ixD 2 0=some 0:=rfl;have j1:ixD 2 1=some 1:=rfl;have al:(qI m w wd T).length=m:=by simp [qI]
 have a3:(qI m w wd' T').length=m:=by simp [qI]
 have aa:(qI m w wd T)[k]? = some (VA w wd T k):=by unfold qI;simp [y]
 have a4:(qI m w wd' T')[k]? = some (VA w wd' T' k):=by unfold qI;simp [y]
 have a0:jE (VA w wd T k)=some (.T,[.str (kh (wch (w k))),jD (hiW w wd k) (wiW w wd k) (T k)]):=rfl;have a1:jE (VA w wd' T' k)=some (.T,[.str (kh (wch (w k))),jD (hiW w wd' k) (wiW w wd' k) (T' k)]):=rfl;have l1:=xp (w:=w) y;have l2:=xq (w:=w) y;have tl:=kF (m+1) wd wd' S;have te:=yJ (hs:=wd) (ws:=wd') (T:=S) l1;have tb:=yJ (hs:=wd) (ws:=wd') (T:=S) l2;rw [jp w wd,jp w wd']at te;rw [jv w wd,jv w wd']at tb;have ee:=Jo w k;have eb:=kD w k;have O:hiW w wd k<=lim:=by rw [<- jp];have:=hw (jJ w k);omega
 have b2:hiW w wd' k<=lim:=by rw [<- jp];have:=Y (jJ w k);omega
 have b3:wiW w wd k<=lim:=by rw [<- jv];have:=hw (jS w k);omega
 have U:wiW w wd' k<=lim:=by rw [<- jv];have:=Y (jS w k);omega
 have p1:=yr (h:=hiW w wd k) (m:=hiW w wd' k) (w:=wiW w wd' k) (S (jJ w k)) (T' k) I O b2 U λi j _ _=>by have:=a7 k i j;omega
 have p2:=yr (h:=hiW w wd k) (m:=wiW w wd k) (w:=wiW w wd' k) (T k) (S (jS w k)) I O b3 U λi j _ _=>bS _ i j;have le:=WW (h:=hiW w wd k) (w:=wiW w wd' k) (λi j=>zv (λt=>T' k t j*S (jJ w k) i t) (hiW w wd' k)%p) (λi j=>zv (λt=>S (jS w k) t j*T k i t) (wiW w wd k)%p) I O U;have s1:(jh 4 (sIx (zh 0) (zu (.int 0)))) (jr 8 [zO p m w wd' T',zO p m w wd T,.lst (tbL (m+1) wd wd' S),.int (k:Int)])=some (.next [.val (zO p m w wd' T'),.val (zO p m w wd T),.val (.lst (tbL (m+1) wd wd' S)),.val (.int (k:Int)),.val (.int p),.no,.no,.no]):=by
  show(jh _ _) [.val (zO p m w wd' T'),.val (zO p m w wd T),.val (.lst (tbL (m+1) wd wd' S)),.val (.int (k:Int)),.no,.no,.no,.no]=_;simp only [ju,jT,zI,jf,zcJ,zcU,zcW,zc0,zc4,zo,zcL,zcN,x1,zM,i0,zcR,zcQ]
 have s2:(jh 5 (sIx (zt (sIx (zt (sIx (zh 0) (zu (.int 2)))) (ze 3))) (zu (.int 0)))) [.val (zO p m w wd' T'),.val (zO p m w wd T),.val (.lst (tbL (m+1) wd wd' S)),.val (.int (k:Int)),.val (.int p),.no,.no,.no]=some (.next [.val (zO p m w wd' T'),.val (zO p m w wd T),.val (.lst (tbL (m+1) wd wd' S)),.val (.int (k:Int)),.val (.int p),.val (.str (kh (wch (w k)))),.no,.no]):=by
  simp only [ju,jT,z7,zI,zH,jf,zcJ,zcK,zcU,zcW,zc0,zc4,zo,zg,zcL,zcN,x1,zM,i2,zZ,a3,je,y,if_true,a4,a1,j0,zcR,zcQ]
 have s3:(jh 6 (zw F_product (zb (ze 4) (zb (sIx (zh 2) (zw F_end_of (zb (ze 3) (zb (ze 5) zB)))) (zb (sIx (zt (sIx (zt (sIx (zh 0) (zu (.int 2)))) (ze 3))) (zu (.int 1))) zB))))) [.val (zO p m w wd' T'),.val (zO p m w wd T),.val (.lst (tbL (m+1) wd wd' S)),.val (.int (k:Int)),.val (.int p),.val (.str (kh (wch (w k)))),.no,.no]=some (.next [.val (zO p m w wd' T'),.val (zO p m w wd T),.val (.lst (tbL (m+1) wd wd' S)),.val (.int (k:Int)),.val (.int p),.val (.str (kh (wch (w k)))),.val (jD (hiW w wd k) (wiW w wd' k) λi j=>zv (λt=>T' k t j*S (jJ w k) i t) (hiW w wd' k)%p),.no]):=by
  simp only [ju,jb,zN,z6,jT,z7,zI,zH,jf,zcJ,zcK,zcU,zcW,zc0,zc4,zo,zg,zcL,zcN,x1,zM,i2,zZ,zG,a3,je,y,l1,if_true,a4,a1,j1,ee,xB,tl,te,p1,zcR,zcQ]
 have s4:(jh 7 (zw F_product (zb (ze 4) (zb (sIx (zt (sIx (zt (sIx (zh 1) (zu (.int 2)))) (ze 3))) (zu (.int 1))) (zb (sIx (zh 2) (zw F_beginning_of (zb (ze 3) (zb (ze 5) zB)))) zB))))) [.val (zO p m w wd' T'),.val (zO p m w wd T),.val (.lst (tbL (m+1) wd wd' S)),.val (.int (k:Int)),.val (.int p),.val (.str (kh (wch (w k)))),.val (jD (hiW w wd k) (wiW w wd' k) λi j=>zv (λt=>T' k t j*S (jJ w k) i t) (hiW w wd' k)%p),.no]=some (.next [.val (zO p m w wd' T'),.val (zO p m w wd T),.val (.lst (tbL (m+1) wd wd' S)),.val (.int (k:Int)),.val (.int p),.val (.str (kh (wch (w k)))),.val (jD (hiW w wd k) (wiW w wd' k) λi j=>zv (λt=>T' k t j*S (jJ w k) i t) (hiW w wd' k)%p),.val (jD (hiW w wd k) (wiW w wd' k) λi j=>zv (λt=>S (jS w k) t j*T k i t) (wiW w wd k)%p)]):=by
  simp only [ju,jb,zN,z6,jT,z7,zI,zH,jf,zcJ,zcK,zcU,zcW,zc0,zc4,zo,zg,zcL,zcN,x0,zM,i2,zZ,zG,al,je,y,l2,if_true,aa,a0,j1,eb,xB,tl,tb,p2,zcR,zcQ]
 have s5:(jV (zw F_less (zb (ze 4) (zb (ze 6) (zb (ze 7) zB))))) [.val (zO p m w wd' T'),.val (zO p m w wd T),.val (.lst (tbL (m+1) wd wd' S)),.val (.int (k:Int)),.val (.int p),.val (.str (kh (wch (w k)))),.val (jD (hiW w wd k) (wiW w wd' k) λi j=>zv (λt=>T' k t j*S (jJ w k) i t) (hiW w wd' k)%p),.val (jD (hiW w wd k) (wiW w wd' k) λi j=>zv (λt=>S (jS w k) t j*T k i t) (wiW w wd k)%p)]=some (.ret (.val (jD (hiW w wd k) (wiW w wd' k) (K4 p w wd wd' T T' S k)))):=by
  simp only [xM,jb,zN,z6,zH,zcJ,zcK,zg,zcL,zcN,le,xB];rfl
 exact jo (zq s1 (zq s2 (zq s3 (zq s4 s5))))
theorem Vj(y:0<p)(I:p<=100)(hm:m<=4)(hw : ∀k,wd k<=9)(O : ∀k,wd' k<=9)(U : ∀k i j,0<=T' k i j/\T' k i j<p)(Y : ∀k i j,0<=S k i j/\S k i j<100) :
 F_gaps [zO p m w wd' T',zO p m w wd T,.lst (tbL (m+1) wd wd' S)]=some (.own (tbL m (hiW w wd) (wiW w wd') (K4 p w wd wd' T T' S))):=by
 have hl:=jB;have a0:m<=lim:=by omega
 have x1:=qp p m w wd' T';have i2:ixD 3 2=some 2:=rfl;have a1:(qI m w wd' T').length=m:=by simp [qI]
 have rm:inR (m:Int)=true:=qP ⋯ ⋯;have k1:ji (.nm 0) js (zw F_gap (zb (ze 1) (zb (ze 2) (zb (ze 3) (zb (ze 0) zB))))) [Cell.no,.val (zO p m w wd' T'),.val (zO p m w wd T),.val (.lst (tbL (m+1) wd wd' S))] ((zcP m).map λk:Nat=>D.int (k:Int))=some (tbL m (hiW w wd) (wiW w wd') (K4 p w wd wd' T T' S)):=by
  unfold tbL;refine zA _ _ λk hk=>zD rfl rfl ?_;have g:=W9 (w:=w) (T:=T) (S:=S) y I hm hw O U Y (zc1.mp hk);unfold tbL at g;show zw _ _ [Cell.val (.int (k:Int)),.val (zO p m w wd' T'),.val (zO p m w wd T),.val (.lst _)]=_;simp only [jb,zN,z6,zH,zcJ,zcK,zg,zcL,zcN,g,xB]
 refine jo ?_;show((zV _ _ _ _ _ _) [.val (zO p m w wd' T'),.val (zO p m w wd T),.val (.lst (tbL (m+1) wd wd' S))]).map _=_;simp only [jK,qh,Zk,z7,jT,zI,jf,zcJ,zcK,zcU,zcW,zc0,zc4,zo,zcL,zcN,x1,zM,i2,zZ,a1,rm,if_true,zdf,jL,zX,a0];rw [zY m λi=>(i:Int),show jy 1 [0,1,2] [.val (zO p m w wd' T'),.val (zO p m w wd T),.val (.lst (tbL (m+1) wd wd' S))]=[Cell.no,.val (zO p m w wd' T'),.val (zO p m w wd T),.val (.lst (tbL (m+1) wd wd' S))]from rfl,k1];rfl
def kE(c x:Nat):Int:=if c=x then 1 else 0
def k7(p:Int)(m:Nat)(w:Nat->Bool)(wd wd':Nat->Nat)(T T':Nat->Nat->Nat->Int)(e c:Nat):Int:=wrF (hiW w wd) (wiW w wd') (K4 p w wd wd' T T' (qC wd wd' (kE c))) m e
theorem hi9(hw : ∀k,wd k<=9)(k):hiW w wd k<=100:=by rw [<- jp];have:=hw (jJ w k);omega
theorem wi9(hw : ∀k,wd k<=9)(k):wiW w wd k<=100:=by rw [<- jv];have:=hw (jS w k);omega
theorem wb(U:0<p)(Y:p<=100)(hm:m<=4)(hw : ∀k,wd k<=9)(y : ∀k,wd' k<=9)(a0 : ∀k i j,0<=T' k i j/\T' k i j<p)(h1:off wd wd' (m+1)<=2000)(h2:off (hiW w wd) (wiW w wd') m<=2000) :
 F_gaps_table [zO p m w wd' T',zO p m w wd T]=some (.val (jD (off (hiW w wd) (wiW w wd') m) (off wd wd' (m+1)) (k7 p m w wd wd' T T'))):=by
 have hl:=jB;have rs:=kQ (p:=p) (w:=w) (wd:=wd) (wd':=wd') (T:=T) (T':=T') hm;have ni:=kS (n:=m+1) (hs:=wd) (ws:=wd') ⋯ λk=>by have:=y k;omega
 have a3:F_arrow_sizes [zO p m w wd' T',zO p m w wd T]=some (.own (szL m (hiW w wd) (wiW w wd'))):=Zv hm;have na:=kS (n:=m) (hs:=hiW w wd) (ws:=wiW w wd') ⋯ (wi9 y);generalize hN:off wd wd' (m+1)=N at *;generalize hA:off (hiW w wd) (wiW w wd') m=A at *;have I:N<=lim:=by omega
 have a7:A<=lim:=by omega
 have sa:=Xk I;have so:jE (jD N N λi j=>if i=j then 1 else 0)=some (.T,[.int (N:Int),.int (N:Int),.tup (jN N N λi j=>if i=j then 1 else 0)]):=rfl;have i2:ixD 3 2=some 2:=rfl;have l3:3<=lim:=by omega
 have k1:ji (.nm 0) js (zw F_written (zb (jA (z5 F_gaps (zb (ze 1) (zb (ze 2) (zb (jA (z5 F_tables_in (zb (ze 3) (zb (ze 0) zB)))) zB))))) zB)) [Cell.no,.val (zO p m w wd' T'),.val (zO p m w wd T),.val (.lst (szL (m+1) wd wd'))] (jN N N λi j=>if i=j then 1 else 0)=some (jN N A λc e=>k7 p m w wd wd' T T' e c):=by
  unfold jN;refine zA _ _ λc hc=>zD rfl rfl ?_;have ti:=xS (n:=m+1) (hs:=wd) (ws:=wd') ⋯ (λk=>by have:=hw k;omega) (λk=>by have:=y k;omega) (kE c) hN.symm;have bu : ∀k i j,0<=qC wd wd' (kE c) k i j/\qC wd wd' (kE c) k i j<100:=λk i j=>by
   unfold qC kE;split<;>decide
  have g:=Vj (m:=m) (w:=w) (T:=T) U Y hm hw y a0 bu;have O:=vw (n:=m) (hs:=hiW w wd) (ws:=wiW w wd') (T:=K4 p w wd wd' T T' (qC wd wd' (kE c))) ⋯;rw [hA]at O;have tu:F_tables_in [.lst (szL (m+1) wd wd'),.tup (zx N λj=>if c=j then 1 else 0)]=some (.own (tbL (m+1) wd wd' (qC wd wd' (kE c)))):=ti;show zw _ _ [Cell.val (.tup (zx N λj=>if c=j then 1 else 0)),.val (zO p m w wd' T'),.val (zO p m w wd T),.val (.lst (szL (m+1) wd wd'))]=_;simp only [jb,zN,z6,zH,j5,ql,zcJ,zcK,zg,zcL,zcN,tu,wK,g,O,xB];rfl
 have s1:(jh 2 (jA (z5 F_room_sizes (zb (ze 0) (zb (ze 1) zB))))) (jr 5 [zO p m w wd' T',zO p m w wd T])=some (.next [.val (zO p m w wd' T'),.val (zO p m w wd T),.val (.lst (szL (m+1) wd wd')),.no,.no]):=by
  show(jh _ _) [.val (zO p m w wd' T'),.val (zO p m w wd T),.no,.no,.no]=_;simp only [ju,j5,ql,zN,z6,zH,zcJ,zcK,zg,zcL,zcN,rs,wK,zcR,zcQ]
 have s2:(jh 3 (zw F_numbers_in (zb (ze 2) zB))) [.val (zO p m w wd' T'),.val (zO p m w wd T),.val (.lst (szL (m+1) wd wd')),.no,.no]=some (.next [.val (zO p m w wd' T'),.val (zO p m w wd T),.val (.lst (szL (m+1) wd wd')),.val (.int (N:Int)),.no]):=by
  simp only [ju,jb,zN,z6,zH,zcJ,zcK,zg,zcL,zcN,ni,xB,zcR,zcQ]
 have s3:(jh 4 (jA (zV (zW (zt (sIx (zt (zw F_same_table (zb (ze 3) zB))) (zu (.int 2))))) (.nm 0) 1 [0,1,2] js (zw F_written (zb (jA (z5 F_gaps (zb (ze 1) (zb (ze 2) (zb (jA (z5 F_tables_in (zb (ze 3) (zb (ze 0) zB)))) zB))))) zB))))) [.val (zO p m w wd' T'),.val (zO p m w wd T),.val (.lst (szL (m+1) wd wd')),.val (.int (N:Int)),.no]=some (.next [.val (zO p m w wd' T'),.val (zO p m w wd T),.val (.lst (szL (m+1) wd wd')),.val (.int (N:Int)),.val (.lst (jN N A λc e=>k7 p m w wd wd' T T' e c))]):=by
  rw [ju,j5,jK];simp only [jU,z7,jT,jb,zN,z6,zH,jf,zcJ,zcK,zcU,zcW,zc0,zc4,zg,zcL,zcN,sa,xB,so,zM,i2,zZ,xx,I,if_true];rw [show jy 1 [0,1,2] [.val (zO p m w wd' T'),.val (zO p m w wd T),.val (.lst (szL (m+1) wd wd')),.val (.int (N:Int)),.no]=[Cell.no,.val (zO p m w wd' T'),.val (zO p m w wd T),.val (.lst (szL (m+1) wd wd'))]from rfl,k1];rfl
 have tv:=k5 (h:=N) (w:=A) (λc e=>k7 p m w wd wd' T T' e c) I a7;have s4:(jV (zw F_turned_over (zb (qU (zb (ze 3) (zb (zw F_numbers_in (zb (jA (z5 F_arrow_sizes (zb (ze 0) (zb (ze 1) zB)))) zB)) (zb (zT (zh 4)) zB)))) zB))) [.val (zO p m w wd' T'),.val (zO p m w wd T),.val (.lst (szL (m+1) wd wd')),.val (.int (N:Int)),.val (.lst (jN N A λc e=>k7 p m w wd wd' T T' e c))]=some (.ret (.val (jD A N (k7 p m w wd wd' T T')))):=by
  have ta:(qU (zb (ze 3) (zb (zw F_numbers_in (zb (jA (z5 F_arrow_sizes (zb (ze 0) (zb (ze 1) zB)))) zB)) (zb (zT (zh 4)) zB)))) [.val (zO p m w wd' T'),.val (zO p m w wd T),.val (.lst (szL (m+1) wd wd')),.val (.int (N:Int)),.val (.lst (jN N A λc e=>k7 p m w wd wd' T T' e c))]=some (jD N A λc e=>k7 p m w wd wd' T T' e c):=by
   simp only [kA,zN,z6,zH,zI,ko,jb,j5,ql,zcJ,zcK,zcU,zcW,zc0,zc4,zg,zo,zG,zcL,zcN,a3,wK,na,xB,l3,if_true];rfl
  simp only [xM,jb,zN,z6,ta,zcL,zcN,tv,xB]
 exact jo (zq s1 (zq s2 (zq s3 s4)))
end
theorem w5{T:Tg}{F:CO Fl}(P:Nat->Ctx->Prop) : ∀(ds es:List D) (k:Nat) (γ:Ctx),P k γ->(∀i d γ,ds[i]? = some d->P (k+i) γ->∃γ',(qE T d γ).bind F=some (.next γ')/\P (k+i+1) γ')->
 ∃γ',P (k+ds.length) γ'/\qD T F (ds++es) γ=qD T F es γ'
 | [],es,k,γ,h,_=>⟨γ,h,rfl⟩
 | d::ds,es,k,γ,h,step=>by
  obtain⟨y,e,h1⟩:=step 0 d γ rfl h;obtain⟨γ',h2,e2⟩:=w5 P ds es (k+1) y (by simpa using h1) (λi d' I hd O=>by
   have:=step (i+1) d' I (by simpa using hd) (by rw [show k+(i+1)=k+1+i by omega];exact O);rw [show k+(i+1)+1=k+1+i+1 by omega]at this;exact this)
  refine⟨γ',by rw [show k+(d::ds).length=k+1+ds.length by simp;omega];exact h2,?_⟩;rw [List.cons_append,jR];cases eb:qE T d γ with
  | none=>rw [eb]at e;simp at e
  | some U=>
   rw [eb]at e;simp only [zcL]at e ⊢;rw [e];exact e2
theorem Kq(n:Nat)(v:Vc):qx (zx n v)=(zcP n).map λ(i:Nat)=>D.tup [.int i,.int (v i)]:=by
 unfold qx;rw [Jg];refine zdA λi hi=>?_;have:=zc1.mp hi;simp [zx,this]
theorem Zl{n a:Nat}(hn:n<=lim)(v:Vc)(ha:a<n)(I : ∀i,i<a->v i=0)(h1:v a≠0):F_lead_of [.tup (zx n v)]=some (.val (.int a)):=by
 have y:ji (.tp [0,1]) (sB (zy dNe (ze 1) (zu (.int 0)))) (ze 0) [Cell.no,Cell.no] ((zcP n).map λ(i:Nat)=>D.tup [.int i,.int (v i)])=some (((zcP n).filter λi=> !decide (v i=0)).map λ(i:Nat)=>D.int i):=by
  refine xG _ _ _ λi hi=>⟨_,rfl,?_,λ_=>rfl⟩;simp
 cases hf:(zcP n).filter λi=> !decide (v i=0)with
 | nil=>exact absurd (by have:=QF hf a ha;simpa using this) h1
 | cons b xA=>
  obtain⟨Y,O,U⟩:=w6 hf;have e:b=a:=by
   rcases Nat.lt_trichotomy a b with z | z | z
   ·exact absurd (by have:=U a z;simpa using this) h1
   ·exact z.symm
   ·exact absurd (I b z) (by simpa using O)
  subst e;rw [hf]at y;simp [F_lead_of,jO,jr,Kq,hn,jy,zcS,y]
theorem JT{n a:Nat}(ha:a<n)(v y:Vc)(x:Int)(h1:y a=x)(h2 : ∀i,i<n->i≠a->y i=v i):(zx n v).set a (.int x)=zx n y:=by
 apply List.ext_getElem?;intro i;rw [List.getElem?_set];by_cases hi:i<n
 ·by_cases e:a=i
  ·subst e;simp [ha,zx,h1]
  ·have:=h2 i hi (zdy e)
   simp [e,zx,hi,this]
 ·have I:(zx n v)[i]? = none:=by simp [zx];omega
  have l2:(zx n y)[i]? = none:=by simp [zx];omega
  rw [I,l2,if_neg ⋯]
def ZT(w:Nat)(B:Nat->Vc)(l:Nat->Nat)(r:Nat):Vc:=λj=>zv (λk=>if l k=j then B k w else 0) r
def xy:CO Fl:=(zU (jh 6 (zw F_lead_of (zb (ze 5) zB))) (zU (sIf (sB (zy dEq (ze 6) (ze 3))) (jV (zu .non)) jt) (vC 4 (ze 6) (sIx (zh 5) (ze 3)))))
section
variable{p:Int}{h w r:Nat}
theorem Ka{l:Nat->Nat}(hm : ∀k m,k<m->m<r->l k<l m){k m:Nat}(y:k<r)(I:m<r)(e:l k=l m):k=m:=by
 rcases Nat.lt_trichotomy k m with z | z | z
 ·have:=hm k m z I;omega
 ·exact z
 ·have:=hm m k z y;omega
def aug(w:Nat)(f:Nat->Nat->Int)(b:Vc):Nat->Vc:=λi j=>if j<w then f i j else b i
theorem JB{B:Nat->Vc}{l:Nat->Nat}(a5:w+1<=lim)(O:IsB p (w+1) r B l){s:Nat}(hs:s<=r)(h1 : ∀k,k<s->l k<w)(es:List D)(a0 y I:Cell) :
 ∃c5 c6,qD (.nm 5) xy (jN s (w+1) B++es) [a0,y,I,.val (.int w),.own (zx w λ_=>0),.no,.no]=qD (.nm 5) xy es [a0,y,I,.val (.int w),.own (zx w (ZT w B l s)),c5,c6]:=by
 obtain⟨γ',⟨c5,c6,rfl⟩,e⟩:=w5 (T:= .nm 5) (F:=xy) (λt γ=>∃c5 c6,γ=[a0,y,I,.val (.int w),.own (zx w (ZT w B l t)),c5,c6]) (jN s (w+1) B) es 0 [a0,y,I,.val (.int w),.own (zx w λ_=>0),.no,.no]
  ⟨.no,.no,by rw [wc (f:=ZT w B l 0) (g:=λ_=>0) λi _=>rfl]⟩ (by
   rintro k d γ hd ⟨c5,c6,rfl⟩;rw [zc0];have hk:k<s:=by have:=(zc9.mp hd).1;simpa using this
   have a6:d = .tup (zx (w+1) (B k)):=by simp [hk]at hd;exact hd.symm
   subst a6;have U:k<r:=by omega
   have a4:=h1 k hk;have le:=Zl a5 (B k) (show l k<w+1 by omega) (λi hi=>O.bef k i U hi) (by rw [O.one k U];decide);refine⟨_,?_,.val (.tup (zx (w+1) (B k))),.val (.int (l k)),rfl⟩;have Y : ¬((l k:Int)=(w:Int)):=by omega
   have a7 : ¬l k=w:=by omega
   have hx:w<w+1:=by omega
   have ev:=JT a4 (ZT w B l k) (ZT w B l (k+1)) (B k w) (by
    unfold ZT;simp only [zv,if_true];rw [zE (g:=λ_=>0) λm hm=>by
     rw [if_neg λe=>by have:=O.mono m k hm U;omega],jj]
    omega) (λi hi Y=>by
    unfold ZT;simp only [zv];rw [if_neg (zdy Y)];omega)
   simp [xy,j4,le,Y,a7,a4,hx,ev])
 rw [Kt]at e;refine⟨c5,c6,?_⟩;rw [e];rw [zc0]
theorem Vy(w:Nat)(f:Nat->Nat->Int)(b:Vc)(i:Nat):zx w (f i)++[.int (b i)]=zx (w+1) (aug w f b i):=by
 unfold zx;rw [zeq,zdX];congr 1
 ·exact zdA λj y=>by simp [aug,zc1.mp y]
 ·simp [aug]
theorem vm(U:Pr p)(hh:h<=90)(hw:w<=90)(f:Nat->Nat->Int)(b:Vc) :
 ∃r B l s,IsB p (w+1) r B l/\(∀v,Span p (w+1) (Fam r B) v↔Span p (w+1) (Fam h (aug w f b)) v)/\s<=r/\(∀k,k<s->l k<w)/\(∀k,s<=k->k<r->w<=l k)/\
  F_solved [.int p,jD h w f,.tup (zx h b)]=some (.val (if s<r then .non else .tup (zx w (ZT w B l s)))):=by
 have hl:=jB;have O:h<=lim:=by omega
 have Y:w<=lim:=by omega
 have I:w+1<=lim:=by omega
 obtain⟨r,B,l,e,y,a0⟩:=Zn U (show w+1<=100 by omega) O .L (aug w f b);obtain⟨s,hs,s1,s2⟩:=Z1 w y.mono;refine⟨r,B,l,s,y,a0,hs,s1,s2,?_⟩;have rows:ji (.tp [0,1]) js (zy qb (ze 0) (qU (zb (ze 1) zB))) [Cell.no,Cell.no] ((zcP h).map λi=>D.tup [.tup (zx w (f i)),.int (b i)])=some (jN h (w+1) (aug w f b)):=by
  unfold jN;refine zA _ _ λi hi=>zD rfl rfl ?_;simp [qb,I,Vy]
 have zp:yh (jN h w f) (zx h b)=(zcP h).map λi=>D.tup [.tup (zx w (f i)),.int (b i)]:=by
  unfold yh jN zx;rw [zfD];simp
 have a2:zcS w (D.int 0)=zx w λ_=>0:=by rw [wN];rfl
 have c1:((w+1:Nat):Int)=(w:Int)+1:=by omega
 simp only [dsq]at e;rw [c1]at e;obtain⟨d,hd⟩ : ∃d,r=s+d:=⟨r - s,by omega⟩;have sp:jN r (w+1) B=jN s (w+1) B++jN d (w+1) λk=>B (s+k):=by
  unfold jN;rw [hd,List.range_add,zdX,zfP];rfl
 obtain⟨c5,c6,lp⟩:=JB I y hs s1 (jN d (w+1) λk=>B (s+k)) (.val (.int p)) (.val (jD h w f)) (.val (.tup (zx h b)));have x0:jE (jD h w f)=some (.T,[.int h,.int w,.tup (jN h w f)]):=rfl;have e0:F_solved=jO 7 (zU (jh 3 (sIx (zh 1) (zu (.int 1)))) (zU (qw 4 (Zw (jw (qc (zb (zu (.int 0)) zB))) (ze 3))) (zU (qV (zW (zt (jA (z5 F_base_of (zb (ze 0) (zb (zy qb (ze 3) (zu (.int 1))) (zb (jA (zV (Zo (sIx (zh 1) (zu (.int 2))) (ze 2)) (.tp [0,1]) 2 [] js (zy qb (ze 0) (qU (zb (ze 1) zB))))) zB))))))) (.nm 5) xy) (jV (zT (zh 4)))))):=rfl;rw [e0];simp [jO,jr,j4,x0,Y,zp,O,jy,zcS,rows,e];rw [a2,sp,lp];by_cases z:s<r
 ·
  have a7:d=1:=by
   rcases zfq 1 d with q | q
   ·have h1:=y.mono s (s+1) ⋯ ⋯
    have h2:=s2 s (zcZ _) z;have h3:=y.lt (s+1) ⋯;omega
   ·omega
  subst a7;have a8:l s=w:=by have:=s2 s (zcZ _) z;have:=y.lt s z;omega
  have le:=Zl I (B s) (show w<w+1 by omega) (λi hi=>y.bef s i z ⋯) (by have:=y.one s z;rw [a8]at this;rw [this];decide);have one:jN 1 (w+1) (λk=>B (s+k))=[.tup (zx (w+1) (B s))]:=rfl;rw [one,jR];simp [xy,j4,le,z]
 ·have a9:d=0:=by omega
  subst a9;have zero:jN 0 (w+1) (λk=>B (s+k))=[]:=rfl;rw [zero];simp [qD,z]
end
theorem VG{w:Nat}{B:Nat->Vc}{l:Nat->Nat}{r j:Nat}(h : ∀k,k<r->l k≠j):ZT w B l r j=0:=by
 unfold ZT;rw [zE (g:=λ_=>0) λk y=>if_neg (h k y),jj]
theorem zao{p:Int}{w n r:Nat}{B:Nat->Vc}{l:Nat->Nat}(I:IsB p n r B l){k:Nat}(y:k<r):ZT w B l r (l k)=B k w:=by
 unfold ZT;rw [qo y λm hm O=>if_neg λe=>O (Ka I.mono hm y e),if_pos rfl]
theorem Xz{p:Int}{h w:Nat}{f:Nat->Nat->Int}{b y:Vc}(Y : ∀i,i<h->zv (λj=>f i j*y j) w%p=b i%p){v:Vc}(hv:Span p (w+1) (Fam h (aug w f b)) v):(v w - zv (λj=>v j*y j) w)%p=0:=by
 induction hv with
 | @zero v O=>
  have e:zv (λj=>v j*y j) w%p=zv (λ_=>0) w%p:=qf λj U=>by rw [zdo,O j ⋯];simp
  rw [zet,e,O w ⋯,jj];simp
 | @step v I g c hg a5 h1 ih=>
  obtain⟨i,hi,rfl⟩:=hg;have e1:zv (λj=>v j*y j) w%p=(zv (λj=>I j*y j) w+c*zv (λj=>f i j*y j) w)%p:=by
   rw [<- j9,<- qW];refine qf λj U=>?_;rw [zdo,h1 j ⋯,<- zdo];have:aug w f b i j=f i j:=by simp [aug,U]
   rw [this,Int.add_mul,Int.mul_assoc]
  have e2:v w%p=(I w+c*b i)%p:=by
   rw [h1 w ⋯];have:aug w f b i w=b i:=by simp [aug]
   rw [this]
  have e3:(c*zv (λj=>f i j*y j) w)%p=(c*b i)%p:=by rw [zdo,Y i hi,<- zdo]
  rw [zet,e1,e2,<- zet];have e4:(I w+c*b i - (zv (λj=>I j*y j) w+c*zv (λj=>f i j*y j) w))=(I w - zv (λj=>I j*y j) w)+(c*b i - c*zv (λj=>f i j*y j) w):=by omega
  rw [e4,zdS,ih,zet,e3];simp
theorem Z2{p:Int}(Y:Pr p){h w:Nat}(hh:h<=90)(hw:w<=90)(f:Nat->Nat->Int)(b y:Vc)(U : ∀i,i<h->0<=b i/\b i<p)(hy : ∀i,i<h->zv (λj=>f i j*y j) w%p=b i) :
 ∃x:Vc,F_solved [.int p,jD h w f,.tup (zx h b)]=some (.val (.tup (zx w x)))/\(∀j,0<=x j/\x j<p)/\∀i,i<h->zv (λj=>f i j*x j) w%p=b i:=by
 have p0:=Y.pos;obtain⟨r,B,l,s,O,a0,hs,s1,s2,a1⟩:=vm Y hh hw f b;have a5 : ¬s<r:=λz=>by
  have ac:=O.lt s z;have ae:=s2 s (zcZ _) z;have el:l s=w:=by omega
  have sp:=(a0 (B s)).mp (.gen ⟨s,z,rfl⟩);have q:=Xz (y:=y) (λi hi=>by rw [hy i hi,zew (U i hi).1 (U i hi).2]) sp;have h1:=O.one s z;rw [el]at h1;have h2:zv (λj=>B s j*y j) w=0:=by
   rw [zE (g:=λ_=>0) λj hj=>by rw [O.bef s j z ⋯];simp];exact jj _
  rw [h1,h2,Int.sub_zero,Y.one]at q;omega
 rw [if_neg a5]at a1;have er:s=r:=by omega
 subst er;refine⟨_,a1,λj=>?_,λi hi=>?_⟩
 ·by_cases e : ∃k,k<s/\l k=j
  ·obtain⟨k,I,rfl⟩:=e
   rw [zao O I];exact O.rng k w I ⋯
  ·rw [VG λk I e'=>e ⟨k,I,e'⟩];exact⟨Int.le_refl _,p0⟩
 ·have co:=zaf O ((a0 (aug w f b i)).mpr (.gen ⟨i,hi,rfl⟩)) w ⋯
  have aa:aug w f b i w=b i:=by simp [aug]
  rw [aa,zew (U i hi).1 (U i hi).2]at co;rw [co];congr 1;unfold ZT;rw [zE (g:=λj=>zv (λk=>f i j*(if l k=j then B k w else 0)) s) λj _=>(j9 _ _ _).symm,xt];refine zE λk I=>?_;rw [qo (i:=l k) (s1 k I) λj hj ab=>by rw [if_neg (zdy ab)];simp,if_pos rfl];simp only [aug,if_pos (s1 k I)]
theorem ZW{n N:Nat}(a:Nat->Int)(idx:Nat->Nat)(x:Nat->Int)(y : ∀t,t<n->idx t<N):zv (λc=>zv (λt=>a t*kE c (idx t)) n*x c) N=zv (λt=>a t*x (idx t)) n:=by
 rw [zE (g:=λc=>zv (λt=>a t*kE c (idx t)*x c) n) λc _=>(vz _ _ _).symm,xt];refine zE λt I=>?_;rw [qo (i:=idx t) (y t I) λc U O=>by unfold kE;rw [if_neg O];simp];unfold kE;rw [if_pos rfl,zfB]
section
variable{p:Int}{m:Nat}{w:Nat->Bool}{wd wd':Nat->Nat}{T T' S J:Nat->Nat->Nat->Int}
def linT(w:Nat->Bool)(wd wd':Nat->Nat)(T T' X:Nat->Nat->Nat->Int)(k i j:Nat):Int:=
 zv (λt=>T' k t j*X (jJ w k) i t) (hiW w wd' k) - zv (λt=>T k i t*X (jS w k) t j) (wiW w wd k)
theorem Vk(X:Nat->Nat->Nat->Int)(k i j:Nat):K4 p w wd wd' T T' X k i j%p=linT w wd wd' T T' X k i j%p:=by
 unfold K4 linT;rw [zek];rw [zE (f:=λt=>X (jS w k) t j*T k i t) (g:=λt=>T k i t*X (jS w k) t j) λt _=>zeE _ _];generalize zv (λt=>T' k t j*X (jJ w k) i t) (hiW w wd' k)=a;generalize zv (λt=>T k i t*X (jS w k) t j) (wiW w wd k)=b;have:a%p + -1*(b%p)=a%p - b%p:=by omega
 rw [this,<- zet]
theorem QK{X Y:Nat->Nat->Nat->Int}{k i j:Nat}(h1 : ∀t,t<hiW w wd' k->X (jJ w k) i t=Y (jJ w k) i t)(h2 : ∀t,t<wiW w wd k->X (jS w k) t j=Y (jS w k) t j):linT w wd wd' T T' X k i j=linT w wd wd' T T' Y k i j:=by
 unfold linT;rw [zE (f:=λt=>T' k t j*X (jJ w k) i t) (g:=λt=>T' k t j*Y (jJ w k) i t) λt y=>by rw [h1 t y],
  zE (f:=λt=>T k i t*X (jS w k) t j) (g:=λt=>T k i t*Y (jS w k) t j) λt y=>by rw [h2 t y]]
theorem yB(x:Nat->Int){k i j:Nat}(y:k<m)(hi:i<hiW w wd k)(O:j<wiW w wd' k) :
 zv (λc=>k7 p m w wd wd' T T' (off (hiW w wd) (wiW w wd') k+i*wiW w wd' k+j) c*x c) (off wd wd' (m+1))%p=linT w wd wd' T T' (qC wd wd' x) k i j%p:=by
 have U:=xp (w:=w) y;have l2:=xq (w:=w) y;have e1:zv (λc=>k7 p m w wd wd' T T' (off (hiW w wd) (wiW w wd') k+i*wiW w wd' k+j) c*x c) (off wd wd' (m+1))%p=zv (λc=>linT w wd wd' T T' (qC wd wd' (kE c)) k i j*x c) (off wd wd' (m+1))%p:=qf λc Y=>by
  unfold k7;rw [xR hi O m y,zdo,Vk,<- zdo]
 rw [e1];congr 1;have e2 : ∀c,linT w wd wd' T T' (qC wd wd' (kE c)) k i j*x c=zv (λt=>T' k t j*kE c (off wd wd' (jJ w k)+i*wd' (jJ w k)+t)) (hiW w wd' k)*x c+(-1)*(zv (λt=>T k i t*kE c (off wd wd' (jS w k)+t*wd' (jS w k)+j)) (wiW w wd k)*x c):=λc=>by
  unfold linT qC;rw [Int.sub_mul];omega
 rw [zE (λc _=>e2 c),qW,j9];rw [ZW (λt=>T' k t j) (λt=>off wd wd' (jJ w k)+i*wd' (jJ w k)+t) x λt I=>Xd U (by rw [jp w wd];exact hi) (by rw [jp w wd'];exact I)];rw [ZW (λt=>T k i t) (λt=>off wd wd' (jS w k)+t*wd' (jS w k)+j) x λt I=>Xd l2 (by rw [jv w wd];exact I) (by rw [jv w wd'];exact O)];unfold linT qC;omega
def VP(p:Int)(m:Nat)(w:Nat->Bool)(wd wd':Nat->Nat)(T T' J S:Nat->Nat->Nat->Int):Prop:=∀k i j,k<m->i<hiW w wd k->j<wiW w wd' k->linT w wd wd' T T' S k i j%p=(-(J k i j))%p
def flT:CO Fl:=zU (jh 6 (zw F_solved (zb (ze 3) (zb (ze 4) (zb (ze 5) zB))))) (zU (sIf (sB (zy vg (ze 6) (zu .non))) (jV (qU (zb (zu (.str "parted")) (zb (jA (z5 F_tables_in (zb (jA (z5 F_room_sizes (zb (ze 1) (zb (ze 0) zB)))) (zb (ze 6) zB)))) zB)))) jt) (zU (jh 7 (jA (z5 F_tables_in (zb (jA (z5 F_arrow_sizes (zb (ze 1) (zb (ze 0) zB)))) (zb (zw F_weights_against (zb (ze 3) (zb (ze 4) (zb (ze 5) zB)))) zB))))) (jV (qU (zb (zu (.str "stuck")) (zb (jA (zV (zW (zh 7)) (.nm 0) 1 [] js (zw F_turned_over (zb (ze 0) zB)))) zB))))))
theorem vJ(y:Pr p)(hm:m<=4)(hw : ∀k,wd k<=9)(U : ∀k,wd' k<=9)(Y : ∀k i j,0<=T' k i j/\T' k i j<p)(h1:off wd wd' (m+1)<=90)(h2:off (hiW w wd) (wiW w wd') m<=90){d:D}(tg:F_widths_together [zO p m w wd T,zO p m w wd' T']=some (.val d)){r:Res}
 (ht:flT [.val (zO p m w wd T),.val (zO p m w wd' T'),.val (.lst (zP m w wd wd' J)),.val (.int p),.val (jD (off (hiW w wd) (wiW w wd') m) (off wd wd' (m+1)) (k7 p m w wd wd' T T')),.val (.tup (zx (off (hiW w wd) (wiW w wd') m) λe=>(-(wrF (hiW w wd) (wiW w wd') J m e))%p)),.no,.no]=some (.ret r)):F_fallen [zO p m w wd T,zO p m w wd' T',.lst (zP m w wd wd' J)]=some r:=by
 have hl:=jB;have I:=y.pos;have p7:=y.le;have x0:=qp p m w wd T;have i0:ixD 3 0=some 0:=rfl;have ak:=zbz (p:=p) (w:=w) (wd:=wd) (wd':=wd') (T:=T) (T':=T') (J:=J) hm;have gt:=wb (w:=w) (T:=T) I ⋯ hm hw U Y ⋯ ⋯;have wr:F_written [.lst (zP m w wd wd' J)]=some (.val (.tup (zx (off (hiW w wd) (wiW w wd') m) (wrF (hiW w wd) (wiW w wd') J m)))):=vw (n:=m) (hs:=hiW w wd) (ws:=wiW w wd') (T:=J) ⋯;generalize off wd wd' (m+1)=N at *;generalize off (hiW w wd) (wiW w wd') m=A at *;have O:A<=lim:=by omega
 have ng:ji (.nm 0) js (VL (ze 0)) [Cell.no] (zx A (wrF (hiW w wd) (wiW w wd') J m))=some (zx A λe=> -(wrF (hiW w wd) (wiW w wd') J m e)):=by
  rw [zY,zY A λe=> -(wrF (hiW w wd) (wiW w wd') J m e)];exact zA _ _ λe _=>zD rfl rfl rfl
 have rt:=yf .L (λe=> -(wrF (hiW w wd) (wiW w wd') J m e)) I O;simp only [dsq]at rt;have s1:(yv (zw F_ask_joins (zb (ze 0) (zb (ze 1) (zb (ze 2) zB))))) (jr 8 [zO p m w wd T,zO p m w wd' T',.lst (zP m w wd wd' J)])=some (.next [.val (zO p m w wd T),.val (zO p m w wd' T'),.val (.lst (zP m w wd wd' J)),.no,.no,.no,.no,.no]):=by
  show yv _ [.val (zO p m w wd T),.val (zO p m w wd' T'),.val (.lst (zP m w wd wd' J)),.no,.no,.no,.no,.no]=_;simp only [ZS,jb,zN,z6,zH,zcJ,zcK,zg,zcL,zcN,ak]
 have s2:(yv (zw F_widths_together (zb (ze 0) (zb (ze 1) zB)))) [.val (zO p m w wd T),.val (zO p m w wd' T'),.val (.lst (zP m w wd wd' J)),.no,.no,.no,.no,.no]=some (.next [.val (zO p m w wd T),.val (zO p m w wd' T'),.val (.lst (zP m w wd wd' J)),.no,.no,.no,.no,.no]):=by
  simp only [ZS,jb,zN,z6,zH,zcJ,zcK,zg,zcL,zcN,tg]
 have s3:(jh 3 (sIx (zh 0) (zu (.int 0)))) [.val (zO p m w wd T),.val (zO p m w wd' T'),.val (.lst (zP m w wd wd' J)),.no,.no,.no,.no,.no]=some (.next [.val (zO p m w wd T),.val (zO p m w wd' T'),.val (.lst (zP m w wd wd' J)),.val (.int p),.no,.no,.no,.no]):=by
  simp only [ju,jT,zI,jf,zcJ,zcU,zcW,zc0,zc4,zo,zcL,zcN,x0,zM,i0,zcR,zcQ]
 have s4:(jh 4 (zw F_gaps_table (zb (ze 1) (zb (ze 0) zB)))) [.val (zO p m w wd T),.val (zO p m w wd' T'),.val (.lst (zP m w wd wd' J)),.val (.int p),.no,.no,.no,.no]=some (.next [.val (zO p m w wd T),.val (zO p m w wd' T'),.val (.lst (zP m w wd wd' J)),.val (.int p),.val (jD A N (k7 p m w wd wd' T T')),.no,.no,.no]):=by
  simp only [ju,jb,zN,z6,zH,zcJ,zcK,zg,zcL,zcN,gt,xB,zcR,zcQ]
 have s5:(jh 5 (zw F_rests (zb (ze 3) (zb (jA (zV (zW (zt (zw F_written (zb (ze 2) zB)))) (.nm 0) 1 [] js (VL (ze 0)))) zB)))) [.val (zO p m w wd T),.val (zO p m w wd' T'),.val (.lst (zP m w wd wd' J)),.val (.int p),.val (jD A N (k7 p m w wd wd' T T')),.no,.no,.no]=some (.next [.val (zO p m w wd T),.val (zO p m w wd' T'),.val (.lst (zP m w wd wd' J)),.val (.int p),.val (jD A N (k7 p m w wd wd' T T')),.val (.tup (zx A λe=>(-(wrF (hiW w wd) (wiW w wd') J m e))%p)),.no,.no]):=by
  simp only [ju,jb,zN,z6,zH,j5,jK,jU,z7,zcJ,zcK,zg,zcL,zcN,wr,xB,zZ,zX,O,if_true];rw [show jy 1 [] [.val (zO p m w wd T),.val (zO p m w wd' T'),.val (.lst (zP m w wd wd' J)),.val (.int p),.val (jD A N (k7 p m w wd wd' T T')),.no,.no,.no]=[Cell.no]from rfl,ng];simp only [zcL,zcN,rt,xB,zcR,zcQ]
 exact jo (zq s1 (zq s2 (zq s3 (zq s4 (zq s5 ht)))))
theorem QT(O:Pr p)(hm:m<=4)(hw : ∀k,wd k<=9)(a0 : ∀k,wd' k<=9)(a1 : ∀k i j,0<=T' k i j/\T' k i j<p)(h1:off wd wd' (m+1)<=90)(h2:off (hiW w wd) (wiW w wd') m<=90){d:D}(tg:F_widths_together [zO p m w wd T,zO p m w wd' T']=some (.val d))
 (hJ:VP p m w wd wd' T T' J S) :
 ∃X,(∀k i j,0<=X k i j/\X k i j<p)/\VP p m w wd wd' T T' J X/\F_fallen [zO p m w wd T,zO p m w wd' T',.lst (zP m w wd wd' J)]=some (.val (.tup [.str "parted",.lst (tbL (m+1) wd wd' X)])):=by
 have hl:=jB;have p0:=O.pos;have p7:=O.le;have rs:=kQ (p:=p) (w:=w) (wd:=wd) (wd':=wd') (T:=T) (T':=T') hm;obtain⟨x,so,bx,hx⟩:=Z2 O h2 h1 (k7 p m w wd wd' T T') (λe=>(-(wrF (hiW w wd) (wiW w wd') J m e))%p) (wrF wd wd' S (m+1)) (λe _=>⟨zdQ _ ⋯,zdE _ p0⟩) λe he=>by
  obtain⟨k,i,j,y,hi,I,rfl⟩:=Ww m e he;rw [yB _ y hi I,xR hi I m y];have l1:=xp (w:=w) y;have l2:=xq (w:=w) y;rw [QK (Y:=S) (λt U=>by unfold qC;exact xR (by rw [jp w wd];exact hi) (by rw [jp w wd'];exact U) (m+1) l1) λt U=>by unfold qC;exact xR (by rw [jv w wd];exact U) (by rw [jv w wd'];exact I) (m+1) l2];exact hJ k i j y hi I
 have ti:=xS (n:=m+1) (hs:=wd) (ws:=wd') ⋯ (λk=>by have:=hw k;omega) (λk=>by have:=a0 k;omega) x rfl;refine⟨qC wd wd' x,λk i j=>bx _,λk i j y hi I=>?_,?_⟩
 ·have:=hx _ (Xd (hs:=hiW w wd) (ws:=wiW w wd') y hi I)
  rw [yB _ y hi I,xR hi I m y]at this;exact this
 refine vJ O hm hw a0 a1 h1 h2 tg ?_;generalize off wd wd' (m+1)=N at *;generalize off (hiW w wd) (wiW w wd') m=A at *;have s6:(jh 6 (zw F_solved (zb (ze 3) (zb (ze 4) (zb (ze 5) zB))))) [.val (zO p m w wd T),.val (zO p m w wd' T'),.val (.lst (zP m w wd wd' J)),.val (.int p),.val (jD A N (k7 p m w wd wd' T T')),.val (.tup (zx A λe=>(-(wrF (hiW w wd) (wiW w wd') J m e))%p)),.no,.no]=some (.next [.val (zO p m w wd T),.val (zO p m w wd' T'),.val (.lst (zP m w wd wd' J)),.val (.int p),.val (jD A N (k7 p m w wd wd' T T')),.val (.tup (zx A λe=>(-(wrF (hiW w wd) (wiW w wd') J m e))%p)),.val (.tup (zx N x)),.no]):=by
  simp only [ju,jb,zN,z6,zH,zcJ,zcK,zg,zcL,zcN,so,xB,zcR,zcQ]
 have l2:2<=lim:=by omega
 have rr:(jV (qU (zb (zu (.str "parted")) (zb (jA (z5 F_tables_in (zb (jA (z5 F_room_sizes (zb (ze 1) (zb (ze 0) zB)))) (zb (ze 6) zB)))) zB)))) [.val (zO p m w wd T),.val (zO p m w wd' T'),.val (.lst (zP m w wd wd' J)),.val (.int p),.val (jD A N (k7 p m w wd wd' T T')),.val (.tup (zx A λe=>(-(wrF (hiW w wd) (wiW w wd') J m e))%p)),.val (.tup (zx N x)),.no]=some (.ret (.val (.tup [.str "parted",.lst (tbL (m+1) wd wd' (qC wd wd' x))]))):=by
  simp only [xM,kA,zN,z6,zH,jf,j5,ql,zcJ,zcK,zcU,zcW,zc0,zc4,zg,zcL,zcN,rs,wK,ti,l2,if_true]
 have s7:(sIf (sB (zy vg (ze 6) (zu .non))) (jV (qU (zb (zu (.str "parted")) (zb (jA (z5 F_tables_in (zb (jA (z5 F_room_sizes (zb (ze 1) (zb (ze 0) zB)))) (zb (ze 6) zB)))) zB)))) jt) [.val (zO p m w wd T),.val (zO p m w wd' T'),.val (.lst (zP m w wd wd' J)),.val (.int p),.val (jD A N (k7 p m w wd wd' T T')),.val (.tup (zx A λe=>(-(wrF (hiW w wd) (wiW w wd') J m e))%p)),.val (.tup (zx N x)),.no]=some (.ret (.val (.tup [.str "parted",.lst (tbL (m+1) wd wd' (qC wd wd' x))]))):=by
  rw [kv];show(some true).bind _=_;simp only [zcL,if_true];exact rr
 refine zq s6 ?_;rw [j4,s7];rfl
end
def IsM(d:D)(h w:Nat)(f:Nat->Nat->Int):Prop:=∃k its,jE d=some (k,its)/\its.length=h/\∀i,i<h->∃y r,its[i]? = some r/\jE r=some (y,zx w (f i))
theorem Kg(h w f):IsM (.tup (jN h w f)) h w f:=⟨.T,_,rfl,xx h w f,λi hi=>⟨.T,_,vf hi w f,rfl⟩⟩
theorem Kh(h w f):IsM (.lst (jq h w f)) h w f:=⟨.L,_,rfl,xE h w f,λi hi=>⟨.L,_,ZL hi w f,rfl⟩⟩
def zaq:CO Fl:=(jP 4 (jA (zV (zJ (ze 3)) (.nm 0) 1 [0,2,5] js (zy qL (JZ (jw (zV (zJ (xH (zh 3))) (.nm 0) 1 [0,2,3] js (zy qK (sIx (zh 3) (ze 0)) (sIx (zt (sIx (zh 2) (ze 0))) (ze 1)))))) (ze 1)))))
def kN(p:Int)(n:Nat)(f g:Nat->Nat->Int)(i j:Nat):Int:=zv (λt=>f i t*g t j) n%p
theorem j3{n i:Nat}(h:i<n)(f:Nat->Int):(zx n f)[i]? = some (.int (f i)):=by unfold zx;simp [h]
theorem vQ{p:Int}(hp:0<p){h n w:Nat}(hh:h<=100)(hn:n<=100)(hw:w<=100){f g:Nat->Nat->Int}(Y : ∀i t,0<=f i t/\f i t<100){I y:D}(m1:IsM I h n f)(m2:IsM y n w g) :
 F_law_times_46 [.int p,I,y,.int (w:Int)]=some (.own (jq h w (kN p n f g))):=by
 have hl:=jB;obtain⟨k1,its,a1,a2,a3⟩:=m1;obtain⟨k2,an,b1,b2,b3⟩:=m2;have ac:inR (w:Int)=true:=qP ⋯ ⋯;have rn:inR (n:Int)=true:=qP ⋯ ⋯;have af:w<=lim:=by omega
 have ag:n<=lim:=by omega
 obtain⟨γ',q,c5,e⟩:=kY (T:= .nm 5) (F:=zaq) (λs γ=>∃c5,γ=[.val (.int p),.val I,.val y,.val (.int (w:Int)),.own (jq s w (kN p n f g)),c5]) its 0 [.val (.int p),.val I,.val y,.val (.int (w:Int)),.own [],.no] ⟨_,rfl⟩ (by
  rintro i d γ hd ⟨c5,rfl⟩;rw [zc0];have hi:i<h:=by rw [<- a2];exact(zc9.mp hd).1
  obtain⟨k',r,h1,h2⟩:=a3 i hi;rw [hd]at h1;cases h1;refine⟨[.val (.int p),.val I,.val y,.val (.int (w:Int)),.own (jq (i+1) w (kN p n f g)),.val d],.inl ?_,_,rfl⟩;show zaq [.val (.int p),.val I,.val y,.val (.int (w:Int)),.own (jq i w (kN p n f g)),.val d]=_;have ah : ∀j:Nat,j<w->ji (.nm 0) js (zy qK (sIx (zh 3) (ze 0)) (sIx (zt (sIx (zh 2) (ze 0))) (ze 1))) [Cell.no,.val (.int (j:Int)),.val y,.val d] ((zcP n).map λt:Nat=>D.int (t:Int))=some (zx n λt=>f i t*g t j):=λj O=>by
   rw [zY n λt=>f i t*g t j];refine zA _ _ λt U=>zD rfl rfl ?_;have U:=zc1.mp U;obtain⟨k3,r3,e1,e2⟩:=b3 t U;have cm:yp (f i t) (g t j)=true:=xL _ _ (by have:=Y i t;omega) (by have:=Y i t;omega);show zy _ _ _ [Cell.val (.int (t:Int)),.val (.int (j:Int)),.val y,.val d]=_;simp only [qt,jT,z7,zI,zH,zcJ,zcK,zo,zg,zcL,h2,b1,zM,zX,b2,je,U,O,if_true,j3 U,j3 O,e1,e2,km,cm]
  have out:ji (.nm 0) js (zy qL (JZ (jw (zV (zJ (xH (zh 3))) (.nm 0) 1 [0,2,3] js (zy qK (sIx (zh 3) (ze 0)) (sIx (zt (sIx (zh 2) (ze 0))) (ze 1)))))) (ze 1)) [Cell.no,.val (.int p),.val y,.val d] ((zcP w).map λj:Nat=>D.int (j:Int))=some (zx w (kN p n f g i)):=by
   rw [zY w (kN p n f g i)];refine zA _ _ λj O=>zD rfl rfl ?_;have O:=zc1.mp O;show zy _ _ _ [Cell.val (.int (j:Int)),.val (.int p),.val y,.val d]=_;have src:zV (zJ (xH (zh 3))) (.nm 0) 1 [0,2,3] js (zy qK (sIx (zh 3) (ze 0)) (sIx (zt (sIx (zh 2) (ze 0))) (ze 1))) [Cell.val (.int (j:Int)),.val (.int p),.val y,.val d]=some (zx n λt=>f i t*g t j):=by
    simp only [jK,qh,Zk,zI,zcJ,zcK,zo,h2,zcN,zcL,zM,zX,rn,if_true,zdf,jL,ag];rw [zY n λi=>(i:Int),show jy 1 [0,2,3] [Cell.val (.int (j:Int)),.val (.int p),.val y,.val d]=[Cell.no,.val (.int (j:Int)),.val y,.val d]from rfl];exact ah j O
   have sm:=xu (λt=>f i t*g t j) n;rw [qt,Jm,xf,src];simp only [zcN,zcL,sm,zH,zcJ,zcK,zg];simp [hp,kN]
  have al:i<lim:=by omega
  rw [show jq (i+1) w (kN p n f g)=jq i w (kN p n f g)++[.lst (zx w (kN p n f g i))]from xk _ _];have src:zV (zJ (ze 3)) (.nm 0) 1 [0,2,5] js (zy qL (JZ (jw (zV (zJ (xH (zh 3))) (.nm 0) 1 [0,2,3] js (zy qK (sIx (zh 3) (ze 0)) (sIx (zt (sIx (zh 2) (ze 0))) (ze 1)))))) (ze 1)) [.val (.int p),.val I,.val y,.val (.int (w:Int)),.own (jq i w (kN p n f g)),.val d]=some (zx w (kN p n f g i)):=by
   rw [jK,qh,zH];simp only [zcJ,zcK,zg,zcL,zM,ac,if_true,zdf,jL,zX,af];rw [zY w λi=>(i:Int),show jy 1 [0,2,5] [.val (.int p),.val I,.val y,.val (.int (w:Int)),.own (jq i w (kN p n f g)),.val d]=[Cell.no,.val (.int p),.val y,.val d]from rfl];exact out
  unfold zaq;rw [xz,j5,src];simp only [zcJ,zcK,jX,zcL,zcN,xE,al,if_true,zcR,zcQ])
 rw [a2,zc0]at e;subst e;have s1:(qw 4 (qc zB)) (jr 6 [.int p,I,y,.int (w:Int)])=some (.next [.val (.int p),.val I,.val y,.val (.int (w:Int)),.own [],.no]):=rfl;have s2:(qV (zW (zt (ze 1))) (.nm 5) zaq) [.val (.int p),.val I,.val y,.val (.int (w:Int)),.own [],.no]=some (.next [.val (.int p),.val I,.val y,.val (.int (w:Int)),.own (jq h w (kN p n f g)),c5]):=by
  rw [kB];simp only [jU,z7,zH,zcJ,zcK,zg,zcL,a1,zcN];exact q
 exact jo (zq s1 (zq s2 rfl))
theorem JO{p:Int}{h w:Nat}(hh:h<=100)(hw:w<=100){f:Nat->Nat->Int}(O : ∀i j,0<=f i j/\f i j<p):F_law_is_table_46 [jD h w f,.int p,.int (h:Int),.int (w:Int)]=some (.val (.bl true)):=by
 have hl:=jB;have U:w<=lim:=by omega
 have y:=yL h w f;have I:ixD 3 0=some 0:=rfl;have i1:ixD 3 1=some 1:=rfl;have i2:ixD 3 2=some 2:=rfl;have Y:=kL (h:Int);have w1:=kL (w:Int);have a1:J1 Ty.tuple (jD h w f)=true:=rfl;have a2:J1 Ty.tuple (.tup (jN h w f))=true:=rfl;have n3:dNe (.int ((3:Nat):Int)) (.int 3)=some (.bl false):=rfl;have nh:dNe (.int (h:Int)) (.int (h:Int))=some (.bl false):=yD rfl;have nw:dNe (.int (w:Int)) (.int (w:Int))=some (.bl false):=yD rfl;have s1:(sIf (yi (j8 (sB (sIs .tuple (ze 0)))) (yi (sB (zy dNe (xH (zh 0)) (zu (.int 3)))) (yi (j8 (sB (zw F_law_whole (zb (sIx (zh 0) (zu (.int 0))) zB)))) (j8 (sB (zw F_law_whole (zb (sIx (zh 0) (zu (.int 1))) zB))))))) (jV (zu (.bl false))) jt) (jr 5 [jD h w f,.int p,.int (h:Int),.int (w:Int)])=some (.next [.val (jD h w f),.val (.int p),.val (.int (h:Int)),.val (.int (w:Int)),.no]):=by
  show sIf _ _ _ [.val (jD h w f),.val (.int p),.val (.int (h:Int)),.val (.int (w:Int)),.no]=_;simp [y,a1,I,i1,Y,w1,n3]
 have s2:(sIf (yi (sB (zy dNe (sIx (zh 0) (zu (.int 0))) (ze 2))) (yi (sB (zy dNe (sIx (zh 0) (zu (.int 1))) (ze 3))) (yi (j8 (sB (sIs .tuple (sIx (zh 0) (zu (.int 2)))))) (sB (zy dNe (xH (zt (sIx (zh 0) (zu (.int 2))))) (ze 2)))))) (jV (zu (.bl false))) jt) [.val (jD h w f),.val (.int p),.val (.int (h:Int)),.val (.int (w:Int)),.no]=some (.next [.val (jD h w f),.val (.int p),.val (.int (h:Int)),.val (.int (w:Int)),.no]):=by
  simp [y,a2,I,i1,i2,nh,nw,zZ,xx]
 have ln : ∀i,ji (.nm 0) js (J0 (zw F_law_whole (zb (ze 0) zB)) (yR dLe dLt (zu (.int 0)) (ze 0) (ze 1))) [Cell.no,.val (.int p)] (zx w (f i))=some ((zcP w).map λ_=>D.bl true):=λi=>by
  rw [zY];refine zA _ _ λj hj=>zD rfl rfl ?_;have wx:=kL (f i j);have:=O i j;show J0 _ _ [Cell.val (.int (f i j)),.val (.int p)]=_;simp [wx,this.1,this.2]
 obtain⟨γ',q,c4,e⟩:=kY (T:= .nm 4) (F:=(zU (sIf (yi (j8 (sB (sIs .tuple (ze 4)))) (sB (zy dNe (xH (zh 4)) (ze 3)))) (jV (zu (.bl false))) jt) (sIf (j8 (sB (KL (jw (zV (zW (zh 4)) (.nm 0) 1 [1] js (J0 (zw F_law_whole (zb (ze 0) zB)) (yR dLe dLt (zu (.int 0)) (ze 0) (ze 1)))))))) (jV (zu (.bl false))) jt))) (λ_ γ=>∃c4,γ=[.val (jD h w f),.val (.int p),.val (.int (h:Int)),.val (.int (w:Int)),c4]) (jN h w f) 0 [.val (jD h w f),.val (.int p),.val (.int (h:Int)),.val (.int (w:Int)),.no] ⟨_,rfl⟩ (by
  rintro i d γ hd ⟨c4,rfl⟩;have hi:i<h:=by have:=(zc9.mp hd).1;rwa [xx]at this
  rw [vf hi]at hd;cases hd;refine⟨[.val (jD h w f),.val (.int p),.val (.int (h:Int)),.val (.int (w:Int)),.val (.tup (zx w (f i)))],.inl ?_,_,rfl⟩;have ty:J1 Ty.tuple (.tup (zx w (f i)))=true:=rfl;refine zq (F:=(sIf (yi (j8 (sB (sIs .tuple (ze 4)))) (sB (zy dNe (xH (zh 4)) (ze 3)))) (jV (zu (.bl false))) jt)) (γ:=[.val (jD h w f),.val (.int p),.val (.int (h:Int)),.val (.int (w:Int)),.val (.tup (zx w (f i)))]) (γ':=[.val (jD h w f),.val (.int p),.val (.int (h:Int)),.val (.int (w:Int)),.val (.tup (zx w (f i)))]) ?_ ?_
  ·simp [ty,zZ,nw]
  ·rw [kv]
   have al:(j8 (sB (KL (jw (zV (zW (zh 4)) (.nm 0) 1 [1] js (J0 (zw F_law_whole (zb (ze 0) zB)) (yR dLe dLt (zu (.int 0)) (ze 0) (ze 1)))))))) [.val (jD h w f),.val (.int p),.val (.int (h:Int)),.val (.int (w:Int)),.val (.tup (zx w (f i)))]=some false:=by
    rw [ye,JW,Yc,xf,jK];simp only [jU,zI,zcJ,zcK,zo,zZ,zcN,zcL,zX,U,if_true];rw [show jy 1 [1] [.val (jD h w f),.val (.int p),.val (.int (h:Int)),.val (.int (w:Int)),.val (.tup (zx w (f i)))]=[Cell.no,.val (.int p)]from rfl,ln i];simp [wz,Jn]
   rw [al];rfl)
 subst e;have s3:(qV (zW (zt (sIx (zh 0) (zu (.int 2))))) (.nm 4) (zU (sIf (yi (j8 (sB (sIs .tuple (ze 4)))) (sB (zy dNe (xH (zh 4)) (ze 3)))) (jV (zu (.bl false))) jt) (sIf (j8 (sB (KL (jw (zV (zW (zh 4)) (.nm 0) 1 [1] js (J0 (zw F_law_whole (zb (ze 0) zB)) (yR dLe dLt (zu (.int 0)) (ze 0) (ze 1)))))))) (jV (zu (.bl false))) jt))) [.val (jD h w f),.val (.int p),.val (.int (h:Int)),.val (.int (w:Int)),.no]=some (.next [.val (jD h w f),.val (.int p),.val (.int (h:Int)),.val (.int (w:Int)),c4]):=by
  rw [kB];simp only [jU,z7,jT,zI,jf,zcJ,zcK,zcU,zcW,zc0,zc4,zo,zcL,zcN,y,zM,i2,zZ];exact q
 exact jo (zq s1 (zq s2 (zq s3 rfl)))
theorem yq{p:Int}{n:Nat}(hn:n<=100){hs ws:Nat->Nat}(I : ∀k,hs k<=100)(hw : ∀k,ws k<=100){X:Nat->Nat->Nat->Int}(O : ∀k i j,0<=X k i j/\X k i j<p) :
 F_law_are_tables_46 [.lst (tbL n hs ws X),.int p,.lst (zx n λk=>(hs k:Int)),.lst (zx n λk=>(ws k:Int))]=some (.val (.bl true)):=by
 have hl:=jB;have U:n<=lim:=by omega
 have Y:inR (n:Int)=true:=qP ⋯ ⋯;have tl:=kF n hs ws X;have ty:J1 Ty.list (.lst (tbL n hs ws X))=true:=rfl;have nn:dNe (.int (n:Int)) (.int (n:Int))=some (.bl false):=yD rfl;have s1:(sIf (yi (j8 (sB (sIs .list (ze 0)))) (sB (zy dNe (xH (zh 0)) (xH (zh 2))))) (jV (zu (.bl false))) jt) (jr 4 [.lst (tbL n hs ws X),.int p,.lst (zx n λk=>(hs k:Int)),.lst (zx n λk=>(ws k:Int))])=some (.next [.val (.lst (tbL n hs ws X)),.val (.int p),.val (.lst (zx n λk=>(hs k:Int))),.val (.lst (zx n λk=>(ws k:Int)))]):=by
  show sIf _ _ _ [.val (.lst (tbL n hs ws X)),.val (.int p),.val (.lst (zx n λk=>(hs k:Int))),.val (.lst (zx n λk=>(ws k:Int)))]=_;simp [ty,tl,zG,nn]
 have k1:ji (.nm 0) js (zw F_law_is_table_46 (zb (sIx (zh 1) (ze 0)) (zb (ze 2) (zb (sIx (zh 3) (ze 0)) (zb (sIx (zh 4) (ze 0)) zB))))) [Cell.no,.val (.lst (tbL n hs ws X)),.val (.int p),.val (.lst (zx n λk=>(hs k:Int))),.val (.lst (zx n λk=>(ws k:Int)))] ((zcP n).map λi:Nat=>D.int (i:Int))=some ((zcP n).map λ_=>D.bl true):=by
  refine zA _ _ λk y=>zD rfl rfl ?_;have y:=zc1.mp y;have it:=JO (p:=p) (I k) (hw k) (O k);have ta:=yJ (hs:=hs) (ws:=ws) (T:=X) y;show zw _ _ [Cell.val (.int (k:Int)),.val (.lst (tbL n hs ws X)),.val (.int p),.val (.lst (zx n λk=>(hs k:Int))),.val (.lst (zx n λk=>(ws k:Int)))]=_;simp only [jb,zN,z6,jT,zI,zH,zcJ,zcK,zo,zg,zG,zcL,zcN,zM,tl,zX,je,y,if_true,ta,j3 y,it,xB]
 have s2:(jV (KL (jw (zV (zJ (xH (zh 2))) (.nm 0) 1 [0,1,2,3] js (zw F_law_is_table_46 (zb (sIx (zh 1) (ze 0)) (zb (ze 2) (zb (sIx (zh 3) (ze 0)) (zb (sIx (zh 4) (ze 0)) zB))))))))) [.val (.lst (tbL n hs ws X)),.val (.int p),.val (.lst (zx n λk=>(hs k:Int))),.val (.lst (zx n λk=>(ws k:Int)))]=some (.ret (.val (.bl true))):=by
  rw [xM,Yc,xf,jK];simp only [qh,Zk,zI,zcJ,zcK,zo,zG,zcN,zcL,zM,zX,Y,if_true,zdf,jL,U];rw [zY n λi=>(i:Int),show jy 1 [0,1,2,3] [.val (.lst (tbL n hs ws X)),.val (.int p),.val (.lst (zx n λk=>(hs k:Int))),.val (.lst (zx n λk=>(ws k:Int)))]=[Cell.no,.val (.lst (tbL n hs ws X)),.val (.int p),.val (.lst (zx n λk=>(hs k:Int))),.val (.lst (zx n λk=>(ws k:Int)))]from rfl,k1];simp [wz,Jn]
 exact jo (zq s1 s2)
section
variable{p:Int}{m:Nat}{w:Nat->Bool}{wd wd':Nat->Nat}{T T' X J:Nat->Nat->Nat->Int}
abbrev fx(p:Int)(m:Nat)(w:Nat->Bool)(wd wd':Nat->Nat)(T T' X J:Nat->Nat->Nat->Int)(c6 c7 c8 c9 c10 c11 c12 c13 c14:Cell):Ctx:=
 [.val (.int p),.val (.str (j7 m w)),.val (z4 m w wd T),.val (z4 m w wd' T'),.val (.lst (zP m w wd wd' J)),.val (.lst (tbL (m+1) wd wd' X)),c6,c7,c8,c9,c10,c11,c12,c13,c14]
def fiC:CO Fl:=(zU (jh 14 (zy Jh (sIx (zt (sIx (zh 10) (ze 12))) (ze 13)) (sIx (zt (sIx (zh 11) (ze 12))) (ze 13)))) (sIf (sB (zy dNe (zy qL (zy Jh (ze 14) (sIx (zt (sIx (zt (sIx (zt (sIx (zh 4) (ze 6))) (zu (.int 2)))) (ze 12))) (ze 13))) (ze 0)) (zu (.int 0)))) (jV (zu (.bl false))) jt))
def fiB:CO Fl:=(qV (zJ (ze 9)) (.nm 13) fiC)
def fiA:CO Fl:=(zU (xh (.tp [7,8]) (zw F_law_ends (zb (ze 1) (zb (ze 6) zB)))) (zU (jh 9 (sIx (zt (sIx (zh 3) (zu (.int 0)))) (ze 7))) (zU (jh 10 (jA (z5 F_law_times_46 (zb (ze 0) (zb (sIx (zt (sIx (zh 2) (zu (.int 1)))) (ze 6)) (zb (sIx (zt (sIx (zh 5) (ze 7))) (zu (.int 2))) (zb (ze 9) zB))))))) (zU (jh 11 (jA (z5 F_law_times_46 (zb (ze 0) (zb (sIx (zt (sIx (zh 5) (ze 8))) (zu (.int 2))) (zb (sIx (zt (sIx (zh 3) (zu (.int 1)))) (ze 6)) (zb (ze 9) zB))))))) (qV (zJ (sIx (zt (sIx (zh 2) (zu (.int 0)))) (ze 8))) (.nm 12) fiB)))))
theorem Vm:F_law_fit_46=jO 15 (zU (qV (zJ (qN (ze 1))) (.nm 6) fiA) (jV (zu (.bl true)))):=rfl
def xO(p:Int)(w:Nat->Bool)(wd:Nat->Nat)(T X:Nat->Nat->Nat->Int)(k:Nat):Nat->Nat->Int:=kN p (wiW w wd k) (T k) (X (jS w k))
def kq(p:Int)(w:Nat->Bool)(wd':Nat->Nat)(T' X:Nat->Nat->Nat->Int)(k:Nat):Nat->Nat->Int:=kN p (hiW w wd' k) (X (jJ w k)) (T' k)
theorem Kb{k i j:Nat}:(xO p w wd T X k i j - kq p w wd' T' X k i j)%p=(-(linT w wd wd' T T' X k i j))%p:=by
 unfold xO kq kN linT;rw [zE (f:=λt=>X (jJ w k) i t*T' k t j) (g:=λt=>T' k t j*X (jJ w k) i t) λt _=>zeE _ _];rw [<- zet];congr 1;omega
theorem Kl(y:VP p m w wd wd' T T' J X){k i j:Nat}(I:k<m)(hi:i<hiW w wd k)(O:j<wiW w wd' k):(xO p w wd T X k i j - kq p w wd' T' X k i j - J k i j)%p=0:=by
 have e:=y k i j I hi O;rw [zet,Kb,<- zet];have : -(linT w wd wd' T T' X k i j) - J k i j = -(J k i j) - linT w wd wd' T T' X k i j:=by omega
 rw [this,zet,<- e,Int.sub_self,Int.zero_emod]
theorem zbr(hp:0<p)(bb:p<=100)(hm:m<=4)(hw : ∀k,wd k<=9)(a4 : ∀k,wd' k<=9)(bT : ∀k i j,0<=T k i j/\T k i j<p)(bX : ∀k i j,0<=X k i j/\X k i j<p)(hX:VP p m w wd wd' T T' J X) :
 F_law_fit_46 [.int p,.str (j7 m w),z4 m w wd T,z4 m w wd' T',.lst (zP m w wd wd' J),.lst (tbL (m+1) wd wd' X)]=some (.val (.bl true)):=by
 have hl:=jB;have wl:=xj m w;have af:=qj w (show m<=1000 by omega);have u0:=xl m w wd T;have u1:=xl m w wd' T';have j0:ixD 2 0=some 0:=rfl;have j1:ixD 2 1=some 1:=rfl;have i2:ixD 3 2=some 2:=rfl;have tl:=kF (m+1) wd wd' X;have jl:=kX m w wd wd' J;obtain⟨γ',q,⟨c6,c7,c8,c9,c10,c11,c12,c13,c14,e⟩⟩:=qa (T:= .nm 6) (F:=fiA) (f:=qN (ze 1)) (γ:=fx p m w wd wd' T T' X J .no .no .no .no .no .no .no .no .no) (λ_ γ=>∃c6 c7 c8 c9 c10 c11 c12 c13 c14,γ=fx p m w wd wd' T T' X J c6 c7 c8 c9 c10 c11 c12 c13 c14) m ⋯ (by simp [fx,wl,af]) ⟨_,_,_,_,_,_,_,_,_,rfl⟩ (by
  rintro k y γ ⟨c6,c7,c8,c9,c10,c11,c12,c13,c14,rfl⟩;have en:=qJ (w:=w) (show m<=5 by omega) y;have O:=xp (w:=w) y;have l2:=xq (w:=w) y;have b1:hiW w wd k<=100:=hi9 hw k;have b2:hiW w wd' k<=100:=hi9 a4 k;have b3:wiW w wd k<=100:=wi9 hw k;have b4:wiW w wd' k<=100:=wi9 a4 k;have ak:(zx (m+1) λk=>(wd k:Int))[jJ w k]? = some (.int (hiW w wd k:Nat)):=by rw [<- jp];exact j3 O _
  have am:(zx (m+1) λk=>(wd' k:Int))[jS w k]? = some (.int (wiW w wd' k:Nat)):=by rw [<- jv];exact j3 l2 _
  have te:=yJ (hs:=wd) (ws:=wd') (T:=X) O;have tb:=yJ (hs:=wd) (ws:=wd') (T:=X) l2;rw [jp w wd,jp w wd']at te;rw [jv w wd,jv w wd']at tb;have ta:=yK y w wd T;have an:=yK y w wd' T';have ao:=kO m w wd T;have ap:=kO m w wd' T';have se:=yL (hiW w wd k) (hiW w wd' k) (X (jJ w k));have sb:=yL (wiW w wd k) (wiW w wd' k) (X (jS w k));have t1:=vQ hp b1 b3 b4 (f:=T k) (g:=X (jS w k)) (λi t=>by have:=bT k i t;omega) (Kh (hiW w wd k) (wiW w wd k) (T k)) (Kg (wiW w wd k) (wiW w wd' k) (X (jS w k)));have t2:=vQ hp b1 b2 b4 (f:=X (jJ w k)) (g:=T' k) (λi t=>by have:=bX (jJ w k) i t;omega) (Kg (hiW w wd k) (hiW w wd' k) (X (jJ w k))) (Kh (hiW w wd' k) (wiW w wd' k) (T' k));have ja:=wa (w:=w) (wd:=wd) (wd':=wd') (J:=J) y;have sj:=yL (hiW w wd k) (wiW w wd' k) (J k);have s1:(xh (.tp [7,8]) (zw F_law_ends (zb (ze 1) (zb (ze 6) zB)))) (fx p m w wd wd' T T' X J (.val (.int (k:Int))) c7 c8 c9 c10 c11 c12 c13 c14)=some (.next (fx p m w wd wd' T T' X J (.val (.int (k:Int))) (.val (.int ((jS w k:Nat):Int))) (.val (.int ((jJ w k:Nat):Int))) c9 c10 c11 c12 c13 c14)):=by
   simp [fx,en]
  have s2:(jh 9 (sIx (zt (sIx (zh 3) (zu (.int 0)))) (ze 7))) (fx p m w wd wd' T T' X J (.val (.int (k:Int))) (.val (.int ((jS w k:Nat):Int))) (.val (.int ((jJ w k:Nat):Int))) c9 c10 c11 c12 c13 c14)=some (.next (fx p m w wd wd' T T' X J (.val (.int (k:Int))) (.val (.int ((jS w k:Nat):Int))) (.val (.int ((jJ w k:Nat):Int))) (.val (.int (wiW w wd' k:Nat))) c10 c11 c12 c13 c14)):=by
   simp only [fx,ju,jT,z7,zI,zH,jf,zcJ,zcK,zcU,zcW,zc0,zc4,zo,zg,zcL,zcN,u1,zM,j0,zG,zX,je,l2,if_true,am,zcR,zcQ]
  have s3:(jh 10 (jA (z5 F_law_times_46 (zb (ze 0) (zb (sIx (zt (sIx (zh 2) (zu (.int 1)))) (ze 6)) (zb (sIx (zt (sIx (zh 5) (ze 7))) (zu (.int 2))) (zb (ze 9) zB))))))) (fx p m w wd wd' T T' X J (.val (.int (k:Int))) (.val (.int ((jS w k:Nat):Int))) (.val (.int ((jJ w k:Nat):Int))) (.val (.int (wiW w wd' k:Nat))) c10 c11 c12 c13 c14)=some (.next (fx p m w wd wd' T T' X J (.val (.int (k:Int))) (.val (.int ((jS w k:Nat):Int))) (.val (.int ((jJ w k:Nat):Int))) (.val (.int (wiW w wd' k:Nat))) (.val (.lst (jq (hiW w wd k) (wiW w wd' k) (xO p w wd T X k)))) c11 c12 c13 c14)):=by
   simp only [fx,ju,j5,ql,zN,z6,jT,z7,zI,zH,jf,zcJ,zcK,zcU,zcW,zc0,zc4,zo,zg,zcL,zcN,u0,zM,j1,zG,ao,tl,je,y,l2,if_true,ta,tb,sb,i2,t1,wK,zcR,zcQ];rfl
  have s4:(jh 11 (jA (z5 F_law_times_46 (zb (ze 0) (zb (sIx (zt (sIx (zh 5) (ze 8))) (zu (.int 2))) (zb (sIx (zt (sIx (zh 3) (zu (.int 1)))) (ze 6)) (zb (ze 9) zB))))))) (fx p m w wd wd' T T' X J (.val (.int (k:Int))) (.val (.int ((jS w k:Nat):Int))) (.val (.int ((jJ w k:Nat):Int))) (.val (.int (wiW w wd' k:Nat))) (.val (.lst (jq (hiW w wd k) (wiW w wd' k) (xO p w wd T X k)))) c11 c12 c13 c14)=some (.next (fx p m w wd wd' T T' X J (.val (.int (k:Int))) (.val (.int ((jS w k:Nat):Int))) (.val (.int ((jJ w k:Nat):Int))) (.val (.int (wiW w wd' k:Nat))) (.val (.lst (jq (hiW w wd k) (wiW w wd' k) (xO p w wd T X k)))) (.val (.lst (jq (hiW w wd k) (wiW w wd' k) (kq p w wd' T' X k)))) c12 c13 c14)):=by
   simp only [fx,ju,j5,ql,zN,z6,jT,z7,zI,zH,jf,zcJ,zcK,zcU,zcW,zc0,zc4,zo,zg,zcL,zcN,u1,zM,j1,zG,ap,tl,je,y,O,if_true,an,te,se,i2,t2,wK,zcR,zcQ];rfl
  obtain⟨γ5,s5,⟨a2,U,Y,e5⟩⟩:=qa (T:= .nm 12) (F:=fiB) (f:=sIx (zt (sIx (zh 2) (zu (.int 0)))) (ze 8)) (γ:=fx p m w wd wd' T T' X J (.val (.int (k:Int))) (.val (.int ((jS w k:Nat):Int))) (.val (.int ((jJ w k:Nat):Int))) (.val (.int (wiW w wd' k:Nat))) (.val (.lst (jq (hiW w wd k) (wiW w wd' k) (xO p w wd T X k)))) (.val (.lst (jq (hiW w wd k) (wiW w wd' k) (kq p w wd' T' X k)))) c12 c13 c14)
   (λ_ γ=>∃a2 U Y,γ=fx p m w wd wd' T T' X J (.val (.int (k:Int))) (.val (.int ((jS w k:Nat):Int))) (.val (.int ((jJ w k:Nat):Int))) (.val (.int (wiW w wd' k:Nat))) (.val (.lst (jq (hiW w wd k) (wiW w wd' k) (xO p w wd T X k)))) (.val (.lst (jq (hiW w wd k) (wiW w wd' k) (kq p w wd' T' X k)))) a2 U Y) (hiW w wd k) ⋯ (by
     simp only [fx,jT,z7,zI,zH,jf,zcJ,zcK,zcU,zcW,zc0,zc4,zo,zg,zcL,u0,zM,j0,zG,zX,je,O,if_true,ak]) ⟨_,_,_,rfl⟩ (by
     rintro i hi γ ⟨a2,U,Y,rfl⟩;obtain⟨γ6,s6,⟨a3,a0,e6⟩⟩:=qa (T:= .nm 13) (F:=fiC) (f:=ze 9) (γ:=fx p m w wd wd' T T' X J (.val (.int (k:Int))) (.val (.int ((jS w k:Nat):Int))) (.val (.int ((jJ w k:Nat):Int))) (.val (.int (wiW w wd' k:Nat))) (.val (.lst (jq (hiW w wd k) (wiW w wd' k) (xO p w wd T X k)))) (.val (.lst (jq (hiW w wd k) (wiW w wd' k) (kq p w wd' T' X k)))) (.val (.int (i:Int))) U Y)
      (λ_ γ=>∃a3 a0,γ=fx p m w wd wd' T T' X J (.val (.int (k:Int))) (.val (.int ((jS w k:Nat):Int))) (.val (.int ((jJ w k:Nat):Int))) (.val (.int (wiW w wd' k:Nat))) (.val (.lst (jq (hiW w wd k) (wiW w wd' k) (xO p w wd T X k)))) (.val (.lst (jq (hiW w wd k) (wiW w wd' k) (kq p w wd' T' X k)))) (.val (.int (i:Int))) a3 a0) (wiW w wd' k) ⋯ rfl ⟨_,_,rfl⟩ (by
        rintro j I γ ⟨a3,a0,rfl⟩;refine⟨_,fx p m w wd wd' T T' X J (.val (.int (k:Int))) (.val (.int ((jS w k:Nat):Int))) (.val (.int ((jJ w k:Nat):Int))) (.val (.int (wiW w wd' k:Nat))) (.val (.lst (jq (hiW w wd k) (wiW w wd' k) (xO p w wd T X k)))) (.val (.lst (jq (hiW w wd k) (wiW w wd' k) (kq p w wd' T' X k)))) (.val (.int (i:Int))) (.val (.int (j:Int))) (.val (.int (xO p w wd T X k i j - kq p w wd' T' X k i j))),rfl,?_,⟨_,_,rfl⟩⟩;show fiC (fx p m w wd wd' T T' X J (.val (.int (k:Int))) (.val (.int ((jS w k:Nat):Int))) (.val (.int ((jJ w k:Nat):Int))) (.val (.int (wiW w wd' k:Nat))) (.val (.lst (jq (hiW w wd k) (wiW w wd' k) (xO p w wd T X k)))) (.val (.lst (jq (hiW w wd k) (wiW w wd' k) (kq p w wd' T' X k)))) (.val (.int (i:Int))) (.val (.int (j:Int))) a0)=_;have fa:=ZL hi (wiW w wd' k) (xO p w wd T X k);have sa:=ZL hi (wiW w wd' k) (kq p w wd' T' X k);have b8:=vf hi (wiW w wd' k) (J k);refine zq (γ':=fx p m w wd wd' T T' X J (.val (.int (k:Int))) (.val (.int ((jS w k:Nat):Int))) (.val (.int ((jJ w k:Nat):Int))) (.val (.int (wiW w wd' k:Nat))) (.val (.lst (jq (hiW w wd k) (wiW w wd' k) (xO p w wd T X k)))) (.val (.lst (jq (hiW w wd k) (wiW w wd' k) (kq p w wd' T' X k)))) (.val (.int (i:Int))) (.val (.int (j:Int))) (.val (.int (xO p w wd T X k i j - kq p w wd' T' X k i j)))) ?_ ?_
        ·simp only [fx,ju,qt,jT,z7,zI,zH,zcJ,zcK,zo,zg,zcL,zcN,zM,zG,xE,zX,je,hi,I,if_true,fa,sa,j3 I,wf,zcR,zcQ]
        ·have z:=Kl hX y hi I
         have ev:(sB (zy dNe (zy qL (zy Jh (ze 14) (sIx (zt (sIx (zt (sIx (zt (sIx (zh 4) (ze 6))) (zu (.int 2)))) (ze 12))) (ze 13))) (ze 0)) (zu (.int 0)))) (fx p m w wd wd' T T' X J (.val (.int (k:Int))) (.val (.int ((jS w k:Nat):Int))) (.val (.int ((jJ w k:Nat):Int))) (.val (.int (wiW w wd' k:Nat))) (.val (.lst (jq (hiW w wd k) (wiW w wd' k) (xO p w wd T X k)))) (.val (.lst (jq (hiW w wd k) (wiW w wd' k) (kq p w wd' T' X k)))) (.val (.int (i:Int))) (.val (.int (j:Int))) (.val (.int (xO p w wd T X k i j - kq p w wd' T' X k i j))))=some false:=by
          have nz:dNe (.int 0) (.int 0)=some (.bl false):=rfl;simp only [fx,JW,qt,jT,z7,zI,zH,jf,zcJ,zcK,zcU,zcW,zc0,zc4,zo,zg,zcL,zcN,zM,zG,zZ,jl,xx,zX,je,y,hi,I,if_true,ja,sj,i2,b8,j3 I,wf,Ji,hp,z,nz,x9]
         rw [kv,ev];rfl)
     refine⟨_,γ6,rfl,s6,?_⟩;subst e6;exact⟨_,_,_,rfl⟩)
  subst e5;exact⟨_,_,rfl,zq s1 (zq s2 (zq s3 (zq s4 s5))),⟨_,_,_,_,_,_,_,_,_,rfl⟩⟩)
 subst e;rw [Vm];exact jo (zq q rfl)
end
section
variable{p:Int}{m:Nat}{w:Nat->Bool}{wd wd':Nat->Nat}{T T' J:Nat->Nat->Nat->Int}
theorem hi3(hw : ∀k,wd k<=3)(k):hiW w wd k<=3:=by rw [<- jp];exact hw _
theorem wi3(hw : ∀k,wd k<=3)(k):wiW w wd k<=3:=by rw [<- jv];exact hw _
theorem Xp(h w w':Nat)(f g:Nat->Nat->Int):yh (jq h w f) (jq h w' g)=(zcP h).map λi=>D.tup [.lst (zx w (f i)),.lst (zx w' (g i))]:=by
 unfold yh jq;rw [zfD];simp
end
def F_law_any_47:List D->Option Res:=jO 12 (zU (qw 7 (zV (zJ (zy qb (qN (ze 3)) (zu (.int 1)))) (.nm 0) 1 [0,1,4] js (zy qL (zy kJ (zw F_law_cell_44 (zb (ze 1) (zb (zy qb (ze 2) (ze 0)) zB))) (zu (.int 3))) (zy qb (ze 3) (zu (.int 1)))))) (zU (sIf (sB (zy dEq (zy qL (ze 6) (zu (.int 12))) (zu (.int 5)))) (vC 7 (zy qL (zy kJ (ze 6) (zu (.int 12))) (xH (zh 7))) (zu (.int 9))) jt) (zU (qw 8 (qc zB)) (zU (qV (zJ (qN (ze 3))) (.nm 9) (zU (xh (.tp [10,11]) (zw F_law_ends (zb (ze 3) (zb (ze 9) zB)))) (jP 8 (jA (z5 F_law_table_44 (zb (ze 0) (zb (zy qb (zy qb (ze 1) (zu (.int 5))) (zy qK (zu (.int 9)) (ze 9))) (zb (ze 2) (zb (sIx (zh 7) (ze 11)) (zb (sIx (zh 7) (ze 10)) (zb (ze 5) zB))))))))))) (Qf 8 (Qf 7 (jV (qU (zb (ze 7) (zb (ze 8) zB))))))))))
def F_law_joins:List D->Option Res:=jO 12 (zU (qw 7 (qc zB)) (zU (qV (zJ (qN (ze 3))) (.nm 8) (zU (xh (.tp [9,10]) (zw F_law_ends (zb (ze 3) (zb (ze 8) zB)))) (zU (jh 11 (jA (z5 F_law_table_44 (zb (ze 0) (zb (zy qb (ze 1) (zy qK (zu (.int 9)) (ze 8))) (zb (ze 2) (zb (sIx (zt (sIx (zh 4) (zu (.int 0)))) (ze 10)) (zb (sIx (zt (sIx (zh 5) (zu (.int 0)))) (ze 9)) (zb (ze 6) zB))))))))) (jP 7 (qU (zb (sIx (zt (sIx (zh 4) (zu (.int 0)))) (ze 10)) (zb (sIx (zt (sIx (zh 5) (zu (.int 0)))) (ze 9)) (zb (zT (jw (zV (zW (zh 11)) (.nm 0) 1 [] js (zT (zh 0))))) zB)))))))) (xT 7)))
def F_law_traces:List D->Option Res:=jO 11 (zU (jh 4 (zu (.int 0))) (zU (qV (zJ (qN (ze 1))) (.nm 5) (zU (xh (.tp [6,7,8]) (sIx (zh 2) (ze 5))) (qV (zJ (ze 6)) (.nm 9) (zU (jh 10 (sIx (zt (sIx (zh 3) (ze 5))) (zu (.int 2)))) (jh 4 (zy qb (ze 4) (JZ (jw (zV (zJ (ze 7)) (.nm 0) 1 [8,9,10] js (zy qK (sIx (zt (sIx (zh 1) (ze 2))) (ze 0)) (sIx (zt (sIx (zh 3) (ze 0))) (ze 2)))))))))))) (jV (zy qL (ze 4) (ze 0)))))
def F_law_rows_added:List D->Option Res:=jO 6 (zU (qw 3 (qc zB)) (zU (qV (Zo (ze 0) (ze 1)) (.tp [4,5]) (jP 3 (jA (zV (Zo (ze 4) (ze 5)) (.tp [0,1]) 2 [2] js (zy qb (ze 0) (zy qK (ze 2) (ze 1))))))) (xT 3)))
def F_law_room_stays:List D->Option Res:=jO 11 (zU (jh 6 (jA (zV (zJ (sIx (zt (sIx (zh 3) (zu (.int 0)))) (ze 5))) (.nm 0) 1 [2,5] js (jA (Zw (jw (qc (zb (zu (.int 0)) zB))) (sIx (zt (sIx (zh 1) (zu (.int 0)))) (ze 2))))))) (zU (qV (zJ (qN (ze 1))) (.nm 7) (zU (xh (.tp [8,9]) (zw F_law_ends (zb (ze 1) (zb (ze 7) zB)))) (zU (sIf (sB (zy dEq (ze 8) (ze 5))) (zU (jh 10 (jA (z5 F_law_times_46 (zb (ze 0) (zb (sIx (zt (sIx (zh 4) (ze 7))) (zu (.int 2))) (zb (sIx (zt (sIx (zh 2) (zu (.int 1)))) (ze 7)) (zb (sIx (zt (sIx (zh 2) (zu (.int 0)))) (ze 5)) zB))))))) (jh 6 (jA (z5 F_law_rows_added (zb (ze 6) (zb (ze 10) (zb (zu (.int 1)) zB))))))) jt) (sIf (sB (zy dEq (ze 9) (ze 5))) (zU (jh 10 (jA (z5 F_law_times_46 (zb (ze 0) (zb (sIx (zt (sIx (zh 3) (zu (.int 1)))) (ze 7)) (zb (sIx (zt (sIx (zh 4) (ze 7))) (zu (.int 2))) (zb (sIx (zt (sIx (zh 2) (zu (.int 0)))) (ze 5)) zB))))))) (jh 6 (jA (z5 F_law_rows_added (zb (ze 6) (zb (ze 10) (zb (zy Jh (zu (.int 0)) (zu (.int 1))) zB))))))) jt)))) (jV (VJ (KK (jw (zV (zW (zh 6)) (.nm 0) 1 [0] js (KK (jw (zV (zW (zh 0)) (.nm 0) 1 [1] js (zy qL (ze 0) (ze 1))))))))))))
def F_law_stuck:List D->Option Res:=jO 9 (zU (jh 6 (jA (zV (zJ (qN (ze 1))) (.nm 0) 1 [1] js (zw F_law_ends (zb (ze 1) (zb (ze 0) zB)))))) (zU (jh 7 (jA (zV (zW (zh 6)) (.tp [0,1]) 2 [3] js (sIx (zt (sIx (zh 2) (zu (.int 0)))) (ze 0))))) (zU (sIf (j8 (sB (zw F_law_are_tables_46 (zb (ze 5) (zb (ze 0) (zb (ze 7) (zb (jA (zV (zW (zh 6)) (.tp [0,1]) 2 [2] js (sIx (zt (sIx (zh 2) (zu (.int 0)))) (ze 1)))) zB))))))) (jV (zu (.bl false))) jt) (zU (qV (zJ (zy qb (qN (ze 1)) (zu (.int 1)))) (.nm 8) (sIf (j8 (sB (zw F_law_room_stays (zb (ze 0) (zb (ze 1) (zb (ze 2) (zb (ze 3) (zb (ze 5) (zb (ze 8) zB))))))))) (jV (zu (.bl false))) jt)) (jV (zy dNe (zw F_law_traces (zb (ze 0) (zb (ze 1) (zb (ze 5) (zb (ze 4) zB))))) (zu (.int 0))))))))
def F_law_right_47:List D->Option Res:=jO 6 (zU (sIf (yi (j8 (sB (sIs .tuple (ze 0)))) (sB (zy dNe (xH (zh 0)) (zu (.int 2))))) (jV (zu (.bl false))) jt) (zU (sIf (sB (zy dEq (sIx (zh 0) (zu (.int 0))) (zu (.str "stuck")))) (jV (zw F_law_stuck (zb (ze 1) (zb (ze 2) (zb (ze 3) (zb (ze 4) (zb (ze 5) (zb (sIx (zh 0) (zu (.int 1))) zB)))))))) jt) (zU (sIf (yi (sB (zy dNe (sIx (zh 0) (zu (.int 0))) (zu (.str "parted")))) (j8 (sB (zw F_law_are_tables_46 (zb (sIx (zh 0) (zu (.int 1))) (zb (ze 1) (zb (sIx (zh 3) (zu (.int 0))) (zb (sIx (zh 4) (zu (.int 0))) zB)))))))) (jV (zu (.bl false))) jt) (jV (zw F_law_fit_46 (zb (ze 1) (zb (ze 2) (zb (ze 3) (zb (ze 4) (zb (ze 5) (zb (sIx (zh 0) (zu (.int 1))) zB)))))))))))
def F_law_told_47:List D->Option Res:=jO 9 (zU (jh 5 (zw F_law_handed_44 (zb (ze 0) (zb (ze 1) (zb (ze 2) zB))))) (zU (jh 6 (zw F_law_handed_44 (zb (ze 0) (zb (ze 1) (zb (ze 3) zB))))) (Qg 7 (Z4 F_fallen (zb (ze 5) (zb (ze 6) (zb (jA (kG (zh 4))) zB)))) (j8 (sB (zw F_law_right_47 (zb (ze 7) (zb (ze 0) (zb (ze 1) (zb (ze 2) (zb (ze 3) (zb (ze 4) zB))))))))) (zU (jh 8 (zw F_fallen (zb (ze 5) (zb (ze 6) (zb (jA (kG (zh 4))) zB))))) (jV (J0 (zw F_law_right_47 (zb (ze 8) (zb (ze 0) (zb (ze 1) (zb (ze 2) (zb (ze 3) (zb (ze 4) zB))))))) (zy dEq (sIx (zh 8) (zu (.int 0))) (sIx (zh 7) (zu (.int 0))))))))))
def F_law_k47:List D->Option Res:=jO 7 (zU (jh 1 (zw F_law_cell_44 (zb (ze 0) (zb (zu (.int 0)) zB)))) (zU (jh 2 (sIx (jw (qc (zb (zu (.int 2)) (zb (zu (.int 3)) (zb (zu (.int 5)) (zb (zu (.int 7)) zB)))))) (zy qL (ze 1) (zu (.int 4))))) (zU (jh 3 (zw F_law_ways_k38 (zb (zy kJ (ze 1) (zu (.int 16))) (zb (zy qb (zu (.int 1)) (zy qL (zy kJ (ze 1) (zu (.int 4))) (zu (.int 4)))) zB)))) (zU (jh 4 (zw F_law_any_47 (zb (ze 0) (zb (zu (.int 1)) (zb (ze 2) (zb (ze 3) (zb (zu (.int 3)) (zb (zy qL (zy kJ (ze 1) (zu (.int 512))) (zu (.int 3))) (zb (zy kJ (ze 1) (zu (.int 4608))) zB))))))))) (zU (jh 5 (zw F_law_any_47 (zb (ze 0) (zb (zu (.int 60)) (zb (ze 2) (zb (ze 3) (zb (zu (.int 3)) (zb (zy qL (zy kJ (ze 1) (zu (.int 512))) (zu (.int 3))) (zb (zu (.int 0)) zB))))))))) (zU (jh 6 (jA (z5 F_law_joins (zb (ze 0) (zb (zu (.int 120)) (zb (ze 2) (zb (ze 3) (zb (ze 4) (zb (ze 5) (zb (zy qL (zy kJ (ze 1) (zu (.int 1536))) (zu (.int 3))) zB)))))))))) (jV (zw F_law_told_47 (zb (ze 2) (zb (ze 3) (zb (ze 4) (zb (ze 5) (zb (ze 6) zB)))))))))))))
abbrev vo(ns:List Int)(t p:Int)(m:Nat)(w:Nat->Bool)(few odd:Int)(c7 c8 c9 c10 c11:Cell):Ctx:=
 [.val (xi ns),.val (.int t),.val (.int p),.val (.str (j7 m w)),.val (.int 3),.val (.int few),.val (.int odd),c7,c8,c9,c10,c11]
def zcB:CO Fl:=(zU (xh (.tp [10,11]) (zw F_law_ends (zb (ze 3) (zb (ze 9) zB)))) (jP 8 (jA (z5 F_law_table_44 (zb (ze 0) (zb (zy qb (zy qb (ze 1) (zu (.int 5))) (zy qK (zu (.int 9)) (ze 9))) (zb (ze 2) (zb (sIx (zh 7) (ze 11)) (zb (sIx (zh 7) (ze 10)) (zb (ze 5) zB))))))))))
theorem zan{ns:List Int}(hn:ns.length<=63){t p few odd:Int}(ht:0<=t)(ap:t<100)(O:0<p)(a7:p<10)(ho:0<=odd){m:Nat}(hm:m<=4)(w:Nat->Bool) :
 ∃wd T,(∃c:Nat,∀k,wd k<=if odd%12=5/\k=c then 9 else 3)/\(∀k i j,0<=T k i j/\T k i j<p)/\F_law_any_47 [xi ns,.int t,.int p,.str (j7 m w),.int 3,.int few,.int odd]=some (.val (z4 m w wd T)):=by
 have hl:=jB;have a8:m+1<=lim:=by omega
 obtain⟨y,U⟩ : ∃y:Nat->Nat,∀k:Nat,(y k:Int)=qM ns (t+(k:Int))/3%4:=⟨λk=>(qM ns (t+(k:Int))/3%4).toNat,λk=>by
  have:=zdQ (qM ns (t+(k:Int))/3) (show(4:Int)≠0 by decide);exact Int.toNat_of_nonneg this⟩
 have a9 : ∀k,y k<=3:=λk=>by
  have:=zdE (qM ns (t+(k:Int))/3) (show(0:Int)<4 by decide);have:=U k;omega
 obtain⟨c,hc⟩ : ∃c:Nat,odd/12%((m+1:Nat):Int)=(c:Int):=⟨(odd/12%((m+1:Nat):Int)).toNat,by
  have:=zdQ (odd/12) (show((m+1:Nat):Int)≠0 by omega);omega⟩
 have ab:c<m+1:=by
  have:=zdE (odd/12) (show(0:Int)<((m+1:Nat):Int)by omega);omega
 obtain⟨wd,Y⟩ : ∃wd:Nat->Nat,wd=λk=>if odd%12=5/\k=c then 9 else y k:=⟨_,rfl⟩;have a0 : ∀k,wd k<=if odd%12=5/\k=c then 9 else 3:=λk=>by
  rw [Y];show(if odd%12=5/\k=c then 9 else y k)<=_;split
  ·exact zcZ _
  ·exact a9 k
 have a2 : ∀k,wd k<=9:=λk=>by have:=a0 k;split at this<;>omega
 have hi3 : ∀k,hiW w wd k<=10:=λk=>by rw [<- jp];have:=a2 (jJ w k);omega
 have wi3 : ∀k,wiW w wd k<=10:=λk=>by rw [<- jv];have:=a2 (jS w k);omega
 refine⟨wd,λk=>jg ns (t+5+9*(k:Int)) p few (wiW w wd k),⟨c,a0⟩,λk i j=>ZY O,?_⟩;have k1:ji (.nm 0) js (zy qL (zy kJ (zw F_law_cell_44 (zb (ze 1) (zb (zy qb (ze 2) (ze 0)) zB))) (zu (.int 3))) (zy qb (ze 3) (zu (.int 1)))) [Cell.no,Cell.val (xi ns),Cell.val (.int t),Cell.val (.int 3)] ((zcP (m+1)).map λi:Nat=>D.int (i:Int))=some ((zcP (m+1)).map λk:Nat=>D.int (y k:Int)):=by
  refine zA _ _ λk hk=>zD rfl rfl ?_;have hk:=zc1.mp hk;obtain⟨e1,_,_⟩:=vj hn (k:=t+(k:Int)) ⋯ ⋯;show zy _ _ _ [Cell.val (.int (k:Int)),Cell.val (xi ns),Cell.val (.int t),Cell.val (.int 3)]=_;simp [e1,U]
 have wl:=xj m w;have a4:=qj w (show m<=1000 by omega);have s1:(qw 7 (zV (zJ (zy qb (qN (ze 3)) (zu (.int 1)))) (.nm 0) 1 [0,1,4] js (zy qL (zy kJ (zw F_law_cell_44 (zb (ze 1) (zb (zy qb (ze 2) (ze 0)) zB))) (zu (.int 3))) (zy qb (ze 3) (zu (.int 1)))))) (jr 12 [xi ns,.int t,.int p,.str (j7 m w),.int 3,.int few,.int odd])=some (.next (vo ns t p m w few odd (.own (zx (m+1) λk=>(y k:Int))) .no .no .no .no)):=by
  have r:inR ((m:Int)+1)=true:=qP ⋯ ⋯;have e:((m:Int)+1).toNat=m+1:=by omega
  simp [vo,jr,zcS,wl,a4,r,e,jL,jy,xo,a8];rw [zY (m+1) λi=>(i:Int),k1];rfl
 have sd:(zx (m+1) λk=>(y k:Int)).set c (.int 9)=zx (m+1) λk=>((if k=c then 9 else y k:Nat):Int):=by
  unfold zx;refine List.ext_getElem ⋯ λi h1 h2=>?_;rw [List.getElem_set];simp only [List.getElem_map,List.getElem_range];by_cases e:c=i
  ·rw [if_pos e,if_pos e.symm];rfl
  ·rw [if_neg e,if_neg (zdy e)]
 have a5:(zx (m+1) λk=>(y k:Int)).length=m+1:=by simp [zx]
 have ae:(sIf (sB (zy dEq (zy qL (ze 6) (zu (.int 12))) (zu (.int 5)))) (vC 7 (zy qL (zy kJ (ze 6) (zu (.int 12))) (xH (zh 7))) (zu (.int 9))) jt) (vo ns t p m w few odd (.own (zx (m+1) λk=>(y k:Int))) .no .no .no .no)=some (.next (vo ns t p m w few odd (.own (zx (m+1) λk=>(wd k:Int))) .no .no .no .no)):=by
  rw [Y];by_cases I:odd%12=5
  ·simp only [I,true_and]
   rw [<- sd];have e1:zy dEq (zy qL (ze 6) (zu (.int 12))) (zu (.int 5)) (vo ns t p m w few odd (.own (zx (m+1) λk=>(y k:Int))) .no .no .no .no)=some (.bl true):=by simp [vo,I]
   have af:(0:Int)<((m+1:Nat):Int):=by omega
   have e2:zy qL (zy kJ (ze 6) (zu (.int 12))) (xH (zh 7)) (vo ns t p m w few odd (.own (zx (m+1) λk=>(y k:Int))) .no .no .no .no)=some (.int (c:Int)):=by
    rw [<- hc];simp only [vo,qt,zH,jf,Zk,zI,zcJ,zcK,zg,vi,zcL,zcN,a5];rw [Ku,if_pos (by simp [VN])];simp only [zcL,Ji];rw [if_pos af]
   rw [kv,JW,e1];simp only [zcL,x9,if_true];rw [Ky,e2];simp only [jf,vo,zcJ,zcK,jX,zcL,zcN,zM,a5,je,ab,if_true,zcR,zcQ]
  ·simp only [I,false_and,if_false]
   have e1:zy dEq (zy qL (ze 6) (zu (.int 12))) (zu (.int 5)) (vo ns t p m w few odd (.own (zx (m+1) λk=>(y k:Int))) .no .no .no .no)=some (.bl false):=by simp [vo,I]
   rw [kv,JW,e1];rfl
 obtain⟨γ',s3,⟨c8,c9,c10,rfl⟩⟩:=qa (T:= .nm 9) (F:=zcB) (f:=qN (ze 3)) (γ:=vo ns t p m w few odd (.own (zx (m+1) λk=>(wd k:Int))) (.own []) .no .no .no)
  (λs γ=>∃c8 c9 c10,γ=vo ns t p m w few odd (.own (zx (m+1) λk=>(wd k:Int))) (.own (qy s w wd λk=>jg ns (t+5+9*(k:Int)) p few (wiW w wd k))) c8 c9 c10) m ⋯ (by simp [vo,wl,a4]) ⟨_,_,_,rfl⟩ (by
    rintro s hs γ ⟨c8,c9,c10,rfl⟩;refine⟨_,vo ns t p m w few odd (.own (zx (m+1) λk=>(wd k:Int))) (.own (qy (s+1) w wd λk=>jg ns (t+5+9*(k:Int)) p few (wiW w wd k))) (.val (.int (s:Int))) (.val (.int ((jS w s:Nat):Int))) (.val (.int ((jJ w s:Nat):Int))),rfl,?_,⟨_,_,_,rfl⟩⟩;have en:=qJ (w:=w) (show m<=5 by omega) hs;have tb:=J8 hn (t:=t+5+9*(s:Int)) (p:=p) (few:=few) ⋯ ⋯ O a7 (hi3 s) (wi3 s);have l1:=xp (w:=w) hs;have l2:=xq (w:=w) hs;have al:s<lim:=by omega
    have dl:(zx (m+1) λk=>(wd k:Int)).length=m+1:=by simp [zx]
    have tl:(qy s w wd λk=>jg ns (t+5+9*(k:Int)) p few (wiW w wd k)).length=s:=by simp [qy]
    have a1:(xh (.tp [10,11]) (zw F_law_ends (zb (ze 3) (zb (ze 9) zB)))) (vo ns t p m w few odd (.own (zx (m+1) λk=>(wd k:Int))) (.own (qy s w wd λk=>jg ns (t+5+9*(k:Int)) p few (wiW w wd k))) (.val (.int (s:Int))) c9 c10)=some (.next (vo ns t p m w few odd (.own (zx (m+1) λk=>(wd k:Int))) (.own (qy s w wd λk=>jg ns (t+5+9*(k:Int)) p few (wiW w wd k))) (.val (.int (s:Int))) (.val (.int ((jS w s:Nat):Int))) (.val (.int ((jJ w s:Nat):Int))))):=by
     simp [vo,en]
    refine zq a1 ?_;have cm:yp 9 (s:Int)=true:=xL _ _ ⋯ ⋯;have d1:(zx (m+1) λk=>(wd k:Int))[jJ w s]? = some (.int (hiW w wd s:Nat)):=by
     rw [<- jp];unfold zx;simp [l1]
    have d2:(zx (m+1) λk=>(wd k:Int))[jS w s]? = some (.int (wiW w wd s:Nat)):=by
     rw [<- jv];unfold zx;simp [l2]
    rw [show qy (s+1) w wd (λk=>jg ns (t+5+9*(k:Int)) p few (wiW w wd k))=qy s w wd (λk=>jg ns (t+5+9*(k:Int)) p few (wiW w wd k))++[D.lst (jq (hiW w wd s) (wiW w wd s) (jg ns (t+5+9*(s:Int)) p few (wiW w wd s)))]from xk _ _];simp only [vo,xz,j5,ql,zN,z6,zH,qt,jf,jT,zI,zcJ,zcK,zg,zo,vi,jX,zcL,zcN,kn,km,cm,if_true,jE,zM,dl,je,l1,l2,d1,d2,tb,wK,tl,al,zcR,zcQ])
 have s4:(Qf 8 (Qf 7 (jV (qU (zb (ze 7) (zb (ze 8) zB)))))) (vo ns t p m w few odd (.own (zx (m+1) λk=>(wd k:Int))) (.own (qy m w wd λk=>jg ns (t+5+9*(k:Int)) p few (wiW w wd k))) c8 c9 c10)=some (.ret (.val (z4 m w wd λk=>jg ns (t+5+9*(k:Int)) p few (wiW w wd k)))):=by
  have l2:2<=lim:=by omega
  simp [vo,Qf,jX,l2,z4]
 exact jo (zq s1 (zq ae (zq (γ':=vo ns t p m w few odd (.own (zx (m+1) λk=>(wd k:Int))) (.own []) .no .no .no) rfl (zq s3 s4))))
structure Bar where
 s:Nat
 n:Nat
 v:Nat->Vc
section
variable{p:Int}{n m N h r r2 q:Nat}{B B2 K:Nat->Vc}{l l2 lK:Nat->Nat}{M f:Nat->Nat->Int}
theorem J9{U:Nat->Vc}{v:Vc}(y:Span p n (Fam m U) v) : ∃t:Vc,∀i,i<n->v i%p=zv (λj=>t j*U j i) m%p:=by
 induction y with
 | zero h=>exact⟨λ_=>0,λi hi=>by rw [h i hi];simp [jj]⟩
 | @step v w g c I hw O Y=>
  obtain⟨t,ht⟩:=Y;obtain⟨k,hk,rfl⟩:=I;refine⟨λj=>t j+if j=k then c else 0,λi hi=>?_⟩;rw [O i hi,zdS,ht i hi,<- zdS];congr 1;have e:zv (λj=>(t j+if j=k then c else 0)*U j i) m=zv (λj=>t j*U j i) m+zv (λj=>(if j=k then c else 0)*U j i) m:=by
   rw [<- qW];exact zE λj _=>Int.add_mul ..
  rw [e,qo (f:=λj=>(if j=k then c else 0)*U j i) hk λj _ hj=>by simp [hj]];simp
end
theorem yN(f:Nat->Int)(a:Nat) : ∀b,zv f (a+b)=zv f a+zv (λx=>f (a+x)) b
 | 0=>by show zv f a=zv f a+0;omega
 | b+1=>by
  show zv f (a+b)+f (a+b)=zv f a+(zv (λx=>f (a+x)) b+f (a+b));rw [yN f a b];omega
theorem yM(f:Nat->Int)(w:Nat) : ∀h,zv f (h*w)=zv (λi=>zv (λj=>f (i*w+j)) w) h
 | 0=>by rw [Nat.zero_mul];rfl
 | h+1=>by
  rw [zfo,yN,yM f w h];rfl
theorem Zt(hs ws:Nat->Nat)(f:Nat->Int) : ∀n,zv f (off hs ws n)=zv (λk=>zv (λi=>zv (λj=>f (off hs ws k+i*ws k+j)) (ws k)) (hs k)) n
 | 0=>rfl
 | n+1=>by
  show zv f (off hs ws n+hs n*ws n)=zv (λk=>zv (λi=>zv (λj=>f (off hs ws k+i*ws k+j)) (ws k)) (hs k)) n+_;rw [yN,Zt hs ws f n,yM];congr 1;refine zE λi _=>zE λj _=>?_;rw [Nat.add_assoc]
theorem wA(f g:Nat->Int)(n:Nat):zv (λk=>f k - g k) n=zv f n - zv g n:=by
 rw [zE (g:=λk=>f k+(-1)*g k) λk _=>by omega,qW,j9];omega
theorem XA{p:Int}(U:Pr p){h w:Nat}(hh:h<=90)(hw:w<=90)(f:Nat->Nat->Int)(b:Vc)(Y : ∀i,i<h->0<=b i/\b i<p) :
 (∃x:Vc,∀i,i<h->zv (λj=>f i j*x j) w%p=b i)\/F_solved [.int p,jD h w f,.tup (zx h b)]=some (.val .non)/\∃y:Vc,(∀j,j<w->zv (λi=>f i j*y i) h%p=0)/\zv (λi=>b i*y i) h%p=1:=by
 obtain⟨r,B,l,s,O,a0,hs,s1,s2,a5⟩:=vm U hh hw f b;by_cases I:s<r
 ·refine .inr ⟨by rw [a5,if_pos I],?_⟩
  have aa:=O.lt s I;have ab:=s2 s (zcZ _) I;have el:l s=w:=by omega
  obtain⟨y,hy⟩:=J9 ((a0 (B s)).mp (.gen ⟨s,I,rfl⟩));refine⟨y,λj hj=>?_,?_⟩
  ·have:=hy j ⋯
   rw [O.bef s j I ⋯,zE (g:=λi=>f i j*y i) λi _=>by simp [aug,hj,zeE]]at this;rw [<- this];rfl
  ·have:=hy w ⋯
   have h1:=O.one s I;rw [el]at h1;rw [h1,zE (g:=λi=>b i*y i) λi _=>by simp [aug,zeE],U.one]at this;exact this.symm
 ·refine .inl ⟨ZT w B l s,λi hi=>?_⟩
  have er:s=r:=by omega
  subst er;have co:=zaf O ((a0 (aug w f b i)).mpr (.gen ⟨i,hi,rfl⟩)) w ⋯;have a8:aug w f b i w=b i:=by simp [aug]
  rw [a8,zew (Y i hi).1 (Y i hi).2]at co;rw [co];congr 1;unfold ZT;rw [zE (g:=λj=>zv (λk=>f i j*(if l k=j then B k w else 0)) s) λj _=>(j9 _ _ _).symm,xt];refine zE λk hk=>?_;rw [qo (i:=l k) (s1 k hk) λj hj a9=>by rw [if_neg (zdy a9)];simp,if_pos rfl];simp only [aug,if_pos (s1 k hk)]
theorem Jq{p:Int}(O:Pr p){h w:Nat}(hh:h<=89)(hw:w<=89)(f:Nat->Nat->Int)(b y:Vc)(h1 : ∀j,j<w->zv (λi=>f i j*y i) h%p=0)(h2:zv (λi=>b i*y i) h%p=1) :
 ∃x:Vc,F_weights_against [.int p,jD h w f,.tup (zx h b)]=some (.val (.tup (zx h x)))/\(∀j,0<=x j/\x j<p)/\(∀j,j<w->zv (λi=>f i j*x i) h%p=0)/\zv (λi=>b i*x i) h%p=1:=by
 have hl:=jB;have a3:h<=lim:=by omega
 have a4:w<=lim:=by omega
 have af:w+1<=lim:=by omega
 have p2:=O.two;let g:Nat->Nat->Int:=λj i=>if j<w then f i j else b i;let c:Vc:=λj=>if j<w then 0 else 1;have U : ∀v:Vc,∀j,j<w->zv (λi=>g j i*v i) h=zv (λi=>f i j*v i) h:=λv j I=>zE λi _=>by show(if j<w then f i j else b i)*v i=_;rw [if_pos I]
 have gl : ∀v:Vc,zv (λi=>g w i*v i) h=zv (λi=>b i*v i) h:=λv=>zE λi _=>by show(if w<w then f i w else b i)*v i=_;rw [if_neg ⋯]
 obtain⟨x,so,bx,Y⟩:=Z2 O (h:=w+1) (w:=h) ⋯ ⋯ g c y (λj _=>by show 0<=(if j<w then (0:Int)else 1)/\(if j<w then (0:Int)else 1)<p;split<;>omega) λj I=>by
  by_cases e:j<w
  ·rw [U y j e,h1 j e];show 0=(if j<w then (0:Int)else 1);rw [if_pos e]
  ·obtain rfl:j=w:=by omega
   rw [gl y,h2];show 1=(if j<j then (0:Int)else 1);rw [if_neg e]
 refine⟨x,?_,bx,λj I=>?_,?_⟩
 ·have ov:=k5 f a3 a4
  have x3:jE (jD w h λi j=>f j i)=some (.T,[.int (w:Int),.int (h:Int),.tup (jN w h λi j=>f j i)]):=rfl;have i0:ixD 3 0=some 0:=rfl;have i1:ixD 3 1=some 1:=rfl;have i2:ixD 3 2=some 2:=rfl;have l3:3<=lim:=by omega
  have l1:1<=lim:=by omega
  have e1:jN w h (λi j=>f j i)++[D.tup (zx h b)]=jN (w+1) h g:=by
   unfold jN;rw [xk];congr 1
   ·refine zdA λj I=>?_
    have I:=zc1.mp I;show D.tup (zx h λi=>f i j)=D.tup (zx h λi=>if j<w then f i j else b i);simp only [I,if_true]
   ·show [D.tup (zx h b)]=[D.tup (zx h λi=>if w<w then f i w else b i)]
    simp only [zdN,if_false]
  have e2:zcS w (D.int 0)++[D.int 1]=zx (w+1) c:=by
   unfold zx;rw [xk];congr 1
   ·refine(List.eq_replicate_iff.mpr ⟨by simp,λd hd=>?_⟩).symm
    obtain⟨j,I,rfl⟩:=zfO.mp hd;have I:=zc1.mp I;show D.int (if j<w then (0:Int)else 1)=_;rw [if_pos I]
   ·show [D.int 1]=[D.int (if w<w then (0:Int)else 1)]
    rw [if_neg ⋯]
  have e3:qb (.tup (jN w h λi j=>f j i)) (.tup [D.tup (zx h b)])=some (.tup (jN (w+1) h g)):=by
   rw [<- e1];show(if (jN w h λi j=>f j i).length+1<=lim then _ else none)=_;rw [if_pos (by simp [jN];omega)]
  have e4:(qK (.tup [D.int 0]) (.int (w:Int))).bind (λx=>qb x (.tup [D.int 1]))=some (.tup (zx (w+1) c)):=by
   have r:inR (w:Int)=true:=qP ⋯ ⋯;rw [<- e2];show((if 1*(w:Int).toNat<=lim/\inR (w:Int)=true then some (D.tup (zcS (w:Int).toNat [D.int 0]).flatten)else none).bind λx=>qb x (.tup [D.int 1]))=_;rw [zdf,if_pos ⟨by omega,r⟩,zcL,zfG];show(if (zcS w (D.int 0)).length+1<=lim then _ else none)=_;rw [if_pos (by simp;omega)]
  have s1:(jh 3 (zw F_turned_over (zb (ze 1) zB))) (jr 5 [.int p,jD h w f,.tup (zx h b)])=some (.next [.val (.int p),.val (jD h w f),.val (.tup (zx h b)),.val (jD w h λi j=>f j i),.no]):=by
   show jh _ _ [.val (.int p),.val (jD h w f),.val (.tup (zx h b)),.no,.no]=_;simp only [ju,jb,zN,z6,zH,zcJ,zcK,zg,zcL,zcN,ov,xB,zcR,zcQ]
  have s2:(jh 4 (qU (zb (zy qb (sIx (zh 3) (zu (.int 0))) (zu (.int 1))) (zb (sIx (zh 3) (zu (.int 1))) (zb (zy qb (sIx (zh 3) (zu (.int 2))) (qU (zb (ze 2) zB))) zB))))) [.val (.int p),.val (jD h w f),.val (.tup (zx h b)),.val (jD w h λi j=>f j i),.no]=some (.next [.val (.int p),.val (jD h w f),.val (.tup (zx h b)),.val (jD w h λi j=>f j i),.val (jD (w+1) h g)]):=by
   simp only [ju,kA,zN,z6,qt,jT,zI,zH,jf,zcJ,zcK,zcU,zcW,zc0,zc4,zg,zo,zcL,zcN,x3,zM,i0,i1,i2,kn,l1,l3,if_true,e3,zcR,zcQ];rfl
  have s3:(jV (zw F_solved (zb (ze 0) (zb (ze 4) (zb (zy qb (zy qK (qU (zb (zu (.int 0)) zB)) (sIx (zh 3) (zu (.int 0)))) (qU (zb (zu (.int 1)) zB))) zB))))) [.val (.int p),.val (jD h w f),.val (.tup (zx h b)),.val (jD w h λi j=>f j i),.val (jD (w+1) h g)]=some (.ret (.val (.tup (zx h x)))):=by
   simp only [xM,jb,kA,zN,z6,qt,jT,zI,zH,jf,zcJ,zcK,zcU,zcW,zc0,zc4,zg,zo,zcL,zcN,x3,zM,i0,l1,if_true,e4,so,xB]
  exact jo (zq s1 (zq s2 s3))
 ·have:=Y j ⋯
  rw [U x j I]at this;rw [this];show(if j<w then (0:Int)else 1)=0;rw [if_pos I]
 ·have:=Y w ⋯
  rw [gl x]at this;rw [this];show(if w<w then (0:Int)else 1)=1;rw [if_neg ⋯]
def sum3(n:Nat)(hs ws:Nat->Nat)(F:Nat->Nat->Nat->Int):Int:=zv (λk=>zv (λi=>zv (λj=>F k i j) (ws k)) (hs k)) n
theorem ZZ{p:Int}{n:Nat}{hs ws:Nat->Nat}{F G:Nat->Nat->Nat->Int}(h : ∀k i j,k<n->i<hs k->j<ws k->F k i j%p=G k i j%p):sum3 n hs ws F%p=sum3 n hs ws G%p:=
 qf λk y=>qf λi hi=>qf λj I=>h k i j y hi I
section
variable{p:Int}{m:Nat}{w:Nat->Bool}{wd wd':Nat->Nat}{T T' S J X:Nat->Nat->Nat->Int}
structure Wts(p:Int)(m:Nat)(w:Nat->Bool)(wd wd':Nat->Nat)(T T' J X:Nat->Nat->Nat->Int):Prop where
 bd : ∀k i j,0<=X k i j/\X k i j<p
 dual : ∀S,sum3 m (hiW w wd) (wiW w wd') (λk i j=>X k i j*linT w wd wd' T T' S k i j)%p=0
 tr:sum3 m (hiW w wd) (wiW w wd') (λk i j=>X k i j*J k i j)%p≠0
theorem VR(hp:Pr p){x:Vc}(U : ∀j,0<=x j/\x j<p)(h1 : ∀c,c<off wd wd' (m+1)->zv (λe=>k7 p m w wd wd' T T' e c*x e) (off (hiW w wd) (wiW w wd') m)%p=0)
 (h2:zv (λe=>(-(wrF (hiW w wd) (wiW w wd') J m e))%p*x e) (off (hiW w wd) (wiW w wd') m)%p=1):Wts p m w wd wd' T T' J (qC (hiW w wd) (wiW w wd') x):=by
 refine⟨λk i j=>U _,λS=>?_,λz=>?_⟩
 ·let s:Vc:=wrF wd wd' S (m+1)
  have e1:zv (λe=>x e*zv (λc=>k7 p m w wd wd' T T' e c*s c) (off wd wd' (m+1))) (off (hiW w wd) (wiW w wd') m)%p=0:=by
   rw [zE (g:=λe=>zv (λc=>x e*(k7 p m w wd wd' T T' e c*s c)) (off wd wd' (m+1))) λe _=>(j9 _ _ _).symm,xt,
    qf (g:=λ_=>0) λc hc=>by
     rw [zE (g:=λe=>k7 p m w wd wd' T T' e c*x e*s c) λe _=>by rw [zeE (x e),Int.mul_right_comm],vz,zdo,h1 c hc];simp,
    jj]
   rfl
  rw [Zt]at e1;rw [<- e1];refine ZZ (n:=m) (hs:=hiW w wd) (ws:=wiW w wd') λk i j y hi I=>?_;show x _*_%p=x _*_%p;rw [zdo,zdo (x _) (zv _ _),yB _ y hi I];have l1:=xp (w:=w) y;have l2:=xq (w:=w) y;rw [QK (X:=qC wd wd' s) (Y:=S) (λt O=>by unfold qC;exact xR (by rw [jp w wd];exact hi) (by rw [jp w wd'];exact O) (m+1) l1) λt O=>by unfold qC;exact xR (by rw [jv w wd];exact O) (by rw [jv w wd'];exact I) (m+1) l2]
 ·rw [Zt]at h2
  have e:sum3 m (hiW w wd) (wiW w wd') (λk i j=>(-(wrF (hiW w wd) (wiW w wd') J m (off (hiW w wd) (wiW w wd') k+i*wiW w wd' k+j)))%p*x (off (hiW w wd) (wiW w wd') k+i*wiW w wd' k+j))%p=sum3 m (hiW w wd) (wiW w wd') (λk i j=>(-1)*(qC (hiW w wd) (wiW w wd') x k i j*J k i j))%p:=
   ZZ λk i j y hi I=>by
    rw [xR hi I m y,zdo,zek,<- zdo];show -(J k i j)*x _%p=(-1)*(x _*J k i j)%p;rw [Int.neg_mul,zeE (J k i j),<- Int.neg_one_mul]
  have e2:sum3 m (hiW w wd) (wiW w wd') (λk i j=>(-1)*(qC (hiW w wd) (wiW w wd') x k i j*J k i j))=(-1)*sum3 m (hiW w wd) (wiW w wd') (λk i j=>qC (hiW w wd) (wiW w wd') x k i j*J k i j):=by
   unfold sum3;rw [<- j9];refine zE λk _=>?_;rw [<- j9];refine zE λi _=>?_;rw [<- j9]
  have h2:sum3 m (hiW w wd) (wiW w wd') (λk i j=>(-(wrF (hiW w wd) (wiW w wd') J m (off (hiW w wd) (wiW w wd') k+i*wiW w wd' k+j)))%p*x (off (hiW w wd) (wiW w wd') k+i*wiW w wd' k+j))%p=1:=h2;rw [e,e2,zdo,z,zd6,Int.zero_emod]at h2;omega
theorem QU(I:Pr p)(hm:m<=4)(hw : ∀k,wd k<=9)(U : ∀k,wd' k<=9)(a0 : ∀k i j,0<=T' k i j/\T' k i j<p)(h1:off wd wd' (m+1)<=89)(h2:off (hiW w wd) (wiW w wd') m<=89){d:D}(tg:F_widths_together [zO p m w wd T,zO p m w wd' T']=some (.val d)) :
 (∃S,VP p m w wd wd' T T' J S)\/∃X,Wts p m w wd wd' T T' J X/\F_fallen [zO p m w wd T,zO p m w wd' T',.lst (zP m w wd wd' J)]=some (.val (.tup [.str "stuck",.lst (tbL m (wiW w wd') (hiW w wd) λk i j=>X k j i)])):=by
 have hl:=jB;have p0:=I.pos;rcases XA I (show off (hiW w wd) (wiW w wd') m<=90 by omega) (show off wd wd' (m+1)<=90 by omega) (k7 p m w wd wd' T T') (λe=>(-(wrF (hiW w wd) (wiW w wd') J m e))%p) (λe _=>⟨zdQ _ ⋯,zdE _ p0⟩)with⟨x,hx⟩ | ⟨so,y,y1,y2⟩
 ·refine .inl ⟨qC wd wd' x,λk i j O hi Y=>?_⟩
  have:=hx _ (Xd (hs:=hiW w wd) (ws:=wiW w wd') O hi Y);rw [yB _ O hi Y,xR hi Y m O]at this;exact this
 ·obtain⟨x,we,bx,x1,x2⟩:=Jq I h2 h1 (k7 p m w wd wd' T T') (λe=>(-(wrF (hiW w wd) (wiW w wd') J m e))%p) y y1 y2
  refine .inr ⟨_,VR I bx x1 x2,?_⟩;refine vJ I hm hw U a0 ⋯ ⋯ tg ?_;have ti:=xS (n:=m) (hs:=hiW w wd) (ws:=wiW w wd') ⋯ (hi9 hw) (wi9 U) x rfl;have ac:F_arrow_sizes [zO p m w wd' T',zO p m w wd T]=some (.own (szL m (hiW w wd) (wiW w wd'))):=Zv hm;have tl:=kF m (hiW w wd) (wiW w wd') (qC (hiW w wd) (wiW w wd') x);have kk:ji (.nm 0) js (zw F_turned_over (zb (ze 0) zB)) [Cell.no] (tbL m (hiW w wd) (wiW w wd') (qC (hiW w wd) (wiW w wd') x))=some (tbL m (wiW w wd') (hiW w wd) λk i j=>qC (hiW w wd) (wiW w wd') x k j i):=by
   unfold tbL;refine zA _ _ λk O=>zD rfl rfl ?_;have a1:=hi9 (w:=w) hw k;have a2:=wi9 (w:=w) U k;have ov:=k5 (qC (hiW w wd) (wiW w wd') x k) (show hiW w wd k<=lim by omega) (show wiW w wd' k<=lim by omega);show zw _ _ [Cell.val _]=_;simp only [jb,zN,z6,zH,zcJ,zg,zcL,zcN,ov,xB]
  generalize qC (hiW w wd) (wiW w wd') x=X at *;generalize off wd wd' (m+1)=N at *;generalize off (hiW w wd) (wiW w wd') m=A at *;generalize (λe=>(-(wrF (hiW w wd) (wiW w wd') J m e))%p)=b at *;generalize k7 p m w wd wd' T T'=g at *;have l2:2<=lim:=by omega
  have ag:m<=lim:=by omega
  let R:=zO p m w wd T;let R':=zO p m w wd' T';let γ:Cell->Cell->Ctx:=λc6 c7=>[.val (zO p m w wd T),.val (zO p m w wd' T'),.val (.lst (zP m w wd wd' J)),.val (.int p),.val (jD A N g),.val (.tup (zx A b)),c6,c7];have s6:(jh 6 (zw F_solved (zb (ze 3) (zb (ze 4) (zb (ze 5) zB))))) (γ .no .no)=some (.next (γ (.val .non) .no)):=by
   simp only [γ,ju,jb,zN,z6,zH,zcJ,zcK,zg,zcL,zcN,so,xB,zcR,zcQ]
  have s8:(jh 7 (jA (z5 F_tables_in (zb (jA (z5 F_arrow_sizes (zb (ze 1) (zb (ze 0) zB)))) (zb (zw F_weights_against (zb (ze 3) (zb (ze 4) (zb (ze 5) zB)))) zB))))) (γ (.val .non) .no)=some (.next (γ (.val .non) (.val (.lst (tbL m (hiW w wd) (wiW w wd') X))))):=by
   simp only [γ,ju,j5,ql,jb,zN,z6,zH,zcJ,zcK,zg,zcL,zcN,ac,we,ti,xB,wK,zcR,zcQ]
  have s9:(jV (qU (zb (zu (.str "stuck")) (zb (jA (zV (zW (zh 7)) (.nm 0) 1 [] js (zw F_turned_over (zb (ze 0) zB)))) zB)))) (γ (.val .non) (.val (.lst (tbL m (hiW w wd) (wiW w wd') X))))=some (.ret (.val (.tup [.str "stuck",.lst (tbL m (wiW w wd') (hiW w wd) λk i j=>X k j i)]))):=by
   simp only [γ,xM,kA,zN,z6,zI,jf,j5,jK,jU,zcJ,zcK,zcU,zcW,zc0,zc4,zo,zG,zcL,zcN,tl,ag,l2,if_true];rw [show jy 1 [] (γ (.val .non) (.val (.lst (tbL m (hiW w wd) (wiW w wd') X))))=[Cell.no]from rfl,kk];simp only [zcL,zcN,zcU,zcW,zc0,zc4,l2,if_true]
  exact zq s6 (zq (γ':=γ (.val .non) .no) rfl (zq s8 s9))
def K5(w:Nat->Bool)(wd':Nat->Nat)(T' X:Nat->Nat->Nat->Int)(r i j k:Nat):Int:=if jJ w k=r then zv (λb=>T' k i b*X k j b) (wiW w wd' k)else 0
def K8(w:Nat->Bool)(wd:Nat->Nat)(T X:Nat->Nat->Nat->Int)(r i j k:Nat):Int:=if jS w k=r then zv (λa=>X k a i*T k a j) (hiW w wd k)else 0
theorem Qh(W:Wts p m w wd wd' T T' J X){r i j:Nat}(hi:i<wd' r)(O:j<wd r):zv (λk=>K8 w wd T X r i j k - K5 w wd' T' X r i j k) m%p=0:=by
 let U:Nat->Nat->Nat->Int:=λr' a b=>if r'=r then (if a=j then (if b=i then 1 else 0)else 0)else 0;have d:=W.dual U;have e1 : ∀k a b,k<m->a<hiW w wd k->b<wiW w wd' k->linT w wd wd' T T' U k a b=(if jJ w k=r then (if a=j then T' k i b else 0)else 0) - (if jS w k=r then (if b=i then T k a j else 0)else 0):=λk a b Y ha y=>by
  unfold linT;congr 1
  ·by_cases e:jJ w k=r
   ·rw [if_pos e]
    by_cases e2:a=j
    ·rw [if_pos e2,qo (i:=i) (by rw [<- jp,e];exact hi) λt _ I=>by simp only [U,e,e2,if_true,I,if_false,zd6]]
     simp only [U,e,e2,if_true,zfB]
    ·rw [if_neg e2,zE (g:=λ_=>0) λt _=>by simp only [U,e,e2,if_true,if_false,zd6],jj]
   ·rw [if_neg e,zE (g:=λ_=>0) λt _=>by simp only [U,e,if_false,zd6],jj]
  ·by_cases e:jS w k=r
   ·rw [if_pos e]
    by_cases e2:b=i
    ·rw [if_pos e2,qo (i:=j) (by rw [<- jv,e];exact O) λt _ I=>by simp only [U,e,e2,if_true,I,if_false,zd6]]
     simp only [U,e,e2,if_true,zfB]
    ·rw [if_neg e2,zE (g:=λ_=>0) λt _=>by simp only [U,e,e2,if_true,if_false,ite_self,zd6],jj]
   ·rw [if_neg e,zE (g:=λ_=>0) λt _=>by simp only [U,e,if_false,zd6],jj]
 have e2:sum3 m (hiW w wd) (wiW w wd') (λk i j=>X k i j*linT w wd wd' T T' U k i j)=zv (λk=>K5 w wd' T' X r i j k - K8 w wd T X r i j k) m:=by
  refine zE λk Y=>?_;rw [zE (g:=λa=>zv (λb=>X k a b*(if jJ w k=r then (if a=j then T' k i b else 0)else 0)) (wiW w wd' k) - zv (λb=>X k a b*(if jS w k=r then (if b=i then T k a j else 0)else 0)) (wiW w wd' k)) λa ha=>by
   rw [<- wA];refine zE λb y=>?_;show X k a b*linT w wd wd' T T' U k a b=_;rw [e1 k a b Y ha y,Int.mul_sub],wA]
  congr 1
  ·unfold K5
   by_cases e:jJ w k=r
   ·rw [if_pos e,qo (i:=j) (by rw [<- jp,e];exact O) λa _ ha=>by
     rw [zE (g:=λ_=>0) λt _=>by simp only [ha,if_false,ite_self,zd6],jj]]
    refine zE λb _=>?_;rw [if_pos e,if_pos rfl,zeE]
   ·rw [if_neg e,zE (g:=λ_=>0) λa _=>by rw [zE (g:=λ_=>0) λt _=>by rw [if_neg e,zd6],jj],jj]
  ·unfold K8
   by_cases e:jS w k=r
   ·rw [if_pos e]
    refine zE λa _=>?_;rw [qo (i:=i) (by rw [<- jv,e];exact hi) λb _ y=>by simp only [y,if_false,ite_self,zd6],if_pos e,if_pos rfl]
   ·rw [if_neg e,zE (g:=λ_=>0) λa _=>by rw [zE (g:=λ_=>0) λt _=>by rw [if_neg e,zd6],jj],jj]
 rw [e2]at d;have e3:zv (λk=>K8 w wd T X r i j k - K5 w wd' T' X r i j k) m=(-1)*zv (λk=>K5 w wd' T' X r i j k - K8 w wd T X r i j k) m:=by
  rw [<- j9];exact zE λk _=>by omega
 rw [e3,zdo,d];simp
end
theorem Vl{T:Tg}{F:CO Fl}{g:Nat->D}(P:Nat->Ctx->Prop)(n:Nat){γ:Ctx}(U:P 0 γ)(step : ∀s,s<n->∀γ,P s γ->∃I y,qE T (g s) γ=some I/\F I=some (.next y)/\P (s+1) y) :
 ∃γ',qD T F ((zcP n).map g) γ=some (.next γ')/\P n γ':=by
 have Y : ∀(k s:Nat) (γ:Ctx),s+k=n->P s γ->∃γ',qD T F ((zeB s k).map g) γ=some (.next γ')/\P n γ':=by
  intro k
  induction k with
  | zero=>
   intro s γ e O;obtain rfl:s=n:=by omega
   exact⟨γ,rfl,O⟩
  | succ k ih=>
   intro s γ e O;obtain⟨I,y,e1,e2,e3⟩:=step s ⋯ γ O;obtain⟨γ',q1,q2⟩:=ih (s+1) y ⋯ e3;refine⟨γ',?_,q2⟩;rw [zd2,zdn,jR,e1];simp only [zcL,e2];exact q1
 have:=Y n 0 γ ⋯ U;rw [<- zdJ]at this;exact this
def raB:CO Fl:=(jP 3 (jA (zV (Zo (ze 4) (ze 5)) (.tp [0,1]) 2 [2] js (zy qb (ze 0) (zy qK (ze 2) (ze 1))))))
theorem Wg:F_law_rows_added=jO 6 (zU (qw 3 (qc zB)) (zU (qV (Zo (ze 0) (ze 1)) (.tp [4,5]) raB) (xT 3))):=rfl
theorem yk{h w:Nat}(hh:h<=100)(hw:w<=100)(f g:Nat->Nat->Int){c:Int}(h1 : -(2 ^ 64)<c)(h2:c<2 ^ 64):F_law_rows_added [.lst (jq h w f),.lst (jq h w g),.int c]=some (.own (jq h w λi j=>f i j+c*g i j)):=by
 have hl:=jB;have y:w<=lim:=by omega
 obtain⟨γ',q,⟨c4,c5,e⟩⟩:=Vl (T:= .tp [4,5]) (F:=raB) (g:=λi=>D.tup [.lst (zx w (f i)),.lst (zx w (g i))]) (γ:=[.val (.lst (jq h w f)),.val (.lst (jq h w g)),.val (.int c),.own [],.no,.no]) (λs γ=>∃c4 c5,γ=[.val (.lst (jq h w f)),.val (.lst (jq h w g)),.val (.int c),.own (jq s w λi j=>f i j+c*g i j),c4,c5]) h ⟨_,_,rfl⟩ (by
  rintro s hs γ ⟨c4,c5,rfl⟩;refine⟨_,[.val (.lst (jq h w f)),.val (.lst (jq h w g)),.val (.int c),.own (jq (s+1) w λi j=>f i j+c*g i j),.val (.lst (zx w (f s))),.val (.lst (zx w (g s)))],rfl,?_,⟨_,_,rfl⟩⟩;have I:yh (zx w (f s)) (zx w (g s))=(zcP w).map λj=>D.tup [.int (f s j),.int (g s j)]:=kc _ _ _;have O:ji (.tp [0,1]) js (zy qb (ze 0) (zy qK (ze 2) (ze 1))) [Cell.no,Cell.no,Cell.val (.int c)] ((zcP w).map λj=>D.tup [.int (f s j),.int (g s j)])=some (zx w λj=>f s j+c*g s j):=by
   rw [zY];refine zA _ _ λj hj=>zD rfl rfl ?_;have U:yp c (g s j)=true:=xL _ _ h1 h2;show zy _ _ _ [Cell.val (.int (f s j)),Cell.val (.int (g s j)),Cell.val (.int c)]=_;simp [U]
  have Y:=xE s w λi j=>f i j+c*g i j;have al:s<lim:=by omega
  show raB [.val (.lst (jq h w f)),.val (.lst (jq h w g)),.val (.int c),.own (jq s w λi j=>f i j+c*g i j),.val (.lst (zx w (f s))),.val (.lst (zx w (g s)))]=_;rw [show jq (s+1) w (λi j=>f i j+c*g i j)=jq s w (λi j=>f i j+c*g i j)++[D.lst (zx w λj=>f s j+c*g s j)]from xk _ _];simp only [raB,xz,j5,jK,Xg,zH,zcJ,zcK,zg,jX,zG,zcL,zcN,I,zdY,ze9,y,if_true];rw [show jy 2 [2] [.val (.lst (jq h w f)),.val (.lst (jq h w g)),.val (.int c),.own (jq s w λi j=>f i j+c*g i j),.val (.lst (zx w (f s))),.val (.lst (zx w (g s)))]=[Cell.no,Cell.no,Cell.val (.int c)]from rfl,O];simp only [zcL,zcN,Y,al,if_true,zcR,zcQ])
 subst e;rw [Wg];refine jo (zq (γ':=[.val (.lst (jq h w f)),.val (.lst (jq h w g)),.val (.int c),.own [],.no,.no]) rfl (zq (γ':=[.val (.lst (jq h w f)),.val (.lst (jq h w g)),.val (.int c),.own (jq h w λi j=>f i j+c*g i j),c4,c5]) ?_ rfl));simp only [kB,Xg,zH,zcJ,zcK,zg,zG,zcL,zcN,Xp];exact q
section
variable{p:Int}{m:Nat}{w:Nat->Bool}{wd wd':Nat->Nat}{T T' S J X:Nat->Nat->Nat->Int}
abbrev rx(p:Int)(m:Nat)(w:Nat->Bool)(wd wd':Nat->Nat)(T T' X:Nat->Nat->Nat->Int)(r:Nat)(c6 c7 c8 c9 c10:Cell):Ctx:=
 [.val (.int p),.val (.str (j7 m w)),.val (z4 m w wd T),.val (z4 m w wd' T'),.val (.lst (tbL m (wiW w wd') (hiW w wd) λk i j=>X k j i)),.val (.int (r:Int)),c6,c7,c8,c9,c10]
def rs1:CO Fl:=(jh 6 (jA (zV (zJ (sIx (zt (sIx (zh 3) (zu (.int 0)))) (ze 5))) (.nm 0) 1 [2,5] js (jA (Zw (jw (qc (zb (zu (.int 0)) zB))) (sIx (zt (sIx (zh 1) (zu (.int 0)))) (ze 2)))))))
def rsE:CO Fl:=(xh (.tp [8,9]) (zw F_law_ends (zb (ze 1) (zb (ze 7) zB))))
def zaY:CO Fl:=(jh 10 (jA (z5 F_law_times_46 (zb (ze 0) (zb (sIx (zt (sIx (zh 4) (ze 7))) (zu (.int 2))) (zb (sIx (zt (sIx (zh 2) (zu (.int 1)))) (ze 7)) (zb (sIx (zt (sIx (zh 2) (zu (.int 0)))) (ze 5)) zB)))))))
def za0:CO Fl:=(jh 6 (jA (z5 F_law_rows_added (zb (ze 6) (zb (ze 10) (zb (zu (.int 1)) zB))))))
def zaX:CO Fl:=(jh 10 (jA (z5 F_law_times_46 (zb (ze 0) (zb (sIx (zt (sIx (zh 3) (zu (.int 1)))) (ze 7)) (zb (sIx (zt (sIx (zh 4) (ze 7))) (zu (.int 2))) (zb (sIx (zt (sIx (zh 2) (zu (.int 0)))) (ze 5)) zB)))))))
def zaZ:CO Fl:=(jh 6 (jA (z5 F_law_rows_added (zb (ze 6) (zb (ze 10) (zb (zy Jh (zu (.int 0)) (zu (.int 1))) zB))))))
def rsB:CO Fl:=zU rsE (zU (sIf (sB (zy dEq (ze 8) (ze 5))) (zU zaY za0) jt) (sIf (sB (zy dEq (ze 9) (ze 5))) (zU zaX zaZ) jt))
def rsR:CO Fl:=(jV (VJ (KK (jw (zV (zW (zh 6)) (.nm 0) 1 [0] js (KK (jw (zV (zW (zh 0)) (.nm 0) 1 [1] js (zy qL (ze 0) (ze 1))))))))))
theorem Wf:F_law_room_stays=jO 11 (zU rs1 (zU (qV (zJ (qN (ze 1))) (.nm 7) rsB) rsR)):=rfl
def Zs(p:Int)(w:Nat->Bool)(wd wd':Nat->Nat)(T T' X:Nat->Nat->Nat->Int)(r s:Nat)(i j:Nat):Int:=zv (λk=>(if jS w k=r then kN p (hiW w wd k) (λi j=>X k j i) (T k) i j else 0)+(if jJ w k=r then (-1)*kN p (wiW w wd' k) (T' k) (λi j=>X k j i) i j else 0)) s
theorem Xx(W:Wts p m w wd wd' T T' J X){r i j:Nat}(hi:i<wd' r)(y:j<wd r):Zs p w wd wd' T T' X r m i j%p=0:=by
 rw [<- Qh W hi y];refine qf λk _=>?_;show((if jS w k=r then zv (λt=>X k t i*T k t j) (hiW w wd k)%p else 0)+(if jJ w k=r then (-1)*(zv (λt=>T' k i t*X k j t) (wiW w wd' k)%p)else 0))%p=(K8 w wd T X r i j k - K5 w wd' T' X r i j k)%p;have a:(if jS w k=r then zv (λt=>X k t i*T k t j) (hiW w wd k)%p else 0)%p=K8 w wd T X r i j k%p:=by
  unfold K8;split
  ·rw [zek]
  ·rfl
 have b:(if jJ w k=r then (-1)*(zv (λt=>T' k i t*X k j t) (wiW w wd' k)%p)else 0)%p=((-1)*K5 w wd' T' X r i j k)%p:=by
  unfold K5;split
  ·rw [zdo,zek,<- zdo]
  ·rfl
 rw [zdS,a,b,<- zdS];congr 1;omega
theorem zcA(n:Nat):yu ((zcP n).map λ_=>D.bl false)=some ((zcP n).map λ_=>false):=by
 induction (zcP n)with
 | nil=>rfl
 | cons a l y=>simp [yu,VW,y]
theorem zcz{n:Nat}{u:Nat->Int}(h : ∀j,j<n->u j=0):yu (zx n u)=some ((zcP n).map λ_=>false):=by
 have:zx n u=(zcP n).map λ_=>D.int 0:=zdA λj y=>by rw [h j (zc1.mp y)]
 rw [this]
 induction (zcP n)with
 | nil=>rfl
 | cons a l I=>simp [yu,VW,I]
theorem wJ(hp:0<p)(az:p<=100)(hm:m<=4)(hw : ∀k,wd k<=9)(ab : ∀k,wd' k<=9)(am : ∀k i j,0<=T' k i j/\T' k i j<p)(W:Wts p m w wd wd' T T' J X){r:Nat}(U:r<m+1) :
 F_law_room_stays [.int p,.str (j7 m w),z4 m w wd T,z4 m w wd' T',.lst (tbL m (wiW w wd') (hiW w wd) λk i j=>X k j i),.int (r:Int)]=some (.val (.bl true)):=by
 have hl:=jB;have wl:=xj m w;have an:=qj w (show m<=1000 by omega);have u0:=xl m w wd T;have u1:=xl m w wd' T';have j0:ixD 2 0=some 0:=rfl;have j1:ixD 2 1=some 1:=rfl;have i2:ixD 3 2=some 2:=rfl;have tl:=kF m (wiW w wd') (hiW w wd) λk i j=>X k j i;have d1:=j3 U λk=>(wd k:Int);have d2:=j3 U λk=>(wd' k:Int);have w1:=hw r;have w2:=ab r;have r1:inR (wd' r:Int)=true:=qP ⋯ ⋯;have r2:inR (wd r:Int)=true:=qP ⋯ ⋯;have af:wd' r<=lim:=by omega
 have ag:wd r<=lim:=by omega
 have l1:1<=lim:=by omega
 have s1:rs1 (rx p m w wd wd' T T' X r .no .no .no .no .no)=some (.next (rx p m w wd wd' T T' X r (.val (.lst (jq (wd' r) (wd r) (Zs p w wd wd' T T' X r 0)))) .no .no .no .no)):=by
  have k1:ji (.nm 0) js (jA (Zw (jw (qc (zb (zu (.int 0)) zB))) (sIx (zt (sIx (zh 1) (zu (.int 0)))) (ze 2)))) [Cell.no,.val (z4 m w wd T),.val (.int (r:Int))] ((zcP (wd' r)).map λi:Nat=>D.int (i:Int))=some (jq (wd' r) (wd r) (Zs p w wd wd' T T' X r 0)):=by
   refine zA _ _ λk y=>zD rfl rfl ?_;show jA _ [.val (.int (k:Int)),.val (z4 m w wd T),.val (.int (r:Int))]=_;simp only [j5,VB,xf,VC,zN,z6,jf,jT,z7,zI,zH,zcJ,zcK,zcU,zcW,zc0,zc4,zo,zg,zcL,zcN,l1,if_true,u0,zM,j0,zG,zX,je,U,d1,zdf,Nat.one_mul,ag,r2,and_self,zfG];rw [wN];rfl
  simp only [rs1,rx,ju,j5,jK,qh,jT,z7,zI,zH,jf,zcJ,zcK,zcU,zcW,zc0,zc4,zo,zg,zcL,zcN,u1,zM,j0,zG,zX,je,U,if_true,d2,r1,zdf,jL,af];rw [zY (wd' r) λi=>(i:Int),show jy 1 [2,5] (rx p m w wd wd' T T' X r .no .no .no .no .no)=[Cell.no,.val (z4 m w wd T),.val (.int (r:Int))]from rfl,k1];simp only [zcN,zcR,zcQ]
 obtain⟨γ',q,⟨c7,c8,c9,c10,e⟩⟩:=qa (T:= .nm 7) (F:=rsB) (f:=qN (ze 1)) (γ:=rx p m w wd wd' T T' X r (.val (.lst (jq (wd' r) (wd r) (Zs p w wd wd' T T' X r 0)))) .no .no .no .no) (λs γ=>∃c7 c8 c9 c10,γ=rx p m w wd wd' T T' X r (.val (.lst (jq (wd' r) (wd r) (Zs p w wd wd' T T' X r s)))) c7 c8 c9 c10) m ⋯ (by simp [rx,wl,an]) ⟨_,_,_,_,rfl⟩ (by
  rintro k y γ ⟨c7,c8,c9,c10,rfl⟩;have en:=qJ (w:=w) (show m<=5 by omega) y;have b1:hiW w wd k<=100:=hi9 hw k;have b4:wiW w wd' k<=100:=wi9 ab k;have ta:=yK y w wd T;have aj:=yK y w wd' T';have as:=kO m w wd T;have au:=kO m w wd' T';have tt:=yJ (hs:=wiW w wd') (ws:=hiW w wd) (T:=λk i j=>X k j i) y;have tw:jE (jD (wiW w wd' k) (hiW w wd k) λi j=>X k j i)=some (.T,[.int (wiW w wd' k:Int),.int (hiW w wd k:Int),.tup (jN (wiW w wd' k) (hiW w wd k) λi j=>X k j i)]):=rfl;have bX : ∀i j,0<=X k j i/\X k j i<100:=λi j=>by have:=W.bd k j i;omega
  let A:Nat->Nat->Int:=λi j=>Zs p w wd wd' T T' X r k i j;let B:Nat->Nat->Int:=λi j=>A i j+if jS w k=r then kN p (hiW w wd k) (λi j=>X k j i) (T k) i j else 0;obtain⟨Y,q1⟩ : ∃Y,(sIf (sB (zy dEq (ze 8) (ze 5))) (zU zaY za0) jt) (rx p m w wd wd' T T' X r (.val (.lst (jq (wd' r) (wd r) A))) (.val (.int (k:Int))) (.val (.int ((jS w k:Nat):Int))) (.val (.int ((jJ w k:Nat):Int))) c10)=some (.next (rx p m w wd wd' T T' X r (.val (.lst (jq (wd' r) (wd r) B))) (.val (.int (k:Int))) (.val (.int ((jS w k:Nat):Int))) (.val (.int ((jJ w k:Nat):Int))) Y)):=by
   by_cases e:jS w k=r
   ·have eB:B=λi j=>A i j+1*kN p (hiW w wd k) (λi j=>X k j i) (T k) i j:=by funext i j;show A i j+(if jS w k=r then _ else 0)=_;rw [if_pos e,Int.one_mul]
    have a9:wiW w wd' k=wd' r:=by rw [<- jv,e]
    have a4:wiW w wd k=wd r:=by rw [<- jv,e]
    have I:=vQ hp b4 b1 (show wiW w wd k<=100 by omega) bX (Kg (wiW w wd' k) (hiW w wd k) λi j=>X k j i) (Kh (hiW w wd k) (wiW w wd k) (T k));have ra:=yk (show wd' r<=100 by omega) (show wd r<=100 by omega) A (kN p (hiW w wd k) (λi j=>X k j i) (T k)) (c:=1) ⋯ ⋯;rw [<- eB]at ra;rw [a4]at I;rw [a9]at I tt tw;rw [a4]at ta;refine⟨.val (.lst (jq (wd' r) (wd r) (kN p (hiW w wd k) (λi j=>X k j i) (T k)))),?_⟩;have O:sB (zy dEq (ze 8) (ze 5)) (rx p m w wd wd' T T' X r (.val (.lst (jq (wd' r) (wd r) A))) (.val (.int (k:Int))) (.val (.int ((jS w k:Nat):Int))) (.val (.int ((jJ w k:Nat):Int))) c10)=some true:=by simp [rx,e]
    rw [kv,O];simp only [zcL,if_true];refine zq (γ':=rx p m w wd wd' T T' X r (.val (.lst (jq (wd' r) (wd r) A))) (.val (.int (k:Int))) (.val (.int ((jS w k:Nat):Int))) (.val (.int ((jJ w k:Nat):Int))) (.val (.lst (jq (wd' r) (wd r) (kN p (hiW w wd k) (λi j=>X k j i) (T k)))))) ?_ ?_
    ·simp only [zaY,rx,ju,j5,ql,zN,z6,jT,z7,zI,zH,jf,zcJ,zcK,zcU,zcW,zc0,zc4,zo,zg,zcL,zcN,u0,zM,j0,j1,zG,tl,as,zX,je,y,U,if_true,tt,tw,ta,d1,i2,I,wK,zcR,zcQ]
    ·simp only [za0,rx,ju,j5,ql,zN,z6,zH,jf,zcJ,zcK,zg,zcL,zcN,ra,wK,zcR,zcQ]
   ·have eB:B=A:=by funext i j;show A i j+(if jS w k=r then _ else 0)=_;rw [if_neg e,Int.add_zero]
    have O:sB (zy dEq (ze 8) (ze 5)) (rx p m w wd wd' T T' X r (.val (.lst (jq (wd' r) (wd r) A))) (.val (.int (k:Int))) (.val (.int ((jS w k:Nat):Int))) (.val (.int ((jJ w k:Nat):Int))) c10)=some false:=by simp [rx];omega
    refine⟨c10,?_⟩;rw [kv,O,eB];rfl
  let C:Nat->Nat->Int:=λi j=>B i j+if jJ w k=r then (-1)*kN p (wiW w wd' k) (T' k) (λi j=>X k j i) i j else 0;obtain⟨aa,q2⟩ : ∃aa,(sIf (sB (zy dEq (ze 9) (ze 5))) (zU zaX zaZ) jt) (rx p m w wd wd' T T' X r (.val (.lst (jq (wd' r) (wd r) B))) (.val (.int (k:Int))) (.val (.int ((jS w k:Nat):Int))) (.val (.int ((jJ w k:Nat):Int))) Y)=some (.next (rx p m w wd wd' T T' X r (.val (.lst (jq (wd' r) (wd r) C))) (.val (.int (k:Int))) (.val (.int ((jS w k:Nat):Int))) (.val (.int ((jJ w k:Nat):Int))) aa)):=by
   by_cases e:jJ w k=r
   ·have eC:C=λi j=>B i j+(-1)*kN p (wiW w wd' k) (T' k) (λi j=>X k j i) i j:=by funext i j;show B i j+(if jJ w k=r then _ else 0)=_;rw [if_pos e]
    have a9:hiW w wd' k=wd' r:=by rw [<- jp,e]
    have a4:hiW w wd k=wd r:=by rw [<- jp,e]
    have I:=vQ hp (show hiW w wd' k<=100 by omega) b4 b1 (λi j=>by have:=am k i j;omega) (Kh (hiW w wd' k) (wiW w wd' k) (T' k)) (Kg (wiW w wd' k) (hiW w wd k) λi j=>X k j i);have ra:=yk (show wd' r<=100 by omega) (show wd r<=100 by omega) B (kN p (wiW w wd' k) (T' k) λi j=>X k j i) (c:=0 - 1) ⋯ ⋯;rw [show((0:Int) - 1) = -1 from rfl,<- eC]at ra;rw [a4]at I tt tw;rw [a9]at I aj;refine⟨.val (.lst (jq (wd' r) (wd r) (kN p (wiW w wd' k) (T' k) λi j=>X k j i))),?_⟩;have O:sB (zy dEq (ze 9) (ze 5)) (rx p m w wd wd' T T' X r (.val (.lst (jq (wd' r) (wd r) B))) (.val (.int (k:Int))) (.val (.int ((jS w k:Nat):Int))) (.val (.int ((jJ w k:Nat):Int))) Y)=some true:=by simp [rx,e]
    rw [kv,O];simp only [zcL,if_true];refine zq (γ':=rx p m w wd wd' T T' X r (.val (.lst (jq (wd' r) (wd r) B))) (.val (.int (k:Int))) (.val (.int ((jS w k:Nat):Int))) (.val (.int ((jJ w k:Nat):Int))) (.val (.lst (jq (wd' r) (wd r) (kN p (wiW w wd' k) (T' k) λi j=>X k j i))))) ?_ ?_
    ·simp only [zaX,rx,ju,j5,ql,zN,z6,jT,z7,zI,zH,jf,zcJ,zcK,zcU,zcW,zc0,zc4,zo,zg,zcL,zcN,u0,u1,zM,j0,j1,zG,tl,au,zX,je,y,U,if_true,tt,tw,aj,d1,i2,I,wK,zcR,zcQ]
    ·simp only [zaZ,rx,ju,j5,ql,zN,z6,qt,zH,jf,zcJ,zcK,zg,zcL,zcN,wf,show((0:Int) - 1) = -1 from rfl,ra,wK,zcR,zcQ]
   ·have eC:C=B:=by funext i j;show B i j+(if jJ w k=r then _ else 0)=_;rw [if_neg e,Int.add_zero]
    have O:sB (zy dEq (ze 9) (ze 5)) (rx p m w wd wd' T T' X r (.val (.lst (jq (wd' r) (wd r) B))) (.val (.int (k:Int))) (.val (.int ((jS w k:Nat):Int))) (.val (.int ((jJ w k:Nat):Int))) Y)=some false:=by simp [rx];omega
    refine⟨Y,?_⟩;rw [kv,O,eC];rfl
  have eC:C=Zs p w wd wd' T T' X r (k+1):=by
   funext i j;show A i j+_+_=zv _ k+(_+_);rw [zfH];rfl
  refine⟨_,rx p m w wd wd' T T' X r (.val (.lst (jq (wd' r) (wd r) C))) (.val (.int (k:Int))) (.val (.int ((jS w k:Nat):Int))) (.val (.int ((jJ w k:Nat):Int))) aa,rfl,?_,⟨_,_,_,_,by rw [eC]⟩⟩;show rsB (rx p m w wd wd' T T' X r (.val (.lst (jq (wd' r) (wd r) A))) (.val (.int (k:Int))) c8 c9 c10)=_;refine zq (γ':=rx p m w wd wd' T T' X r (.val (.lst (jq (wd' r) (wd r) A))) (.val (.int (k:Int))) (.val (.int ((jS w k:Nat):Int))) (.val (.int ((jJ w k:Nat):Int))) c10) ?_ (zq q1 q2);simp [rsE,rx,en])
 subst e;rw [Wf];refine jo (zq s1 (zq q ?_));have k2:ji (.nm 0) js (KK (jw (zV (zW (zh 0)) (.nm 0) 1 [1] js (zy qL (ze 0) (ze 1))))) [Cell.no,.val (.int p)] (jq (wd' r) (wd r) (Zs p w wd wd' T T' X r m))=some ((zcP (wd' r)).map λ_=>D.bl false):=by
  unfold jq;refine zA _ _ λi hi=>zD rfl rfl ?_;have hi:=zc1.mp hi;have k3:ji (.nm 0) js (zy qL (ze 0) (ze 1)) [Cell.no,.val (.int p)] (zx (wd r) (Zs p w wd wd' T T' X r m i))=some (zx (wd r) λj=>Zs p w wd wd' T T' X r m i j%p):=by
   rw [zY,zY (wd r) λj=>Zs p w wd wd' T T' X r m i j%p];refine zA _ _ λj hj=>zD rfl rfl ?_;show zy _ _ _ [Cell.val (.int (Zs p w wd wd' T T' X r m i j)),.val (.int p)]=_;simp [hp]
  show KK _ [Cell.val (.lst (zx (wd r) (Zs p w wd wd' T T' X r m i))),.val (.int p)]=_;simp only [Yb,xf,jK,jU,zI,zcJ,zo,zG,zcL,zcN,zX,ag,if_true];rw [show jy 1 [1] [Cell.val (.lst (zx (wd r) (Zs p w wd wd' T T' X r m i))),.val (.int p)]=[Cell.no,.val (.int p)]from rfl,k3];simp only [zcL,zcN];rw [zcz λj hj=>Xx W hi hj];simp
 simp only [rsR,rx,xM,zak,Yb,xf,jK,jU,zI,zcJ,zcK,zo,zG,zcL,zcN,xE,af,if_true];rw [show jy 1 [0] (rx p m w wd wd' T T' X r (.val (.lst (jq (wd' r) (wd r) (Zs p w wd wd' T T' X r m)))) c7 c8 c9 c10)=[Cell.no,.val (.int p)]from rfl,k2];simp only [zcL,zcN];rw [zcA];simp
end
section
variable{p:Int}{m:Nat}{w:Nat->Bool}{wd wd':Nat->Nat}{T T' S J X:Nat->Nat->Nat->Int}
abbrev tx(p:Int)(m:Nat)(w:Nat->Bool)(wd wd':Nat->Nat)(J X:Nat->Nat->Nat->Int)(c4 c5 c6 c7 c8 c9 c10:Cell):Ctx:=
 [.val (.int p),.val (.str (j7 m w)),.val (.lst (tbL m (wiW w wd') (hiW w wd) λk i j=>X k j i)),.val (.lst (zP m w wd wd' J)),c4,c5,c6,c7,c8,c9,c10]
def trC:CO Fl:=zU (jh 10 (sIx (zt (sIx (zh 3) (ze 5))) (zu (.int 2)))) (jh 4 (zy qb (ze 4) (JZ (jw (zV (zJ (ze 7)) (.nm 0) 1 [8,9,10] js (zy qK (sIx (zt (sIx (zh 1) (ze 2))) (ze 0)) (sIx (zt (sIx (zh 3) (ze 0))) (ze 2))))))))
def trB:CO Fl:=zU (xh (.tp [6,7,8]) (sIx (zh 2) (ze 5))) (qV (zJ (ze 6)) (.nm 9) trC)
theorem VX:F_law_traces=jO 11 (zU (jh 4 (zu (.int 0))) (zU (qV (zJ (qN (ze 1))) (.nm 5) trB) (jV (zy qL (ze 4) (ze 0))))):=rfl
def trI(w:Nat->Bool)(wd:Nat->Nat)(J X:Nat->Nat->Nat->Int)(k s:Nat):Int:=zv (λi=>zv (λj=>X k j i*J k j i) (hiW w wd k)) s
def trK(w:Nat->Bool)(wd wd':Nat->Nat)(J X:Nat->Nat->Nat->Int)(s:Nat):Int:=zv (λk=>trI w wd J X k (wiW w wd' k)) s
theorem Za{h i:Nat}(hi:i<h)(w f):(jN h w f)[i]? = some (.tup (zx w (f i))):=by unfold jN;simp [hi]
theorem JU(h w f):(jN h w f).length=h:=by simp [jN]
theorem Xw(U:0<p)(ak:p<=100)(hm:m<=4)(hw : ∀k,wd k<=9)(Y : ∀k,wd' k<=9)(W:Wts p m w wd wd' T T' J X) :
 F_law_traces [.int p,.str (j7 m w),.lst (tbL m (wiW w wd') (hiW w wd) λk i j=>X k j i),.lst (zP m w wd wd' J)]=some (.val (.int (trK w wd wd' J X m%p))):=by
 have hl:=jB;have wl:=xj m w;have a0:=qj w (show m<=1000 by omega);have i2:ixD 3 2=some 2:=rfl;have tl:=kF m (wiW w wd') (hiW w wd) λk i j=>X k j i;have jl:=kX m w wd wd' J;obtain⟨γ',q,⟨c5,c6,c7,c8,c9,c10,e⟩⟩:=qa (T:= .nm 5) (F:=trB) (f:=qN (ze 1)) (γ:=tx p m w wd wd' J X (.val (.int 0)) .no .no .no .no .no .no) (λs γ=>∃c5 c6 c7 c8 c9 c10,γ=tx p m w wd wd' J X (.val (.int (trK w wd wd' J X s))) c5 c6 c7 c8 c9 c10) m ⋯ (by simp [tx,wl,a0]) ⟨_,_,_,_,_,_,rfl⟩ (by
  rintro k O γ ⟨c5,c6,c7,c8,c9,c10,rfl⟩;have b1:hiW w wd k<=100:=hi9 hw k;have b4:wiW w wd' k<=100:=wi9 Y k;have a6:hiW w wd k<=lim:=by omega
  have r1:inR (hiW w wd k:Int)=true:=qP ⋯ ⋯;have tt:=yJ (hs:=wiW w wd') (ws:=hiW w wd) (T:=λk i j=>X k j i) O;have ja:=wa (w:=w) (wd:=wd) (wd':=wd') (J:=J) O;have tj:jE (jD (hiW w wd k) (wiW w wd' k) (J k))=some (.T,[.int (hiW w wd k:Int),.int (wiW w wd' k:Int),.tup (jN (hiW w wd k) (wiW w wd' k) (J k))]):=rfl;let y:D:= .tup (jN (wiW w wd' k) (hiW w wd k) λi j=>X k j i);let M2:D:= .tup (jN (hiW w wd k) (wiW w wd' k) (J k));obtain⟨γ2,q2,⟨ab,ac,e2⟩⟩:=qa (T:= .nm 9) (F:=trC) (f:=ze 6) (γ:=tx p m w wd wd' J X (.val (.int (trK w wd wd' J X k))) (.val (.int (k:Int))) (.val (.int (wiW w wd' k:Int))) (.val (.int (hiW w wd k:Int))) (.val y) c9 c10) (λs γ=>∃c9 c10,γ=tx p m w wd wd' J X (.val (.int (trK w wd wd' J X k+trI w wd J X k s))) (.val (.int (k:Int))) (.val (.int (wiW w wd' k:Int))) (.val (.int (hiW w wd k:Int))) (.val y) c9 c10) (wiW w wd' k) ⋯ rfl ⟨c9,c10,by show _=tx p m w wd wd' J X (.val (.int (trK w wd wd' J X k+0))) _ _ _ _ _ _;rw [Int.add_zero]⟩ (by
   rintro i hi γ ⟨c9,c10,rfl⟩;refine⟨_,tx p m w wd wd' J X (.val (.int (trK w wd wd' J X k+trI w wd J X k (i+1)))) (.val (.int (k:Int))) (.val (.int (wiW w wd' k:Int))) (.val (.int (hiW w wd k:Int))) (.val y) (.val (.int (i:Int))) (.val M2),rfl,?_,⟨_,_,rfl⟩⟩;refine zq (γ':=tx p m w wd wd' J X (.val (.int (trK w wd wd' J X k+trI w wd J X k i))) (.val (.int (k:Int))) (.val (.int (wiW w wd' k:Int))) (.val (.int (hiW w wd k:Int))) (.val y) (.val (.int (i:Int))) (.val M2)) ?_ ?_
   ·show jh _ _ (tx p m w wd wd' J X (.val (.int (trK w wd wd' J X k+trI w wd J X k i))) (.val (.int (k:Int))) (.val (.int (wiW w wd' k:Int))) (.val (.int (hiW w wd k:Int))) (.val y) (.val (.int (i:Int))) c10)=_
    simp only [tx,ju,jT,z7,zI,zH,jf,zcJ,zcK,zcU,zcW,zc0,zc4,zo,zg,zcL,zcN,zM,zG,jl,je,O,if_true,ja,tj,i2,zcR,zcQ,M2]
   have k1:ji (.nm 0) js (zy qK (sIx (zt (sIx (zh 1) (ze 2))) (ze 0)) (sIx (zt (sIx (zh 3) (ze 0))) (ze 2))) [Cell.no,.val y,.val (.int (i:Int)),.val M2] ((zcP (hiW w wd k)).map λj:Nat=>D.int (j:Int))=some (zx (hiW w wd k) λj=>X k j i*J k j i):=by
    rw [zY];refine zA _ _ λj I=>zD rfl rfl ?_;have I:=zc1.mp I;have bx:=W.bd k j i;have cm:yp (X k j i) (J k j i)=true:=xL _ _ ⋯ ⋯;have a1:=Za hi (hiW w wd k) λi j=>X k j i;have a2:=Za I (wiW w wd' k) (J k);have a3:=j3 I λj=>X k j i;have a4:=j3 hi (J k j);show zy _ _ _ [Cell.val (.int (j:Int)),.val y,.val (.int (i:Int)),.val M2]=_;simp only [y,M2,qt,jT,z7,zI,zH,zcJ,zcK,zo,zg,zZ,zcL,zcN,zM,JU,zX,je,hi,I,if_true,a1,a2,a3,a4,km,cm]
   have sm:=xu (λj=>X k j i*J k j i) (hiW w wd k);simp only [tx,ju,qt,Jm,xf,jK,qh,zH,zcJ,zcK,zg,zcL,zcN,zM,r1,if_true,zdf,jL,zX,a6];rw [zY (hiW w wd k) λi=>(i:Int),show jy 1 [8,9,10] (tx p m w wd wd' J X (.val (.int (trK w wd wd' J X k+trI w wd J X k i))) (.val (.int (k:Int))) (.val (.int (wiW w wd' k:Int))) (.val (.int (hiW w wd k:Int))) (.val y) (.val (.int (i:Int))) (.val M2))=[Cell.no,.val y,.val (.int (i:Int)),.val M2]from rfl,k1];simp only [zcL,zcN,sm,kn,zcR,zcQ];rw [zfH];rfl)
  subst e2;refine⟨_,tx p m w wd wd' J X (.val (.int (trK w wd wd' J X (k+1)))) (.val (.int (k:Int))) (.val (.int (wiW w wd' k:Int))) (.val (.int (hiW w wd k:Int))) (.val y) ab ac,rfl,?_,⟨_,_,_,_,_,_,rfl⟩⟩;refine zq (γ':=tx p m w wd wd' J X (.val (.int (trK w wd wd' J X k))) (.val (.int (k:Int))) (.val (.int (wiW w wd' k:Int))) (.val (.int (hiW w wd k:Int))) (.val y) c9 c10) ?_ q2;show xh _ _ (tx p m w wd wd' J X (.val (.int (trK w wd wd' J X k))) (.val (.int (k:Int))) c6 c7 c8 c9 c10)=_;show((sIx _ _ _).bind _)=_;simp only [tx,jT,zI,zH,zcJ,zcK,zo,zg,zG,zcL,zcN,zM,tl,je,O,if_true,tt];rfl)
 subst e;rw [VX];refine jo (zq (γ':=tx p m w wd wd' J X (.val (.int 0)) .no .no .no .no .no .no) rfl (zq q ?_));simp [tx,U]
theorem VY:trK w wd wd' J X m=sum3 m (hiW w wd) (wiW w wd') λk i j=>X k i j*J k i j:=zE λk _=>xt _ _ _
abbrev sx(p:Int)(m:Nat)(w:Nat->Bool)(wd wd':Nat->Nat)(T T' J X:Nat->Nat->Nat->Int)(c6 c7 c8:Cell):Ctx:=
 [.val (.int p),.val (.str (j7 m w)),.val (z4 m w wd T),.val (z4 m w wd' T'),.val (.lst (zP m w wd wd' J)),.val (.lst (tbL m (wiW w wd') (hiW w wd) λk i j=>X k j i)),c6,c7,c8]
def sk1:CO Fl:=(jh 6 (jA (zV (zJ (qN (ze 1))) (.nm 0) 1 [1] js (zw F_law_ends (zb (ze 1) (zb (ze 0) zB))))))
def sk2:CO Fl:=(jh 7 (jA (zV (zW (zh 6)) (.tp [0,1]) 2 [3] js (sIx (zt (sIx (zh 2) (zu (.int 0)))) (ze 0)))))
def sk3:CO Fl:=(sIf (j8 (sB (zw F_law_are_tables_46 (zb (ze 5) (zb (ze 0) (zb (ze 7) (zb (jA (zV (zW (zh 6)) (.tp [0,1]) 2 [2] js (sIx (zt (sIx (zh 2) (zu (.int 0)))) (ze 1)))) zB))))))) (jV (zu (.bl false))) jt)
def sk4:CO Fl:=(sIf (j8 (sB (zw F_law_room_stays (zb (ze 0) (zb (ze 1) (zb (ze 2) (zb (ze 3) (zb (ze 5) (zb (ze 8) zB))))))))) (jV (zu (.bl false))) jt)
def sk5:CO Fl:=(jV (zy dNe (zw F_law_traces (zb (ze 0) (zb (ze 1) (zb (ze 5) (zb (ze 4) zB))))) (zu (.int 0))))
theorem V9:F_law_stuck=jO 9 (zU sk1 (zU sk2 (zU sk3 (zU (qV (zJ (zy qb (qN (ze 1)) (zu (.int 1)))) (.nm 8) sk4) sk5)))):=rfl
def Zp(m:Nat)(w:Nat->Bool):List D:=(zcP m).map λk=>D.tup [.int ((jS w k:Nat):Int),.int ((jJ w k:Nat):Int)]
theorem Yy(Y:0<p)(a0:p<=100)(hm:m<=4)(hw : ∀k,wd k<=9)(O : ∀k,wd' k<=9)(a4 : ∀k i j,0<=T' k i j/\T' k i j<p)(W:Wts p m w wd wd' T T' J X) :
 F_law_stuck [.int p,.str (j7 m w),z4 m w wd T,z4 m w wd' T',.lst (zP m w wd wd' J),.lst (tbL m (wiW w wd') (hiW w wd) λk i j=>X k j i)]=some (.val (.bl true)):=by
 have hl:=jB;have U:m<=lim:=by omega
 have wl:=xj m w;have a1:=qj w (show m<=1000 by omega);have u0:=xl m w wd T;have u1:=xl m w wd' T';have j0:ixD 2 0=some 0:=rfl;have rm:inR (m:Int)=true:=qP ⋯ ⋯;have el:(Zp m w).length=m:=by simp [Zp]
 have a8:=yq (p:=p) (n:=m) (hs:=wiW w wd') (ws:=hiW w wd) (X:=λk i j=>X k j i) ⋯ (wi9 O) (hi9 hw) λk i j=>W.bd k j i;have tr:=Xw Y a0 hm hw O W;have s1:sk1 (sx p m w wd wd' T T' J X .no .no .no)=some (.next (sx p m w wd wd' T T' J X (.val (.lst (Zp m w))) .no .no)):=by
  have k1:ji (.nm 0) js (zw F_law_ends (zb (ze 1) (zb (ze 0) zB))) [Cell.no,.val (.str (j7 m w))] ((zcP m).map λi:Nat=>D.int (i:Int))=some (Zp m w):=by
   refine zA _ _ λk y=>zD rfl rfl ?_;have en:=qJ (w:=w) (show m<=5 by omega) (zc1.mp y);show zw _ _ [.val (.int (k:Int)),.val (.str (j7 m w))]=_;simp [en]
  simp only [sk1,sx,ju,j5,jK,qh,VD,zH,zcJ,zcK,zg,zcL,zcN];simp only [a1,wl,if_true,zcL,zM,rm,zdf,jL,zX,U];rw [zY m λi=>(i:Int),show jy 1 [1] (sx p m w wd wd' T T' J X .no .no .no)=[Cell.no,.val (.str (j7 m w))]from rfl,k1];simp only [zcN,zcR,zcQ]
 have s2:sk2 (sx p m w wd wd' T T' J X (.val (.lst (Zp m w))) .no .no)=some (.next (sx p m w wd wd' T T' J X (.val (.lst (Zp m w))) (.val (.lst (zx m λk=>(wiW w wd' k:Int)))) .no)):=by
  have k1:ji (.tp [0,1]) js (sIx (zt (sIx (zh 2) (zu (.int 0)))) (ze 0)) [Cell.no,Cell.no,.val (z4 m w wd' T')] (Zp m w)=some (zx m λk=>(wiW w wd' k:Int)):=by
   rw [zY];refine zA _ _ λk y=>zD rfl rfl ?_;have l2:=xq (w:=w) (zc1.mp y);have I:=j3 l2 λk=>(wd' k:Int);rw [jv w wd']at I;show sIx _ _ [.val (.int ((jS w k:Nat):Int)),.val (.int ((jJ w k:Nat):Int)),.val (z4 m w wd' T')]=_;simp only [jT,z7,zI,zH,jf,zcJ,zcK,zcU,zcW,zc0,zc4,zo,zg,zcL,zcN,u1,zM,j0,zG,zX,je,l2,if_true,I]
  simp only [sk2,sx,ju,j5,jK,jU,zI,zcJ,zcK,zo,zG,zcL,zcN,el,U,if_true];rw [show jy 2 [3] (sx p m w wd wd' T T' J X (.val (.lst (Zp m w))) .no .no)=[Cell.no,Cell.no,.val (z4 m w wd' T')]from rfl,k1];simp only [zcN,zcR,zcQ]
 have s3:sk3 (sx p m w wd wd' T T' J X (.val (.lst (Zp m w))) (.val (.lst (zx m λk=>(wiW w wd' k:Int)))) .no)=some (.next (sx p m w wd wd' T T' J X (.val (.lst (Zp m w))) (.val (.lst (zx m λk=>(wiW w wd' k:Int)))) .no)):=by
  have k1:ji (.tp [0,1]) js (sIx (zt (sIx (zh 2) (zu (.int 0)))) (ze 1)) [Cell.no,Cell.no,.val (z4 m w wd T)] (Zp m w)=some (zx m λk=>(hiW w wd k:Int)):=by
   rw [zY];refine zA _ _ λk y=>zD rfl rfl ?_;have l2:=xp (w:=w) (zc1.mp y);have I:=j3 l2 λk=>(wd k:Int);rw [jp w wd]at I;show sIx _ _ [.val (.int ((jS w k:Nat):Int)),.val (.int ((jJ w k:Nat):Int)),.val (z4 m w wd T)]=_;simp only [jT,z7,zI,zH,jf,zcJ,zcK,zcU,zcW,zc0,zc4,zo,zg,zcL,zcN,u0,zM,j0,zG,zX,je,l2,if_true,I]
  simp only [sk3,sx,kv,ye,JW,jb,zN,z6,zH,j5,jK,jU,zI,zcJ,zcK,zo,zg,zG,zcL,zcN,el,U,if_true];rw [show jy 2 [2] (sx p m w wd wd' T T' J X (.val (.lst (Zp m w))) (.val (.lst (zx m λk=>(wiW w wd' k:Int)))) .no)=[Cell.no,Cell.no,.val (z4 m w wd T)]from rfl,k1];simp only [zcL,zcN,a8,xB,x9];rfl
 obtain⟨γ',q,⟨c8,e⟩⟩:=qa (T:= .nm 8) (F:=sk4) (f:=zy qb (qN (ze 1)) (zu (.int 1))) (γ:=sx p m w wd wd' T T' J X (.val (.lst (Zp m w))) (.val (.lst (zx m λk=>(wiW w wd' k:Int)))) .no) (λs γ=>∃c8,γ=sx p m w wd wd' T T' J X (.val (.lst (Zp m w))) (.val (.lst (zx m λk=>(wiW w wd' k:Int)))) c8) (m+1) ⋯ (by simp [sx,wl,a1]) ⟨_,rfl⟩ (by
  rintro r hr γ ⟨c8,rfl⟩;have rs:=wJ (T:=T) Y a0 hm hw O a4 W hr;refine⟨_,sx p m w wd wd' T T' J X (.val (.lst (Zp m w))) (.val (.lst (zx m λk=>(wiW w wd' k:Int)))) (.val (.int (r:Int))),rfl,?_,⟨_,rfl⟩⟩;show sk4 (sx p m w wd wd' T T' J X (.val (.lst (Zp m w))) (.val (.lst (zx m λk=>(wiW w wd' k:Int)))) (.val (.int (r:Int))))=_;simp only [sk4,sx,kv,ye,JW,jb,zN,z6,zH,zcJ,zcK,zg,zcL,zcN,rs,xB,x9];rfl)
 subst e;rw [V9];refine jo (zq s1 (zq s2 (zq s3 (zq q ?_))));have nz:trK w wd wd' J X m%p≠0:=by rw [VY];exact W.tr
 simp only [sk5,sx,xM,qt,jb,zN,z6,zH,jf,zcJ,zcK,zg,zcL,zcN,tr,xB];simp [nz]
end
section
variable{p:Int}{m:Nat}{w:Nat->Bool}{wd wd':Nat->Nat}{T T' S J X:Nat->Nat->Nat->Int}
abbrev yx(p:Int)(m:Nat)(w:Nat->Bool)(wd wd':Nat->Nat)(T T' J:Nat->Nat->Nat->Int)(d:D):Ctx:=[.val d,.val (.int p),.val (.str (j7 m w)),.val (z4 m w wd T),.val (z4 m w wd' T'),.val (.lst (zP m w wd wd' J))]
def rg1:CO Fl:=(sIf (yi (j8 (sB (sIs .tuple (ze 0)))) (sB (zy dNe (xH (zh 0)) (zu (.int 2))))) (jV (zu (.bl false))) jt)
def rg2:CO Fl:=(sIf (sB (zy dEq (sIx (zh 0) (zu (.int 0))) (zu (.str "stuck")))) (jV (zw F_law_stuck (zb (ze 1) (zb (ze 2) (zb (ze 3) (zb (ze 4) (zb (ze 5) (zb (sIx (zh 0) (zu (.int 1))) zB)))))))) jt)
def rg3:CO Fl:=(sIf (yi (sB (zy dNe (sIx (zh 0) (zu (.int 0))) (zu (.str "parted")))) (j8 (sB (zw F_law_are_tables_46 (zb (sIx (zh 0) (zu (.int 1))) (zb (ze 1) (zb (sIx (zh 3) (zu (.int 0))) (zb (sIx (zh 4) (zu (.int 0))) zB)))))))) (jV (zu (.bl false))) jt)
def rg4:CO Fl:=(jV (zw F_law_fit_46 (zb (ze 1) (zb (ze 2) (zb (ze 3) (zb (ze 4) (zb (ze 5) (zb (sIx (zh 0) (zu (.int 1))) zB))))))))
theorem KM:F_law_right_47=jO 6 (zU rg1 (zU rg2 (zU rg3 rg4))):=rfl
theorem KN(z:Str)(ds:List D):rg1 (yx p m w wd wd' T T' J (.tup [.str z,.lst ds]))=some (.next (yx p m w wd wd' T T' J (.tup [.str z,.lst ds]))):=by
 have ty:J1 Ty.tuple (.tup [.str z,.lst ds])=true:=rfl;have y:dNe (.int ((2:Nat):Int)) (.int 2)=some (.bl false):=rfl;simp [rg1,yx,ty,zZ,y]
theorem YK(Y:0<p)(a0:p<=100)(hm:m<=4)(hw : ∀k,wd k<=9)(y : ∀k,wd' k<=9)(bT : ∀k i j,0<=T k i j/\T k i j<p)(I : ∀k i j,0<=X k i j/\X k i j<p)(hX:VP p m w wd wd' T T' J X) :
 F_law_right_47 [.tup [.str "parted",.lst (tbL (m+1) wd wd' X)],.int p,.str (j7 m w),z4 m w wd T,z4 m w wd' T',.lst (zP m w wd wd' J)]=some (.val (.bl true)):=by
 have u0:=xl m w wd T;have u1:=xl m w wd' T';have O:ixD 2 0=some 0:=rfl;have U:ixD 2 1=some 1:=rfl;have a5:=yq (p:=p) (n:=m+1) (hs:=wd) (ws:=wd') (X:=X) ⋯ (λk=>by have:=hw k;omega) (λk=>by have:=y k;omega) I;have ft:=zbr Y a0 hm hw y bT I hX;have np:dNe (.str "parted") (.str "parted")=some (.bl false):=yD ⋯;have nq:dEq (.str "parted") (.str "stuck")=some (.bl false):=by
  unfold dEq;rw [if_pos ⟨by decide +kernel,by decide +kernel⟩,show eqD (.str "parted") (.str "stuck")=false by decide +kernel]
 rw [KM];refine jo (zq (KN _ _) (zq (γ':=yx p m w wd wd' T T' J (.tup [.str "parted",.lst (tbL (m+1) wd wd' X)])) ?_ (zq (γ':=yx p m w wd wd' T T' J (.tup [.str "parted",.lst (tbL (m+1) wd wd' X)])) ?_ ?_)))
 ·rw [rg2,kv,JW,qt]
  simp only [yx,jT,zI,jf,zcJ,zcU,zcW,zc0,zc4,zo,zcL,zZ,zM,O,nq,x9];rfl
 ·rw [rg3,kv,Ya,JW,qt,ye,JW,jb]
  simp only [yx,zN,z6,jT,zI,zH,jf,zcJ,zcK,zcU,zcW,zc0,zc4,zo,zg,zcL,zcN,zZ,u0,u1,zM,O,U,a5,np,xB,x9];rfl
 ·simp only [rg4,yx,xM,jb,zN,z6,jT,zI,zH,jf,zcJ,zcK,zcU,zcW,zc0,zc4,zo,zg,zcL,zcN,zZ,zM,U,ft,xB]
theorem YJ(y:0<p)(I:p<=100)(hm:m<=4)(hw : ∀k,wd k<=9)(O : ∀k,wd' k<=9)(U : ∀k i j,0<=T' k i j/\T' k i j<p)(W:Wts p m w wd wd' T T' J X) :
 F_law_right_47 [.tup [.str "stuck",.lst (tbL m (wiW w wd') (hiW w wd) λk i j=>X k j i)],.int p,.str (j7 m w),z4 m w wd T,z4 m w wd' T',.lst (zP m w wd wd' J)]=some (.val (.bl true)):=by
 have Y:ixD 2 0=some 0:=rfl;have j1:ixD 2 1=some 1:=rfl;have st:=Yy (T:=T) y I hm hw O U W;have ne:dEq (.str "stuck") (.str "stuck")=some (.bl true):=yE ⋯;have q:rg2 (yx p m w wd wd' T T' J (.tup [.str "stuck",.lst (tbL m (wiW w wd') (hiW w wd) λk i j=>X k j i)]))=some (.ret (.val (.bl true))):=by
  rw [rg2,kv,JW,qt];simp only [yx,xM,jb,zN,z6,jT,zI,zH,jf,zcJ,zcK,zcU,zcW,zc0,zc4,zo,zg,zcL,zcN,zZ,zM,Y,j1,ne,x9,if_true,st,xB]
 rw [KM];refine jo (zq (KN _ _) ?_);rw [j4,q];rfl
theorem VZ(O:Pr p)(hm:m<=4)(hw : ∀k,wd k<=9)(I : ∀k,wd' k<=9)(bT : ∀k i j,0<=T k i j/\T k i j<p)(U : ∀k i j,0<=T' k i j/\T' k i j<p)(h1:off wd wd' (m+1)<=89)(h2:off (hiW w wd) (wiW w wd') m<=89){d:D}(tg:F_widths_together [zO p m w wd T,zO p m w wd' T']=some (.val d)) :
 F_law_told_47 [.int p,.str (j7 m w),z4 m w wd T,z4 m w wd' T',.lst (zP m w wd wd' J)]=some (.val (.bl true)):=by
 have Y:=O.pos;have p7:=O.le;have a1:=Je (p:=p) hm w hw T;have a2:=Je (p:=p) hm w I T';have j0:ixD 2 0=some 0:=rfl;obtain⟨z,ds,hz,fa,ri⟩ : ∃(z:Str) (ds:List D),dEq (.str z) (.str z)=some (.bl true)/\F_fallen [zO p m w wd T,zO p m w wd' T',.lst (zP m w wd wd' J)]=some (.val (.tup [.str z,.lst ds]))/\F_law_right_47 [.tup [.str z,.lst ds],.int p,.str (j7 m w),z4 m w wd T,z4 m w wd' T',.lst (zP m w wd wd' J)]=some (.val (.bl true)):=by
  rcases QU (J:=J) O hm hw I U h1 h2 tg with⟨S,mS⟩ | ⟨X,W,fa⟩
  ·obtain⟨X,bX,mX,fa⟩:=QT O hm hw I U ⋯ ⋯ tg mS
   exact⟨_,_,yE ⋯,fa,YK Y ⋯ hm hw I bT bX mX⟩
  ·exact⟨_,_,yE ⋯,fa,YJ Y ⋯ hm hw I U W⟩
 let γ:Cell->Cell->Cell->Cell->Ctx:=λc5 c6 c7 c8=>[.val (.int p),.val (.str (j7 m w)),.val (z4 m w wd T),.val (z4 m w wd' T'),.val (.lst (zP m w wd wd' J)),c5,c6,c7,c8];have s1:(jh 5 (zw F_law_handed_44 (zb (ze 0) (zb (ze 1) (zb (ze 2) zB))))) (γ .no .no .no .no)=some (.next (γ (.val (zO p m w wd T)) .no .no .no)):=by
  simp only [γ,ju,jb,zN,z6,zH,zcJ,zcK,zg,zcL,zcN,a1,xB,zcR,zcQ]
 have s2:(jh 6 (zw F_law_handed_44 (zb (ze 0) (zb (ze 1) (zb (ze 3) zB))))) (γ (.val (zO p m w wd T)) .no .no .no)=some (.next (γ (.val (zO p m w wd T)) (.val (zO p m w wd' T')) .no .no)):=by
  simp only [γ,ju,jb,zN,z6,zH,zcJ,zcK,zg,zcL,zcN,a2,xB,zcR,zcQ]
 let y:=γ (.val (zO p m w wd T)) (.val (zO p m w wd' T'));have fc:zw F_fallen (zb (ze 5) (zb (ze 6) (zb (jA (kG (zh 4))) zB))) (y .no .no)=some (.tup [.str z,.lst ds]):=by
  simp only [y,γ,jb,zN,z6,zH,zI,j5,Zj,zcJ,zcK,zg,zo,zG,zcL,zcN,fa,xB]
 have aa:zw F_fallen (zb (ze 5) (zb (ze 6) (zb (jA (kG (zh 4))) zB))) (y (.val (.tup [.str z,.lst []])) .no)=some (.tup [.str z,.lst ds]):=by
  simp only [y,γ,jb,zN,z6,zH,zI,j5,Zj,zcJ,zcK,zg,zo,zG,zcL,zcN,fa,xB]
 have rc:(j8 (sB (zw F_law_right_47 (zb (ze 7) (zb (ze 0) (zb (ze 1) (zb (ze 2) (zb (ze 3) (zb (ze 4) zB))))))))) (y (.val (.tup [.str z,.lst ds])) .no)=some false:=by
  simp only [y,γ,ye,JW,jb,zN,z6,zH,zcJ,zcK,zg,zcL,zcN,ri,xB,x9];rfl
 refine jo (zq s1 (zq s2 ?_));have pl:((y .no .no).set 7 .no).all Xo=true/\7<(y .no .no).length:=⟨rfl,by show 7<9;decide⟩;show Qg 7 _ _ _ (y .no .no)=_;unfold Qg;rw [if_pos pl];have cg:Z4 F_fallen (zb (ze 5) (zb (ze 6) (zb (jA (kG (zh 4))) zB))) (y .no .no)=some (.tup [.str z,.lst ds]):=by
  unfold Z4;rw [fc];rfl
 rw [cg];show((j8 (sB (zw F_law_right_47 (zb (ze 7) (zb (ze 0) (zb (ze 1) (zb (ze 2) (zb (ze 3) (zb (ze 4) zB))))))))) (y (.val (.tup [.str z,.lst ds])) .no)).bind _=_;rw [rc];show zU _ _ (y (.val (.tup [.str z,.lst []])) .no)=_;refine zq (γ':=y (.val (.tup [.str z,.lst []])) (.val (.tup [.str z,.lst ds]))) ?_ ?_
 ·rw [ju,aa]
  rfl
 ·simp only [y,γ,xM,zam,qt,jb,zN,z6,jT,zI,zH,jf,zcJ,zcK,zcU,zcW,zc0,zc4,zo,zg,zZ,zM,j0,zcL,zcN,ri,xB,x9,if_true,hz]
end
theorem ZI{hs ws:Nat->Nat}(hw : ∀k,ws k<=3) : ∀n,(off hs ws n:Int)<=3*zv (λk=>(hs k:Int)) n
 | 0=>by show((0:Nat):Int)<=3*0;omega
 | n+1=>by
  have:=ZI (hs:=hs) hw n;have h:hs n*ws n<=hs n*3:=Nat.mul_le_mul_left _ (hw n);show((off hs ws n+hs n*ws n:Nat):Int)<=3*(zv (λk=>(hs k:Int)) n+(hs n:Int));omega
theorem Zu{wd:Nat->Nat}{b:Prop} [Decidable b]{c:Nat}(h : ∀k,wd k<=if b/\k=c then 9 else 3) : ∀n,zv (λk=>(wd k:Int)) n<=3*(n:Int)+if c<n then 6 else 0
 | 0=>by show(0:Int)<=_;split<;>omega
 | n+1=>by
  have i:=Zu h n;have a:=h n;show zv (λk=>(wd k:Int)) n+(wd n:Int)<=3*((n+1:Nat):Int)+if c<n+1 then 6 else 0;by_cases e:n=c
  ·subst e
   rw [if_neg (zdN _)]at i;rw [if_pos (zdR _)];have:wd n<=9:=by split at a<;>omega
   omega
  ·rw [if_neg (λz=>e z.2)]at a
   have:(if c<n+1 then (6:Int)else 0)=if c<n then 6 else 0:=by
    by_cases z:c<n
    ·rw [if_pos z,if_pos ⋯]
    ·rw [if_neg z,if_neg ⋯]
   omega
def Yw:CO Fl:=(jh 1 (zw F_law_cell_44 (zb (ze 0) (zb (zu (.int 0)) zB))))
def V3:CO Fl:=(jh 2 (sIx (jw (qc (zb (zu (.int 2)) (zb (zu (.int 3)) (zb (zu (.int 5)) (zb (zu (.int 7)) zB)))))) (zy qL (ze 1) (zu (.int 4)))))
def Yv:CO Fl:=(jh 3 (zw F_law_ways_k38 (zb (zy kJ (ze 1) (zu (.int 16))) (zb (zy qb (zu (.int 1)) (zy qL (zy kJ (ze 1) (zu (.int 4))) (zu (.int 4)))) zB))))
def Yu:CO Fl:=(jh 4 (zw F_law_any_47 (zb (ze 0) (zb (zu (.int 1)) (zb (ze 2) (zb (ze 3) (zb (zu (.int 3)) (zb (zy qL (zy kJ (ze 1) (zu (.int 512))) (zu (.int 3))) (zb (zy kJ (ze 1) (zu (.int 4608))) zB)))))))))
def Yt:CO Fl:=(jh 5 (zw F_law_any_47 (zb (ze 0) (zb (zu (.int 60)) (zb (ze 2) (zb (ze 3) (zb (zu (.int 3)) (zb (zy qL (zy kJ (ze 1) (zu (.int 512))) (zu (.int 3))) (zb (zu (.int 0)) zB)))))))))
def Ys:CO Fl:=(jh 6 (jA (z5 F_law_joins (zb (ze 0) (zb (zu (.int 120)) (zb (ze 2) (zb (ze 3) (zb (ze 4) (zb (ze 5) (zb (zy qL (zy kJ (ze 1) (zu (.int 1536))) (zu (.int 3))) zB))))))))))
def Yr:CO Fl:=(jV (zw F_law_told_47 (zb (ze 2) (zb (ze 3) (zb (ze 4) (zb (ze 5) (zb (ze 6) zB)))))))
theorem Yq:F_law_k47=jO 7 (zU Yw (zU V3 (zU Yv (zU Yu (zU Yt (zU Ys Yr)))))):=rfl
theorem law_k47(ns:List Int)(hn:ns.length<=63):F_law_k47 [xi ns]=some (.val (.bl true)):=by
 have hl:=jB;obtain⟨e1,a1,b1⟩:=vj hn (k:=0) ⋯ ⋯;generalize qM ns 0=x at e1 a1 b1;have ar:=zdQ (x/4) (show(4:Int)≠0 by decide);have as:=zdE (x/4) (show(0:Int)<4 by decide);obtain⟨m,hm⟩ : ∃m:Nat,x/4%4=(m:Int):=⟨(x/4%4).toNat,by omega⟩;have au:m<=3:=by omega
 obtain⟨w,hw⟩:=VS (c:=x/16) ⋯ (show m<=5 by omega);rw [<- hm]at hw;obtain⟨p,hp,I⟩ : ∃p:Int,sIx (jw (qc (zb (zu (.int 2)) (zb (zu (.int 3)) (zb (zu (.int 5)) (zb (zu (.int 7)) zB)))))) (zy qL (ze 1) (zu (.int 4))) [.val (xi ns),.val (.int x),.no,.no,.no,.no,.no]=some (.int p)/\Pr p:=by
  have ev:zy qL (ze 1) (zu (.int 4)) [.val (xi ns),.val (.int x),.no,.no,.no,.no,.no]=some (.int (x%4)):=by simp
  have h4:x%4=0\/x%4=1\/x%4=2\/x%4=3:=by omega
  rw [jT,ev];rcases h4 with h | h | h | h<;>rw [h]
  ·exact⟨2,rfl,.inl rfl⟩
  ·exact⟨3,rfl,.inr (.inl rfl)⟩
  ·exact⟨5,rfl,.inr (.inr (.inl rfl))⟩
  ·exact⟨7,rfl,.inr (.inr (.inr rfl))⟩
 have O:=I.pos;have av:=I.le;obtain⟨wd,T,⟨c,a2⟩,bT,eU⟩:=zan hn (t:=1) (few:=x/512%3) (odd:=x/4608) ⋯ ⋯ O ⋯ ⋯ (show m<=4 by omega) w;obtain⟨wd',T',⟨c',ac⟩,ae,eP⟩:=zan hn (t:=60) (few:=x/512%3) (odd:=0) ⋯ ⋯ O ⋯ ⋯ (show m<=4 by omega) w;have U : ∀k,wd k<=9:=λk=>by have:=a2 k;split at this<;>omega
 have y : ∀k,wd' k<=3:=λk=>by have:=ac k;rw [if_neg (λz=>by have:=z.1;omega)]at this;exact this
 have a3 : ∀k,wd' k<=9:=λk=>by have:=y k;omega
 obtain⟨J,bJ,Y⟩:=Vf hn (few:=x/1536%3) O (show p<10 by omega) (show m<=4 by omega) w U a3 T T';have Y:F_law_joins [xi ns,.int 120,.int p,.str (j7 m w),z4 m w wd T,z4 m w wd' T',.int (x/1536%3)]=some (.own (zP m w wd wd' J)):=Y;have c1:=Zu a2 (m+1);have ay:zv (λk=>(wd k:Int)) (m+1)<=18:=by split at c1<;>omega
 have c2:=Zu (b:=False) (c:=0) (wd:=wd') (λk=>by rw [if_neg (λz=>z.1)];exact y k);have az:zv (λk=>(wd' k:Int)) (m+1)<=12:=by
  have : ∀n,zv (λk=>(wd' k:Int)) n<=3*(n:Int):=λn=>by
   induction n with
   | zero=>show(0:Int)<=_;omega
   | succ n ih=>have:=y n;show zv (λk=>(wd' k:Int)) n+(wd' n:Int)<=_;omega
  have:=this (m+1);omega
 have tg:=Jz (p:=p) (m:=m) (w:=w) (wd:=wd) (wd':=wd') (T:=T) (T':=T') (show m<=4 by omega) (by
  have:zv (λk=>((wd k+wd' k:Nat):Int)) (m+1)=zv (λk=>(wd k:Int)) (m+1)+zv (λk=>(wd' k:Int)) (m+1):=by
   rw [<- qW];exact zE λk _=>by omega
  omega)
 have n1:off wd wd' (m+1)<=89:=by have:=ZI (hs:=wd) y (m+1);omega
 have n2:off (hiW w wd) (wiW w wd') m<=89:=by
  have h:=ZI (hs:=hiW w wd) (wi3 (w:=w) y) m;have : ∀n,zv (λk=>(hiW w wd k:Int)) n<=9*(n:Int):=λn=>by
   induction n with
   | zero=>show(0:Int)<=_;omega
   | succ n ih=>have:=U (jJ w n);rw [jp w wd]at this;show zv (λk=>(hiW w wd k:Int)) n+(hiW w wd n:Int)<=_;omega
  have:=this m;omega
 have to:=VZ (J:=J) I (show m<=4 by omega) U a3 bT ae n1 n2 tg;rw [Yq];let γ:Cell->Cell->Cell->Cell->Cell->Cell->Ctx:=λc1 c2 c3 c4 c5 c6=>[.val (xi ns),c1,c2,c3,c4,c5,c6];have s1:Yw (γ .no .no .no .no .no .no)=some (.next (γ (.val (.int x)) .no .no .no .no .no)):=by
  simp only [Yw,γ,ju,jb,zN,z6,zH,jf,zcJ,zg,zcL,zcN,e1,xB,zcR,zcQ]
 have s2:V3 (γ (.val (.int x)) .no .no .no .no .no)=some (.next (γ (.val (.int x)) (.val (.int p)) .no .no .no .no)):=by
  show(sIx _ _ _).map _=_;rw [hp];rfl
 have s3:Yv (γ (.val (.int x)) (.val (.int p)) .no .no .no .no)=some (.next (γ (.val (.int x)) (.val (.int p)) (.val (.str (j7 m w))) .no .no .no)):=by
  simp [Yv,γ,hw]
 have s4:Yu (γ (.val (.int x)) (.val (.int p)) (.val (.str (j7 m w))) .no .no .no)=some (.next (γ (.val (.int x)) (.val (.int p)) (.val (.str (j7 m w))) (.val (z4 m w wd T)) .no .no)):=by
  simp [Yu,γ,eU]
 have s5:Yt (γ (.val (.int x)) (.val (.int p)) (.val (.str (j7 m w))) (.val (z4 m w wd T)) .no .no)=some (.next (γ (.val (.int x)) (.val (.int p)) (.val (.str (j7 m w))) (.val (z4 m w wd T)) (.val (z4 m w wd' T')) .no)):=by
  simp [Yt,γ,eP]
 have s6:Ys (γ (.val (.int x)) (.val (.int p)) (.val (.str (j7 m w))) (.val (z4 m w wd T)) (.val (z4 m w wd' T')) .no)=some (.next (γ (.val (.int x)) (.val (.int p)) (.val (.str (j7 m w))) (.val (z4 m w wd T)) (.val (z4 m w wd' T')) (.val (.lst (zP m w wd wd' J))))):=by
  simp [Ys,γ,Y,wK]
 have s7:Yr (γ (.val (.int x)) (.val (.int p)) (.val (.str (j7 m w))) (.val (z4 m w wd T)) (.val (z4 m w wd' T')) (.val (.lst (zP m w wd wd' J))))=some (.ret (.val (.bl true))):=by
  simp [Yr,γ,to]
 exact jo (zq s1 (zq s2 (zq s3 (zq s4 (zq s5 (zq s6 s7))))))
def top(i:Nat):PySem.Stmt:=PySem.Challenge.pw_barsplit_k47_whole_parted_or_stuck.main.body.getD i (.Pass ⟨0,0,0,0⟩)
section
variable{CR CL:PySem.Addr}{P:PySem.Program}{w:PySem.World}{K:PySem.W.Frag}{mg:PySem.Str->Option PySem.Value}{base:PySem.Heap}
theorem k6{α:Type}{us:List α}{n:Nat}(h:us.length=n+1) : ∃a t,us=a::t/\t.length=n:=by
 cases us with
 | nil=>exact absurd h (Nat.zero_ne_add_one n)
 | cons a t=>exact⟨a,t,rfl,Nat.succ.inj h⟩
theorem len1{α:Type}{us:List α}(h:us.length=1) : ∃a,us=[a]:=by
 obtain⟨a,I,rfl,y⟩:=k6 h;rw [zdd y];exact⟨a,rfl⟩
theorem len2{α:Type}{us:List α}(h:us.length=2) : ∃a b,us=[a,b]:=by
 obtain⟨a,I,rfl,y⟩:=k6 h;obtain⟨b,O,rfl,h1⟩:=k6 y;rw [zdd h1];exact⟨a,b,rfl⟩
theorem len3{α:Type}{us:List α}(h:us.length=3) : ∃a b c,us=[a,b,c]:=by
 obtain⟨a,I,rfl,y⟩:=k6 h;obtain⟨b,O,rfl,h1⟩:=k6 y;obtain⟨c,U,rfl,h2⟩:=k6 h1;rw [zdd h2];exact⟨a,b,c,rfl⟩
theorem len4{α:Type}{us:List α}(h:us.length=4) : ∃a b c d,us=[a,b,c,d]:=by
 obtain⟨a,O,rfl,y⟩:=k6 h;obtain⟨b,U,rfl,h1⟩:=k6 y;obtain⟨c,Y,rfl,h2⟩:=k6 h1;obtain⟨d,t3,rfl,I⟩:=k6 h2;rw [zdd I];exact⟨a,b,c,d,rfl⟩
theorem len5{α:Type}{us:List α}(h:us.length=5) : ∃a b c d e,us=[a,b,c,d,e]:=by
 obtain⟨a,U,rfl,y⟩:=k6 h;obtain⟨b,Y,rfl,h1⟩:=k6 y;obtain⟨c,t2,rfl,h2⟩:=k6 h1;obtain⟨d,t3,rfl,I⟩:=k6 h2;obtain⟨e,t4,rfl,O⟩:=k6 I;rw [zdd O];exact⟨a,b,c,d,e,rfl⟩
theorem len6{α:Type}{us:List α}(h:us.length=6) : ∃a b c d e f,us=[a,b,c,d,e,f]:=by
 obtain⟨a,Y,rfl,y⟩:=k6 h;obtain⟨b,t1,rfl,h1⟩:=k6 y;obtain⟨c,t2,rfl,h2⟩:=k6 h1;obtain⟨d,t3,rfl,I⟩:=k6 h2;obtain⟨e,t4,rfl,O⟩:=k6 I;obtain⟨f,t5,rfl,U⟩:=k6 O;rw [zdd U];exact⟨a,b,c,d,e,f,rfl⟩
theorem len7{α:Type}{us:List α}(h:us.length=7) : ∃a b c d e f g,us=[a,b,c,d,e,f,g]:=by
 obtain⟨a,t0,rfl,y⟩:=k6 h;obtain⟨b,t1,rfl,h1⟩:=k6 y;obtain⟨c,t2,rfl,h2⟩:=k6 h1;obtain⟨d,t3,rfl,I⟩:=k6 h2;obtain⟨e,t4,rfl,O⟩:=k6 I;obtain⟨f,t5,rfl,U⟩:=k6 O;obtain⟨g,t6,rfl,Y⟩:=k6 U;rw [zdd Y];exact⟨a,b,c,d,e,f,g,rfl⟩
theorem ok_law_cell_44(D:DefAt K mg "_law_cell" (top 46) ["_law_script","_law_k"])(I:mg "len" = none)(O:mg "min" = none)(U:mg "range" = none):FnD P w K mg base 1 "_law_cell" 2 F_law_cell_44:=
 qS (N:=["_law_script","_law_k","_law_cell_here","_law_turn","_law_given"]) D ⋯ λX Y hw hK hm hb y hx=>by
  subst Y hw hK hm hb;exact(by refine zf ?_ ?_;exact(jY (wR (YM (wS (qF y ⋯ I (zr 0 (y.var ⋯))) zm) (XM (xJ y (qd (zC (zr 0 (y.var ⋯)) zm) zm) zm)))) ((by refine zf ?_ ?_;exact(zL 2 (y.set 2 ⋯ (zC (zr 0 (y.var ⋯)) (jG zm (qd (zc 1 (y.var ⋯)) (yT (qF y ⋯ I (zr 0 (y.var ⋯))) zm))))));refine zf ?_ ?_;exact(jH (T:= .nm 3) (qg hx) y.calm (jd y ⋯ U (Wo y ⋯ O zm (xv (zc 1 (y.var ⋯)) (yT (qF y ⋯ I (zr 0 (y.var ⋯))) zm)))) (y.tgt 3 ⋯) (zn (zL 2 (y.set 2 ⋯ (xv (zc 2 (y.var ⋯)) (Ql zm zm))))));exact(zn (jY (wS (zc 2 (y.var ⋯)) zm) (zn (zQ (qd (zc 2 (y.var ⋯)) (Ql zm zm)))) jc)))) jc);refine zf ?_ ?_;exact(zL 4 (y.set 4 ⋯ (zc 1 (y.var ⋯))));refine zf ?_ ?_;exact(jY (wS (qF y ⋯ I (zr 0 (y.var ⋯))) zm) (zn (zL 4 (y.set 4 ⋯ (zC (zr 0 (y.var ⋯)) (qd (zc 1 (y.var ⋯)) (qF y ⋯ I (zr 0 (y.var ⋯)))))))) jc);exact(zn (zQ (qd (qm (qd (jG (jG (jG (qm (qd (zc 4 (y.var ⋯)) (Ql zm zm)) zm) (qm (qm zm (zc 1 (y.var ⋯))) (zc 1 (y.var ⋯)))) (qm zm (zc 1 (y.var ⋯)))) zm) zm) zm) zm))))
theorem ok_law_ways_k38(D:DefAt K mg "_law_ways" (top 50) ["_law_cell_here","_law_rooms"])(I:mg "range" = none):FnD P w K mg base 1 "_law_ways" 2 F_law_ways_k38:=
 qS (N:=["_law_cell_here","_law_rooms"]) D ⋯ λX O hw U hm Y y hx=>by
  subst O hw U hm Y;exact zn (zQ (Qo xI (PO.q (jk (own:=["_law_k"]) (fr:=[("_law_cell_here",0)]) (T:= .nm 0) y.calm (y.compOk (fr:=[("_law_cell_here",0)]) ⋯) ⋯ (PIF.c (jd y ⋯ I (yT (zc 1 (y.var ⋯)) zm))) (λfp s2 H2=>have h1:=y.cq ["_law_k"] [("_law_cell_here",0)] fp s2 H2 ⋯;h1.tgt 0 ⋯) (λfp s2 H2=>have h1:=y.cq ["_law_k"] [("_law_cell_here",0)] fp s2 H2 ⋯;vX xI (qd (xv (zc 1 (h1.var ⋯)) (zC (PO.q (qZ (xP (za zm (za zm (za zm (za zm (za zm zk)))))))) (zc 0 (h1.var ⋯)))) zm))))))
theorem ok_law_ends(D:DefAt K mg "_law_ends" (top 48) ["_law_ways_here","_law_k"]):FnD P w K mg base 1 "_law_ends" 2 F_law_ends:=
 qS (N:=["_law_ways_here","_law_k"]) D ⋯ λX I hw O hm U y Y=>by
  subst I hw O hm U;exact(by refine zf ?_ ?_;exact(jY (xJ y (vX (zc 0 (y.var ⋯)) (zc 1 (y.var ⋯))) xI) (zn (zQ (qr (xP (za (zc 1 (y.var ⋯)) (za (jG (zc 1 (y.var ⋯)) zm) zk)))))) jc);exact(zn (zQ (qr (xP (za (jG (zc 1 (y.var ⋯)) zm) (za (zc 1 (y.var ⋯)) zk)))))))
theorem ok_law_table_44(D:DefAt K mg "_law_table" (top 55) ["_law_script","_law_at","_law_p","_law_high","_law_wide","_law_few"])(U:FnD P w K mg base 1 "_law_cell" 2 F_law_cell_44)(Y:mg "int" = none)(I:mg "range" = none):FnD P w K mg base 2 "_law_table" 6 F_law_table_44:=
 qS (N:=["_law_script","_law_at","_law_p","_law_high","_law_wide","_law_few","_law_rows","_law_i","_law_row","_law_j","_law_cell_here"]) D ⋯ λX hP hw hK hm hb y O=>by
  subst hP hw hK hm hb;exact(by refine zf ?_ ?_;exact(qk 6 (y.set 6 ⋯ (qZ (xP zk))));refine zf ?_ ?_;exact(jH (T:= .nm 7) (qg O) y.calm (jd y ⋯ I (zc 3 (y.var ⋯))) (y.tgt 7 ⋯) ((by refine zf ?_ ?_;exact(qk 8 (y.set 8 ⋯ (qZ (xP zk))));refine zf ?_ ?_;exact(jH (T:= .nm 9) (qg O) y.calm (jd y ⋯ I (zc 4 (y.var ⋯))) (y.tgt 9 ⋯) ((by refine zf ?_ ?_;exact(zL 10 (y.set 10 ⋯ (z9 U ⋯ y ⋯ (za (zc 0 (y.var ⋯)) (za (jG (jG (zc 1 (y.var ⋯)) (qm (zc 4 (y.var ⋯)) (zc 7 (y.var ⋯)))) (zc 9 (y.var ⋯))) zk)))));exact(zn (xX 8 y ⋯ (qm (qd (xv (zc 10 (y.var ⋯)) zm) (zc 2 (y.var ⋯))) (YO y ⋯ Y (za8 (qd (xv (zc 10 (y.var ⋯)) zm) zm) (zc 5 (y.var ⋯))))))))));exact(zn (ZC 8 (xX 6 y ⋯ (zc 8 (y.var ⋯))))))));exact(zn (qQ 6 (y.var ⋯))))
theorem ok_law_any_47(D:DefAt K mg "_law_any" (top 56) ["_law_script","_law_at","_law_p","_law_ways_here","_law_most","_law_few","_law_odd"])(U:FnD P w K mg base 1 "_law_ends" 2 F_law_ends)(Y:FnD P w K mg base 2 "_law_table" 6 F_law_table_44)(a0:FnD P w K mg base 1 "_law_cell" 2 F_law_cell_44)(I:mg "len" = none)(O:mg "range" = none):FnD P w K mg base 3 "_law_any" 7 F_law_any_47:=
 qS (N:=["_law_script","_law_at","_law_p","_law_ways_here","_law_most","_law_few","_law_odd","_law_widths","_law_tables","_law_k","_law_begin","_law_end"]) D ⋯ λX hP hw hK hm hb y hx=>by
  subst hP hw hK hm hb;exact(by refine zf ?_ ?_;exact(qk 7 (psc 7 y ⋯ (own:=["_law_k"]) (fr:=[("_law_script",0),("_law_at",1),("_law_most",4)]) (T:= .nm 0) y.calm (y.compOk (fr:=[("_law_script",0),("_law_at",1),("_law_most",4)]) ⋯) ⋯ (PIF.c (jd y ⋯ O (jG (xC y ⋯ I (zc 3 (y.var ⋯))) zm))) (λfp s2 H2=>have h1:=y.cq ["_law_k"] [("_law_script",0),("_law_at",1),("_law_most",4)] fp s2 H2 ⋯;h1.tgt 0 ⋯) (λfp s2 H2=>have h1:=y.cq ["_law_k"] [("_law_script",0),("_law_at",1),("_law_most",4)] fp s2 H2 ⋯;qd (xv (z9 a0 ⋯ h1 ⋯ (za (zc 1 (h1.var ⋯)) (za (jG (zc 2 (h1.var ⋯)) (zc 0 (h1.var ⋯))) zk))) zm) (jG (zc 3 (h1.var ⋯)) zm))));refine zf ?_ ?_;exact(jY (xJ y (qd (zc 6 (y.var ⋯)) zm) zm) (zn (wT 7 y ⋯ (qd (xv (zc 6 (y.var ⋯)) zm) (qF y ⋯ I (zr 7 (y.var ⋯)))) zm)) jc);refine zf ?_ ?_;exact(qk 8 (y.set 8 ⋯ (qZ (xP zk))));refine zf ?_ ?_;exact(jH (T:= .nm 9) (qg hx) y.calm (jd y ⋯ O (xC y ⋯ I (zc 3 (y.var ⋯)))) (y.tgt 9 ⋯) ((by refine zf ?_ ?_;exact(xD (T:= .tp [10,11]) (y.tgts (zK (y.tgt 10 ⋯) (zK (y.tgt 11 ⋯) jQ))) (z9 U ⋯ y ⋯ (za (zc 3 (y.var ⋯)) (za (zc 9 (y.var ⋯)) zk))));exact(zn (xX 8 y ⋯ (PO.v (q8 Y ⋯ y ⋯ (za (zc 0 (y.var ⋯)) (za (jG (jG (zc 1 (y.var ⋯)) zm) (qm zm (zc 9 (y.var ⋯)))) (za (zc 2 (y.var ⋯)) (za (zC (zr 7 (y.var ⋯)) (zc 11 (y.var ⋯))) (za (zC (zr 7 (y.var ⋯)) (zc 10 (y.var ⋯))) (za (zc 5 (y.var ⋯)) zk)))))))))))));exact(zn (ZC 8 (ZC 7 (zQ (qr (xP (za (zc 7 (y.var ⋯)) (za (zc 8 (y.var ⋯)) zk)))))))))
theorem ok_law_joins(D:DefAt K mg "_law_joins" (top 57) ["_law_script","_law_at","_law_p","_law_ways_here","_law_under","_law_upper","_law_few"])(O:FnD P w K mg base 1 "_law_ends" 2 F_law_ends)(U:FnD P w K mg base 2 "_law_table" 6 F_law_table_44)(Y:mg "len" = none)(a0:mg "range" = none)(I:mg "tuple" = none):FnD P w K mg base 3 "_law_joins" 7 F_law_joins:=
 qS (N:=["_law_script","_law_at","_law_p","_law_ways_here","_law_under","_law_upper","_law_few","_law_joins_here","_law_k","_law_begin","_law_end","_law_rows"]) D ⋯ λX hP hw hK hm hb y hx=>by
  subst hP hw hK hm hb;exact(by refine zf ?_ ?_;exact(qk 7 (y.set 7 ⋯ (qZ (xP zk))));refine zf ?_ ?_;exact(jH (T:= .nm 8) (qg hx) y.calm (jd y ⋯ a0 (xC y ⋯ Y (zc 3 (y.var ⋯)))) (y.tgt 8 ⋯) ((by refine zf ?_ ?_;exact(xD (T:= .tp [9,10]) (y.tgts (zK (y.tgt 9 ⋯) (zK (y.tgt 10 ⋯) jQ))) (z9 O ⋯ y ⋯ (za (zc 3 (y.var ⋯)) (za (zc 8 (y.var ⋯)) zk))));refine zf ?_ ?_;exact(zL 11 (y.set 11 ⋯ (PO.v (q8 U ⋯ y ⋯ (za (zc 0 (y.var ⋯)) (za (jG (zc 1 (y.var ⋯)) (qm zm (zc 8 (y.var ⋯)))) (za (zc 2 (y.var ⋯)) (za (zC (PV.q (zC (zr 4 (y.var ⋯)) zm)) (zc 10 (y.var ⋯))) (za (zC (PV.q (zC (zr 5 (y.var ⋯)) zm)) (zc 9 (y.var ⋯))) (za (zc 6 (y.var ⋯)) zk))))))))));exact(zn (xX 7 y ⋯ (qr (xP (za (zC (PV.q (zC (zr 4 (y.var ⋯)) zm)) (zc 10 (y.var ⋯))) (za (zC (PV.q (zC (zr 5 (y.var ⋯)) zm)) (zc 9 (y.var ⋯))) (za (jM y ⋯ I (PO.q (jk (own:=["_law_row"]) (fr:=[]) (T:= .nm 0) y.calm (y.compOk (fr:=[]) ⋯) ⋯ (jI (zr 11 (y.var ⋯))) (λfp s2 H2=>have h1:=y.cq ["_law_row"] [] fp s2 H2 ⋯;h1.tgt 0 ⋯) (λfp s2 H2=>have h1:=y.cq ["_law_row"] [] fp s2 H2 ⋯;jM h1 ⋯ I (zr 0 (h1.var ⋯)))))) zk))))))))));exact(zn (qQ 7 (y.var ⋯))))
theorem ok_law_handed_44(D:DefAt K mg "_law_handed" (top 52) ["_law_p","_law_ways_here","_law_row"])(O:FnD P w K mg base 1 "_law_ends" 2 F_law_ends)(U:mg "len" = none)(Y:mg "range" = none)(I:mg "tuple" = none):FnD P w K mg base 2 "_law_handed" 3 F_law_handed_44:=
 qS (N:=["_law_p","_law_ways_here","_law_row","_law_widths","_law_tables","_law_arrows","_law_k","_law_begin","_law_end","_law_rows"]) D ⋯ λX hP hw hK hm hb y hx=>by
  subst hP hw hK hm hb;exact(by refine zf ?_ ?_;exact(xD (T:= .tp [3,4]) (y.tgts (zK (y.tgt 3 ⋯) (zK (y.tgt 4 ⋯) jQ))) (zc 2 (y.var ⋯)));refine zf ?_ ?_;exact(qk 5 (y.set 5 ⋯ (qZ (xP zk))));refine zf ?_ ?_;exact(jH (T:= .nm 6) (qg hx) y.calm (jd y ⋯ Y (xC y ⋯ U (zc 1 (y.var ⋯)))) (y.tgt 6 ⋯) ((by refine zf ?_ ?_;exact(xD (T:= .tp [7,8]) (y.tgts (zK (y.tgt 7 ⋯) (zK (y.tgt 8 ⋯) jQ))) (z9 O ⋯ y ⋯ (za (zc 1 (y.var ⋯)) (za (zc 6 (y.var ⋯)) zk))));refine zf ?_ ?_;exact(zL 9 (y.set 9 ⋯ (jM y ⋯ I (PO.q (jk (own:=["_law_one"]) (fr:=[]) (T:= .nm 0) y.calm (y.compOk (fr:=[]) ⋯) ⋯ (jI (PV.q (zC (zr 4 (y.var ⋯)) (zc 6 (y.var ⋯))))) (λfp s2 H2=>have h1:=y.cq ["_law_one"] [] fp s2 H2 ⋯;h1.tgt 0 ⋯) (λfp s2 H2=>have h1:=y.cq ["_law_one"] [] fp s2 H2 ⋯;jM h1 ⋯ I (zr 0 (h1.var ⋯))))))));exact(zn (xX 5 y ⋯ (qr (xP (za (vX (zc 1 (y.var ⋯)) (zc 6 (y.var ⋯))) (za (qr (xP (za (zC (zr 3 (y.var ⋯)) (zc 8 (y.var ⋯))) (za (zC (zr 3 (y.var ⋯)) (zc 7 (y.var ⋯))) (za (zc 9 (y.var ⋯)) zk))))) zk)))))))));exact(zn (zQ (qr (xP (za (zc 0 (y.var ⋯)) (za (jM y ⋯ I (zr 3 (y.var ⋯))) (za (jM y ⋯ I (zr 5 (y.var ⋯))) zk))))))))
theorem ok_ways_of(D:DefAt K mg "ways_of" (top 19) ["row"]):FnD P w K mg base 1 "ways_of" 1 F_ways_of:=
 qS (N:=["row"]) D ⋯ λX I hw O hm U y Y=>by
  subst I hw O hm U;exact zn (zQ (Qo xI (PO.q (jk (own:=["arrow"]) (fr:=[]) (T:= .nm 0) y.calm (y.compOk (fr:=[]) ⋯) ⋯ (jI (PV.q (zC (zr 0 (y.var ⋯)) zm))) (λfp s2 H2=>have h1:=y.cq ["arrow"] [] fp s2 H2 ⋯;h1.tgt 0 ⋯) (λfp s2 H2=>have h1:=y.cq ["arrow"] [] fp s2 H2 ⋯;zC (zr 0 (h1.var ⋯)) zm)))))
theorem ok_one_kind(D:DefAt K mg "one_kind" (top 20) ["one","other"])(I:FnD P w K mg base 1 "ways_of" 1 F_ways_of):FnD P w K mg base 2 "one_kind" 2 F_one_kind:=
 qS (N:=["one","other"]) D ⋯ λX O hw U hm Y y hx=>by
  subst O hw U hm Y;exact zn (zQ (wQ (XO y (zC (zr 0 (y.var ⋯)) zm) (zC (zr 1 (y.var ⋯)) zm)) (wP (XO y (z9 I ⋯ y ⋯ (za (zc 0 (y.var ⋯)) zk)) (z9 I ⋯ y ⋯ (za (zc 1 (y.var ⋯)) zk))))))
theorem ok_ask_one_kind(D:DefAt K mg "ask_one_kind" (top 21) ["one","other"])(I:FnD P w K mg base 2 "one_kind" 2 F_one_kind):FnD P w K mg base 3 "ask_one_kind" 2 F_ask_one_kind:=
 qS (N:=["one","other"]) D ⋯ λX O hw U hm Y y hx=>by
  subst O hw U hm Y;exact zn (jY (qu (qz (z9 I ⋯ y ⋯ (za (zc 0 (y.var ⋯)) (za (zc 1 (y.var ⋯)) zk))))) (zn xW) jc)
theorem ok_end_of(D:DefAt K mg "end_of" (top 18) ["k","way"]):FnD P w K mg base 1 "end_of" 2 F_end_of:=
 qS (N:=["k","way"]) D ⋯ λX I hw O hm U y Y=>by
  subst I hw O hm U;exact zn (zQ (vY (xJ y (zc 1 (y.var ⋯)) xI) (jG (zc 0 (y.var ⋯)) zm) (zc 0 (y.var ⋯))))
theorem ok_beginning_of(D:DefAt K mg "beginning_of" (top 17) ["k","way"]):FnD P w K mg base 1 "beginning_of" 2 F_beginning_of:=
 qS (N:=["k","way"]) D ⋯ λX I hw O hm U y Y=>by
  subst I hw O hm U;exact zn (zQ (vY (xJ y (zc 1 (y.var ⋯)) xI) (zc 0 (y.var ⋯)) (jG (zc 0 (y.var ⋯)) zm)))
theorem ok_arrow_sizes(D:DefAt K mg "arrow_sizes" (top 32) ["one","other"])(I:FnD P w K mg base 1 "ways_of" 1 F_ways_of)(O:FnD P w K mg base 1 "end_of" 2 F_end_of)(U:FnD P w K mg base 1 "beginning_of" 2 F_beginning_of)(Y:mg "enumerate" = none):FnD P w K mg base 2 "arrow_sizes" 2 F_arrow_sizes:=
 qS (N:=["one","other","ways"]) D ⋯ λX hP hw hK hm hb y hx=>by
  subst hP hw hK hm hb;exact(by refine zf ?_ ?_;exact(zL 2 (y.set 2 ⋯ (z9 I ⋯ y ⋯ (za (zc 0 (y.var ⋯)) zk))));exact(zn (vZ (jk (own:=["k","way"]) (fr:=[("one",0),("other",1)]) (T:= .tp [0,1]) y.calm (y.compOk (fr:=[("one",0),("other",1)]) ⋯) ⋯ (PIF.c (YX y ⋯ Y (zc 2 (y.var ⋯)))) (λfp s2 H2=>have h1:=y.cq ["k","way"] [("one",0),("other",1)] fp s2 H2 ⋯;h1.tgts (zK (h1.tgt 0 ⋯) (zK (h1.tgt 1 ⋯) jQ))) (λfp s2 H2=>have h1:=y.cq ["k","way"] [("one",0),("other",1)] fp s2 H2 ⋯;qr (xP (za (zC (PV.q (zC (zr 3 (h1.var ⋯)) zm)) (z9 O ⋯ h1 ⋯ (za (zc 0 (h1.var ⋯)) (za (zc 1 (h1.var ⋯)) zk)))) (za (zC (PV.q (zC (zr 2 (h1.var ⋯)) zm)) (z9 U ⋯ h1 ⋯ (za (zc 0 (h1.var ⋯)) (za (zc 1 (h1.var ⋯)) zk)))) zk))))))))
theorem ok_is_join(D:DefAt K mg "is_join" (top 41) ["size","join"])(I:mg "isinstance" = none)(O:mg "tuple" = none):FnD P w K mg base 1 "is_join" 2 F_is_join:=
 qS (N:=["size","join"]) D ⋯ λX U hw Y hm hb y hx=>by
  subst U hw Y hm hb;exact zn (zQ (wQ (qX y ⋯ I ⋯ O (zc 1 (y.var ⋯))) (wP (XO y (KP (zc 1 (y.var ⋯)) Y4 (ZG zm)) (zc 0 (y.var ⋯))))))
theorem ok_ask_joins(D:DefAt K mg "ask_joins" (top 42) ["under","upper","joins"])(O:FnD P w K mg base 3 "ask_one_kind" 2 F_ask_one_kind)(U:FnD P w K mg base 2 "arrow_sizes" 2 F_arrow_sizes)(Y:FnD P w K mg base 1 "is_join" 2 F_is_join)(a0:mg "enumerate" = none)(I:mg "len" = none)(a5:GL K mg "BEYOND_ALL_ARROWS" (.int 5)):FnD P w K mg base 4 "ask_joins" 3 F_ask_joins:=
 qS (N:=["under","upper","joins","sizes","k","size"]) D ⋯ λX hP hw hK hm hb y hx=>by
  subst hP hw hK hm hb;exact(by refine zf ?_ ?_;exact(kf (z9 O ⋯ y ⋯ (za (zc 0 (y.var ⋯)) (za (zc 1 (y.var ⋯)) zk))));refine zf ?_ ?_;exact(zL 3 (y.set 3 ⋯ (PO.v (q8 U ⋯ y ⋯ (za (zc 1 (y.var ⋯)) (za (zc 0 (y.var ⋯)) zk))))));refine zf ?_ ?_;exact(jH (T:= .tp [4,5]) (qg hx) y.calm (YY y ⋯ a0 (zc 3 (y.var ⋯))) (y.tgts (zK (y.tgt 4 ⋯) (zK (y.tgt 5 ⋯) jQ))) (zn (jY (wR (xU (Wp (zc 4 (y.var ⋯)) (qF y ⋯ I (zr 2 (y.var ⋯)))) (kH (qu (qz (z9 Y ⋯ y ⋯ (za (zc 5 (y.var ⋯)) (za (zC (zr 2 (y.var ⋯)) (zc 4 (y.var ⋯))) zk)))))))) (zn xW) jc)));exact(zn (jY (wS (qF y ⋯ I (zr 2 (y.var ⋯))) (qF y ⋯ I (zr 3 (y.var ⋯)))) (zn xW) jc)))
theorem ok_ask_together(D:DefAt K mg "ask_together" (top 22) ["widths"])(I:mg "sum" = none)(O:GL K mg "MOST_TOGETHER" (.int 30)):FnD P w K mg base 1 "ask_together" 1 F_ask_together:=
 qS (N:=["widths"]) D ⋯ λX U hw Y hm hb y hx=>by
  subst U hw Y hm hb;exact zn (jY (wS (wO y ⋯ I (zr 0 (y.var ⋯))) (za7 y ⋯ O)) (zn xW) jc)
theorem ok_widths_together(D:DefAt K mg "widths_together" (top 24) ["one","other"])(I:FnD P w K mg base 1 "ask_together" 1 F_ask_together)(O:mg "tuple" = none)(U:mg "zip" = none):FnD P w K mg base 2 "widths_together" 2 F_widths_together:=
 qS (N:=["one","other","widths"]) D ⋯ λX Y hw hK hm hb y hx=>by
  subst Y hw hK hm hb;exact(by refine zf ?_ ?_;exact(zL 2 (y.set 2 ⋯ (jM y ⋯ O (PO.q (jk (own:=["x","y"]) (fr:=[]) (T:= .tp [0,1]) y.calm (y.compOk (fr:=[]) ⋯) ⋯ (PIF.c (yl y ⋯ U (zC (zr 0 (y.var ⋯)) zm) (zC (zr 1 (y.var ⋯)) zm))) (λfp s2 H2=>have h1:=y.cq ["x","y"] [] fp s2 H2 ⋯;h1.tgts (zK (h1.tgt 0 ⋯) (zK (h1.tgt 1 ⋯) jQ))) (λfp s2 H2=>have h1:=y.cq ["x","y"] [] fp s2 H2 ⋯;jG (zc 0 (h1.var ⋯)) (zc 1 (h1.var ⋯))))))));refine zf ?_ ?_;exact(kf (z9 I ⋯ y ⋯ (za (zc 2 (y.var ⋯)) zk)));exact(zn (qQ 2 (y.var ⋯))))
theorem ok_room_sizes(D:DefAt K mg "room_sizes" (top 31) ["one","other"])(I:mg "list" = none)(O:mg "zip" = none):FnD P w K mg base 1 "room_sizes" 2 F_room_sizes:=
 qS (N:=["one","other"]) D ⋯ λX U hw Y hm hb y hx=>by
  subst U hw Y hm hb;exact zn (vZ (XX y ⋯ I ⋯ O (zC (zr 1 (y.var ⋯)) zm) (zC (zr 0 (y.var ⋯)) zm)))
theorem ok_numbers_in(D:DefAt K mg "numbers_in" (top 33) ["sizes"])(I:mg "sum" = none):FnD P w K mg base 1 "numbers_in" 1 F_numbers_in:=
 qS (N:=["sizes"]) D ⋯ λX O hw U hm Y y hx=>by
  subst O hw U hm Y;exact zn (zQ (wO y ⋯ I (PO.q (jk (own:=["high","wide"]) (fr:=[]) (T:= .tp [0,1]) y.calm (y.compOk (fr:=[]) ⋯) ⋯ (jI (zr 0 (y.var ⋯))) (λfp s2 H2=>have h1:=y.cq ["high","wide"] [] fp s2 H2 ⋯;h1.tgts (zK (h1.tgt 0 ⋯) (zK (h1.tgt 1 ⋯) jQ))) (λfp s2 H2=>have h1:=y.cq ["high","wide"] [] fp s2 H2 ⋯;qm (zc 0 (h1.var ⋯)) (zc 1 (h1.var ⋯)))))))
theorem ok_turned_over(D:DefAt K mg "turned_over" (top 13) ["table"])(O:mg "range" = none)(I:mg "tuple" = none):FnD P w K mg base 1 "turned_over" 1 F_turned_over:=
 qS (N:=["table","columns"]) D ⋯ λX U hw Y hm hb y hx=>by
  subst U hw Y hm hb;exact(by refine zf ?_ ?_;exact(qA 1 (psc 1 y ⋯ (own:=["j"]) (fr:=[("table",0)]) (T:= .nm 0) y.calm (y.compOk (fr:=[("table",0)]) ⋯) ⋯ (PIF.c (jd y ⋯ O (zC (zr 0 (y.var ⋯)) zm))) (λfp s2 H2=>have h1:=y.cq ["j"] [("table",0)] fp s2 H2 ⋯;h1.tgt 0 ⋯) (λfp s2 H2=>have h1:=y.cq ["j"] [("table",0)] fp s2 H2 ⋯;jM h1 ⋯ I (PO.q (jk (own:=["row"]) (fr:=[("j",0)]) (T:= .nm 0) h1.calm (h1.compOk (fr:=[("j",0)]) ⋯) ⋯ (jI (PV.q (zC (zr 1 (h1.var ⋯)) zm))) (λfp s2 H2=>have h2:=h1.cq ["row"] [("j",0)] fp s2 H2 ⋯;h2.tgt 0 ⋯) (λfp s2 H2=>have h2:=h1.cq ["row"] [("j",0)] fp s2 H2 ⋯;zC (zr 0 (h2.var ⋯)) (zc 1 (h2.var ⋯))))))));exact(zn (zQ (qr (xP (za (zC (zr 0 (y.var ⋯)) zm) (za (zC (zr 0 (y.var ⋯)) zm) (za (jM y ⋯ I (zr 1 (y.var ⋯))) zk))))))))
theorem ok_written(D:DefAt K mg "written" (top 34) ["tables"])(O:mg "tuple" = none):FnD P w K mg base 1 "written" 1 F_written:=
 qS (N:=["tables","load","table","line"]) D ⋯ λX U hw Y hm hb y I=>by
  subst U hw Y hm hb;exact(by refine zf ?_ ?_;exact(qk 1 (y.set 1 ⋯ (qZ (xP zk))));refine zf ?_ ?_;exact(jH (T:= .nm 2) (qg I) y.calm (yc (zc 0 (y.var ⋯))) (y.tgt 2 ⋯) (zn (jH (T:= .nm 3) (qg I) y.calm (yc (zC (zr 2 (y.var ⋯)) zm)) (y.tgt 3 ⋯) (zn (XU 1 y ⋯ (zr 3 (y.var ⋯)))))));exact(zn (zQ (jM y ⋯ O (zr 1 (y.var ⋯))))))
theorem ok_rests(D:DefAt K mg "rests" (top 7) ["p","numbers"])(I:mg "tuple" = none):FnD P w K mg base 1 "rests" 2 F_rests:=
 qS (N:=["p","numbers"]) D ⋯ λX O hw U hm Y y hx=>by
  subst O hw U hm Y;exact zn (zQ (jM y ⋯ I (PO.q (jk (own:=["x"]) (fr:=[("p",0)]) (T:= .nm 0) y.calm (y.compOk (fr:=[("p",0)]) ⋯) ⋯ (jI (zr 1 (y.var ⋯))) (λfp s2 H2=>have h1:=y.cq ["x"] [("p",0)] fp s2 H2 ⋯;h1.tgt 0 ⋯) (λfp s2 H2=>have h1:=y.cq ["x"] [("p",0)] fp s2 H2 ⋯;qd (zc 0 (h1.var ⋯)) (zc 1 (h1.var ⋯)))))))
theorem ok_led(D:DefAt K mg "led" (top 9) ["p","table","load"])(I:FnD P w K mg base 1 "rests" 2 F_rests)(O:mg "sum" = none)(U:mg "zip" = none):FnD P w K mg base 2 "led" 3 F_led:=
 qS (N:=["p","table","load"]) D ⋯ λX Y hw hK hm hb y hx=>by
  subst Y hw hK hm hb;exact zn (zQ (z9 I ⋯ y ⋯ (za (zc 0 (y.var ⋯)) (za (PO.v (jk (own:=["row"]) (fr:=[("load",2)]) (T:= .nm 0) y.calm (y.compOk (fr:=[("load",2)]) ⋯) ⋯ (jI (PV.q (zC (zr 1 (y.var ⋯)) zm))) (λfp s2 H2=>have h1:=y.cq ["row"] [("load",2)] fp s2 H2 ⋯;h1.tgt 0 ⋯) (λfp s2 H2=>have h1:=y.cq ["row"] [("load",2)] fp s2 H2 ⋯;wO h1 ⋯ O (PO.q (jk (own:=["x","y"]) (fr:=[]) (T:= .tp [0,1]) h1.calm (h1.compOk (fr:=[]) ⋯) ⋯ (PIF.c (yl h1 ⋯ U (zc 0 (h1.var ⋯)) (zc 1 (h1.var ⋯)))) (λfp s2 H2=>have h2:=h1.cq ["x","y"] [] fp s2 H2 ⋯;h2.tgts (zK (h2.tgt 0 ⋯) (zK (h2.tgt 1 ⋯) jQ))) (λfp s2 H2=>have h2:=h1.cq ["x","y"] [] fp s2 H2 ⋯;qm (zc 0 (h2.var ⋯)) (zc 1 (h2.var ⋯)))))))) zk))))
theorem ok_product(D:DefAt K mg "product" (top 10) ["p","one","other"])(I:FnD P w K mg base 1 "turned_over" 1 F_turned_over)(O:FnD P w K mg base 2 "led" 3 F_led)(U:mg "tuple" = none):FnD P w K mg base 3 "product" 3 F_product:=
 qS (N:=["p","one","other","over"]) D ⋯ λX Y hw hK hm hb y hx=>by
  subst Y hw hK hm hb;exact(by refine zf ?_ ?_;exact(zL 3 (y.set 3 ⋯ (z9 I ⋯ y ⋯ (za (zc 2 (y.var ⋯)) zk))));exact(zn (zQ (qr (xP (za (zC (zr 1 (y.var ⋯)) zm) (za (zC (zr 2 (y.var ⋯)) zm) (za (jM y ⋯ U (PO.q (jk (own:=["row"]) (fr:=[("p",0),("over",3)]) (T:= .nm 0) y.calm (y.compOk (fr:=[("p",0),("over",3)]) ⋯) ⋯ (jI (PV.q (zC (zr 1 (y.var ⋯)) zm))) (λfp s2 H2=>have h1:=y.cq ["row"] [("p",0),("over",3)] fp s2 H2 ⋯;h1.tgt 0 ⋯) (λfp s2 H2=>have h1:=y.cq ["row"] [("p",0),("over",3)] fp s2 H2 ⋯;z9 O ⋯ h1 ⋯ (za (zc 1 (h1.var ⋯)) (za (zc 2 (h1.var ⋯)) (za (zc 0 (h1.var ⋯)) zk))))))) zk))))))))
theorem ok_added_times(D:DefAt K mg "added_times" (top 11) ["p","one","much","other"])(O:FnD P w K mg base 1 "rests" 2 F_rests)(U:mg "tuple" = none)(I:mg "zip" = none):FnD P w K mg base 2 "added_times" 4 F_added_times:=
 qS (N:=["p","one","much","other","rows"]) D ⋯ λX Y hw hK hm hb y hx=>by
  subst Y hw hK hm hb;exact(by refine zf ?_ ?_;exact(qA 4 (psc 4 y ⋯ (own:=["a","b"]) (fr:=[("p",0),("much",2)]) (T:= .tp [0,1]) y.calm (y.compOk (fr:=[("p",0),("much",2)]) ⋯) ⋯ (PIF.c (yl y ⋯ I (zC (zr 1 (y.var ⋯)) zm) (zC (zr 3 (y.var ⋯)) zm))) (λfp s2 H2=>have h1:=y.cq ["a","b"] [("p",0),("much",2)] fp s2 H2 ⋯;h1.tgts (zK (h1.tgt 0 ⋯) (zK (h1.tgt 1 ⋯) jQ))) (λfp s2 H2=>have h1:=y.cq ["a","b"] [("p",0),("much",2)] fp s2 H2 ⋯;z9 O ⋯ h1 ⋯ (za (zc 2 (h1.var ⋯)) (za (PO.v (jk (own:=["x","y"]) (fr:=[("much",3)]) (T:= .tp [0,1]) h1.calm (h1.compOk (fr:=[("much",3)]) ⋯) ⋯ (PIF.c (yl h1 ⋯ I (zc 0 (h1.var ⋯)) (zc 1 (h1.var ⋯)))) (λfp s2 H2=>have h2:=h1.cq ["x","y"] [("much",3)] fp s2 H2 ⋯;h2.tgts (zK (h2.tgt 0 ⋯) (zK (h2.tgt 1 ⋯) jQ))) (λfp s2 H2=>have h2:=h1.cq ["x","y"] [("much",3)] fp s2 H2 ⋯;jG (zc 0 (h2.var ⋯)) (qm (zc 2 (h2.var ⋯)) (zc 1 (h2.var ⋯)))))) zk)))));exact(zn (zQ (qr (xP (za (zC (zr 1 (y.var ⋯)) zm) (za (zC (zr 1 (y.var ⋯)) zm) (za (jM y ⋯ U (zr 4 (y.var ⋯))) zk))))))))
theorem ok_less(D:DefAt K mg "less" (top 12) ["p","one","other"])(I:FnD P w K mg base 2 "added_times" 4 F_added_times):FnD P w K mg base 3 "less" 3 F_less:=
 qS (N:=["p","one","other"]) D ⋯ λX O hw U hm Y y hx=>by
  subst O hw U hm Y;exact zn (zQ (z9 I ⋯ y ⋯ (za (zc 0 (y.var ⋯)) (za (zc 1 (y.var ⋯)) (za (Qn zm) (za (zc 2 (y.var ⋯)) zk))))))
theorem ok_gap(D:DefAt K mg "gap" (top 36) ["one","other","tables","k"])(I:FnD P w K mg base 3 "product" 3 F_product)(O:FnD P w K mg base 3 "less" 3 F_less)(U:FnD P w K mg base 1 "end_of" 2 F_end_of)(Y:FnD P w K mg base 1 "beginning_of" 2 F_beginning_of):FnD P w K mg base 4 "gap" 4 F_gap:=
 qS (N:=["one","other","tables","k","p","way","first_along","first_across"]) D ⋯ λX hP hw hK hm hb y hx=>by
  subst hP hw hK hm hb;exact(by refine zf ?_ ?_;exact(zL 4 (y.set 4 ⋯ (zC (zr 0 (y.var ⋯)) zm)));refine zf ?_ ?_;exact(zL 5 (y.set 5 ⋯ (zC (PV.q (zC (PV.q (zC (zr 0 (y.var ⋯)) zm)) (zc 3 (y.var ⋯)))) zm)));refine zf ?_ ?_;exact(zL 6 (y.set 6 ⋯ (z9 I ⋯ y ⋯ (za (zc 4 (y.var ⋯)) (za (zC (zr 2 (y.var ⋯)) (z9 U ⋯ y ⋯ (za (zc 3 (y.var ⋯)) (za (zc 5 (y.var ⋯)) zk)))) (za (zC (PV.q (zC (PV.q (zC (zr 0 (y.var ⋯)) zm)) (zc 3 (y.var ⋯)))) zm) zk))))));refine zf ?_ ?_;exact(zL 7 (y.set 7 ⋯ (z9 I ⋯ y ⋯ (za (zc 4 (y.var ⋯)) (za (zC (PV.q (zC (PV.q (zC (zr 1 (y.var ⋯)) zm)) (zc 3 (y.var ⋯)))) zm) (za (zC (zr 2 (y.var ⋯)) (z9 Y ⋯ y ⋯ (za (zc 3 (y.var ⋯)) (za (zc 5 (y.var ⋯)) zk)))) zk))))));exact(zn (zQ (z9 O ⋯ y ⋯ (za (zc 4 (y.var ⋯)) (za (zc 6 (y.var ⋯)) (za (zc 7 (y.var ⋯)) zk)))))))
theorem ok_gaps(D:DefAt K mg "gaps" (top 37) ["one","other","tables"])(I:FnD P w K mg base 4 "gap" 4 F_gap)(O:mg "len" = none)(U:mg "range" = none):FnD P w K mg base 5 "gaps" 3 F_gaps:=
 qS (N:=["one","other","tables"]) D ⋯ λX Y hw hK hm hb y hx=>by
  subst Y hw hK hm hb;exact zn (vZ (jk (own:=["k"]) (fr:=[("one",0),("other",1),("tables",2)]) (T:= .nm 0) y.calm (y.compOk (fr:=[("one",0),("other",1),("tables",2)]) ⋯) ⋯ (PIF.c (jd y ⋯ U (qF y ⋯ O (PV.q (zC (zr 0 (y.var ⋯)) zm))))) (λfp s2 H2=>have h1:=y.cq ["k"] [("one",0),("other",1),("tables",2)] fp s2 H2 ⋯;h1.tgt 0 ⋯) (λfp s2 H2=>have h1:=y.cq ["k"] [("one",0),("other",1),("tables",2)] fp s2 H2 ⋯;z9 I ⋯ h1 ⋯ (za (zc 1 (h1.var ⋯)) (za (zc 2 (h1.var ⋯)) (za (zc 3 (h1.var ⋯)) (za (zc 0 (h1.var ⋯)) zk)))))))
theorem ok_tables_in(D:DefAt K mg "tables_in" (top 35) ["sizes","load"])(I:mg "range" = none)(O:mg "tuple" = none):FnD P w K mg base 1 "tables_in" 2 F_tables_in:=
 qS (N:=["sizes","load","made","begin","high","wide","lines"]) D ⋯ λX U hw Y hm hb y hx=>by
  subst U hw Y hm hb;exact(by refine zf ?_ ?_;exact(qk 2 (y.set 2 ⋯ (qZ (xP zk))));refine zf ?_ ?_;exact(zL 3 (y.set 3 ⋯ zm));refine zf ?_ ?_;exact(jH (T:= .tp [4,5]) (qg hx) y.calm (yc (zc 0 (y.var ⋯))) (y.tgts (zK (y.tgt 4 ⋯) (zK (y.tgt 5 ⋯) jQ))) ((by refine zf ?_ ?_;exact(qA 6 (psc 6 y ⋯ (own:=["i"]) (fr:=[("load",1),("begin",3),("wide",5)]) (T:= .nm 0) y.calm (y.compOk (fr:=[("load",1),("begin",3),("wide",5)]) ⋯) ⋯ (PIF.c (jd y ⋯ I (zc 4 (y.var ⋯)))) (λfp s2 H2=>have h1:=y.cq ["i"] [("load",1),("begin",3),("wide",5)] fp s2 H2 ⋯;h1.tgt 0 ⋯) (λfp s2 H2=>have h1:=y.cq ["i"] [("load",1),("begin",3),("wide",5)] fp s2 H2 ⋯;KP (zc 1 (h1.var ⋯)) (ZG (jG (zc 2 (h1.var ⋯)) (qm (zc 0 (h1.var ⋯)) (zc 3 (h1.var ⋯))))) (ZG (jG (zc 2 (h1.var ⋯)) (qm (jG (zc 0 (h1.var ⋯)) zm) (zc 3 (h1.var ⋯))))))));refine zf ?_ ?_;exact(xX 2 y ⋯ (qr (xP (za (zc 4 (y.var ⋯)) (za (zc 5 (y.var ⋯)) (za (jM y ⋯ O (zr 6 (y.var ⋯))) zk))))));exact(zn (zL 3 (y.set 3 ⋯ (jG (zc 3 (y.var ⋯)) (qm (zc 4 (y.var ⋯)) (zc 5 (y.var ⋯))))))))));exact(zn (qQ 2 (y.var ⋯))))
theorem ok_same_table(D:DefAt K mg "same_table" (top 14) ["many"])(I:mg "range" = none)(O:mg "tuple" = none):FnD P w K mg base 1 "same_table" 1 F_same_table:=
 qS (N:=["many","rows"]) D ⋯ λX U hw Y hm hb y hx=>by
  subst U hw Y hm hb;exact(by refine zf ?_ ?_;exact(qA 1 (psc 1 y ⋯ (own:=["i"]) (fr:=[("many",0)]) (T:= .nm 0) y.calm (y.compOk (fr:=[("many",0)]) ⋯) ⋯ (PIF.c (jd y ⋯ I (zc 0 (y.var ⋯)))) (λfp s2 H2=>have h1:=y.cq ["i"] [("many",0)] fp s2 H2 ⋯;h1.tgt 0 ⋯) (λfp s2 H2=>have h1:=y.cq ["i"] [("many",0)] fp s2 H2 ⋯;jM h1 ⋯ O (PO.q (jk (own:=["j"]) (fr:=[("i",0)]) (T:= .nm 0) h1.calm (h1.compOk (fr:=[("i",0)]) ⋯) ⋯ (PIF.c (jd h1 ⋯ I (zc 1 (h1.var ⋯)))) (λfp s2 H2=>have h2:=h1.cq ["j"] [("i",0)] fp s2 H2 ⋯;h2.tgt 0 ⋯) (λfp s2 H2=>have h2:=h1.cq ["j"] [("i",0)] fp s2 H2 ⋯;vY (xJ h2 (zc 1 (h2.var ⋯)) (zc 0 (h2.var ⋯))) zm zm))))));exact(zn (zQ (qr (xP (za (zc 0 (y.var ⋯)) (za (zc 0 (y.var ⋯)) (za (jM y ⋯ O (zr 1 (y.var ⋯))) zk))))))))
theorem ok_gaps_table(D:DefAt K mg "gaps_table" (top 38) ["one","other"])(O:FnD P w K mg base 1 "room_sizes" 2 F_room_sizes)(I:FnD P w K mg base 1 "numbers_in" 1 F_numbers_in)(U:FnD P w K mg base 1 "turned_over" 1 F_turned_over)(Y:FnD P w K mg base 1 "written" 1 F_written)(a0:FnD P w K mg base 5 "gaps" 3 F_gaps)(a1:FnD P w K mg base 1 "tables_in" 2 F_tables_in)(a2:FnD P w K mg base 1 "same_table" 1 F_same_table)(a3:FnD P w K mg base 2 "arrow_sizes" 2 F_arrow_sizes)(a4:mg "tuple" = none):FnD P w K mg base 6 "gaps_table" 2 F_gaps_table:=
 qS (N:=["one","other","sizes","many","led_units"]) D ⋯ λX hP hw hK hm hb y hx=>by
  subst hP hw hK hm hb;exact(by refine zf ?_ ?_;exact(zL 2 (y.set 2 ⋯ (PO.v (q8 O ⋯ y ⋯ (za (zc 0 (y.var ⋯)) (za (zc 1 (y.var ⋯)) zk))))));refine zf ?_ ?_;exact(zL 3 (y.set 3 ⋯ (z9 I ⋯ y ⋯ (za (zc 2 (y.var ⋯)) zk))));refine zf ?_ ?_;exact(qA 4 (psc 4 y ⋯ (own:=["unit"]) (fr:=[("one",0),("other",1),("sizes",2)]) (T:= .nm 0) y.calm (y.compOk (fr:=[("one",0),("other",1),("sizes",2)]) ⋯) ⋯ (jI (PV.q (zC (PV.q (z9 a2 ⋯ y ⋯ (za (zc 3 (y.var ⋯)) zk))) zm))) (λfp s2 H2=>have h1:=y.cq ["unit"] [("one",0),("other",1),("sizes",2)] fp s2 H2 ⋯;h1.tgt 0 ⋯) (λfp s2 H2=>have h1:=y.cq ["unit"] [("one",0),("other",1),("sizes",2)] fp s2 H2 ⋯;z9 Y ⋯ h1 ⋯ (za (PO.v (q8 a0 ⋯ h1 ⋯ (za (zc 1 (h1.var ⋯)) (za (zc 2 (h1.var ⋯)) (za (PO.v (q8 a1 ⋯ h1 ⋯ (za (zc 3 (h1.var ⋯)) (za (zc 0 (h1.var ⋯)) zk)))) zk))))) zk))));exact(zn (zQ (z9 U ⋯ y ⋯ (za (qr (xP (za (zc 3 (y.var ⋯)) (za (z9 I ⋯ y ⋯ (za (PO.v (q8 a3 ⋯ y ⋯ (za (zc 0 (y.var ⋯)) (za (zc 1 (y.var ⋯)) zk)))) zk)) (za (jM y ⋯ a4 (zr 4 (y.var ⋯))) zk))))) zk)))))
theorem ok_inverse(D:DefAt K mg "inverse" (top 8) ["p","x"])(I:mg "range" = none):FnD P w K mg base 1 "inverse" 2 F_inverse:=
 qS (N:=["p","x","y"]) D ⋯ λX O hw U hm Y y hx=>by
  subst O hw U hm Y;exact(by refine zf ?_ ?_;exact(jH (T:= .nm 2) (qg hx) y.calm (XY y ⋯ I zm (zc 0 (y.var ⋯))) (y.tgt 2 ⋯) (zn (jY (xJ y (qd (qm (zc 1 (y.var ⋯)) (zc 2 (y.var ⋯))) (zc 0 (y.var ⋯))) zm) (zn (qQ 2 (y.var ⋯))) jc)));exact(zn xW))
theorem ok_cleared(D:DefAt K mg "cleared" (top 27) ["p","load","pivot","place"])(I:FnD P w K mg base 1 "rests" 2 F_rests)(O:mg "zip" = none):FnD P w K mg base 2 "cleared" 4 F_cleared:=
 qS (N:=["p","load","pivot","place","much"]) D ⋯ λX U hw Y hm hb y hx=>by
  subst U hw Y hm hb;exact(by refine zf ?_ ?_;exact(zL 4 (y.set 4 ⋯ (zC (zr 1 (y.var ⋯)) (zc 3 (y.var ⋯)))));refine zf ?_ ?_;exact(jY (xJ y (zc 4 (y.var ⋯)) zm) (zn (qQ 1 (y.var ⋯))) jc);exact(zn (zQ (z9 I ⋯ y ⋯ (za (zc 0 (y.var ⋯)) (za (PO.v (jk (own:=["x","y"]) (fr:=[("much",4)]) (T:= .tp [0,1]) y.calm (y.compOk (fr:=[("much",4)]) ⋯) ⋯ (PIF.c (yl y ⋯ O (zc 1 (y.var ⋯)) (zc 2 (y.var ⋯)))) (λfp s2 H2=>have h1:=y.cq ["x","y"] [("much",4)] fp s2 H2 ⋯;h1.tgts (zK (h1.tgt 0 ⋯) (zK (h1.tgt 1 ⋯) jQ))) (λfp s2 H2=>have h1:=y.cq ["x","y"] [("much",4)] fp s2 H2 ⋯;yT (zc 0 (h1.var ⋯)) (qm (zc 2 (h1.var ⋯)) (zc 1 (h1.var ⋯)))))) zk))))))
theorem ok_base_of(D:DefAt K mg "base_of" (top 28) ["p","long","loads"])(I:FnD P w K mg base 1 "rests" 2 F_rests)(U:FnD P w K mg base 1 "inverse" 2 F_inverse)(O:FnD P w K mg base 2 "cleared" 4 F_cleared)(Y:mg "range" = none):FnD P w K mg base 3 "base_of" 3 F_base_of:=
 qS (N:=["p","long","loads","left","base","place","leading","times","pivot"]) D ⋯ λX hP hw hK hm hb y hx=>by
  subst hP hw hK hm hb;exact(by refine zf ?_ ?_;exact(qA 3 (psc 3 y ⋯ (own:=["load"]) (fr:=[("p",0)]) (T:= .nm 0) y.calm (y.compOk (fr:=[("p",0)]) ⋯) ⋯ (jI (zr 2 (y.var ⋯))) (λfp s2 H2=>have h1:=y.cq ["load"] [("p",0)] fp s2 H2 ⋯;h1.tgt 0 ⋯) (λfp s2 H2=>have h1:=y.cq ["load"] [("p",0)] fp s2 H2 ⋯;z9 I ⋯ h1 ⋯ (za (zc 1 (h1.var ⋯)) (za (zc 0 (h1.var ⋯)) zk)))));refine zf ?_ ?_;exact(qk 4 (y.set 4 ⋯ (qZ (xP zk))));refine zf ?_ ?_;exact(jH (T:= .nm 5) (qg hx) y.calm (jd y ⋯ Y (zc 1 (y.var ⋯))) (y.tgt 5 ⋯) ((by refine zf ?_ ?_;exact(qA 6 (za9 6 y ⋯ (own:=["load"]) (fr:=[("place",5)]) (T:= .nm 0) y.calm (y.compOk (fr:=[("place",5)]) ⋯) ⋯ (jI (zr 3 (y.var ⋯))) (λfp s2 H2=>have h1:=y.cq ["load"] [("place",5)] fp s2 H2 ⋯;h1.tgt 0 ⋯) (λfp s2 H2=>have h1:=y.cq ["load"] [("place",5)] fp s2 H2 ⋯;xV h1 (zC (zr 0 (h1.var ⋯)) (zc 1 (h1.var ⋯))) zm) (λfp s2 H2=>have h1:=y.cq ["load"] [("place",5)] fp s2 H2 ⋯;zc 0 (h1.var ⋯))));refine zf ?_ ?_;exact(jY (qu (XR (zr 6 (y.var ⋯)))) (zn wU) jc);refine zf ?_ ?_;exact(zL 7 (y.set 7 ⋯ (z9 U ⋯ y ⋯ (za (zc 0 (y.var ⋯)) (za (zC (PV.q (zC (zr 6 (y.var ⋯)) zm)) (zc 5 (y.var ⋯))) zk)))));refine zf ?_ ?_;exact(zL 8 (y.set 8 ⋯ (z9 I ⋯ y ⋯ (za (zc 0 (y.var ⋯)) (za (PO.v (jk (own:=["x"]) (fr:=[("times",7)]) (T:= .nm 0) y.calm (y.compOk (fr:=[("times",7)]) ⋯) ⋯ (jI (PV.q (zC (zr 6 (y.var ⋯)) zm))) (λfp s2 H2=>have h1:=y.cq ["x"] [("times",7)] fp s2 H2 ⋯;h1.tgt 0 ⋯) (λfp s2 H2=>have h1:=y.cq ["x"] [("times",7)] fp s2 H2 ⋯;qm (zc 1 (h1.var ⋯)) (zc 0 (h1.var ⋯))))) zk)))));refine zf ?_ ?_;exact(qA 3 (psc 3 y ⋯ (own:=["load"]) (fr:=[("p",0),("place",5),("pivot",8)]) (T:= .nm 0) y.calm (y.compOk (fr:=[("p",0),("place",5),("pivot",8)]) ⋯) ⋯ (jI (zr 3 (y.var ⋯))) (λfp s2 H2=>have h1:=y.cq ["load"] [("p",0),("place",5),("pivot",8)] fp s2 H2 ⋯;h1.tgt 0 ⋯) (λfp s2 H2=>have h1:=y.cq ["load"] [("p",0),("place",5),("pivot",8)] fp s2 H2 ⋯;z9 O ⋯ h1 ⋯ (za (zc 1 (h1.var ⋯)) (za (zc 0 (h1.var ⋯)) (za (zc 3 (h1.var ⋯)) (za (zc 2 (h1.var ⋯)) zk)))))));exact(zn (qk 4 (y.set 4 ⋯ (Wv (PO.q (jk (own:=["load"]) (fr:=[("p",0),("place",5),("pivot",8)]) (T:= .nm 0) y.calm (y.compOk (fr:=[("p",0),("place",5),("pivot",8)]) ⋯) ⋯ (jI (zr 4 (y.var ⋯))) (λfp s2 H2=>have h1:=y.cq ["load"] [("p",0),("place",5),("pivot",8)] fp s2 H2 ⋯;h1.tgt 0 ⋯) (λfp s2 H2=>have h1:=y.cq ["load"] [("p",0),("place",5),("pivot",8)] fp s2 H2 ⋯;z9 O ⋯ h1 ⋯ (za (zc 1 (h1.var ⋯)) (za (zc 0 (h1.var ⋯)) (za (zc 3 (h1.var ⋯)) (za (zc 2 (h1.var ⋯)) zk))))))) (PO.q (qZ (xP (za (zc 8 (y.var ⋯)) zk)))))))))));exact(zn (qQ 4 (y.var ⋯))))
theorem ok_lead_of(D:DefAt K mg "lead_of" (top 26) ["load"])(I:mg "enumerate" = none):FnD P w K mg base 1 "lead_of" 1 F_lead_of:=
 qS (N:=["load"]) D ⋯ λX O hw U hm Y y hx=>by
  subst O hw U hm Y;exact zn (zQ (zC (PO.q (Qw (own:=["place","x"]) (fr:=[]) (T:= .tp [0,1]) y.calm (y.compOk (fr:=[]) ⋯) ⋯ (PIF.c (Wy y ⋯ I (zc 0 (y.var ⋯)))) (λfp s2 H2=>have h1:=y.cq ["place","x"] [] fp s2 H2 ⋯;h1.tgts (zK (h1.tgt 0 ⋯) (zK (h1.tgt 1 ⋯) jQ))) (λfp s2 H2=>have h1:=y.cq ["place","x"] [] fp s2 H2 ⋯;xV h1 (zc 1 (h1.var ⋯)) zm) (λfp s2 H2=>have h1:=y.cq ["place","x"] [] fp s2 H2 ⋯;zc 0 (h1.var ⋯)))) zm))
theorem ok_solved(D:DefAt K mg "solved" (top 29) ["p","table","load"])(I:FnD P w K mg base 3 "base_of" 3 F_base_of)(O:FnD P w K mg base 1 "lead_of" 1 F_lead_of)(U:mg "tuple" = none)(Y:mg "zip" = none):FnD P w K mg base 4 "solved" 3 F_solved:=
 qS (N:=["p","table","load","wide","answer","line","place"]) D ⋯ λX hP hw hK hm hb y hx=>by
  subst hP hw hK hm hb;exact(by refine zf ?_ ?_;exact(zL 3 (y.set 3 ⋯ (zC (zr 1 (y.var ⋯)) zm)));refine zf ?_ ?_;exact(qk 4 (y.set 4 ⋯ (KU (qZ (xP (za zm zk))) (zc 3 (y.var ⋯)))));refine zf ?_ ?_;exact(jH (T:= .nm 5) (qg hx) y.calm (yc (PO.v (q8 I ⋯ y ⋯ (za (zc 0 (y.var ⋯)) (za (jG (zc 3 (y.var ⋯)) zm) (za (PO.v (jk (own:=["row","x"]) (fr:=[]) (T:= .tp [0,1]) y.calm (y.compOk (fr:=[]) ⋯) ⋯ (PIF.c (yl y ⋯ Y (zC (zr 1 (y.var ⋯)) zm) (zc 2 (y.var ⋯)))) (λfp s2 H2=>have h1:=y.cq ["row","x"] [] fp s2 H2 ⋯;h1.tgts (zK (h1.tgt 0 ⋯) (zK (h1.tgt 1 ⋯) jQ))) (λfp s2 H2=>have h1:=y.cq ["row","x"] [] fp s2 H2 ⋯;jG (zc 0 (h1.var ⋯)) (qr (xP (za (zc 1 (h1.var ⋯)) zk)))))) zk)))))) (y.tgt 5 ⋯) ((by refine zf ?_ ?_;exact(zL 6 (y.set 6 ⋯ (z9 O ⋯ y ⋯ (za (zc 5 (y.var ⋯)) zk))));refine zf ?_ ?_;exact(jY (xJ y (zc 6 (y.var ⋯)) (zc 3 (y.var ⋯))) (zn (zQ Qm)) jc);exact(zn (wT 4 y ⋯ (zc 6 (y.var ⋯)) (zC (zr 5 (y.var ⋯)) (zc 3 (y.var ⋯))))))));exact(zn (zQ (jM y ⋯ U (zr 4 (y.var ⋯))))))
theorem ok_weights_against(D:DefAt K mg "weights_against" (top 43) ["p","slanted","load"])(I:FnD P w K mg base 1 "turned_over" 1 F_turned_over)(O:FnD P w K mg base 4 "solved" 3 F_solved):FnD P w K mg base 5 "weights_against" 3 F_weights_against:=
 qS (N:=["p","slanted","load","columns","table"]) D ⋯ λX U hw Y hm hb y hx=>by
  subst U hw Y hm hb;exact(by refine zf ?_ ?_;exact(zL 3 (y.set 3 ⋯ (z9 I ⋯ y ⋯ (za (zc 1 (y.var ⋯)) zk))));refine zf ?_ ?_;exact(zL 4 (y.set 4 ⋯ (qr (xP (za (jG (zC (zr 3 (y.var ⋯)) zm) zm) (za (zC (zr 3 (y.var ⋯)) zm) (za (jG (zC (zr 3 (y.var ⋯)) zm) (qr (xP (za (zc 2 (y.var ⋯)) zk)))) zk)))))));exact(zn (zQ (z9 O ⋯ y ⋯ (za (zc 0 (y.var ⋯)) (za (zc 4 (y.var ⋯)) (za (jG (qm (qr (xP (za zm zk))) (zC (zr 3 (y.var ⋯)) zm)) (qr (xP (za zm zk)))) zk)))))))
theorem ok_fallen(D:DefAt K mg "fallen" (top 44) ["under","upper","joins"])(O:FnD P w K mg base 4 "ask_joins" 3 F_ask_joins)(U:FnD P w K mg base 2 "widths_together" 2 F_widths_together)(Y:FnD P w K mg base 6 "gaps_table" 2 F_gaps_table)(a0:FnD P w K mg base 1 "rests" 2 F_rests)(a1:FnD P w K mg base 4 "solved" 3 F_solved)(I:FnD P w K mg base 1 "tables_in" 2 F_tables_in)(a2:FnD P w K mg base 2 "arrow_sizes" 2 F_arrow_sizes)(a3:FnD P w K mg base 5 "weights_against" 3 F_weights_against)(a4:FnD P w K mg base 1 "turned_over" 1 F_turned_over)(a5:FnD P w K mg base 1 "written" 1 F_written)(a6:FnD P w K mg base 1 "room_sizes" 2 F_room_sizes):FnD P w K mg base 7 "fallen" 3 F_fallen:=
 qS (N:=["under","upper","joins","p","slanted","load","slants","weights"]) D ⋯ λX hP hw hK hm hb y hx=>by
  subst hP hw hK hm hb;exact(by refine zf ?_ ?_;exact(kf (z9 O ⋯ y ⋯ (za (zc 0 (y.var ⋯)) (za (zc 1 (y.var ⋯)) (za (zc 2 (y.var ⋯)) zk)))));refine zf ?_ ?_;exact(kf (z9 U ⋯ y ⋯ (za (zc 0 (y.var ⋯)) (za (zc 1 (y.var ⋯)) zk))));refine zf ?_ ?_;exact(zL 3 (y.set 3 ⋯ (zC (zr 0 (y.var ⋯)) zm)));refine zf ?_ ?_;exact(zL 4 (y.set 4 ⋯ (z9 Y ⋯ y ⋯ (za (zc 1 (y.var ⋯)) (za (zc 0 (y.var ⋯)) zk)))));refine zf ?_ ?_;exact(zL 5 (y.set 5 ⋯ (z9 a0 ⋯ y ⋯ (za (zc 3 (y.var ⋯)) (za (PO.v (jk (own:=["x"]) (fr:=[]) (T:= .nm 0) y.calm (y.compOk (fr:=[]) ⋯) ⋯ (jI (PV.q (z9 a5 ⋯ y ⋯ (za (zc 2 (y.var ⋯)) zk)))) (λfp s2 H2=>have h1:=y.cq ["x"] [] fp s2 H2 ⋯;h1.tgt 0 ⋯) (λfp s2 H2=>have h1:=y.cq ["x"] [] fp s2 H2 ⋯;Qn (zc 0 (h1.var ⋯))))) zk)))));refine zf ?_ ?_;exact(zL 6 (y.set 6 ⋯ (z9 a1 ⋯ y ⋯ (za (zc 3 (y.var ⋯)) (za (zc 4 (y.var ⋯)) (za (zc 5 (y.var ⋯)) zk))))));refine zf ?_ ?_;exact(jY (vF (zc 6 (y.var ⋯)) Qm) (zn (zQ (qr (xP (za xI (za (PO.v (q8 I ⋯ y ⋯ (za (PO.v (q8 a6 ⋯ y ⋯ (za (zc 1 (y.var ⋯)) (za (zc 0 (y.var ⋯)) zk)))) (za (zc 6 (y.var ⋯)) zk)))) zk)))))) jc);refine zf ?_ ?_;exact(zL 7 (y.set 7 ⋯ (PO.v (q8 I ⋯ y ⋯ (za (PO.v (q8 a2 ⋯ y ⋯ (za (zc 1 (y.var ⋯)) (za (zc 0 (y.var ⋯)) zk)))) (za (z9 a3 ⋯ y ⋯ (za (zc 3 (y.var ⋯)) (za (zc 4 (y.var ⋯)) (za (zc 5 (y.var ⋯)) zk)))) zk))))));exact(zn (zQ (qr (xP (za xI (za (PO.v (jk (own:=["weight"]) (fr:=[]) (T:= .nm 0) y.calm (y.compOk (fr:=[]) ⋯) ⋯ (jI (zr 7 (y.var ⋯))) (λfp s2 H2=>have h1:=y.cq ["weight"] [] fp s2 H2 ⋯;h1.tgt 0 ⋯) (λfp s2 H2=>have h1:=y.cq ["weight"] [] fp s2 H2 ⋯;z9 a4 ⋯ h1 ⋯ (za (zc 0 (h1.var ⋯)) zk)))) zk)))))))
theorem okg_fallen(D:DefAt K mg "fallen" (top 44) ["under","upper","joins"])(O:FnD P w K mg base 4 "ask_joins" 3 F_ask_joins)(U:FnD P w K mg base 2 "widths_together" 2 F_widths_together)(Y:FnD P w K mg base 6 "gaps_table" 2 F_gaps_table)(a0:FnD P w K mg base 1 "rests" 2 F_rests)(a1:FnD P w K mg base 4 "solved" 3 F_solved)(I:FnD P w K mg base 1 "tables_in" 2 F_tables_in)(a2:FnD P w K mg base 2 "arrow_sizes" 2 F_arrow_sizes)(a3:FnD P w K mg base 5 "weights_against" 3 F_weights_against)(a4:FnD P w K mg base 1 "turned_over" 1 F_turned_over)(a5:FnD P w K mg base 1 "written" 1 F_written)(a6:FnD P w K mg base 1 "room_sizes" 2 F_room_sizes):FnG P w K mg base 7 "fallen" 3 F_fallen:=
 zcx (N:=["under","upper","joins","p","slanted","load","slants","weights"]) D ⋯ λX hP hw hK hm hb y hx=>by
  subst hP hw hK hm hb;exact vb wX (kf (z9 O ⋯ y ⋯ (za (zc 0 (y.var ⋯)) (za (zc 1 (y.var ⋯)) (za (zc 2 (y.var ⋯)) zk))))) (vb wX (kf (z9 U ⋯ y ⋯ (za (zc 0 (y.var ⋯)) (za (zc 1 (y.var ⋯)) zk)))) (vb kU (zL 3 (y.set 3 ⋯ (zC (zr 0 (y.var ⋯)) zm))) (vb kU (zL 4 (y.set 4 ⋯ (z9 Y ⋯ y ⋯ (za (zc 1 (y.var ⋯)) (za (zc 0 (y.var ⋯)) zk))))) (vb kU (zL 5 (y.set 5 ⋯ (z9 a0 ⋯ y ⋯ (za (zc 3 (y.var ⋯)) (za (PO.v (jk (own:=["x"]) (fr:=[]) (T:= .nm 0) y.calm (y.compOk (fr:=[]) ⋯) ⋯ (jI (PV.q (z9 a5 ⋯ y ⋯ (za (zc 2 (y.var ⋯)) zk)))) (λfp s2 H2=>have h1:=y.cq ["x"] [] fp s2 H2 ⋯;h1.tgt 0 ⋯) (λfp s2 H2=>have h1:=y.cq ["x"] [] fp s2 H2 ⋯;Qn (zc 0 (h1.var ⋯))))) zk))))) (vb kU (zL 6 (y.set 6 ⋯ (z9 a1 ⋯ y ⋯ (za (zc 3 (y.var ⋯)) (za (zc 4 (y.var ⋯)) (za (zc 5 (y.var ⋯)) zk)))))) (zcv YL (vF (zc 6 (y.var ⋯)) Qm) (zaa (Qk xI (q8 I ⋯ y ⋯ (za (PO.v (q8 a6 ⋯ y ⋯ (za (zc 1 (y.var ⋯)) (za (zc 0 (y.var ⋯)) zk)))) (za (zc 6 (y.var ⋯)) zk))))) (vb kU (zL 7 (y.set 7 ⋯ (PO.v (q8 I ⋯ y ⋯ (za (PO.v (q8 a2 ⋯ y ⋯ (za (zc 1 (y.var ⋯)) (za (zc 0 (y.var ⋯)) zk)))) (za (z9 a3 ⋯ y ⋯ (za (zc 3 (y.var ⋯)) (za (zc 4 (y.var ⋯)) (za (zc 5 (y.var ⋯)) zk)))) zk)))))) (zaa (Qk xI (jk (own:=["weight"]) (fr:=[]) (T:= .nm 0) y.calm (y.compOk (fr:=[]) ⋯) ⋯ (jI (zr 7 (y.var ⋯))) (λfp s2 H2=>have h1:=y.cq ["weight"] [] fp s2 H2 ⋯;h1.tgt 0 ⋯) (λfp s2 H2=>have h1:=y.cq ["weight"] [] fp s2 H2 ⋯;z9 a4 ⋯ h1 ⋯ (za (zc 0 (h1.var ⋯)) zk))))))))))))
theorem ok_law_times_46(D:DefAt K mg "_law_times" (top 51) ["_law_p","_law_one","_law_other","_law_wide"])(O:mg "len" = none)(I:mg "range" = none)(U:mg "sum" = none):FnD P w K mg base 1 "_law_times" 4 F_law_times_46:=
 qS (N:=["_law_p","_law_one","_law_other","_law_wide","_law_rows","_law_row"]) D ⋯ λX Y hw hK hm hb y hx=>by
  subst Y hw hK hm hb;exact(by refine zf ?_ ?_;exact(qk 4 (y.set 4 ⋯ (qZ (xP zk))));refine zf ?_ ?_;exact(jH (T:= .nm 5) (qg hx) y.calm (yc (zc 1 (y.var ⋯))) (y.tgt 5 ⋯) (zn (xX 4 y ⋯ (PO.v (jk (own:=["_law_j"]) (fr:=[("_law_p",0),("_law_other",2),("_law_row",5)]) (T:= .nm 0) y.calm (y.compOk (fr:=[("_law_p",0),("_law_other",2),("_law_row",5)]) ⋯) ⋯ (PIF.c (jd y ⋯ I (zc 3 (y.var ⋯)))) (λfp s2 H2=>have h1:=y.cq ["_law_j"] [("_law_p",0),("_law_other",2),("_law_row",5)] fp s2 H2 ⋯;h1.tgt 0 ⋯) (λfp s2 H2=>have h1:=y.cq ["_law_j"] [("_law_p",0),("_law_other",2),("_law_row",5)] fp s2 H2 ⋯;qd (wO h1 ⋯ U (PO.q (jk (own:=["_law_k"]) (fr:=[("_law_j",0),("_law_other",2),("_law_row",3)]) (T:= .nm 0) h1.calm (h1.compOk (fr:=[("_law_j",0),("_law_other",2),("_law_row",3)]) ⋯) ⋯ (PIF.c (jd h1 ⋯ I (qF h1 ⋯ O (zr 3 (h1.var ⋯))))) (λfp s2 H2=>have h2:=h1.cq ["_law_k"] [("_law_j",0),("_law_other",2),("_law_row",3)] fp s2 H2 ⋯;h2.tgt 0 ⋯) (λfp s2 H2=>have h2:=h1.cq ["_law_k"] [("_law_j",0),("_law_other",2),("_law_row",3)] fp s2 H2 ⋯;qm (zC (zr 3 (h2.var ⋯)) (zc 0 (h2.var ⋯))) (zC (PV.q (zC (zr 2 (h2.var ⋯)) (zc 0 (h2.var ⋯)))) (zc 1 (h2.var ⋯))))))) (zc 1 (h1.var ⋯))))))));exact(zn (qQ 4 (y.var ⋯))))
theorem ok_law_fit_46(D:DefAt K mg "_law_fit" (top 58) ["_law_p","_law_ways_here","_law_under","_law_upper","_law_joins_here","_law_slants"])(Y:FnD P w K mg base 1 "_law_ends" 2 F_law_ends)(U:FnD P w K mg base 1 "_law_times" 4 F_law_times_46)(a0:mg "len" = none)(I:mg "range" = none):FnD P w K mg base 2 "_law_fit" 6 F_law_fit_46:=
 qS (N:=["_law_p","_law_ways_here","_law_under","_law_upper","_law_joins_here","_law_slants","_law_k","_law_begin","_law_end","_law_wide","_law_first","_law_second","_law_i","_law_j","_law_gap"]) D ⋯ λX hP hw hK hm hb y O=>by
  subst hP hw hK hm hb;exact(by refine zf ?_ ?_;exact(jH (T:= .nm 6) (qg O) y.calm (jd y ⋯ I (xC y ⋯ a0 (zc 1 (y.var ⋯)))) (y.tgt 6 ⋯) ((by refine zf ?_ ?_;exact(xD (T:= .tp [7,8]) (y.tgts (zK (y.tgt 7 ⋯) (zK (y.tgt 8 ⋯) jQ))) (z9 Y ⋯ y ⋯ (za (zc 1 (y.var ⋯)) (za (zc 6 (y.var ⋯)) zk))));refine zf ?_ ?_;exact(zL 9 (y.set 9 ⋯ (zC (PV.q (zC (zr 3 (y.var ⋯)) zm)) (zc 7 (y.var ⋯)))));refine zf ?_ ?_;exact(zL 10 (y.set 10 ⋯ (PO.v (q8 U ⋯ y ⋯ (za (zc 0 (y.var ⋯)) (za (zC (PV.q (zC (zr 2 (y.var ⋯)) zm)) (zc 6 (y.var ⋯))) (za (zC (PV.q (zC (zr 5 (y.var ⋯)) (zc 7 (y.var ⋯)))) zm) (za (zc 9 (y.var ⋯)) zk))))))));refine zf ?_ ?_;exact(zL 11 (y.set 11 ⋯ (PO.v (q8 U ⋯ y ⋯ (za (zc 0 (y.var ⋯)) (za (zC (PV.q (zC (zr 5 (y.var ⋯)) (zc 8 (y.var ⋯)))) zm) (za (zC (PV.q (zC (zr 3 (y.var ⋯)) zm)) (zc 6 (y.var ⋯))) (za (zc 9 (y.var ⋯)) zk))))))));exact(zn (jH (T:= .nm 12) (qg O) y.calm (jd y ⋯ I (zC (PV.q (zC (zr 2 (y.var ⋯)) zm)) (zc 8 (y.var ⋯)))) (y.tgt 12 ⋯) (zn (jH (T:= .nm 13) (qg O) y.calm (jd y ⋯ I (zc 9 (y.var ⋯))) (y.tgt 13 ⋯) ((by refine zf ?_ ?_;exact(zL 14 (y.set 14 ⋯ (yT (zC (PV.q (zC (zr 10 (y.var ⋯)) (zc 12 (y.var ⋯)))) (zc 13 (y.var ⋯))) (zC (PV.q (zC (zr 11 (y.var ⋯)) (zc 12 (y.var ⋯)))) (zc 13 (y.var ⋯))))));exact(zn (jY (xV y (qd (yT (zc 14 (y.var ⋯)) (zC (PV.q (zC (PV.q (zC (PV.q (zC (zr 4 (y.var ⋯)) (zc 6 (y.var ⋯)))) zm)) (zc 12 (y.var ⋯)))) (zc 13 (y.var ⋯)))) (zc 0 (y.var ⋯))) zm) (zn (zQ yb)) jc)))))))))));exact(zn (zQ yb)))
theorem ok_law_whole(D:DefAt K mg "_law_whole" (top 47) ["_law_found"])(O:mg "bool" = none)(U:mg "int" = none)(I:mg "isinstance" = none):FnD P w K mg base 1 "_law_whole" 1 F_law_whole:=
 qS (N:=["_law_found"]) D ⋯ λX Y hw hK hm hb y hx=>by
  subst Y hw hK hm hb;exact zn (zQ (wQ (Qp y ⋯ I ⋯ U (zc 0 (y.var ⋯))) (wP (KQ (JG y ⋯ I ⋯ O (zc 0 (y.var ⋯)))))))
theorem ok_law_is_table_46(D:DefAt K mg "_law_is_table" (top 53) ["_law_found","_law_p","_law_high","_law_wide"])(I:FnD P w K mg base 1 "_law_whole" 1 F_law_whole)(a0:mg "all" = none)(O:mg "isinstance" = none)(U:mg "len" = none)(Y:mg "tuple" = none):FnD P w K mg base 2 "_law_is_table" 4 F_law_is_table_46:=
 qS (N:=["_law_found","_law_p","_law_high","_law_wide","_law_row"]) D ⋯ λX hP hw hK hm hb y hx=>by
  subst hP hw hK hm hb;exact(by refine zf ?_ ?_;exact(jY (wR (xU (qu (qz (qX y ⋯ O ⋯ Y (zc 0 (y.var ⋯))))) (xU (xV y (qF y ⋯ U (zr 0 (y.var ⋯))) zm) (xU (qu (qz (z9 I ⋯ y ⋯ (za (zC (zr 0 (y.var ⋯)) zm) zk)))) (kH (qu (qz (z9 I ⋯ y ⋯ (za (zC (zr 0 (y.var ⋯)) zm) zk))))))))) (zn (zQ yb)) jc);refine zf ?_ ?_;exact(jY (wR (xU (xV y (zC (zr 0 (y.var ⋯)) zm) (zc 2 (y.var ⋯))) (xU (xV y (zC (zr 0 (y.var ⋯)) zm) (zc 3 (y.var ⋯))) (xU (qu (qz (qX y ⋯ O ⋯ Y (zC (zr 0 (y.var ⋯)) zm)))) (kH (xV y (qF y ⋯ U (PV.q (zC (zr 0 (y.var ⋯)) zm))) (zc 2 (y.var ⋯)))))))) (zn (zQ yb)) jc);refine zf ?_ ?_;exact(jH (T:= .nm 4) (qg hx) y.calm (yc (zC (zr 0 (y.var ⋯)) zm)) (y.tgt 4 ⋯) ((by refine zf ?_ ?_;exact(jY (wR (xU (qu (qz (qX y ⋯ O ⋯ Y (zc 4 (y.var ⋯))))) (kH (xV y (qF y ⋯ U (zr 4 (y.var ⋯))) (zc 3 (y.var ⋯)))))) (zn (zQ yb)) jc);exact(zn (jY (qu (qz (KS y ⋯ a0 (PO.q (jk (own:=["_law_number"]) (fr:=[("_law_p",1)]) (T:= .nm 0) y.calm (y.compOk (fr:=[("_law_p",1)]) ⋯) ⋯ (jI (zr 4 (y.var ⋯))) (λfp s2 H2=>have h1:=y.cq ["_law_number"] [("_law_p",1)] fp s2 H2 ⋯;h1.tgt 0 ⋯) (λfp s2 H2=>have h1:=y.cq ["_law_number"] [("_law_p",1)] fp s2 H2 ⋯;wQ (z9 I ⋯ h1 ⋯ (za (zc 0 (h1.var ⋯)) zk)) (wP (XQ zbd zbc V6 V5 zm (zc 0 (h1.var ⋯)) (zc 1 (h1.var ⋯)))))))))) (zn (zQ yb)) jc)))));exact(zn (zQ yb)))
theorem ok_law_are_tables_46(D:DefAt K mg "_law_are_tables" (top 54) ["_law_found","_law_p","_law_highs","_law_wides"])(O:FnD P w K mg base 2 "_law_is_table" 4 F_law_is_table_46)(U:mg "all" = none)(Y:mg "isinstance" = none)(I:mg "len" = none)(a0:mg "list" = none)(a1:mg "range" = none):FnD P w K mg base 3 "_law_are_tables" 4 F_law_are_tables_46:=
 qS (N:=["_law_found","_law_p","_law_highs","_law_wides"]) D ⋯ λX hP hw hK hm hb y hx=>by
  subst hP hw hK hm hb;exact(by refine zf ?_ ?_;exact(jY (wR (xU (qu (qz (JF y ⋯ Y ⋯ a0 (zc 0 (y.var ⋯))))) (kH (xV y (qF y ⋯ I (zr 0 (y.var ⋯))) (qF y ⋯ I (zr 2 (y.var ⋯))))))) (zn (zQ yb)) jc);exact(zn (zQ (KS y ⋯ U (PO.q (jk (own:=["_law_k"]) (fr:=[("_law_found",0),("_law_p",1),("_law_highs",2),("_law_wides",3)]) (T:= .nm 0) y.calm (y.compOk (fr:=[("_law_found",0),("_law_p",1),("_law_highs",2),("_law_wides",3)]) ⋯) ⋯ (PIF.c (jd y ⋯ a1 (qF y ⋯ I (zr 2 (y.var ⋯))))) (λfp s2 H2=>have h1:=y.cq ["_law_k"] [("_law_found",0),("_law_p",1),("_law_highs",2),("_law_wides",3)] fp s2 H2 ⋯;h1.tgt 0 ⋯) (λfp s2 H2=>have h1:=y.cq ["_law_k"] [("_law_found",0),("_law_p",1),("_law_highs",2),("_law_wides",3)] fp s2 H2 ⋯;z9 O ⋯ h1 ⋯ (za (zC (zr 1 (h1.var ⋯)) (zc 0 (h1.var ⋯))) (za (zc 2 (h1.var ⋯)) (za (zC (zr 3 (h1.var ⋯)) (zc 0 (h1.var ⋯))) (za (zC (zr 4 (h1.var ⋯)) (zc 0 (h1.var ⋯))) zk)))))))))))
theorem ok_law_traces(D:DefAt K mg "_law_traces" (top 61) ["_law_p","_law_ways_here","_law_weights","_law_joins_here"])(U:mg "len" = none)(I:mg "range" = none)(Y:mg "sum" = none):FnD P w K mg base 1 "_law_traces" 4 F_law_traces:=
 qS (N:=["_law_p","_law_ways_here","_law_weights","_law_joins_here","_law_total","_law_k","_law_high","_law_wide","_law_rows","_law_i","_law_join"]) D ⋯ λX hP hw hK hm hb y O=>by
  subst hP hw hK hm hb;exact(by refine zf ?_ ?_;exact(zL 4 (y.set 4 ⋯ zm));refine zf ?_ ?_;exact(jH (T:= .nm 5) (qg O) y.calm (jd y ⋯ I (xC y ⋯ U (zc 1 (y.var ⋯)))) (y.tgt 5 ⋯) ((by refine zf ?_ ?_;exact(xD (T:= .tp [6,7,8]) (y.tgts (zK (y.tgt 6 ⋯) (zK (y.tgt 7 ⋯) (zK (y.tgt 8 ⋯) jQ)))) (zC (zr 2 (y.var ⋯)) (zc 5 (y.var ⋯))));exact(zn (jH (T:= .nm 9) (qg O) y.calm (jd y ⋯ I (zc 6 (y.var ⋯))) (y.tgt 9 ⋯) ((by refine zf ?_ ?_;exact(zL 10 (y.set 10 ⋯ (zC (PV.q (zC (zr 3 (y.var ⋯)) (zc 5 (y.var ⋯)))) zm)));exact(zn (zL 4 (y.set 4 ⋯ (jG (zc 4 (y.var ⋯)) (wO y ⋯ Y (PO.q (jk (own:=["_law_j"]) (fr:=[("_law_rows",8),("_law_i",9),("_law_join",10)]) (T:= .nm 0) y.calm (y.compOk (fr:=[("_law_rows",8),("_law_i",9),("_law_join",10)]) ⋯) ⋯ (PIF.c (jd y ⋯ I (zc 7 (y.var ⋯)))) (λfp s2 H2=>have h1:=y.cq ["_law_j"] [("_law_rows",8),("_law_i",9),("_law_join",10)] fp s2 H2 ⋯;h1.tgt 0 ⋯) (λfp s2 H2=>have h1:=y.cq ["_law_j"] [("_law_rows",8),("_law_i",9),("_law_join",10)] fp s2 H2 ⋯;qm (zC (PV.q (zC (zr 1 (h1.var ⋯)) (zc 2 (h1.var ⋯)))) (zc 0 (h1.var ⋯))) (zC (PV.q (zC (zr 3 (h1.var ⋯)) (zc 0 (h1.var ⋯)))) (zc 2 (h1.var ⋯))))))))))))))))));exact(zn (zQ (qd (zc 4 (y.var ⋯)) (zc 0 (y.var ⋯))))))
theorem ok_law_rows_added(D:DefAt K mg "_law_rows_added" (top 59) ["_law_ones","_law_others","_law_times_here"])(I:mg "zip" = none):FnD P w K mg base 1 "_law_rows_added" 3 F_law_rows_added:=
 qS (N:=["_law_ones","_law_others","_law_times_here","_law_rows","_law_one","_law_other"]) D ⋯ λX O hw U hm Y y hx=>by
  subst O hw U hm Y;exact(by refine zf ?_ ?_;exact(qk 3 (y.set 3 ⋯ (qZ (xP zk))));refine zf ?_ ?_;exact(jH (T:= .tp [4,5]) (qg hx) y.calm (yl y ⋯ I (zc 0 (y.var ⋯)) (zc 1 (y.var ⋯))) (y.tgts (zK (y.tgt 4 ⋯) (zK (y.tgt 5 ⋯) jQ))) (zn (xX 3 y ⋯ (PO.v (jk (own:=["_law_a","_law_b"]) (fr:=[("_law_times_here",2)]) (T:= .tp [0,1]) y.calm (y.compOk (fr:=[("_law_times_here",2)]) ⋯) ⋯ (PIF.c (yl y ⋯ I (zc 4 (y.var ⋯)) (zc 5 (y.var ⋯)))) (λfp s2 H2=>have h1:=y.cq ["_law_a","_law_b"] [("_law_times_here",2)] fp s2 H2 ⋯;h1.tgts (zK (h1.tgt 0 ⋯) (zK (h1.tgt 1 ⋯) jQ))) (λfp s2 H2=>have h1:=y.cq ["_law_a","_law_b"] [("_law_times_here",2)] fp s2 H2 ⋯;jG (zc 0 (h1.var ⋯)) (qm (zc 2 (h1.var ⋯)) (zc 1 (h1.var ⋯)))))))));exact(zn (qQ 3 (y.var ⋯))))
theorem ok_law_room_stays(D:DefAt K mg "_law_room_stays" (top 60) ["_law_p","_law_ways_here","_law_under","_law_upper","_law_weights","_law_room"])(a0:FnD P w K mg base 1 "_law_ends" 2 F_law_ends)(I:FnD P w K mg base 1 "_law_times" 4 F_law_times_46)(O:FnD P w K mg base 1 "_law_rows_added" 3 F_law_rows_added)(U:mg "any" = none)(a1:mg "len" = none)(Y:mg "range" = none):FnD P w K mg base 2 "_law_room_stays" 6 F_law_room_stays:=
 qS (N:=["_law_p","_law_ways_here","_law_under","_law_upper","_law_weights","_law_room","_law_total","_law_k","_law_begin","_law_end","_law_some"]) D ⋯ λX hP hw hK hm hb y hx=>by
  subst hP hw hK hm hb;exact(by refine zf ?_ ?_;exact(qA 6 (psc 6 y ⋯ (own:=["_law_i"]) (fr:=[("_law_under",2),("_law_room",5)]) (T:= .nm 0) y.calm (y.compOk (fr:=[("_law_under",2),("_law_room",5)]) ⋯) ⋯ (PIF.c (jd y ⋯ Y (zC (PV.q (zC (zr 3 (y.var ⋯)) zm)) (zc 5 (y.var ⋯))))) (λfp s2 H2=>have h1:=y.cq ["_law_i"] [("_law_under",2),("_law_room",5)] fp s2 H2 ⋯;h1.tgt 0 ⋯) (λfp s2 H2=>have h1:=y.cq ["_law_i"] [("_law_under",2),("_law_room",5)] fp s2 H2 ⋯;PO.v (KU (qZ (xP (za zm zk))) (zC (PV.q (zC (zr 1 (h1.var ⋯)) zm)) (zc 2 (h1.var ⋯)))))));refine zf ?_ ?_;exact(jH (T:= .nm 7) (qg hx) y.calm (jd y ⋯ Y (xC y ⋯ a1 (zc 1 (y.var ⋯)))) (y.tgt 7 ⋯) ((by refine zf ?_ ?_;exact(xD (T:= .tp [8,9]) (y.tgts (zK (y.tgt 8 ⋯) (zK (y.tgt 9 ⋯) jQ))) (z9 a0 ⋯ y ⋯ (za (zc 1 (y.var ⋯)) (za (zc 7 (y.var ⋯)) zk))));refine zf ?_ ?_;exact(jY (xJ y (zc 8 (y.var ⋯)) (zc 5 (y.var ⋯))) ((by refine zf ?_ ?_;exact(zL 10 (y.set 10 ⋯ (PO.v (q8 I ⋯ y ⋯ (za (zc 0 (y.var ⋯)) (za (zC (PV.q (zC (zr 4 (y.var ⋯)) (zc 7 (y.var ⋯)))) zm) (za (zC (PV.q (zC (zr 2 (y.var ⋯)) zm)) (zc 7 (y.var ⋯))) (za (zC (PV.q (zC (zr 2 (y.var ⋯)) zm)) (zc 5 (y.var ⋯))) zk))))))));exact(zn (zL 6 (y.set 6 ⋯ (PO.v (q8 O ⋯ y ⋯ (za (zc 6 (y.var ⋯)) (za (zc 10 (y.var ⋯)) (za zm zk)))))))))) jc);exact(zn (jY (xJ y (zc 9 (y.var ⋯)) (zc 5 (y.var ⋯))) ((by refine zf ?_ ?_;exact(zL 10 (y.set 10 ⋯ (PO.v (q8 I ⋯ y ⋯ (za (zc 0 (y.var ⋯)) (za (zC (PV.q (zC (zr 3 (y.var ⋯)) zm)) (zc 7 (y.var ⋯))) (za (zC (PV.q (zC (zr 4 (y.var ⋯)) (zc 7 (y.var ⋯)))) zm) (za (zC (PV.q (zC (zr 2 (y.var ⋯)) zm)) (zc 5 (y.var ⋯))) zk))))))));exact(zn (zL 6 (y.set 6 ⋯ (PO.v (q8 O ⋯ y ⋯ (za (zc 6 (y.var ⋯)) (za (zc 10 (y.var ⋯)) (za (yT zm zm) zk)))))))))) jc)))));exact(zn (zQ (KQ (KR y ⋯ U (PO.q (jk (own:=["_law_row"]) (fr:=[("_law_p",0)]) (T:= .nm 0) y.calm (y.compOk (fr:=[("_law_p",0)]) ⋯) ⋯ (jI (zr 6 (y.var ⋯))) (λfp s2 H2=>have h1:=y.cq ["_law_row"] [("_law_p",0)] fp s2 H2 ⋯;h1.tgt 0 ⋯) (λfp s2 H2=>have h1:=y.cq ["_law_row"] [("_law_p",0)] fp s2 H2 ⋯;KR h1 ⋯ U (PO.q (jk (own:=["_law_number"]) (fr:=[("_law_p",1)]) (T:= .nm 0) h1.calm (h1.compOk (fr:=[("_law_p",1)]) ⋯) ⋯ (jI (zr 0 (h1.var ⋯))) (λfp s2 H2=>have h2:=h1.cq ["_law_number"] [("_law_p",1)] fp s2 H2 ⋯;h2.tgt 0 ⋯) (λfp s2 H2=>have h2:=h1.cq ["_law_number"] [("_law_p",1)] fp s2 H2 ⋯;qd (zc 0 (h2.var ⋯)) (zc 1 (h2.var ⋯)))))))))))))
theorem ok_law_stuck(D:DefAt K mg "_law_stuck" (top 62) ["_law_p","_law_ways_here","_law_under","_law_upper","_law_joins_here","_law_weights"])(U:FnD P w K mg base 1 "_law_ends" 2 F_law_ends)(Y:FnD P w K mg base 3 "_law_are_tables" 4 F_law_are_tables_46)(a0:FnD P w K mg base 1 "_law_traces" 4 F_law_traces)(a1:FnD P w K mg base 2 "_law_room_stays" 6 F_law_room_stays)(I:mg "len" = none)(O:mg "range" = none):FnD P w K mg base 4 "_law_stuck" 6 F_law_stuck:=
 qS (N:=["_law_p","_law_ways_here","_law_under","_law_upper","_law_joins_here","_law_weights","_law_ends_here","_law_highs","_law_room"]) D ⋯ λX hP hw hK hm hb y hx=>by
  subst hP hw hK hm hb;exact(by refine zf ?_ ?_;exact(qA 6 (psc 6 y ⋯ (own:=["_law_k"]) (fr:=[("_law_ways_here",1)]) (T:= .nm 0) y.calm (y.compOk (fr:=[("_law_ways_here",1)]) ⋯) ⋯ (PIF.c (jd y ⋯ O (xC y ⋯ I (zc 1 (y.var ⋯))))) (λfp s2 H2=>have h1:=y.cq ["_law_k"] [("_law_ways_here",1)] fp s2 H2 ⋯;h1.tgt 0 ⋯) (λfp s2 H2=>have h1:=y.cq ["_law_k"] [("_law_ways_here",1)] fp s2 H2 ⋯;z9 U ⋯ h1 ⋯ (za (zc 1 (h1.var ⋯)) (za (zc 0 (h1.var ⋯)) zk)))));refine zf ?_ ?_;exact(qA 7 (psc 7 y ⋯ (own:=["_law_begin","_law_end"]) (fr:=[("_law_upper",3)]) (T:= .tp [0,1]) y.calm (y.compOk (fr:=[("_law_upper",3)]) ⋯) ⋯ (jI (zr 6 (y.var ⋯))) (λfp s2 H2=>have h1:=y.cq ["_law_begin","_law_end"] [("_law_upper",3)] fp s2 H2 ⋯;h1.tgts (zK (h1.tgt 0 ⋯) (zK (h1.tgt 1 ⋯) jQ))) (λfp s2 H2=>have h1:=y.cq ["_law_begin","_law_end"] [("_law_upper",3)] fp s2 H2 ⋯;zC (PV.q (zC (zr 2 (h1.var ⋯)) zm)) (zc 0 (h1.var ⋯)))));refine zf ?_ ?_;exact(jY (qu (qz (z9 Y ⋯ y ⋯ (za (zc 5 (y.var ⋯)) (za (zc 0 (y.var ⋯)) (za (zc 7 (y.var ⋯)) (za (PO.v (jk (own:=["_law_begin","_law_end"]) (fr:=[("_law_under",2)]) (T:= .tp [0,1]) y.calm (y.compOk (fr:=[("_law_under",2)]) ⋯) ⋯ (jI (zr 6 (y.var ⋯))) (λfp s2 H2=>have h1:=y.cq ["_law_begin","_law_end"] [("_law_under",2)] fp s2 H2 ⋯;h1.tgts (zK (h1.tgt 0 ⋯) (zK (h1.tgt 1 ⋯) jQ))) (λfp s2 H2=>have h1:=y.cq ["_law_begin","_law_end"] [("_law_under",2)] fp s2 H2 ⋯;zC (PV.q (zC (zr 2 (h1.var ⋯)) zm)) (zc 1 (h1.var ⋯))))) zk))))))) (zn (zQ yb)) jc);refine zf ?_ ?_;exact(jH (T:= .nm 8) (qg hx) y.calm (jd y ⋯ O (jG (xC y ⋯ I (zc 1 (y.var ⋯))) zm)) (y.tgt 8 ⋯) (zn (jY (qu (qz (z9 a1 ⋯ y ⋯ (za (zc 0 (y.var ⋯)) (za (zc 1 (y.var ⋯)) (za (zc 2 (y.var ⋯)) (za (zc 3 (y.var ⋯)) (za (zc 5 (y.var ⋯)) (za (zc 8 (y.var ⋯)) zk))))))))) (zn (zQ yb)) jc)));exact(zn (zQ (za6 y (z9 a0 ⋯ y ⋯ (za (zc 0 (y.var ⋯)) (za (zc 1 (y.var ⋯)) (za (zc 5 (y.var ⋯)) (za (zc 4 (y.var ⋯)) zk))))) zm))))
theorem ok_law_right_47(D:DefAt K mg "_law_right" (top 63) ["_law_found","_law_p","_law_ways_here","_law_under","_law_upper","_law_joins_here"])(I:FnD P w K mg base 2 "_law_fit" 6 F_law_fit_46)(O:FnD P w K mg base 4 "_law_stuck" 6 F_law_stuck)(U:FnD P w K mg base 3 "_law_are_tables" 4 F_law_are_tables_46)(Y:mg "isinstance" = none)(a0:mg "len" = none)(a1:mg "tuple" = none):FnD P w K mg base 5 "_law_right" 6 F_law_right_47:=
 qS (N:=["_law_found","_law_p","_law_ways_here","_law_under","_law_upper","_law_joins_here"]) D ⋯ λX hP hw hK hm hb y hx=>by
  subst hP hw hK hm hb;exact(by refine zf ?_ ?_;exact(jY (wR (xU (qu (qz (qX y ⋯ Y ⋯ a1 (zc 0 (y.var ⋯))))) (kH (xV y (qF y ⋯ a0 (zr 0 (y.var ⋯))) zm)))) (zn (zQ yb)) jc);refine zf ?_ ?_;exact(jY (xJ y (zC (zr 0 (y.var ⋯)) zm) xI) (zn (zQ (z9 O ⋯ y ⋯ (za (zc 1 (y.var ⋯)) (za (zc 2 (y.var ⋯)) (za (zc 3 (y.var ⋯)) (za (zc 4 (y.var ⋯)) (za (zc 5 (y.var ⋯)) (za (zC (zr 0 (y.var ⋯)) zm) zk))))))))) jc);refine zf ?_ ?_;exact(jY (wR (xU (xV y (zC (zr 0 (y.var ⋯)) zm) xI) (kH (qu (qz (z9 U ⋯ y ⋯ (za (zC (zr 0 (y.var ⋯)) zm) (za (zc 1 (y.var ⋯)) (za (zC (zr 3 (y.var ⋯)) zm) (za (zC (zr 4 (y.var ⋯)) zm) zk)))))))))) (zn (zQ yb)) jc);exact(zn (zQ (z9 I ⋯ y ⋯ (za (zc 1 (y.var ⋯)) (za (zc 2 (y.var ⋯)) (za (zc 3 (y.var ⋯)) (za (zc 4 (y.var ⋯)) (za (zc 5 (y.var ⋯)) (za (zC (zr 0 (y.var ⋯)) zm) zk))))))))))
theorem ok_law_told_47(D:DefAt K mg "_law_told" (top 64) ["_law_p","_law_ways_here","_law_under","_law_upper","_law_joins_here"])(I:FnD P w K mg base 2 "_law_handed" 3 F_law_handed_44)(Y:FnD P w K mg base 7 "fallen" 3 F_fallen)(O:FnD P w K mg base 5 "_law_right" 6 F_law_right_47)(a0:FnG P w K mg base 7 "fallen" 3 F_fallen)(U:mg "list" = none):FnD P w K mg base 8 "_law_told" 5 F_law_told_47:=
 qS (N:=["_law_p","_law_ways_here","_law_under","_law_upper","_law_joins_here","_law_one","_law_other","_law_found","_law_again"]) D ⋯ λX hP hw hK hm hb y hx=>by
  subst hP hw hK hm hb;exact(by refine zf ?_ ?_;exact(zL 5 (y.set 5 ⋯ (z9 I ⋯ y ⋯ (za (zc 0 (y.var ⋯)) (za (zc 1 (y.var ⋯)) (za (zc 2 (y.var ⋯)) zk))))));refine zf ?_ ?_;exact(zL 6 (y.set 6 ⋯ (z9 I ⋯ y ⋯ (za (zc 0 (y.var ⋯)) (za (zc 1 (y.var ⋯)) (za (zc 3 (y.var ⋯)) zk))))));exact(Qs 7 y ⋯ (y.set 7 ⋯ (Wn a0 ⋯ y ⋯ (za (zc 5 (y.var ⋯)) (za (zc 6 (y.var ⋯)) (za (PO.v (Qv y ⋯ U (zr 4 (y.var ⋯)))) zk))))) (qu (qz (z9 O ⋯ y ⋯ (za (zc 7 (y.var ⋯)) (za (zc 0 (y.var ⋯)) (za (zc 1 (y.var ⋯)) (za (zc 2 (y.var ⋯)) (za (zc 3 (y.var ⋯)) (za (zc 4 (y.var ⋯)) zk))))))))) yb zm ((by refine zf ?_ ?_;exact(zL 8 (y.set 8 ⋯ (z9 Y ⋯ y ⋯ (za (zc 5 (y.var ⋯)) (za (zc 6 (y.var ⋯)) (za (PO.v (Qv y ⋯ U (zr 4 (y.var ⋯)))) zk))))));exact(zn (zQ (wQ (z9 O ⋯ y ⋯ (za (zc 8 (y.var ⋯)) (za (zc 0 (y.var ⋯)) (za (zc 1 (y.var ⋯)) (za (zc 2 (y.var ⋯)) (za (zc 3 (y.var ⋯)) (za (zc 4 (y.var ⋯)) zk))))))) (wP (XO y (zC (zr 8 (y.var ⋯)) zm) (zC (zr 7 (y.var ⋯)) zm))))))))))
theorem ok_law{f:Addr}{fd:FuncData}(D:L2.Fun K "law" "law" (top 65) f fd)(O:FnD P w K mg base 1 "_law_cell" 2 F_law_cell_44)(U:FnD P w K mg base 1 "_law_ways" 2 F_law_ways_k38)(I:FnD P w K mg base 3 "_law_any" 7 F_law_any_47)(Y:FnD P w K mg base 3 "_law_joins" 7 F_law_joins)(a0:FnD P w K mg base 8 "_law_told" 5 F_law_told_47):FnOk P w K mg base CX0 9 f fd ["_law_script"] (spF K 1 F_law_k47):=
 zbq (N:=["_law_script","_law_cell_here","_law_p","_law_ways_here","_law_under","_law_upper","_law_joins_here"]) D ⋯ λX hP hw hK hm hb y hx=>by
  subst hP hw hK hm hb;exact(by refine zf ?_ ?_;exact(zL 1 (y.set 1 ⋯ (z9 O ⋯ y ⋯ (za (zc 0 (y.var ⋯)) (za zm zk)))));refine zf ?_ ?_;exact(zL 2 (y.set 2 ⋯ (zC (PO.q (qZ (xP (za zm (za zm (za zm (za zm zk))))))) (qd (zc 1 (y.var ⋯)) zm))));refine zf ?_ ?_;exact(zL 3 (y.set 3 ⋯ (z9 U ⋯ y ⋯ (za (xv (zc 1 (y.var ⋯)) zm) (za (jG zm (qd (xv (zc 1 (y.var ⋯)) zm) zm)) zk)))));refine zf ?_ ?_;exact(zL 4 (y.set 4 ⋯ (z9 I ⋯ y ⋯ (za (zc 0 (y.var ⋯)) (za zm (za (zc 2 (y.var ⋯)) (za (zc 3 (y.var ⋯)) (za zm (za (qd (xv (zc 1 (y.var ⋯)) zm) zm) (za (xv (zc 1 (y.var ⋯)) zm) zk))))))))));refine zf ?_ ?_;exact(zL 5 (y.set 5 ⋯ (z9 I ⋯ y ⋯ (za (zc 0 (y.var ⋯)) (za zm (za (zc 2 (y.var ⋯)) (za (zc 3 (y.var ⋯)) (za zm (za (qd (xv (zc 1 (y.var ⋯)) zm) zm) (za zm zk))))))))));refine zf ?_ ?_;exact(zL 6 (y.set 6 ⋯ (PO.v (q8 Y ⋯ y ⋯ (za (zc 0 (y.var ⋯)) (za zm (za (zc 2 (y.var ⋯)) (za (zc 3 (y.var ⋯)) (za (zc 4 (y.var ⋯)) (za (zc 5 (y.var ⋯)) (za (qd (xv (zc 1 (y.var ⋯)) zm) zm) zk)))))))))));exact(zn (zQ (z9 a0 ⋯ y ⋯ (za (zc 2 (y.var ⋯)) (za (zc 3 (y.var ⋯)) (za (zc 4 (y.var ⋯)) (za (zc 5 (y.var ⋯)) (za (zc 6 (y.var ⋯)) zk)))))))))
end
end DL
namespace PySem.W.Fast
def tw12703266907097688080:=0
def tw8707120538072922801:=0
def tw4508046260313690311:=0
def tw10839062057361938636:=0
def tw4017332879062850325:=0
def tw15949614062009146877:=0
def tw10293918285408894965:=0
def tw16973084088724544447:=0
def tw15561661966410070998:=0
def tw5116095205404221482:=0
def tw14457557745422245617:=0
def tw13389254343453715923:=0
def tw8777088762487845695:=0
def tw15196346358982275314:=0
def tw175116269189032918:=0
def tw2538747328977627672:=0
def tw10658466481449294596:=0
def tw2347469259316451033:=0
def tw4127818212241266033:=0
def tw15086808405813123432:=0
def tw4161851059034202948:=0
def tw724994392466021232:=0
def tw5547253668632398679:=0
def tw4685180414766144474:=0
def tw3579911020088418128:=0
def tw4205857892229613276:=0
def tw10318123821124065578:=0
def tw3916633553804373700:=0
def tw5203723166487258448:=0
def tw11036687414571546060:=0
def tw18096481851798994045:=0
def tw9368069969765157255:=0
def tw12470554316464864802:=0
def tw11578581962500091519:=0
def tw9338385037314121389:=0
def tw10989769373166911751:=0
def tw6816537774345957884:=0
def tw6207440516603744988:=0
def tw5140938069962512081:=0
def tw4745247714881020360:=0
def tw13220912460257479694:=0
def tw14214211944920374607:=0
def tw369852701125891377:=0
def tw17776410709227448180:=0
def tw147593108756425193:=0
def tw11675371196440828715:=0
def tw7097256377134843348:=0
def tw6429674090002520094:=0
def tw14377251716057622397:=0
def tw12878131669647849590:=0
def tw13163451711387308320:=0
def tw6607511270326515868:=0
def tw4762045254173219813:=0
def tw17422110208895321627:=0
def tw13235535557883572231:=0
def tw15170990466024864122:=0
def tw10839075520267399176:=0
def tw3201941579277988888:=0
def tw18161399947802425661:=0
def tw2434025328035443367:=0
def tw16385167660578886710:=0
def tw6198714130700755682:=0
def tw1299091149628386824:=0
def tw14258846832023167810:=0
def tw6284788891274842606:=0
def tw5095584938760454211:=0
def tw14637696138487761788:=0
def tw5534852842789747893:=0
def tw11600235742443378637:=0
def tw16836271778880308281:=0
def tw5268409900865671959:=0
def tw18306335739514365223:=0
def tw6466307091456977020:=0
def tw72979352881026754:=0
def tw6380505115021526849:=0
def tw5279203772450378465:=0
def tw1193886882216780569:=0
def tw10306108543424292935:=0
def tw17844810897178611330:=0
def tw801784281151416764:=0
def tw9117174898128579339:=0
def tw8880614636743225837:=0
def tw14864134047079593560:=0
def tw10964435473076551794:=0
def tw1821328273250973554:=0
def tw418416611104688429:=0
def tw14393633872092965108:=0
def tw2112178844473640790:=0
def tw10767987837072940680:=0
def tw3448162153604951808:=0
def tw16596821158089710702:=0
def tw9317995342571486850:=0
def tw17731566415712958510:=0
def tw14771782409365626652:=0
def tw17333409908191290626:=0
def tw17424604025345277702:=0
def tw14219416365701064372:=0
def tw18171170110797638189:=0
def tw12641504575255511950:=0
def tw6633575876294509321:=0
def tw10946270642785404615:=0
def tw7663255621311613192:=0
def tw11441149462973799521:=0
def tw5639055001425835321:=0
end PySem.W.Fast
open PySem PySem.W PyProof.Rows
set_option maxRecDepth 100000 in
set_option maxHeartbeats 0 in
theorem PySem.Challenge.cw_barsplit_k47_whole_parted_or_stuck_holds : PySem.Challenge.rw_barsplit_k47_whole_parted_or_stuck.Holds := by
 w_on;o_law;k_head;(case hw=>w_witness2)
 k_fill
 refine L2.walk_ofK (l:=zcI) (n:=63) (k:=9) (x:="_law_script") (CX:=L2.CX0) (sp:=λK=>DL.spF K 1 DL.F_law_k47) rfl ⋯ rfl ⟨rfl,by decide,by decide⟩ (λw h Y=>PySem.W.kIn_of Y) ?F ?S ?C
 case S=>exact λK H a ns I hO hS=>DL.law_true hS (DL.law_k47 ns I)
 case C=>exact λ_ _ _ _ z=>z
 case F=>
  intro w mg fa h y G aw;have ag:mg "all" = none:=zdq y G (by k_is);have ax:mg "any" = none:=zdq y G (by k_is);have ay:mg "bool" = none:=zdq y G (by k_is);have a8:mg "enumerate" = none:=zdq y G (by k_is);have ah:mg "int" = none:=zdq y G (by k_is);have a4:mg "isinstance" = none:=zdq y G (by k_is);have a0:mg "len" = none:=zdq y G (by k_is);have a9:mg "list" = none:=zdq y G (by k_is);have az:mg "min" = none:=zdq y G (by k_is);have O:mg "range" = none:=zdq y G (by k_is);have a5:mg "sum" = none:=zdq y G (by k_is);have U:mg "tuple" = none:=zdq y G (by k_is);have a1:mg "zip" = none:=zdq y G (by k_is);have b0:DL.GL (L2.KOf y) mg "BEYOND_ALL_ARROWS" (.int 5):=by
   dsimp only [L2.KOf];refine' DL.gl_int y G ?a
   (case a=>k_is)
  have b1:DL.GL (L2.KOf y) mg "MOST_TOGETHER" (.int 30):=by
   dsimp only [L2.KOf];refine' DL.gl_int y G ?a
   (case a=>k_is)
  have b2:DL.DefAt (L2.KOf y) mg "_law_cell" (DL.top 46) ["_law_script","_law_k"]:=by
   dsimp only [L2.KOf];refine' DL.def_mk y G ?a ?l ?c ?k ?b
   (case a=>k_is);(case l=>k_is);(case c=>k_is);(case k=>k_is)
   (case b=>intro _ _ _ _ _ _ us I;obtain⟨_,_,rfl⟩:=DL.len2 I;rfl)
  have b3:DL.DefAt (L2.KOf y) mg "_law_ways" (DL.top 50) ["_law_cell_here","_law_rooms"]:=by
   dsimp only [L2.KOf];refine' DL.def_mk y G ?a ?l ?c ?k ?b
   (case a=>k_is);(case l=>k_is);(case c=>k_is);(case k=>k_is)
   (case b=>intro _ _ _ _ _ _ us I;obtain⟨_,_,rfl⟩:=DL.len2 I;rfl)
  have b4:DL.DefAt (L2.KOf y) mg "_law_ends" (DL.top 48) ["_law_ways_here","_law_k"]:=by
   dsimp only [L2.KOf];refine' DL.def_mk y G ?a ?l ?c ?k ?b
   (case a=>k_is);(case l=>k_is);(case c=>k_is);(case k=>k_is)
   (case b=>intro _ _ _ _ _ _ us I;obtain⟨_,_,rfl⟩:=DL.len2 I;rfl)
  have b5:DL.DefAt (L2.KOf y) mg "_law_table" (DL.top 55) ["_law_script","_law_at","_law_p","_law_high","_law_wide","_law_few"]:=by
   dsimp only [L2.KOf];refine' DL.def_mk y G ?a ?l ?c ?k ?b
   (case a=>k_is);(case l=>k_is);(case c=>k_is);(case k=>k_is)
   (case b=>intro _ _ _ _ _ _ us I;obtain⟨_,_,_,_,_,_,rfl⟩:=DL.len6 I;rfl)
  have b6:DL.DefAt (L2.KOf y) mg "_law_any" (DL.top 56) ["_law_script","_law_at","_law_p","_law_ways_here","_law_most","_law_few","_law_odd"]:=by
   dsimp only [L2.KOf];refine' DL.def_mk y G ?a ?l ?c ?k ?b
   (case a=>k_is);(case l=>k_is);(case c=>k_is);(case k=>k_is)
   (case b=>intro _ _ _ _ _ _ us I;obtain⟨_,_,_,_,_,_,_,rfl⟩:=DL.len7 I;rfl)
  have b7:DL.DefAt (L2.KOf y) mg "_law_joins" (DL.top 57) ["_law_script","_law_at","_law_p","_law_ways_here","_law_under","_law_upper","_law_few"]:=by
   dsimp only [L2.KOf];refine' DL.def_mk y G ?a ?l ?c ?k ?b
   (case a=>k_is);(case l=>k_is);(case c=>k_is);(case k=>k_is)
   (case b=>intro _ _ _ _ _ _ us I;obtain⟨_,_,_,_,_,_,_,rfl⟩:=DL.len7 I;rfl)
  have b8:DL.DefAt (L2.KOf y) mg "_law_handed" (DL.top 52) ["_law_p","_law_ways_here","_law_row"]:=by
   dsimp only [L2.KOf];refine' DL.def_mk y G ?a ?l ?c ?k ?b
   (case a=>k_is);(case l=>k_is);(case c=>k_is);(case k=>k_is)
   (case b=>intro _ _ _ _ _ _ us I;obtain⟨_,_,_,rfl⟩:=DL.len3 I;rfl)
  have b9:DL.DefAt (L2.KOf y) mg "ways_of" (DL.top 19) ["row"]:=by
   dsimp only [L2.KOf];refine' DL.def_mk y G ?a ?l ?c ?k ?b
   (case a=>k_is);(case l=>k_is);(case c=>k_is);(case k=>k_is)
   (case b=>intro _ _ _ _ _ _ us I;obtain⟨_,rfl⟩:=DL.len1 I;rfl)
  have ba:DL.DefAt (L2.KOf y) mg "one_kind" (DL.top 20) ["one","other"]:=by
   dsimp only [L2.KOf];refine' DL.def_mk y G ?a ?l ?c ?k ?b
   (case a=>k_is);(case l=>k_is);(case c=>k_is);(case k=>k_is)
   (case b=>intro _ _ _ _ _ _ us I;obtain⟨_,_,rfl⟩:=DL.len2 I;rfl)
  have bb:DL.DefAt (L2.KOf y) mg "ask_one_kind" (DL.top 21) ["one","other"]:=by
   dsimp only [L2.KOf];refine' DL.def_mk y G ?a ?l ?c ?k ?b
   (case a=>k_is);(case l=>k_is);(case c=>k_is);(case k=>k_is)
   (case b=>intro _ _ _ _ _ _ us I;obtain⟨_,_,rfl⟩:=DL.len2 I;rfl)
  have bc:DL.DefAt (L2.KOf y) mg "end_of" (DL.top 18) ["k","way"]:=by
   dsimp only [L2.KOf];refine' DL.def_mk y G ?a ?l ?c ?k ?b
   (case a=>k_is);(case l=>k_is);(case c=>k_is);(case k=>k_is)
   (case b=>intro _ _ _ _ _ _ us I;obtain⟨_,_,rfl⟩:=DL.len2 I;rfl)
  have bd:DL.DefAt (L2.KOf y) mg "beginning_of" (DL.top 17) ["k","way"]:=by
   dsimp only [L2.KOf];refine' DL.def_mk y G ?a ?l ?c ?k ?b
   (case a=>k_is);(case l=>k_is);(case c=>k_is);(case k=>k_is)
   (case b=>intro _ _ _ _ _ _ us I;obtain⟨_,_,rfl⟩:=DL.len2 I;rfl)
  have be:DL.DefAt (L2.KOf y) mg "arrow_sizes" (DL.top 32) ["one","other"]:=by
   dsimp only [L2.KOf];refine' DL.def_mk y G ?a ?l ?c ?k ?b
   (case a=>k_is);(case l=>k_is);(case c=>k_is);(case k=>k_is)
   (case b=>intro _ _ _ _ _ _ us I;obtain⟨_,_,rfl⟩:=DL.len2 I;rfl)
  have bf:DL.DefAt (L2.KOf y) mg "is_join" (DL.top 41) ["size","join"]:=by
   dsimp only [L2.KOf];refine' DL.def_mk y G ?a ?l ?c ?k ?b
   (case a=>k_is);(case l=>k_is);(case c=>k_is);(case k=>k_is)
   (case b=>intro _ _ _ _ _ _ us I;obtain⟨_,_,rfl⟩:=DL.len2 I;rfl)
  have bg:DL.DefAt (L2.KOf y) mg "ask_joins" (DL.top 42) ["under","upper","joins"]:=by
   dsimp only [L2.KOf];refine' DL.def_mk y G ?a ?l ?c ?k ?b
   (case a=>k_is);(case l=>k_is);(case c=>k_is);(case k=>k_is)
   (case b=>intro _ _ _ _ _ _ us I;obtain⟨_,_,_,rfl⟩:=DL.len3 I;rfl)
  have bh:DL.DefAt (L2.KOf y) mg "ask_together" (DL.top 22) ["widths"]:=by
   dsimp only [L2.KOf];refine' DL.def_mk y G ?a ?l ?c ?k ?b
   (case a=>k_is);(case l=>k_is);(case c=>k_is);(case k=>k_is)
   (case b=>intro _ _ _ _ _ _ us I;obtain⟨_,rfl⟩:=DL.len1 I;rfl)
  have bi:DL.DefAt (L2.KOf y) mg "widths_together" (DL.top 24) ["one","other"]:=by
   dsimp only [L2.KOf];refine' DL.def_mk y G ?a ?l ?c ?k ?b
   (case a=>k_is);(case l=>k_is);(case c=>k_is);(case k=>k_is)
   (case b=>intro _ _ _ _ _ _ us I;obtain⟨_,_,rfl⟩:=DL.len2 I;rfl)
  have bj:DL.DefAt (L2.KOf y) mg "room_sizes" (DL.top 31) ["one","other"]:=by
   dsimp only [L2.KOf];refine' DL.def_mk y G ?a ?l ?c ?k ?b
   (case a=>k_is);(case l=>k_is);(case c=>k_is);(case k=>k_is)
   (case b=>intro _ _ _ _ _ _ us I;obtain⟨_,_,rfl⟩:=DL.len2 I;rfl)
  have bl:DL.DefAt (L2.KOf y) mg "numbers_in" (DL.top 33) ["sizes"]:=by
   dsimp only [L2.KOf];refine' DL.def_mk y G ?a ?l ?c ?k ?b
   (case a=>k_is);(case l=>k_is);(case c=>k_is);(case k=>k_is)
   (case b=>intro _ _ _ _ _ _ us I;obtain⟨_,rfl⟩:=DL.len1 I;rfl)
  have bm:DL.DefAt (L2.KOf y) mg "turned_over" (DL.top 13) ["table"]:=by
   dsimp only [L2.KOf];refine' DL.def_mk y G ?a ?l ?c ?k ?b
   (case a=>k_is);(case l=>k_is);(case c=>k_is);(case k=>k_is)
   (case b=>intro _ _ _ _ _ _ us I;obtain⟨_,rfl⟩:=DL.len1 I;rfl)
  have bn:DL.DefAt (L2.KOf y) mg "written" (DL.top 34) ["tables"]:=by
   dsimp only [L2.KOf];refine' DL.def_mk y G ?a ?l ?c ?k ?b
   (case a=>k_is);(case l=>k_is);(case c=>k_is);(case k=>k_is)
   (case b=>intro _ _ _ _ _ _ us I;obtain⟨_,rfl⟩:=DL.len1 I;rfl)
  have bo:DL.DefAt (L2.KOf y) mg "rests" (DL.top 7) ["p","numbers"]:=by
   dsimp only [L2.KOf];refine' DL.def_mk y G ?a ?l ?c ?k ?b
   (case a=>k_is);(case l=>k_is);(case c=>k_is);(case k=>k_is)
   (case b=>intro _ _ _ _ _ _ us I;obtain⟨_,_,rfl⟩:=DL.len2 I;rfl)
  have bp:DL.DefAt (L2.KOf y) mg "led" (DL.top 9) ["p","table","load"]:=by
   dsimp only [L2.KOf];refine' DL.def_mk y G ?a ?l ?c ?k ?b
   (case a=>k_is);(case l=>k_is);(case c=>k_is);(case k=>k_is)
   (case b=>intro _ _ _ _ _ _ us I;obtain⟨_,_,_,rfl⟩:=DL.len3 I;rfl)
  have bq:DL.DefAt (L2.KOf y) mg "product" (DL.top 10) ["p","one","other"]:=by
   dsimp only [L2.KOf];refine' DL.def_mk y G ?a ?l ?c ?k ?b
   (case a=>k_is);(case l=>k_is);(case c=>k_is);(case k=>k_is)
   (case b=>intro _ _ _ _ _ _ us I;obtain⟨_,_,_,rfl⟩:=DL.len3 I;rfl)
  have br:DL.DefAt (L2.KOf y) mg "added_times" (DL.top 11) ["p","one","much","other"]:=by
   dsimp only [L2.KOf];refine' DL.def_mk y G ?a ?l ?c ?k ?b
   (case a=>k_is);(case l=>k_is);(case c=>k_is);(case k=>k_is)
   (case b=>intro _ _ _ _ _ _ us I;obtain⟨_,_,_,_,rfl⟩:=DL.len4 I;rfl)
  have bt:DL.DefAt (L2.KOf y) mg "less" (DL.top 12) ["p","one","other"]:=by
   dsimp only [L2.KOf];refine' DL.def_mk y G ?a ?l ?c ?k ?b
   (case a=>k_is);(case l=>k_is);(case c=>k_is);(case k=>k_is)
   (case b=>intro _ _ _ _ _ _ us I;obtain⟨_,_,_,rfl⟩:=DL.len3 I;rfl)
  have bu:DL.DefAt (L2.KOf y) mg "gap" (DL.top 36) ["one","other","tables","k"]:=by
   dsimp only [L2.KOf];refine' DL.def_mk y G ?a ?l ?c ?k ?b
   (case a=>k_is);(case l=>k_is);(case c=>k_is);(case k=>k_is)
   (case b=>intro _ _ _ _ _ _ us I;obtain⟨_,_,_,_,rfl⟩:=DL.len4 I;rfl)
  have bv:DL.DefAt (L2.KOf y) mg "gaps" (DL.top 37) ["one","other","tables"]:=by
   dsimp only [L2.KOf];refine' DL.def_mk y G ?a ?l ?c ?k ?b
   (case a=>k_is);(case l=>k_is);(case c=>k_is);(case k=>k_is)
   (case b=>intro _ _ _ _ _ _ us I;obtain⟨_,_,_,rfl⟩:=DL.len3 I;rfl)
  have bw:DL.DefAt (L2.KOf y) mg "tables_in" (DL.top 35) ["sizes","load"]:=by
   dsimp only [L2.KOf];refine' DL.def_mk y G ?a ?l ?c ?k ?b
   (case a=>k_is);(case l=>k_is);(case c=>k_is);(case k=>k_is)
   (case b=>intro _ _ _ _ _ _ us I;obtain⟨_,_,rfl⟩:=DL.len2 I;rfl)
  have bx:DL.DefAt (L2.KOf y) mg "same_table" (DL.top 14) ["many"]:=by
   dsimp only [L2.KOf];refine' DL.def_mk y G ?a ?l ?c ?k ?b
   (case a=>k_is);(case l=>k_is);(case c=>k_is);(case k=>k_is)
   (case b=>intro _ _ _ _ _ _ us I;obtain⟨_,rfl⟩:=DL.len1 I;rfl)
  have bz:DL.DefAt (L2.KOf y) mg "gaps_table" (DL.top 38) ["one","other"]:=by
   dsimp only [L2.KOf];refine' DL.def_mk y G ?a ?l ?c ?k ?b
   (case a=>k_is);(case l=>k_is);(case c=>k_is);(case k=>k_is)
   (case b=>intro _ _ _ _ _ _ us I;obtain⟨_,_,rfl⟩:=DL.len2 I;rfl)
  have c0:DL.DefAt (L2.KOf y) mg "inverse" (DL.top 8) ["p","x"]:=by
   dsimp only [L2.KOf];refine' DL.def_mk y G ?a ?l ?c ?k ?b
   (case a=>k_is);(case l=>k_is);(case c=>k_is);(case k=>k_is)
   (case b=>intro _ _ _ _ _ _ us I;obtain⟨_,_,rfl⟩:=DL.len2 I;rfl)
  have c1:DL.DefAt (L2.KOf y) mg "cleared" (DL.top 27) ["p","load","pivot","place"]:=by
   dsimp only [L2.KOf];refine' DL.def_mk y G ?a ?l ?c ?k ?b
   (case a=>k_is);(case l=>k_is);(case c=>k_is);(case k=>k_is)
   (case b=>intro _ _ _ _ _ _ us I;obtain⟨_,_,_,_,rfl⟩:=DL.len4 I;rfl)
  have c2:DL.DefAt (L2.KOf y) mg "base_of" (DL.top 28) ["p","long","loads"]:=by
   dsimp only [L2.KOf];refine' DL.def_mk y G ?a ?l ?c ?k ?b
   (case a=>k_is);(case l=>k_is);(case c=>k_is);(case k=>k_is)
   (case b=>intro _ _ _ _ _ _ us I;obtain⟨_,_,_,rfl⟩:=DL.len3 I;rfl)
  have c3:DL.DefAt (L2.KOf y) mg "lead_of" (DL.top 26) ["load"]:=by
   dsimp only [L2.KOf];refine' DL.def_mk y G ?a ?l ?c ?k ?b
   (case a=>k_is);(case l=>k_is);(case c=>k_is);(case k=>k_is)
   (case b=>intro _ _ _ _ _ _ us I;obtain⟨_,rfl⟩:=DL.len1 I;rfl)
  have c4:DL.DefAt (L2.KOf y) mg "solved" (DL.top 29) ["p","table","load"]:=by
   dsimp only [L2.KOf];refine' DL.def_mk y G ?a ?l ?c ?k ?b
   (case a=>k_is);(case l=>k_is);(case c=>k_is);(case k=>k_is)
   (case b=>intro _ _ _ _ _ _ us I;obtain⟨_,_,_,rfl⟩:=DL.len3 I;rfl)
  have c5:DL.DefAt (L2.KOf y) mg "weights_against" (DL.top 43) ["p","slanted","load"]:=by
   dsimp only [L2.KOf];refine' DL.def_mk y G ?a ?l ?c ?k ?b
   (case a=>k_is);(case l=>k_is);(case c=>k_is);(case k=>k_is)
   (case b=>intro _ _ _ _ _ _ us I;obtain⟨_,_,_,rfl⟩:=DL.len3 I;rfl)
  have ai:DL.DefAt (L2.KOf y) mg "fallen" (DL.top 44) ["under","upper","joins"]:=by
   dsimp only [L2.KOf];refine' DL.def_mk y G ?a ?l ?c ?k ?b
   (case a=>k_is);(case l=>k_is);(case c=>k_is);(case k=>k_is)
   (case b=>intro _ _ _ _ _ _ us I;obtain⟨_,_,_,rfl⟩:=DL.len3 I;rfl)
  have c6:DL.DefAt (L2.KOf y) mg "_law_times" (DL.top 51) ["_law_p","_law_one","_law_other","_law_wide"]:=by
   dsimp only [L2.KOf];refine' DL.def_mk y G ?a ?l ?c ?k ?b
   (case a=>k_is);(case l=>k_is);(case c=>k_is);(case k=>k_is)
   (case b=>intro _ _ _ _ _ _ us I;obtain⟨_,_,_,_,rfl⟩:=DL.len4 I;rfl)
  have c7:DL.DefAt (L2.KOf y) mg "_law_fit" (DL.top 58) ["_law_p","_law_ways_here","_law_under","_law_upper","_law_joins_here","_law_slants"]:=by
   dsimp only [L2.KOf];refine' DL.def_mk y G ?a ?l ?c ?k ?b
   (case a=>k_is);(case l=>k_is);(case c=>k_is);(case k=>k_is)
   (case b=>intro _ _ _ _ _ _ us I;obtain⟨_,_,_,_,_,_,rfl⟩:=DL.len6 I;rfl)
  have c8:DL.DefAt (L2.KOf y) mg "_law_whole" (DL.top 47) ["_law_found"]:=by
   dsimp only [L2.KOf];refine' DL.def_mk y G ?a ?l ?c ?k ?b
   (case a=>k_is);(case l=>k_is);(case c=>k_is);(case k=>k_is)
   (case b=>intro _ _ _ _ _ _ us I;obtain⟨_,rfl⟩:=DL.len1 I;rfl)
  have c9:DL.DefAt (L2.KOf y) mg "_law_is_table" (DL.top 53) ["_law_found","_law_p","_law_high","_law_wide"]:=by
   dsimp only [L2.KOf];refine' DL.def_mk y G ?a ?l ?c ?k ?b
   (case a=>k_is);(case l=>k_is);(case c=>k_is);(case k=>k_is)
   (case b=>intro _ _ _ _ _ _ us I;obtain⟨_,_,_,_,rfl⟩:=DL.len4 I;rfl)
  have ca:DL.DefAt (L2.KOf y) mg "_law_are_tables" (DL.top 54) ["_law_found","_law_p","_law_highs","_law_wides"]:=by
   dsimp only [L2.KOf];refine' DL.def_mk y G ?a ?l ?c ?k ?b
   (case a=>k_is);(case l=>k_is);(case c=>k_is);(case k=>k_is)
   (case b=>intro _ _ _ _ _ _ us I;obtain⟨_,_,_,_,rfl⟩:=DL.len4 I;rfl)
  have cb:DL.DefAt (L2.KOf y) mg "_law_traces" (DL.top 61) ["_law_p","_law_ways_here","_law_weights","_law_joins_here"]:=by
   dsimp only [L2.KOf];refine' DL.def_mk y G ?a ?l ?c ?k ?b
   (case a=>k_is);(case l=>k_is);(case c=>k_is);(case k=>k_is)
   (case b=>intro _ _ _ _ _ _ us I;obtain⟨_,_,_,_,rfl⟩:=DL.len4 I;rfl)
  have cc:DL.DefAt (L2.KOf y) mg "_law_rows_added" (DL.top 59) ["_law_ones","_law_others","_law_times_here"]:=by
   dsimp only [L2.KOf];refine' DL.def_mk y G ?a ?l ?c ?k ?b
   (case a=>k_is);(case l=>k_is);(case c=>k_is);(case k=>k_is)
   (case b=>intro _ _ _ _ _ _ us I;obtain⟨_,_,_,rfl⟩:=DL.len3 I;rfl)
  have cd:DL.DefAt (L2.KOf y) mg "_law_room_stays" (DL.top 60) ["_law_p","_law_ways_here","_law_under","_law_upper","_law_weights","_law_room"]:=by
   dsimp only [L2.KOf];refine' DL.def_mk y G ?a ?l ?c ?k ?b
   (case a=>k_is);(case l=>k_is);(case c=>k_is);(case k=>k_is)
   (case b=>intro _ _ _ _ _ _ us I;obtain⟨_,_,_,_,_,_,rfl⟩:=DL.len6 I;rfl)
  have ce:DL.DefAt (L2.KOf y) mg "_law_stuck" (DL.top 62) ["_law_p","_law_ways_here","_law_under","_law_upper","_law_joins_here","_law_weights"]:=by
   dsimp only [L2.KOf];refine' DL.def_mk y G ?a ?l ?c ?k ?b
   (case a=>k_is);(case l=>k_is);(case c=>k_is);(case k=>k_is)
   (case b=>intro _ _ _ _ _ _ us I;obtain⟨_,_,_,_,_,_,rfl⟩:=DL.len6 I;rfl)
  have cf:DL.DefAt (L2.KOf y) mg "_law_right" (DL.top 63) ["_law_found","_law_p","_law_ways_here","_law_under","_law_upper","_law_joins_here"]:=by
   dsimp only [L2.KOf];refine' DL.def_mk y G ?a ?l ?c ?k ?b
   (case a=>k_is);(case l=>k_is);(case c=>k_is);(case k=>k_is)
   (case b=>intro _ _ _ _ _ _ us I;obtain⟨_,_,_,_,_,_,rfl⟩:=DL.len6 I;rfl)
  have cg:DL.DefAt (L2.KOf y) mg "_law_told" (DL.top 64) ["_law_p","_law_ways_here","_law_under","_law_upper","_law_joins_here"]:=by
   dsimp only [L2.KOf];refine' DL.def_mk y G ?a ?l ?c ?k ?b
   (case a=>k_is);(case l=>k_is);(case c=>k_is);(case k=>k_is)
   (case b=>intro _ _ _ _ _ _ us I;obtain⟨_,_,_,_,_,rfl⟩:=DL.len5 I;rfl)
  have ch:DL.DefAt (L2.KOf y) mg "law" (DL.top 65) ["_law_script"]:=by
   dsimp only [L2.KOf];refine' DL.def_mk y G ?a ?l ?c ?k ?b
   (case a=>k_is);(case l=>k_is);(case c=>k_is);(case k=>k_is)
   (case b=>intro _ _ _ _ _ _ us I;obtain⟨_,rfl⟩:=DL.len1 I;rfl)
  obtain⟨f,fd,Fu,hb,hm⟩:=ch.ex;have e0:=aw.symm.trans hm;cases e0;refine⟨fd,λs u=> .of_eq (hb [u] rfl),λbase kb nb=>?_⟩;have aa:DL.FnD (zcI).prog w (L2.KOf y) mg base 1 "_law_cell" 2 DL.F_law_cell_44:=DL.ok_law_cell_44 b2 a0 az O;have cl:DL.FnD (zcI).prog w (L2.KOf y) mg base 1 "_law_ways" 2 DL.F_law_ways_k38:=DL.ok_law_ways_k38 b3 O;have a2:DL.FnD (zcI).prog w (L2.KOf y) mg base 1 "_law_ends" 2 DL.F_law_ends:=DL.ok_law_ends b4;have aj:DL.FnD (zcI).prog w (L2.KOf y) mg base 2 "_law_table" 6 DL.F_law_table_44:=DL.ok_law_table_44 b5 aa ah O;have cm:DL.FnD (zcI).prog w (L2.KOf y) mg base 3 "_law_any" 7 DL.F_law_any_47:=DL.ok_law_any_47 b6 a2 aj aa a0 O;have cn:DL.FnD (zcI).prog w (L2.KOf y) mg base 3 "_law_joins" 7 DL.F_law_joins:=DL.ok_law_joins b7 a2 aj a0 O U;have co:DL.FnD (zcI).prog w (L2.KOf y) mg base 2 "_law_handed" 3 DL.F_law_handed_44:=DL.ok_law_handed_44 b8 a2 a0 O U;have ak:DL.FnD (zcI).prog w (L2.KOf y) mg base 1 "ways_of" 1 DL.F_ways_of:=DL.ok_ways_of b9;have cp:DL.FnD (zcI).prog w (L2.KOf y) mg base 2 "one_kind" 2 DL.F_one_kind:=DL.ok_one_kind ba ak;have cq:DL.FnD (zcI).prog w (L2.KOf y) mg base 3 "ask_one_kind" 2 DL.F_ask_one_kind:=DL.ok_ask_one_kind bb cp;have am:DL.FnD (zcI).prog w (L2.KOf y) mg base 1 "end_of" 2 DL.F_end_of:=DL.ok_end_of bc;have an:DL.FnD (zcI).prog w (L2.KOf y) mg base 1 "beginning_of" 2 DL.F_beginning_of:=DL.ok_beginning_of bd;have a7:DL.FnD (zcI).prog w (L2.KOf y) mg base 2 "arrow_sizes" 2 DL.F_arrow_sizes:=DL.ok_arrow_sizes be ak am an a8;have cr:DL.FnD (zcI).prog w (L2.KOf y) mg base 1 "is_join" 2 DL.F_is_join:=DL.ok_is_join bf a4 U;have ao:DL.FnD (zcI).prog w (L2.KOf y) mg base 4 "ask_joins" 3 DL.F_ask_joins:=DL.ok_ask_joins bg cq a7 cr a8 a0 b0;have cs:DL.FnD (zcI).prog w (L2.KOf y) mg base 1 "ask_together" 1 DL.F_ask_together:=DL.ok_ask_together bh a5 b1;have ap:DL.FnD (zcI).prog w (L2.KOf y) mg base 2 "widths_together" 2 DL.F_widths_together:=DL.ok_widths_together bi cs U a1;have ab:DL.FnD (zcI).prog w (L2.KOf y) mg base 1 "room_sizes" 2 DL.F_room_sizes:=DL.ok_room_sizes bj a9 a1;have ct:DL.FnD (zcI).prog w (L2.KOf y) mg base 1 "numbers_in" 1 DL.F_numbers_in:=DL.ok_numbers_in bl a5;have a6:DL.FnD (zcI).prog w (L2.KOf y) mg base 1 "turned_over" 1 DL.F_turned_over:=DL.ok_turned_over bm O U;have ac:DL.FnD (zcI).prog w (L2.KOf y) mg base 1 "written" 1 DL.F_written:=DL.ok_written bn U;have a3:DL.FnD (zcI).prog w (L2.KOf y) mg base 1 "rests" 2 DL.F_rests:=DL.ok_rests bo U;have cu:DL.FnD (zcI).prog w (L2.KOf y) mg base 2 "led" 3 DL.F_led:=DL.ok_led bp a3 a5 a1;have cv:DL.FnD (zcI).prog w (L2.KOf y) mg base 3 "product" 3 DL.F_product:=DL.ok_product bq a6 cu U;have cw:DL.FnD (zcI).prog w (L2.KOf y) mg base 2 "added_times" 4 DL.F_added_times:=DL.ok_added_times br a3 U a1;have cx:DL.FnD (zcI).prog w (L2.KOf y) mg base 3 "less" 3 DL.F_less:=DL.ok_less bt cw;have cy:DL.FnD (zcI).prog w (L2.KOf y) mg base 4 "gap" 4 DL.F_gap:=DL.ok_gap bu cv cx am an;have cz:DL.FnD (zcI).prog w (L2.KOf y) mg base 5 "gaps" 3 DL.F_gaps:=DL.ok_gaps bv cy a0 O;have ae:DL.FnD (zcI).prog w (L2.KOf y) mg base 1 "tables_in" 2 DL.F_tables_in:=DL.ok_tables_in bw O U;have d0:DL.FnD (zcI).prog w (L2.KOf y) mg base 1 "same_table" 1 DL.F_same_table:=DL.ok_same_table bx O U;have aq:DL.FnD (zcI).prog w (L2.KOf y) mg base 6 "gaps_table" 2 DL.F_gaps_table:=DL.ok_gaps_table bz ab ct a6 ac cz ae d0 a7 U;have d1:DL.FnD (zcI).prog w (L2.KOf y) mg base 1 "inverse" 2 DL.F_inverse:=DL.ok_inverse c0 O;have d2:DL.FnD (zcI).prog w (L2.KOf y) mg base 2 "cleared" 4 DL.F_cleared:=DL.ok_cleared c1 a3 a1;have d3:DL.FnD (zcI).prog w (L2.KOf y) mg base 3 "base_of" 3 DL.F_base_of:=DL.ok_base_of c2 a3 d1 d2 O;have d4:DL.FnD (zcI).prog w (L2.KOf y) mg base 1 "lead_of" 1 DL.F_lead_of:=DL.ok_lead_of c3 a8;have af:DL.FnD (zcI).prog w (L2.KOf y) mg base 4 "solved" 3 DL.F_solved:=DL.ok_solved c4 d3 d4 U a1;have ar:DL.FnD (zcI).prog w (L2.KOf y) mg base 5 "weights_against" 3 DL.F_weights_against:=DL.ok_weights_against c5 a6 af;have d5:DL.FnD (zcI).prog w (L2.KOf y) mg base 7 "fallen" 3 DL.F_fallen:=DL.ok_fallen ai ao ap aq a3 af ae a7 ar a6 ac ab;have d6:DL.FnG (zcI).prog w (L2.KOf y) mg base 7 "fallen" 3 DL.F_fallen:=DL.okg_fallen ai ao ap aq a3 af ae a7 ar a6 ac ab;have as:DL.FnD (zcI).prog w (L2.KOf y) mg base 1 "_law_times" 4 DL.F_law_times_46:=DL.ok_law_times_46 c6 a0 O a5;have d7:DL.FnD (zcI).prog w (L2.KOf y) mg base 2 "_law_fit" 6 DL.F_law_fit_46:=DL.ok_law_fit_46 c7 a2 as a0 O;have d8:DL.FnD (zcI).prog w (L2.KOf y) mg base 1 "_law_whole" 1 DL.F_law_whole:=DL.ok_law_whole c8 ay ah a4;have d9:DL.FnD (zcI).prog w (L2.KOf y) mg base 2 "_law_is_table" 4 DL.F_law_is_table_46:=DL.ok_law_is_table_46 c9 d8 ag a4 a0 U;have au:DL.FnD (zcI).prog w (L2.KOf y) mg base 3 "_law_are_tables" 4 DL.F_law_are_tables_46:=DL.ok_law_are_tables_46 ca d9 ag a4 a0 a9 O;have da:DL.FnD (zcI).prog w (L2.KOf y) mg base 1 "_law_traces" 4 DL.F_law_traces:=DL.ok_law_traces cb a0 O a5;have db:DL.FnD (zcI).prog w (L2.KOf y) mg base 1 "_law_rows_added" 3 DL.F_law_rows_added:=DL.ok_law_rows_added cc a1;have dc:DL.FnD (zcI).prog w (L2.KOf y) mg base 2 "_law_room_stays" 6 DL.F_law_room_stays:=DL.ok_law_room_stays cd a2 as db ax a0 O;have dd:DL.FnD (zcI).prog w (L2.KOf y) mg base 4 "_law_stuck" 6 DL.F_law_stuck:=DL.ok_law_stuck ce a2 au da dc a0 O;have de:DL.FnD (zcI).prog w (L2.KOf y) mg base 5 "_law_right" 6 DL.F_law_right_47:=DL.ok_law_right_47 cf d7 dd au a4 a0 U;have df:DL.FnD (zcI).prog w (L2.KOf y) mg base 8 "_law_told" 5 DL.F_law_told_47:=DL.ok_law_told_47 cg co d5 de d6 a9;exact DL.ok_law Fu aa cl cm cn df
