import PyProof.Rows.All
import Wide.All
import OpenK.AllK
import Wide.FinOn
import Lean
import PyProof.EqAt
import PyProof.EqKinds
import PyProof.TupleCall
import PySem.Str
import PyProof.ZipIter
import PyProof.IsiBase
import KE.KItemsList
import KE.KIsAll
import OpenK.KOwn
import KE.KSortAsk
import PyProof.StrBlockI
import PyProof.Rows.EqDataRows
import PyProof.Rows.InDataRows
import PyProof.SumWalkG
import PyProof.ConsumeWalk
import PyProof.WalksMore
import KE.KSortTup
import PyProof.ListMulRoad
import PyProof.EnumFor
import PyProof.Rows.EnumRows
import PyProof.StrBlockL
import PyProof.JoinWalk
import PyProof.NsDelKeeps
import KE.KTryDeep
import PyProof.InstStoreFacts
import PyProof.NsCount
import PyProof.ExcClass2
import PyProof.Rows.FStr
import PyProof.StationsW
import PyProof.Rows.Catch
import KE.KRevIter
import PyProof.CollectIter
import PyProof.TupleOfGen
import PyProof.Rows.Tup
import PyProof.Draws
import PyProof.EnumMake
import PyProof.StrWalks
import PyProof.SliceStr2
import PyProof.ListNew
import KE.KDictOf
import PyProof.ListRange
import PyProof.Rows.GenSrcRange
import PyProof.ListCopy
import PyProof.AttrMissHeap
import PyProof.DictWalks
import PyProof.FactsDict
import KE.KSortKey
import KE.IntText
import PyProof.TableCode
import PyProof.Rows.KernelRfl
import PyProof.StrLawsTight
import PyProof.StrLawsChain
import PyProof.Rows.StrItems
import KE.KIntText
import PyProof.SliceList
import PySem.Challenge.RW_barsplit_k19_whole_sides_go_together
open PySem.W renaming Frag → uW, kia_one → AN, kitOne → BD, kia_tup → BH, cellsFrom_some → CD, kitx_dict → CM, fnOf → CS, nsIn → Ej, keepIn → Eo, findIn → Ep, kitx_list → Eu, mg_of → EJ, codeIn → Fh, kitx_tuple → Fp, methodObj → FD, kitx_none → FE, kitx_bool → FF, kitx_str → FN, kitx_int → FO
open PySem renaming wpAny_bind → uX, wpAny_pure → Ad, wpAny_field → Ax, wpAny_setField_rec → AC, wpAny_callSpecial?_slot → AI, wpAny_newObj_type → AW, wpAny_call_entry → AX, wpAny_seqItems → Bd, wpAny_loadPart' → Bx, wpAny_truthy_bool → BC, wpAny_onRaise → BI, wpAny_attempt → BJ, wpAny_Call_Name_kw → BK, builtinLookup_eq_fast → BL, wpAny_of_eq → BZ, wpAny_rule → Cs, mem_of_lookup → Ct, isSubtype_type → CA, Builtin → CB, wpAny_isInstance → CC, wpAny_letGo → CJ, wpAny_mono → CN, call_meets → CP, wpAny_getItem_str_slice → CY, typeLookup_type → CZ, wpAny_holding → Es, intText? → Et, wpAny_specialOf → EF, wpAny_passesOwn → EG, pushCells_keeps → EI, wpAny_typeOf → EV, wpAny_pyIter_tuple → EW, typeIs_str → Ff, plainId_quiet → Fm, wpAny_pyIter_zip → Fo, wpAny_execs_nil → Fy, post_val_or_str → Fz, codeAny_builtin → FA, wpAny_updateSeq_pair → FL, isSubtype_stop → FP, signature?_of → FY, concat_meets → Gc, codeAny_mono → Gd, noFill_tuple_add → Ge
open PySem.Heap renaming get?_push_of_some → uY, get?_push_size → Aj, push → Am, lt_size → Ao, size_push → AB, SameBut → BS, get?_update_self → Ce, get?_update_other → CU
open List renaming range → uZ, replicate → Aa, getElem?_set_ne → Ac, getElem?_eq_getElem → Ae, getElem?_eq_some_iff → Af, mem_cons → Ag, mem_cons_of_mem → Ah, mem_cons_self → Ai, size_toArray → An, mem_range → Aq, getElem?_set_self → Ar, not_mem_nil → Aw, getElem?_append_right → AA, getElem?_append_left → AD, getElem?_cons_zero → AH, getElem?_map → AK, map_congr_left → AL, eq_nil_of_length_eq_zero → AM, length_map → AO, getElem?_cons_succ → AQ, mem_map → AY, mem_of_getElem? → AZ, map_cons → Ba, lookup_cons → Bb, mem_append_right → Bc, length_cons → Be, map_map → Bj, length_append → Bl, nodup_cons → Bn, all_eq_true → Bp, replicate_succ → Bs, filterMap_cons_some → Bw, length_nil → BA, getElem?_eq_none → BE, drop_eq_getElem_cons → BG, flatten_cons → BP, filterMap_cons_none → BQ, ext_getElem? → BR, take_of_length_le → BY, mem_filter → Cc, mem_append → Cd, getElem?_set → Ck, getD_eq_getElem?_getD → Cn, zip_map' → CF, mem_singleton → CG, map_append → CH, getElem?_replicate → CI, length_singleton → Eb, drop_length → Ee, range_succ → Ek, forIn_cons → El, append_nil → Em, set_cons_zero → Ex, set_cons_succ → Ey, getElem?_zip_eq_some → EC, forIn_nil → ED, reverse_cons → EM, length_range → EN, zipIdx_cons → EY, length_take → EZ, ext_getElem → Fb, zipIdx_nil → Fi, length_reverse → Fv, length → Fw, filterMap_cons → Fx, all_cons → FK
open Option renaming bind_some → Ab, map_some → AS, some → Bq, map → BV, isSome_iff_exists → EB
open Nat renaming le_refl → Ak, lt_of_lt_of_le → Ap, le_trans → AE, le_add_right → AG, ne_of_lt → AJ, ne_of_gt → Bk, zero_le → Bt, lt_succ_of_lt → Bu, lt_irrefl → By, zero_add → BF, lt_succ_self → Cv, reduceAdd → Ef, le_of_lt → FW
open PySem.Builtin.SmallTypes renaming nextOf → Al, ownedTupleIsFree → Av, ownedTupleHandOut → AV, ownedTupleFields → Er, newRecord → Fe
open PySem.Str renaming ofString → As, join → Cb, empty → CK
open Bool renaming and_eq_true → Au, false_ne_true → Ay, or_eq_true → Bo, eq_iff_iff → En, not_eq_true' → EO
open PySem.NameKind renaming free → Az, cell → BO
open PyProof.Rows renaming callWith_type1 → AF, slot_tuple_getitem → Bg, boot_tuple → Cr, callWith_builtin1 → Cz, boot_int → EA, slot_tupleiter_next → EH, tupleItemsOf_ → Fk, boot_isinstance → Fq
open Ne renaming symm → AR
open Option.some renaming inj → AU
open PySem.Builtin.Tuple renaming tupleExact → Bf, tupleIsExact → BX
open PySem.Builtin.Str renaming occurrences → Bh, strSliceIndices → BW, partsBetween → Eh
open PySem.Value renaming ref → Bi, none → BM, type → Fg, str → FB, int → FC, bool → FM
open PySem.SeqAt renaming EqAt → Bm
open Int renaming emod_lt_of_pos → Br, eq_ofNat_of_zero_le → Bz, emod_nonneg → BB, zero_mul → Ci, add_zero → Cj, mul_assoc → Co, emod_emod → Cp, mul_left_comm → Ea, mul_emod → EE, toNat_natCast → ET, one_mul → Fc, mul_add → FH, emod_eq_of_lt → FS, add_emod → FX
open PySem.Calls renaming spliced_cons → Bv, spliced_nil → CV
open True renaming intro → BN
open PySem.F renaming slot_zip_next → BU, slot_enumerate_next → Cq, slot_tuple_mul → Eg, args_tuple_add_2 → Ew, entry_tuple_add → EK, slot_tuple_add → ER, plainAttrs_str → ES, args_zip_next_1 → Fd, entry_zip_next → Fj, args_object_init_2 → FI, args_tuple_mul_2 → FT, args_str_split_2 → FU, entry_tuple_mul → FZ, entry_str_split → Ga, slot_str_split → Gb
open PySem.Builtin.Slice renaming slicePlaces → Ca, sliceAdjust → Ec
open PySem.Txt renaming split → Cf, slice → Cg, startswith → Fs, slice_le → FV
open PySem.Obj renaming mapSeq → Cm
open PySem.PyData renaming depth → Cu, eqv → CQ, canLay0 → CT, eqvAll → Ft, canLayAll0 → FJ
open False renaming elim → Cw
open PySem.Challenge renaming rw_barsplit_k19_whole_sides_go_together → Cy
open PySem.Around renaming under_plainId → Ed
open Array renaming length_toList → Ei, getElem?_eq_getElem → Ez, toArray_toList → Fn
open PySem.Shared renaming heap → EL
open ForInStep renaming yield → EU
open PySem.Heap.SameBut renaming update → EX
open Sum renaming inr → FQ, inl → FR
local macro_rules | `(⋯) => `(by first | decide +kernel | omega | simp)
set_option autoImplicit true
noncomputable section
set_option Elab.async false
set_option linter.all false
set_option maxRecDepth 100000
set_option maxHeartbeats 4000000
abbrev GQ:=PySem.Value->PySem.Shared->Prop
abbrev GW:=List (PySem.Addr×PySem.Obj)
abbrev GV:=Nat->Nat->Nat->Int
abbrev GK:=Nat->Nat->Int
abbrev GX:=Nat->Bool
abbrev GZ:=Nat->Nat
abbrev GJ:=PySem.Str->Option PySem.Value
theorem GY{c:Prop}{h:Decidable c}(z:c){α}{a b:α}:ite c a b=a:=if_pos z
theorem MQ{c:Prop}{h:Decidable c}(z:¬c){α}{a b:α}:ite c a b=b:=if_neg z
namespace L2
open PySem PySem.Spec PyProof.Rows
abbrev Key:=Sum Int Str
noncomputable def me:Key->Value->Bool
 | .inl k,v=>Value.isInt k v
 | .inr x,v=>Value.isStrOf x v
noncomputable def uo(w:World):Key->Int
 | .inl k=>hashInt k
 | .inr x=>hashStr w x
theorem jJ : ∀{k:Key} {v:Value},me k v=true->(∃i t,k=FR i/\v=FC i t)\/(∃x t,k=FQ x/\v=FB x t)
 | .inl i,v,h=>by obtain⟨t,e⟩:=Value.isInt_shape (k:=i) (v:=v) h;exact .inl ⟨i,t,rfl,e⟩
 | .inr x,v,h=>by obtain⟨t,e⟩:=Value.isStrOf_shape (x:=x) (v:=v) h;exact .inr ⟨x,t,rfl,e⟩
theorem md(a b:Int):decide ((FR a:Key)=FR b)=(a==b):=by
 by_cases e:a=b
 ·subst e;simp
 ·have h : ¬(FR a:Key)=FR b:=λq=>e (FR.inj q)
  rw[decide_eq_false h];exact(beq_eq_false_iff_ne.mpr e).symm
theorem lY(a b:Str):decide ((FQ a:Key)=FQ b)=decide (a=b):=by
 by_cases e:a=b
 ·subst e;simp
 ·have h : ¬(FQ a:Key)=FQ b:=λq=>e (FQ.inj q)
  rw[decide_eq_false h,decide_eq_false e]
theorem ma(a:Int)(b:Str):decide ((FR a:Key)=FQ b)=false:=decide_eq_false<|λq=>nomatch q
theorem lZ(a:Str)(b:Int):decide ((FQ a:Key)=FR b)=false:=decide_eq_false<|λq=>nomatch q
noncomputable def JN(prog:Program)(w:World):PySem.KeyKind prog w Key where
 is:=me
 hash:=uo w
 inj:=λv a b ha B=>by
  rcases jJ ha with⟨i,t,rfl,rfl⟩ | ⟨x,t,rfl,rfl⟩
  ·rcases jJ B with⟨j,u,rfl,e⟩ | ⟨y,u,rfl,e⟩
   ·injection e with e1 _;rw[e1]
   ·exact nomatch e
  ·rcases jJ B with⟨j,u,rfl,e⟩ | ⟨y,u,rfl,e⟩
   ·exact nomatch e
   ·injection e with e1 _;rw[e1]
 byValue:=λk v h=>by rcases jJ h with⟨i,t,rfl,rfl⟩ | ⟨x,t,rfl,rfl⟩<;>rfl
 pyHash:=λz h=>by
  rcases jJ z with⟨i,t,rfl,rfl⟩ | ⟨x,t,rfl,rfl⟩
  ·exact wpAny_pyHash_int h
  ·exact wpAny_pyHash_str h
 eqBool:=λI z h=>by
  rcases jJ I with⟨i,t,rfl,rfl⟩ | ⟨x,t,rfl,rfl⟩
  ·rcases jJ z with⟨j,u,rfl,rfl⟩ | ⟨y,u,rfl,rfl⟩
   ·rw[md]at h;exact wpAny_eqBool_int h
   ·rw[ma]at h;exact Bm.int_str i t y u _ _ _ _ h
  ·rcases jJ z with⟨j,u,rfl,rfl⟩ | ⟨y,u,rfl,rfl⟩
   ·rw[lZ]at h;exact Bm.str_int x t j u _ _ _ _ h
   ·rw[lY]at h;exact wpAny_eqBool_str h
 «strs» :=λk x t v h=>by
  rcases jJ h with⟨i,u,rfl,e⟩ | ⟨y,u,rfl,e⟩
  ·exact nomatch e
  ·injection e with e1 _
   subst e1;cases v<;>rfl
inductive V where
 | non | bl (b:Bool) | int (i:Int) | str (x:Str) | byt (b:Array UInt8) | flt (b:UInt64) | ref (a:Addr) | ty (n:String)
 deriving DecidableEq
noncomputable def RelV:V->Value->Prop
 | .non,u=>u=BM
 | .bl b,u=>u=FM b
 | .int i,u=>∃t,u=FC i t
 | .str x,u=>∃t,u=FB x t
 | .byt b,u=>∃t,u=Value.bytes b t
 | .flt b,u=>∃t,u=Value.float b t
 | .ref a,u=>u=Bi a
 | .ty n,u=>u=Fg n
abbrev Vals:List V->List Value->Prop:=Paired RelV
theorem Vals.length(r:Vals xs us):xs.length=us.length:=Paired.length r
theorem Vals.get : ∀{xs:List V} {us:List Value} {i:Nat} {x:V},Vals xs us->xs[i]? = some x->∃u,us[i]? = some u/\RelV x u
 | _,_,_,_,.nil,e=>by simp at e
 | _,_,0,_,.cons r _,e=>by simp at e;subst e;exact⟨_,rfl,r⟩
 | _,_,i+1,x,.cons _ t,e=>by obtain⟨u,h1,h2⟩:=Vals.get (i:=i) (x:=x) t (by simpa using e);exact⟨u,by simpa using h1,h2⟩
theorem Vals.set(r:RelV x u) : ∀{xs:List V} {us:List Value} (i:Nat),Vals xs us->Vals (xs.set i x) (us.set i u)
 | _,_,_,.nil=> .nil
 | _,_,0,.cons _ t=> .cons r t
 | _,_,i+1,.cons q t=> .cons q (Vals.set r i t)
theorem Vals.append : ∀{xs ys:List V} {us z:List Value},Vals xs us->Vals ys z->Vals (xs++ys) (us++z)
 | _,_,_,_,.nil,s=>s
 | _,_,_,_,.cons r t,s=> .cons r (Vals.append t s)
theorem Vals.take : ∀{xs:List V} {us:List Value} (n:Nat),Vals xs us->Vals (xs.take n) (us.take n)
 | _,_,0,_=> .nil
 | _,_,_+1,.nil=> .nil
 | _,_,n+1,.cons r t=> .cons r (Vals.take n t)
theorem Vals.drop : ∀{xs:List V} {us:List Value} (n:Nat),Vals xs us->Vals (xs.drop n) (us.drop n)
 | _,_,0,r=>r
 | _,_,_+1,.nil=> .nil
 | _,_,n+1,.cons _ t=>Vals.drop n t
noncomputable def rR:Option V->Option Value->Prop
 | some v,some u=>RelV v u
 | none,none=>True
 | _,_=>False
noncomputable def KV{κ:Type}:List (κ×V)->List (κ×Value)->Prop:=Paired λ(p:κ×V) (q:κ×Value)=>p.1=q.1/\RelV p.2 q.2
noncomputable def kV:Key->V
 | .inl i=> .int i
 | .inr x=> .str x
inductive HO where
 | lst (xs:List V)
 | tup (xs:List V)
 | dK (kvs:List (Key×V)) | dT (kvs:List (List Key×V))
 | set (S:Int->Bool) (n:Nat)
 | ins (C dx:Addr) (fs:List (Str×V))
 | own (x:Addr)
 | xd (fs:List (Str×V))
 | met (f x:Addr)
 | rng (lo hi:Int)
 | frz (o:Obj) (u:HO)
 | tbl (ps:Array Value)
 | ext (φ:Heap->Prop)
abbrev Hp:=Addr->Option HO
noncomputable def upd(H:Hp)(a:Addr)(o:HO):Hp:=λb=>if b=a then some o else H b
theorem zM:upd H a o a=some o:=by unfold upd;rw[GY rfl]
theorem zI(h:b≠a):upd H a o b=H b:=by unfold upd;rw[MQ h]
theorem jE{H:Hp}{a b:Addr}{o:HO}(h:H a=some o)(h':H b=none):a≠b:=by intro e;subst e;rw[h]at h';cases h'
noncomputable def IsTupD(h:Heap)(a:Addr)(z:Array Value):Prop:=∃o,h.get? a=some o/\(o.cls,o.dict)=(Fg "tuple",none)/\∃n,o.data = .seq z n
theorem IsTupD.new(h:Heap)(z:Array Value):IsTupD (h.push {cls:= .type "tuple",data:= .seq z}) h.objs.size z:=⟨_,Aj _ rfl,rfl,_,rfl⟩
theorem IsTupD.tup(x:IsTupD h a items):IsTup h a items:=let ⟨o,e,c,r⟩:=x;⟨o,e,(Prod.mk.inj c).1,r⟩
section
variable(P:Program)(w:World)
noncomputable def ObjOk(H:Hp)(h:Heap)(a:Addr):HO->Prop
 | .lst xs=>xs.length<=sizeLine/\∃(z:List Value) (n:Nat),Vals xs z/\h.get? a=some {cls:= .type "list",data:= .seq z.toArray n}
 | .tup xs=>xs.length<=sizeLine/\∃z:List Value,Vals xs z/\IsTupD h a z.toArray
 | .dK kvs=>kvs.length<=sizeLine/\(a==sysModules)=false/\∃vs,KV kvs vs/\h.DictOf (JN P w) a vs
 | .dT kvs=>kvs.length<=sizeLine/\(a==sysModules)=false/\∃xs:List (List Key×Addr×Value),
  Paired (λ(p:List Key×V) (q:List Key×Addr×Value)=>p.1=q.1/\H q.2.1=some (.tup<|p.1.map kV)/\RelV p.2 q.2.2) kvs xs/\
  ∃o es B,h.get? a=some o/\o.ExactDict/\o.data = .dict es B/\es.toList=xs.map (entryOfKey<|tupleKind<|JN P w)/\(xs.map (·.1)).Nodup
 | .set S n=>h.SetOf (intKind P w) a S n
 | .ins C dx fs=>H dx=some (.own a)/\fs.length<=1000/\dx≠a/\h.get? a=some (PySem.W.instObj C dx)/\
  ∃mA,h.Ns1 dx mA/\(∀f,rR (fs.lookup f)<|mA f)/\PySem.Within mA (fs.map (·.1))
 | .own _=>∃o,h.get? a=some o
 | .xd fs=>∃mA,h.Ns1 a mA/\∀f,rR (fs.lookup f)<|mA f
 | .rng lo hi=>∃t u v,h.get? a=some {cls:= .type "range",data:= .fields #[.int lo t,.int hi u,.int 1 v]}
 | .frz o u=>h.get? a=some o/\ObjOk H h a u
 | .tbl ps=>h.get? a=some {cls:= .none,data:= .fields ps}
 | .met f x=>h.get? a=some (FD (.ref f)<|.ref x)
 | .ext φ=>φ h/\(∃o,h.get? a=some o)/\∀h1 h2:Heap,φ h1->(∀o,h1.get? a=some o->h2.get? a=some o)->φ h2
noncomputable def HOk(H:Hp)(h:Heap):Prop:=∀a o,H a=some o->ObjOk P w H h a o
end
section
variable{P:Program}{w:World}{H H':Hp}{h h':Heap}{a:Addr}{o:HO}
theorem ObjOk.lt(x:ObjOk P w H h a o):a<h.objs.size:=by
 cases o with
 | lst xs=>obtain⟨_,_,_,_,e⟩:=x;exact Ao e
 | tup xs=>obtain⟨_,_,_,p⟩:=x;exact p.tup.lt
 | dK kvs=>obtain⟨_,_,_,_,o,_,_,e,_⟩:=x;exact Ao e
 | dT kvs=>obtain⟨_,_,_,_,o,_,_,e,_⟩:=x;exact Ao e
 | set S n=>obtain⟨o,_,_,_,e,_⟩:=x;exact Ao e
 | ins C dx fs=>obtain⟨_,_,_,e,_⟩:=x;exact Ao e
 | own y=>obtain⟨_,e⟩:=x;exact Ao e
 | xd fs=>obtain⟨_,⟨_,_,_,e,_⟩,_⟩:=x;exact Ao e
 | rng lo hi=>obtain⟨_,_,_,e⟩:=x;exact Ao e
 | frz z u=>obtain⟨e,_⟩:=x;exact Ao e
 | tbl ps=>exact Ao (show h.get? a=some _ from x)
 | met f y=>exact Ao (show h.get? a=some _ from x)
 | ext φ=>obtain⟨_,⟨_,e⟩,_⟩:=x;exact Ao e
theorem Paired.mapP : ∀{z:List α} {B:List β},Paired F z B->(∀a b,F a b->G a b)->Paired G z B
 | _,_,.nil,_=> .nil
 | _,_,.cons r t,f=> .cons (f _ _ r) (Paired.mapP t f)
theorem ObjOk.stay(x:ObjOk P w H h a o)(k : ∀b u,(b=a\/H b=some (.own a))->h.get? b=some u->h'.get? b=some u)
 (O : ∀b,H b=some (.own a)->H' b=some (.own a)) (R : ∀b xs,H b=some (.tup xs)->H' b=some (.tup xs)):ObjOk P w H' h' a o:=by
 induction o with
 | lst xs=>obtain⟨z,M,n,r,e⟩:=x;exact⟨z,M,n,r,k _ _ (.inl rfl) e⟩
 | tup xs=>obtain⟨z,M,r,B,e,c⟩:=x;exact⟨z,M,r,B,k _ _ (.inl rfl) e,c⟩
 | dK kvs=>obtain⟨z,y,vs,r,B,es,I,e,c⟩:=x;exact⟨z,y,vs,r,B,es,I,k _ _ (.inl rfl) e,c⟩
 | dT kvs=>
  obtain⟨z,y,xs,r,B,es,I,e,c⟩:=x;exact⟨z,y,xs,Paired.mapP r λp q z=>⟨z.1,R _ _ z.2.1,z.2.2⟩,B,es,I,k _ _ (.inl rfl) e,c⟩
 | set S n=>obtain⟨B,es,I,t,e,c⟩:=x;exact⟨B,es,I,t,k _ _ (.inl rfl) e,c⟩
 | ins C dx fs=>
  obtain⟨d,z,ne,e,mA,⟨od,es,I,e2,c⟩,r⟩:=x;exact⟨O _ d,z,ne,k _ _ (.inl rfl) e,mA,⟨od,es,I,k _ _ (.inr d) e2,c⟩,r⟩
 | own y=>obtain⟨B,e⟩:=x;exact⟨B,k _ _ (.inl rfl) e⟩
 | xd fs=>obtain⟨mA,⟨od,es,I,e,c⟩,r⟩:=x;exact⟨mA,⟨od,es,I,k _ _ (.inl rfl) e,c⟩,r⟩
 | rng lo hi=>obtain⟨t,u,v,e⟩:=x;exact⟨t,u,v,k _ _ (.inl rfl) e⟩
 | frz B u U=>obtain⟨e,q⟩:=x;exact⟨k _ _ (.inl rfl) e,U q⟩
 | tbl ps=>
  have e:h.get? a=some {cls:= .none,data:= .fields ps}:=x;show h'.get? a=some {cls:= .none,data:= .fields ps};exact k a _ (.inl rfl) e
 | met f y=>
  have e:h.get? a=some (FD (.ref f)<|.ref y):=x;show h'.get? a=some (FD (.ref f)<|.ref y);exact k a _ (.inl rfl) e
 | ext φ=>obtain⟨p,⟨o,e⟩,st⟩:=x;exact⟨st _ _ p λo q=>k _ _ (.inl rfl) q,⟨o,k _ _ (.inl rfl) e⟩,st⟩
theorem HOk.lt(x:HOk P w H h)(e:H a=some o):a<h.objs.size:=(x a o e).lt
theorem HOk.fresh(x:HOk P w H h)(e:h.objs.size<=a):H a=none:=by
 cases q:H a with
 | none=>rfl
 | some u=>exact absurd (Ap (x.lt q) e)<|By _
theorem HOk.kept(x:HOk P w H h)(k : ∀b u,h.get? b=some u->h'.get? b=some u):HOk P w H h':=λa o e=>
 (x a o e).stay (λb u _ q=>k b u q) (λ_ q=>q) λ_ _ q=>q
theorem HOk.laid(x:HOk P w H h)(k : ∀b u,h.get? b=some u->h'.get? b=some u)(B:h.objs.size<=a)(new:ObjOk P w (upd H a o) h' a o):HOk P w (upd H a o) h':=λb u e=>by
 have hn:=x.fresh B;by_cases z:b=a
 ·subst z;rw[zM]at e;cases e;exact new
 ·rw[zI z]at e
  exact(x b u e).stay (λc v _ q=>k c v q) (λc q=>by rw[zI (jE q hn)];exact q) λc xs q=>by rw[zI (jE q hn)];exact q
end
noncomputable def Rd(H:Hp)(a:Addr)(u:HO):Prop:=H a=some u\/∃o,H a=some (.frz o u)
theorem Rd.ok(r:Rd H a u)(x:HOk P w H h):ObjOk P w H h a u:=by
 rcases r with r | ⟨o,r⟩
 ·exact x a u r
 ·obtain⟨_,q⟩:=x a _ r
  exact q
noncomputable def Mut:Option HO->Prop
 | some (.lst _)=>True
 | some (.dK _)=>True
 | some (.dT _)=>True
 | some (.set _ _)=>True
 | some (.ins _ _ _)=>True
 | some (.ext _)=>True
 | _=>False
section
variable{P:Program}{w:World}{H:Hp}{h h':Heap}{x e:Addr}{o':HO}
theorem HOk.write(ok:HOk P w H h)(B:Mut (H x))(R:e=x\/H e=some (.own x))(k : ∀b u,b≠e->h.get? b=some u->h'.get? b=some u)(Y : ∃u,h'.get? e=some u)
 (new:ObjOk P w (upd H x o') h' x o'):HOk P w (upd H x o') h':=λb u q=>by
 have U : ∀c y,H c=some (.own y)->c≠x:=λc y r z=>by subst z;rw[r]at B;exact B
 have a0 : ∀c xs,H c=some (.tup xs)->c≠x:=λc xs r z=>by subst z;rw[r]at B;exact B
 by_cases I:b=x
 ·subst I;rw[zM]at q;cases q;exact new
 ·rw[zI I]at q
  by_cases M:b=e
  ·have W:H b=some (.own x):=by
    rcases R with z | z
    ·exact absurd (M.trans z) I
    ·rw[M];exact z
   rw[q]at W;cases W;obtain⟨v,hv⟩:=Y;exact⟨v,by rw[M];exact hv⟩
  ·refine(ok b u q).stay (λc v O r=>k c v ?_ r) (λc r=>by rw[zI (U c b r)];exact r) λc xs r=>by rw[zI (a0 c xs r)];exact r
   rcases O with rfl | O
   ·exact M
   ·rintro rfl
    rcases R with z | z
    ·exact U c b O z
    ·rw[O]at z;cases z;exact I rfl
end
structure Un(fs ex:List Addr)(H H':Hp)(h h':Heap):Prop where
 keep : ∀b o,h.get? b=some o->H b=none->b∉fs->b∉ex->h'.get? b=some o
 slot : ∀b o,h.get? b=some o->H b=none->b∈fs->b∉ex->∃sl,h'.get? b=some {o with slots:=sl}
 free : ∀b o,h.get? b=some o->H b=none->b∉ex->H' b=none
 there : ∀b o,h.get? b=some o->b∉ex->∃o',h'.get? b=some o'
 tups : ∀b xs,H b=some (.tup xs)->H' b=some (.tup xs)
 frzs : ∀b o u,H b=some (.frz o u)->H' b=some (.frz o u)
 tbls : ∀b ps,H b=some (.tbl ps)->∃more,H' b=some (.tbl<|ps++more)
section
variable{fs fs' ex ex':List Addr}{H H1 H2:Hp}{h h1 h2 h':Heap}{a x e:Addr}{o:HO}
theorem Un.any(u:Un fs ex H H1 h h1)(q:h.get? b=some ob)(n:H b=none)(z:b∉ex) : ∃sl,h1.get? b=some {ob with slots:=sl}:=by
 by_cases B:b∈fs
 ·exact u.slot b ob q n B z
 ·exact⟨ob.slots,u.keep b ob q n B z⟩
theorem Un.kept(k : ∀b u,h.get? b=some u->h'.get? b=some u):Un fs ex H H h h':=
 ⟨λb z q _ _ _=>k b z q,λb z q _ _ _=>⟨z.slots,k b z q⟩,λ_ _ _ n _=>n,λb z q _=>⟨z,k b z q⟩,λ_ _ q=>q,λ_ _ _ q=>q,λ_ ps q=>⟨#[],by rw[q];simp⟩⟩
theorem Un.refl:Un fs ex H H h h:=Un.kept λ_ _ q=>q
theorem Un.laid(k : ∀b u,h.get? b=some u->h'.get? b=some u)(z:h.objs.size<=a)(hn:H a=none):Un fs ex H (upd H a o) h h' where
 keep:=λb u q _ _ _=>k b u q
 slot:=λb u q _ _ _=>⟨u.slots,k b u q⟩
 free:=λb u q n _=>by rw[zI (AJ<|Ap (Ao q) z)];exact n
 there:=λb u q _=>⟨u,k b u q⟩
 tups:=λb xs q=>by rw[zI (jE q hn)];exact q
 frzs:=λb u xs q=>by rw[zI (jE q hn)];exact q
 tbls:=λb ps q=>⟨#[],by rw[zI (jE q hn),q];simp⟩
theorem Un.write(B:Mut (H x))(R:e=x\/H e=some (.own x))(k : ∀b u,b≠e->h.get? b=some u->h'.get? b=some u)(U : ∃u,h'.get? e=some u):Un fs ex H (upd H x o) h h':=by
 have I : ∀b,H b=none->b≠x:=λb n z=>by subst z;rw[n]at B;exact B
 have M : ∀b,H b=none->b≠e:=λb n z=>by
  subst z;rcases R with r | r
  ·exact I b n r
  ·rw[n]at r;cases r
 have hm : ∀b u,H b=some u->¬Mut (some u)->b≠x:=λb u q nm z=>by subst z;rw[q]at B;exact nm B
 refine⟨λb u q n _ _=>k b u (M b n) q,λb u q n _ _=>⟨u.slots,k b u (M b n) q⟩,λb u q n _=>by rw[zI (I b n)];exact n,λb u q _=>?_,
  λb xs q=>by rw[zI (hm b _ q λz=>z)];exact q,λb u xs q=>by rw[zI (hm b _ q λz=>z)];exact q,λb ps q=>⟨#[],by rw[zI (hm b _ q λz=>z),q];simp⟩⟩
 by_cases O:b=e
 ·subst O;exact U
 ·exact⟨u,k b u O q⟩
end
noncomputable def trk(h:Heap)(H:Hp):List Addr:=(uZ h.objs.size).filter λa=>(H a).isSome
noncomputable def cE(h:Heap)(H:Hp):Heap:=PySem.W.hideAll h<|trk h H
theorem aa(h:Heap)(H:Hp):(cE h H).objs.size=h.objs.size:=PySem.W.hideAll_size _ _
theorem cD(e:h.get? b=some o)(n:H b=none):(cE h H).get? b=some o:=
 PySem.W.hideAll_get _ e λhm=>by have q:(H b).isSome=true:=(Cc.mp hm).2;rw[n]at q;simp at q
theorem gk(e:(cE h H).get? b=some o):h.get? b=some o/\H b=none:=by
 have B:h.get? b=some o:=PySem.W.of_hideAll (trk h H) e;refine⟨B,?_⟩;cases q:H b with
 | none=>rfl
 | some x=>
  have hm:b∈trk h H:=Cc.mpr ⟨Aq.mpr<|Ao B,by simp[q]⟩;have z:(cE h H).get? b=none:=PySem.W.hideAll_none (trk h H) hm;rw[z]at e;cases e
noncomputable def gT(g h:Heap)(L:Addr):List (Addr×Obj):=(uZ h.objs.size).filterMap λa=>if a=L\/(g.get? a).isSome=true then none else (h.get? a).map λo=>(a,o)
noncomputable def xk(g h:Heap)(L d:Addr):List (Addr×Obj):=(gT g h L).filter λp=>decide<|p.1≠d
structure Mod(K:uW)(mg:GJ)(base:Heap):Prop where
 kin:K.In base
 glob:base.Ns mainGlobals mg
 blt : ∃mb,base.Ns builtinsNs mb/\∀x:Str,x ≠ "__name__"->mb x=bootBuiltins x
 nolimit:base.NoLimit
structure Cx where
 prog:Program
 w:World
 K:uW
 mg:Str->Option Value
 base:Heap
 A:Around
 N:List Str
 s₀:Shared
 H₀:Hp
 env:Env
 outer:List Env
 stack:List Env
 ex:List Addr
 fn:Str->Bool
 calm:Bool
 pn:List (Addr×Obj)
 xe:Value->Shared->Prop
noncomputable def frs(l:List Env):List Addr:=l.filterMap (·.frame)
abbrev Cx.fs(X:Cx):List Addr:=frs X.outer
noncomputable def Vis(sc:Scope)(x:Str):Prop:=sc.names.lookup x=some .local\/sc.names.lookup x=some .cell\/sc.names.lookup x=some .free
noncomputable def Loc(sc:Scope)(x:Str):Prop:=sc.names.lookup x=some .local\/sc.names.lookup x=some .cell
noncomputable def uI(env:Env)(h:Heap)(m:GJ)(x:Str)(u:Value):Prop:=
 (env.kindOf x=some .local/\m x=some u)\/((env.kindOf x=some .cell\/env.kindOf x=some .free)/\∃c,env.cells.lookup x=some c/\h.IsCell c (some u))
structure Cx.Ok(X:Cx):Prop where
 mod:Mod X.K X.mg X.base
 kind:X.env.scope.kind = .function
 glob:X.env.globals=mainGlobals
 blt:X.env.builtins=builtinsNs
 above:X.s₀.heap.objs.size<=X.env.locals
 inj : ∀x y c,X.env.cells.lookup x=some c->X.env.cells.lookup y=some c->x=y
 has : ∀x,(X.env.kindOf x=some .cell\/X.env.kindOf x=some .free)->∃c,X.env.cells.lookup x=some c
 cab : ∀x c,X.fn x=true->X.env.cells.lookup x=some c->X.s₀.heap.objs.size<=c
 hd:X.calm=true->X.A.handled=none
 frames:X.A.frames=some X.stack
 stk:X.stack=X.outer\/(X.stack=X.env::X.outer/\X.env.frame=some X.env.locals)
 exf : ∀b∈X.ex,b≠X.env.locals/\∀x c,X.env.cells.lookup x=some c->c≠b
 bs : ∀b o,X.base.get? b=some o->X.s₀.heap.get? b=some o/\X.H₀ b=none
 bsz:X.base.objs.size<=X.s₀.heap.objs.size
 noex : ∀b o,X.base.get? b=some o->b∉X.ex
 exfs : ∀b∈X.ex,b∉X.fs
 funs:X.s₀.heap.FunFrames X.base X.outer
 frf : ∀b∈X.fs,X.H₀ b=none
structure Inv(X:Cx)(pins:GW)(σ:List (Option V))(H:Hp)(s:Shared):Prop where
 ok:X.Ok
 os:s.os=X.s₀.os
 bare:AllBare s.gens
 base:Un X.fs X.ex X.H₀ H X.s₀.heap s.heap
 loc : ∃m,s.heap.Ns X.env.locals m/\∀(i:Nat) (x:Str) (v:V),X.N[i]? = some x->σ[i]? = some (some v)->Vis X.env.scope x->∃u,RelV v u/\uI X.env s.heap m x u
 cell : ∀x c,X.env.cells.lookup x=some c->∃v,s.heap.IsCell c v
 free:H X.env.locals=none
 freeC : ∀x c,X.env.cells.lookup x=some c->H c=none
 pin : ∀p∈X.pn++pins,s.heap.get? p.1=some p.2/\H p.1=none/\p.1≠X.env.locals/\p.1∉X.fs/\∀v,p.2.data ≠ .cell v
 hok:HOk X.prog X.w H s.heap
 len:σ.length=X.N.length
section
variable{X:Cx}{pins:GW}{σ:List (Option V)}{H H':Hp}{s:Shared}{h':Heap}
theorem Cx.Ok.nofr(ok:X.Ok)(e:X.base.get? b=some o):b∉X.fs:=λz=>by have:=(ok.funs.mem z).1;rw[e]at this;cases this
theorem Inv.bs(I:Inv X pins σ H s) : ∀b o,X.base.get? b=some o->s.heap.get? b=some o/\H b=none:=λb o e=>
 ⟨I.base.keep b o (I.ok.bs b o e).1 (I.ok.bs b o e).2 (I.ok.nofr e) (I.ok.noex b o e),I.base.free b o (I.ok.bs b o e).1 (I.ok.bs b o e).2 (I.ok.noex b o e)⟩
theorem Inv.bk(I:Inv X pins σ H s) : ∀b o,X.base.get? b=some o->s.heap.get? b=some o:=λb o e=>(I.bs b o e).1
theorem Inv.mod(I:Inv X pins σ H s):Mod X.K X.mg X.base:=I.ok.mod
theorem Inv.kIn(I:Inv X pins σ H s):X.K.In s.heap:=I.ok.mod.kin.keeps I.bk
theorem Inv.lt(I:Inv X pins σ H s):X.env.locals<s.heap.objs.size:=let ⟨_,hn,_⟩:=I.loc;hn.lt
theorem Inv.sz(I:Inv X pins σ H s):X.s₀.heap.objs.size<=s.heap.objs.size:=AE I.ok.above<|FW I.lt
theorem Inv.nofs(I:Inv X pins σ H s)(h:s.heap.objs.size<=a):a∉X.fs:=λz=>by obtain⟨_,o,B,_⟩:=I.ok.funs.mem z;exact absurd (Ap (Ao B)<|AE I.sz h)<|By _
theorem Inv.cne(I:Inv X pins σ H s) : ∀x c,X.env.cells.lookup x=some c->c≠X.env.locals:=λx c e z=>by obtain⟨v,o,B,hd⟩:=I.cell x c e;obtain⟨m,⟨o',es,R,M,O,_⟩,_⟩:=I.loc;rw[z,M]at B;cases B;rw[O]at hd;cases hd
theorem Inv.funs(I:Inv X pins σ H s):s.heap.FunFrames X.base X.outer:=by
 have all : ∀(l:List Env),(∀b∈frs l,b∈X.fs)->X.s₀.heap.FunFrames X.base l->s.heap.FunFrames X.base l:=by
  intro l
  induction l with
  | nil=>intro _ _;trivial
  | cons env r U=>
   intro R W;obtain⟨Y,⟨L,o,B,hn,ho,hd⟩,hr⟩:=W;have M:L∈X.fs:=R L (by unfold frs;rw[Fx,B];exact Ai);obtain⟨sl,e⟩:=I.base.slot L o ho (I.ok.frf L M) M λz=>I.ok.exfs L z M;exact⟨Y,⟨L,_,B,hn,e,hd⟩,U (λb O=>R b<|by unfold frs;rw[Fx,B];exact Ah _ O) hr⟩
 exact all X.outer (λ_ O=>O) I.ok.funs
theorem Inv.stack(I:Inv X pins σ H s):s.heap.FunFrames X.base X.stack:=by
 rcases I.ok.stk with e | ⟨e,z⟩
 ·rw[e];exact I.funs
 ·rw[e]
  obtain⟨m,hn,_⟩:=I.loc;refine .cons (by rw[I.ok.kind];decide) z hn ?_ I.funs;exact Heap.get?_none_of_le<|AE I.ok.bsz I.ok.above
theorem Inv.stkSub(I:Inv X pins σ H s) : ∀b∈frs X.stack,b∈X.env.locals::X.fs:=λb z=>by
 rcases I.ok.stk with e | ⟨e,B⟩
 ·rw[e]at z;exact Ah _ z
 ·rw[e]at z
  unfold frs at z;rw[Fx,B]at z;exact z
theorem Inv.stkFree(I:Inv X pins σ H s) : ∀b∈frs X.stack,H b=none:=λb B=>by
 rcases Ag.mp (I.stkSub b B)with e | B
 ·rw[e];exact I.free
 ·obtain⟨_,o,M,_⟩:=I.ok.funs.mem B
  exact I.base.free b o M (I.ok.frf b B) λz=>I.ok.exfs b z B
theorem Inv.step{g':Array GenState}{t':Nat}{d':Drawn}{ch:List Addr}(I:Inv X pins σ H s)
 (R : ∀b∈ch,(b∈X.ex\/X.s₀.heap.objs.size<=b)/\b≠X.env.locals/\(∀x c,X.env.cells.lookup x=some c->c≠b)/\∀p∈X.pn++pins,p.1≠b)
 (keep : ∀b o,b≠X.env.locals->b∉X.fs->b∉ch->s.heap.get? b=some o->H b=none->h'.get? b=some o)
 (slot : ∀b o,b≠X.env.locals->b∈X.fs->b∉ch->s.heap.get? b=some o->H b=none->∃sl,h'.get? b=some {o with slots:=sl}) (free : ∀b o,b∉ch->s.heap.get? b=some o->H b=none->H' b=none)
 (there : ∀b o,b∉ch->s.heap.get? b=some o->∃o',h'.get? b=some o')
 (tups : ∀b xs,H b=some (.tup xs)->H' b=some (.tup xs)) (frzs : ∀b o u,H b=some (.frz o u)->H' b=some (.frz o u)) (tbls : ∀b ps,H b=some (.tbl ps)->∃more,H' b=some (.tbl<|ps++more))
 (ns : ∀m,s.heap.Ns X.env.locals m->h'.Ns X.env.locals m) (hok:HOk X.prog X.w H' h') (hg:AllBare g') :
 Inv X pins σ H' {s with heap:=h',gens:=g',drawn:=d',toks:=t'}:=by
 have Y : ∀b o,X.s₀.heap.get? b=some o->b≠X.env.locals:=λb o e=>AJ<|Ap (Ao e) I.ok.above;have W : ∀b o,X.s₀.heap.get? b=some o->b∉X.ex->b∉ch:=λb o e B M=>by
  rcases (R b M).1 with z | z
  ·exact B z
  ·exact absurd (Ap (Ao e) z)<|By _
 have a0 : ∀x c,X.env.cells.lookup x=some c->∀v,s.heap.IsCell c v->h'.IsCell c v:=λx c e v hZ=>by
  obtain⟨o,O,hd⟩:=hZ;have U:c∉ch:=λz=>(R c z).2.2.1 x c e rfl;by_cases hc:c∈X.fs
  ·obtain⟨sl,q⟩:=slot c o (I.cne x c e) hc U O (I.freeC x c e)
   exact⟨_,q,hd⟩
  ·exact⟨o,keep c o (I.cne x c e) hc U O<|I.freeC x c e,hd⟩
 refine⟨I.ok,I.os,hg,⟨λb o e n M B=>?_,λb o e n M B=>?_,λb o e n B=>?_,λb o e B=>?_,λb xs e=>tups b xs<|I.base.tups b xs e,λb o xs e=>frzs b o xs<|I.base.frzs b o xs e,λb ps e=>?_⟩,?_,λx c e=>?_,?_,λx c e=>?_,λp hp=>?_,hok,I.len⟩
 ·exact keep b o (Y b o e) M (W b o e B) (I.base.keep b o e n M B)<|I.base.free b o e n B
 ·obtain⟨sl,e1⟩:=I.base.slot b o e n M B
  obtain⟨a6,e2⟩:=slot b _ (Y b o e) M (W b o e B) e1<|I.base.free b o e n B;exact⟨a6,e2⟩
 ·obtain⟨o',e1⟩:=I.base.there b o e B
  exact free b o' (W b o e B) e1<|I.base.free b o e n B
 ·obtain⟨o',e1⟩:=I.base.there b o e B
  exact there b o' (W b o e B) e1
 ·obtain⟨m1,e1⟩:=I.base.tbls b ps e
  obtain⟨m2,e2⟩:=tbls b _ e1;exact⟨m1++m2,by rw[e2,Array.append_assoc]⟩
 ·obtain⟨m,hn,hl⟩:=I.loc
  refine⟨m,ns m hn,λi x v e1 e2 e3=>?_⟩;obtain⟨u,r,l⟩:=hl i x v e1 e2 e3;refine⟨u,r,?_⟩;rcases l with l | ⟨k,c,e,z⟩
  ·exact .inl l
  ·exact .inr ⟨k,c,e,a0 x c e _ z⟩
 ·obtain⟨v,z⟩:=I.cell x c e
  exact⟨v,a0 x c e v z⟩
 ·obtain⟨m,⟨o,_,_,O,_⟩,_⟩:=I.loc
  exact free _ o (λz=>(R _ z).2.1 rfl) O I.free
 ·obtain⟨v,o,O,hd⟩:=I.cell x c e
  exact free c o (λz=>(R c z).2.2.1 x c e rfl) O<|I.freeC x c e
 ·obtain⟨e,n,ne,nf,d⟩:=I.pin p hp
  have U:p.1∉ch:=λz=>(R p.1 z).2.2.2 p hp rfl;exact⟨keep p.1 p.2 ne nf U e n,free p.1 p.2 U e n,ne,nf,d⟩
theorem Inv.un{t':Nat}(I:Inv X pins σ H s)(u:Un X.fs [] H H' s.heap h')(hok:HOk X.prog X.w H' h'):Inv X pins σ H' {s with heap:=h',toks:=t'}:=by
 obtain⟨m,⟨o,es,ep,M,r⟩,_⟩:=id I.loc;obtain⟨sl,R⟩:=u.any M I.free ⋯;exact I.step (g':=s.gens) (d':=s.drawn) (ch:=[]) (λ_ z=>nomatch z) (λb o _ B _ e n=>u.keep b o e n B ⋯) (λb o _ B _ e n=>u.slot b o e n B ⋯) (λb o _ e n=>u.free b o e n ⋯) (λb o _ e=>u.there b o e ⋯) u.tups u.frzs u.tbls (λm' hm=>by obtain⟨o',U,W,O,Y⟩:=hm;rw[M]at O;cases O;exact⟨_,U,W,R,Y⟩) hok I.bare
theorem Inv.call{g':Array GenState}{t':Nat}{d':Drawn}{ch:List Addr}(I:Inv X pins σ H s)(u:Un (frs X.stack) ch H H' s.heap h')(hok:HOk X.prog X.w H' h')(W:AllBare g')
 (O : ∀b∈ch,(b∈X.ex\/X.s₀.heap.objs.size<=b)/\b≠X.env.locals/\(∀x c,X.env.cells.lookup x=some c->c≠b)/\∀p∈X.pn++pins,p.1≠b) :
 Inv X pins σ H' {s with heap:=h',gens:=g',drawn:=d',toks:=t'}:=by
 obtain⟨m,⟨o,es,ep,R,r⟩,_⟩:=id I.loc;obtain⟨sl,M⟩:=u.any R I.free λz=>(O _ z).2.1 rfl;exact I.step (ch:=ch) O (λb o M Y B e n=>u.keep b o e n (λz=>(Ag.mp<|I.stkSub b z).elim M Y) B) (λb o _ _ B e n=>u.any e n B) (λb o B e n=>u.free b o e n B) (λb o B e=>u.there b o e B) u.tups u.frzs u.tbls (λm' hm=>by obtain⟨o',a0,a1,U,r'⟩:=hm;rw[R]at U;cases U;exact⟨_,a0,a1,M,r'⟩) hok W
theorem Inv.turned{t':Nat}{it:Addr}(I:Inv X pins σ H s)(k : ∀b o,b≠it->s.heap.get? b=some o->h'.get? b=some o)(hn:H it=none)(M:it≠X.env.locals)
 (h1:it∈X.ex\/X.s₀.heap.objs.size<=it) (h2 : ∀x c,X.env.cells.lookup x=some c->c≠it) (R : ∀p∈X.pn++pins,p.1≠it):Inv X pins σ H {s with heap:=h',toks:=t'}:=by
 have O : ∀b u,H b=some u->b≠it:=λb u e z=>by rw[z,hn]at e;cases e
 refine I.step (g':=s.gens) (d':=s.drawn) (ch:=[it]) (λb U=>?_) (λb o _ _ B e _=>k b o (λz=>B<|by simp[z]) e) (λb o _ _ B e _=>⟨o.slots,k b o (λz=>B<|by simp[z]) e⟩) (λ_ _ _ _ n=>n)
  (λb o B e=>⟨o,k b o (λz=>B<|by simp[z]) e⟩) (λ_ _ e=>e) (λ_ _ _ e=>e) (λb ps e=>⟨#[],by rw[e];simp⟩) (λm hm=>?_) (λb u e=>?_) I.bare
 ·have e:b=it:=by simpa using U
  subst e;exact⟨h1,M,h2,R⟩
 ·obtain⟨o,es,W,Y,r⟩:=hm
  exact⟨o,es,W,k _ o (AR M) Y,r⟩
 ·refine(I.hok b u e).stay (λc v B q=>k c v ?_ q) (λ_ q=>q) λ_ _ q=>q
  rcases B with z | z
  ·rw[z];exact O b u e
  ·exact O c _ z
theorem Inv.tok(I:Inv X pins σ H s)(t:Nat):Inv X pins σ H {s with toks:=t}:=I.un (h':=s.heap) (t':=t) Un.refl I.hok
theorem Inv.kept(I:Inv X pins σ H s)(k : ∀b u,s.heap.get? b=some u->h'.get? b=some u):Inv X pins σ H {s with heap:=h',toks:=t'}:=I.un (Un.kept k)<|I.hok.kept k
theorem Inv.laid(I:Inv X pins σ H s)(k : ∀b u,s.heap.get? b=some u->h'.get? b=some u)(z:s.heap.objs.size<=a)(new:ObjOk X.prog X.w (upd H a o) h' a o) :
 Inv X pins σ (upd H a o) {s with heap:=h',toks:=t'}:=I.un (Un.laid k z<|I.hok.fresh z)<|I.hok.laid k z new
theorem Inv.write(I:Inv X pins σ H s)(z:Mut (H x))(B:e=x\/H e=some (.own x))(k : ∀b u,b≠e->s.heap.get? b=some u->h'.get? b=some u)(M : ∃u,h'.get? e=some u)
 (new:ObjOk X.prog X.w (upd H x o) h' x o):Inv X pins σ (upd H x o) {s with heap:=h',toks:=t'}:=I.un (Un.write z B k M)<|I.hok.write z B k M new
theorem Inv.pins_of(I:Inv X pins σ H s)(h : ∀p∈B,s.heap.get? p.1=some p.2/\H p.1=none/\p.1≠X.env.locals/\p.1∉X.fs/\∀v,p.2.data ≠ .cell v):Inv X B σ H s:=
 ⟨I.ok,I.os,I.bare,I.base,I.loc,I.cell,I.free,I.freeC,λp M=>(Cd.mp M).elim (λz=>I.pin p<|List.mem_append_left _ z) (h p),I.hok,I.len⟩
theorem Yz{N:List Str}(z:N.Nodup){i j:Nat}{x:Str}(a:N[i]? = some x)(b:N[j]? = some x):i=j:=by obtain⟨h1,e1⟩:=Af.mp a;obtain⟨h2,e2⟩:=Af.mp b;exact(List.getElem_inj z).mp (e1.trans e2.symm)
theorem QW{M:Model}{A:Around}{E:GQ}{i:Nat}{x:Str}{v:V}{u:Value}{Q:Unit->Shared->Prop}(I:Inv X pins σ H s)(hN:X.N.Nodup)(hi:X.N[i]? = some x)(R:Loc X.env.scope x)(r:RelV v u)
 (h : ∀s',Inv X pins (σ.set i<|some v) H s'->(∃a,BS a s.heap s'.heap/\(a=X.env.locals\/X.env.cells.lookup x=some a))->Q () s') (hf:X.fn x=true\/X.env.scope.names.lookup x=some .local:=by first | exact .inl rfl | exact .inr rfl | assumption):wpAny M A (storeName X.env x u) Q E s:=by
 obtain⟨m,hn,hl⟩:=id I.loc;have as:(X.env.scope.kind == .class || (X.env.scope.kind == .module && X.env.locals != X.env.globals))=false:=by rw[I.ok.kind];rfl
 have ac:i<σ.length:=by rw[I.len];exact(Af.mp hi).1
 have cne:=I.cne;have ag : ∀{a:Addr} {h':Heap},(∃o,s.heap.get? a=some o/\H a=none)->BS a s.heap h'->HOk X.prog X.w H h':=λ{a h'} ha B b ob e=>by
  obtain⟨_,_,am⟩:=ha;refine(I.hok b ob e).stay (λc w' O q=>(B.2 c ?_).trans q) (λ_ q=>q) λ_ _ q=>q;rintro rfl;rcases O with rfl | O
  ·rw[am]at e;cases e
  ·rw[am]at O;cases O
 rcases R with U | U
 ·refine wpAny_storeName_local U hn (λh' ax B=>?_) as
  obtain⟨oL,_,_,b7,_⟩:=id hn;refine h _ ⟨I.ok,I.os,I.bare,⟨λb o e n W R=>?_,λb o e n W R=>?_,I.base.free,λb o e R=>?_,I.base.tups,I.base.frzs,I.base.tbls⟩,⟨_,ax,λj y v' e1 e2 e3=>?_⟩,λy c e=>?_,I.free,I.freeC,λp hp=>?_,ag ⟨oL,b7,I.free⟩ B,by simpa using I.len⟩ ⟨_,B,.inl rfl⟩
  ·exact(B.2 b<|AJ<|Ap (Ao e) I.ok.above).trans (I.base.keep b o e n W R)
  ·obtain⟨sl,e1⟩:=I.base.slot b o e n W R
   exact⟨sl,(B.2 b<|AJ<|Ap (Ao e) I.ok.above).trans e1⟩
  ·obtain⟨o',e1⟩:=I.base.there b o e R
   exact⟨o',(B.2 b<|AJ<|Ap (Ao e) I.ok.above).trans e1⟩
  ·by_cases Y:j=i
   ·subst Y
    rw[hi]at e1;cases e1;rw[Ar ac]at e2;cases e2;exact⟨u,r,.inl ⟨U,by simp⟩⟩
   ·rw[Ac (AR Y)]at e2
    obtain⟨u',r',q⟩:=hl j y v' e1 e2 e3;refine⟨u',r',?_⟩;rcases q with⟨k,e⟩ | ⟨k,c,e,z⟩
    ·refine .inl ⟨k,?_⟩
     have:y≠x:=λe=>Y<|Yz hN e1<|e ▸ hi;simp[this,e]
    ·exact .inr ⟨k,c,e,z.sameBut B<|cne y c e⟩
  ·obtain⟨w',z⟩:=I.cell y c e
   exact⟨w',z.sameBut B<|cne y c e⟩
  ·obtain⟨e,n,ne,nf,d⟩:=I.pin p hp
   exact⟨(B.2 p.1 ne).trans e,n,ne,nf,d⟩
 ·have a7:X.fn x=true:=by
   rcases hf with z | z
   ·exact z
   ·rw[z]at U;cases U
  obtain⟨c,O⟩:=I.ok.has x<|.inl U;obtain⟨w',z⟩:=I.cell x c O;refine wpAny_storeName_cell I.ok.kind U O z<|λh' an B=>?_;obtain⟨oc,ao,b8⟩:=id z;refine h {s with heap:=h'} ⟨I.ok,I.os,I.bare,⟨λb o e n W R=>?_,λb o e n W R=>?_,I.base.free,λb o e R=>?_,I.base.tups,I.base.frzs,I.base.tbls⟩,⟨m,hn.sameBut B<|AR<|cne x c O,λj y v' e1 e2 e3=>?_⟩,λy c' e=>?_,I.free,I.freeC,λp hp=>?_,ag ⟨oc,ao,I.freeC x c O⟩ B,by simpa using I.len⟩ ⟨c,B,.inr O⟩
  ·exact(B.2 b<|AJ<|Ap (Ao e)<|I.ok.cab x c a7 O).trans (I.base.keep b o e n W R)
  ·obtain⟨sl,e1⟩:=I.base.slot b o e n W R
   exact⟨sl,(B.2 b<|AJ<|Ap (Ao e)<|I.ok.cab x c a7 O).trans e1⟩
  ·obtain⟨o',e1⟩:=I.base.there b o e R
   exact⟨o',(B.2 b<|AJ<|Ap (Ao e)<|I.ok.cab x c a7 O).trans e1⟩
  ·by_cases Y:j=i
   ·subst Y
    rw[hi]at e1;cases e1;rw[Ar ac]at e2;cases e2;exact⟨u,r,.inr ⟨.inl U,c,O,an⟩⟩
   ·rw[Ac (AR Y)]at e2
    obtain⟨u',r',q⟩:=hl j y v' e1 e2 e3;refine⟨u',r',?_⟩;rcases q with q | ⟨k,c',e,z'⟩
    ·exact .inl q
    ·refine .inr ⟨k,c',e,z'.sameBut B ?_⟩
     rintro rfl;exact Y<|Yz hN e1<|I.ok.inj _ _ _ e O ▸ hi
  ·by_cases ap:c'=c
   ·subst ap;exact⟨_,an⟩
   ·obtain⟨w2,z2⟩:=I.cell y c' e
    exact⟨w2,z2.sameBut B ap⟩
  ·obtain⟨e,n,ne,nf,d⟩:=I.pin p hp
   refine⟨(B.2 p.1 ?_).trans e,n,ne,nf,d⟩;intro q;rw[q,ao]at e;have q':oc=p.2:=AU e;exact d w' (by rw[<- q'];exact b8)
theorem Yi(I:Inv X pins σ H s)(z:X.N.Nodup)(hi:X.N[i]? = some x)(B:Loc X.env.scope x)(r:RelV v u)
 (h : ∀s',Inv X pins (σ.set i<|some v) H s'->Q () s') (O:X.fn x=true\/X.env.scope.names.lookup x=some .local:=by first | exact .inl rfl | exact .inr rfl | assumption):wpAny M A (storeName X.env x u) Q E s:=
 QW I z hi B r (λs' R _=>h s' R) O
theorem Inv.call'(I:Inv X pins σ H s)(z:s'.os=s.os)(u:Un (frs X.stack) ch H H' s.heap s'.heap)(hok:HOk X.prog X.w H' s'.heap)(B:AllBare s'.gens)
 (M : ∀b∈ch,(b∈X.ex\/X.s₀.heap.objs.size<=b)/\b≠X.env.locals/\(∀x c,X.env.cells.lookup x=some c->c≠b)/\∀p∈X.pn++pins,p.1≠b):Inv X pins σ H' s':=by
 obtain⟨h',g',d',t',o'⟩:=s';have e:o'=s.os:=z;subst e;exact I.call (g':=g') (t':=t') (d':=d') u hok B M
end
abbrev XK:=Value->Option Addr->Hp->Prop
abbrev St:=List (Option V)
abbrev VK:=V->Hp->Prop
abbrev TE:=St->Hp->VK->Prop
abbrev TT:=St->Hp->(Bool->Hp->Prop)->Prop
abbrev TA:=St->Hp->(List V->Hp->Prop)->Prop
structure Ends where
 nx:St->Hp->Prop
 rt:VK
 bk:St->Hp->Prop:=λ_ _=>False
 ct:St->Hp->Prop:=λ_ _=>False
abbrev TS:=Ends->St->Hp->Prop
noncomputable def EP(X:Cx)(pins:GW)(σ:St)(Q:VK)(u:Value)(s':Shared):Prop:=∃v H',Inv X pins σ H' s'/\RelV v u/\Q v H'
noncomputable def TP(X:Cx)(pins:GW)(σ:St)(Q:Bool->Hp->Prop)(b:Bool)(s':Shared):Prop:=∃H',Inv X pins σ H' s'/\Q b H'
noncomputable def AP(X:Cx)(pins:GW)(σ:St)(Q:List V->Hp->Prop)(us:List Value)(s':Shared):Prop:=∃vs H',Inv X pins σ H' s'/\Vals vs us/\Q vs H'
noncomputable def SP(X:Cx)(pins:GW)(D:Ends)(f:Flow)(s':Shared):Prop:=
 match f with
 | .next=>∃σ' H',Inv X pins σ' H' s'/\D.nx σ' H'
 | .brk=>∃σ' H',Inv X pins σ' H' s'/\D.bk σ' H'
 | .cont=>∃σ' H',Inv X pins σ' H' s'/\D.ct σ' H'
 | .ret u=>∃v σ' H',Inv X pins σ' H' s'/\RelV v u/\D.rt v H'
noncomputable def PE(X:Cx)(e:Expr)(t:TE):Prop:=
 ∀(pins:GW) (s:Shared) (σ:St) (H:Hp) (Q:VK),Inv X pins σ H s->t σ H Q->wpAny (model X.prog X.w) X.A (eval e X.env) (EP X pins σ Q) X.xe s
noncomputable def PT(X:Cx)(e:Expr)(t:TT):Prop:=
 ∀(pins:GW) (s:Shared) (σ:St) (H:Hp) (Q:Bool->Hp->Prop),Inv X pins σ H s->t σ H Q->wpAny (model X.prog X.w) X.A (isTrue e X.env<|eval e X.env) (TP X pins σ Q) X.xe s
noncomputable def PW(X:Cx)(e:Expr)(t:TT):Prop:=
 ∀(z:Sem Value) (pins:GW) (s:Shared) (σ:St) (H:Hp) (Q:Bool->Hp->Prop),Inv X pins σ H s->t σ H Q->wpAny (model X.prog X.w) X.A (isTrue e X.env z) (TP X pins σ Q) X.xe s
theorem PW.pt(h:PW X e t):PT X e t:=h _
noncomputable def PA(X:Cx)(es:List Expr)(t:TA):Prop:=
 ∀(pos:Pos) (pins:GW) (s:Shared) (σ:St) (H:Hp) (Q:List V->Hp->Prop),Inv X pins σ H s->t σ H Q->wpAny (model X.prog X.w) X.A (spliced<|backTo pos<|starEach es X.env) (AP X pins σ Q) X.xe s
noncomputable def PS(X:Cx)(st:Stmt)(t:TS):Prop:=
 ∀(pins:GW) (s:Shared) (σ:St) (H:Hp) (D:Ends),Inv X pins σ H s->t D σ H->wpAny (model X.prog X.w) X.A (exec st X.env) (SP X pins D) X.xe s
noncomputable def PSs(X:Cx)(st:List Stmt)(t:TS):Prop:=
 ∀(pins:GW) (s:Shared) (σ:St) (H:Hp) (D:Ends),Inv X pins σ H s->t D σ H->wpAny (model X.prog X.w) X.A (execs st X.env) (SP X pins D) X.xe s
theorem thn(h:wpAny M A t Q E s)(z : ∀a s,Q a s->Q' a s):wpAny M A t Q' E s:=CN h z λ_ _ x=>x
section
variable{X:Cx}
noncomputable def gV(i:Nat):TE:=λσ H Q=>∃v,σ[i]? = some (some v)/\Q v H
noncomputable def tC(v:V):TE:=λ_ H Q=>Q v H
theorem lu(R:X.N[i]? = some x)(U:Vis X.env.scope x)(hd:(x==("__debug__" : Str))=false:=by decide)(W:(x==("__classdict__" : Str))=false:=by decide):PE X (.Name x pos) (gV i):=by
 intro pins s σ H Q I h;obtain⟨v,e,h⟩:=h;obtain⟨m,hn,Y⟩:=I.loc;obtain⟨u,r,l⟩:=Y i x v R e U;have B:EP X pins σ Q u s:=⟨v,H,I,r,h⟩;rcases l with⟨z,hm⟩ | ⟨z,c,M,O⟩
 ·exact wpAny_Name (wpAny_loadName_local I.ok.kind z hn hm B) hd
 ·rcases z with z | z
  ·exact wpAny_Name (wpAny_loadName_cell I.ok.kind z M O B) hd
  ·exact wpAny_Name (wpAny_loadName_free I.ok.kind z M O B W) hd
theorem lE:PE X (.Constant (.int i) j pos) (tC<|.int i):=λ_ _ _ H _ I h=>wpAny_Constant_int ⟨.int i,H,I.tok _,⟨_,rfl⟩,h⟩
theorem pv:PE X (.Constant (.bool b) j pos) (tC<|.bl b):=λ_ _ _ H _ I h=>Constant_bool ⟨.bl b,H,I,rfl,h⟩
theorem ly:PE X (.Constant (.str x) j pos) (tC<|.str x):=λ_ _ _ H _ I h=>Calls.Constant_str ⟨.str x,H,I.tok _,⟨_,rfl⟩,h⟩
noncomputable def Gl(X:Cx)(x:Str):Prop:=X.env.kindOf x=some .globalImplicit
theorem WW(I:Inv X pins σ H s)(z:Gl X x)(hm:X.mg x=some u)(h:Q u s)
 (hd:(x==("__debug__" : Str))=false:=by decide):wpAny (model X.prog X.w) X.A (eval (.Name x pos) X.env) Q E s:=
 Calls.Name_function_global I.ok.kind z (Calls.loadGlobal_global (by rw[I.ok.glob];exact I.mod.glob.keeps I.bk) hm h) hd
theorem qN(I:Inv X pins σ H s)(z:Gl X x)(hm:X.mg x=none)(B:bootBuiltins x=some u)(h:Q u s)
 (hn:x ≠ "__name__":=by decide) (hd:(x==("__debug__" : Str))=false:=by decide):wpAny (model X.prog X.w) X.A (eval (.Name x pos) X.env) Q E s:=by
 obtain⟨mb,h1,h2⟩:=I.mod.blt;exact Calls.Name_function_global I.ok.kind z (Calls.loadGlobal_builtin (by rw[I.ok.glob];exact I.mod.glob.keeps I.bk) hm (by rw[I.ok.blt];exact h1.keeps I.bk) ((h2 x hn).trans B) h) hd
variable{a b:Expr}{ta tb:TE}{pos:Pos}
noncomputable def tB(t:TE):TT:=λσ H Q=>t σ H λx H1=>∃c,x = .bl c/\Q c H1
theorem iU(h:PE X e t)(B : ∀z,isTrue e X.env z=(do let v <- z;standAt e.pos;holding [v] (truthy v)):=by intro _;rfl):PT X e (tB t):=by intro pins s σ H Q I hw;refine isTrue_plain (thn (h pins s σ H _ I hw) λv s1 M=>?_)<|B _;obtain⟨x,H1,O,R,U⟩:=M;obtain⟨d,rfl,q⟩:=U;cases R;exact BC ⟨H1,O,q⟩
variable{tA tB':TT}{xk:List Expr}
noncomputable def tR(t u:TT):TT:=λσ H Q=>t σ H λc H1=>if c=true then u σ H1 Q else Q false H1
noncomputable def tOr(t u:TT):TT:=λσ H Q=>t σ H λc H1=>if c=true then Q true H1 else u σ H1 Q
noncomputable def tK(t:TT):TT:=λσ H Q=>t σ H λc H1=>Q (!c) H1
theorem fD(ha:PT X a tA):PW X (.BoolOp .And [a] pos) tA:=by
 intro z pins s σ H Q I h;refine isTrue_and<|thn (ha pins s σ H Q I h) λc s1 e=>?_;cases c with
 | true=>exact isTrue_and_nil e
 | false=>exact e
theorem iO(ha:PT X a tA):PW X (.BoolOp .Or [a] pos) tA:=by
 intro z pins s σ H Q I h;refine isTrue_or<|thn (ha pins s σ H Q I h) λc s1 e=>?_;cases c with
 | false=>exact isTrue_or_nil e
 | true=>exact e
theorem iP(ha:PT X a tA)(M:PW X (.BoolOp .And (b::xk) pos) tB'):PW X (.BoolOp .And (a::b::xk) pos) (tR tA tB'):=by
 intro O pins s σ H Q I h;refine isTrue_and<|thn (ha pins s σ H _ I h) λc s1 R=>?_;obtain⟨H1,z,B⟩:=R;cases c with
 | true=>exact M O pins s1 σ H1 Q z B
 | false=>exact⟨H1,z,B⟩
theorem oX(ha:PT X a tA)(M:PW X (.BoolOp .Or (b::xk) pos) tB'):PW X (.BoolOp .Or (a::b::xk) pos) (tOr tA tB'):=by
 intro O pins s σ H Q I h;refine isTrue_or<|thn (ha pins s σ H _ I h) λc s1 R=>?_;obtain⟨H1,z,B⟩:=R;cases c with
 | true=>exact⟨H1,z,B⟩
 | false=>exact M O pins s1 σ H1 Q z B
theorem iV(ha:PT X a tA):PT X (.UnaryOp .Not a pos) (tK tA):=by intro pins s σ H Q I h;exact isTrue_not<|ha pins s σ H (λc H1=>Q (!c) H1) I h
noncomputable def oI(ta tb:TE):TE:=λσ H Q=>ta σ H λx H1=>∃c,x = .bl c/\if c=true then tb σ H1 Q else Q (.bl false) H1
noncomputable def oE(ta:TE):TE:=λσ H Q=>ta σ H λx H1=>∃c,x = .bl c/\Q (.bl<|!c) H1
theorem lA(h:PE X a t):PE X (.BoolOp op [a] pos) t:=λpins s σ H Q I hw=>BoolOp_one<|h pins s σ H Q I hw
theorem lF(ha:PE X a ta)(M:PE X (.BoolOp .And (b::xk) pos) tb):PE X (.BoolOp .And (a::b::xk) pos) (oI ta tb):=by
 intro pins s σ H Q I h;refine BoolOp_and<|thn (ha pins s σ H _ I h) λv s1 O=>?_;obtain⟨x,H1,B,R,z⟩:=O;obtain⟨c,rfl,z⟩:=z;cases R;refine BC ?_;cases c with
 | true=>exact M pins s1 σ H1 Q B z
 | false=>exact⟨.bl false,H1,B,rfl,z⟩
theorem lB(ha:PE X a ta):PE X (.UnaryOp .Not a pos) (oE ta):=by intro pins s σ H Q I h;refine UnaryOp_<|thn (ha pins s σ H _ I h) λv s1 B=>?_;obtain⟨x,H1,M,O,z⟩:=B;obtain⟨c,rfl,z⟩:=z;cases O;exact not_of<|BC ⟨.bl<|!c,H1,M,rfl,z⟩
noncomputable def tIf(t:TT)(ta tb:TE):TE:=λσ H Q=>t σ H λc H1=>if c=true then ta σ H1 Q else tb σ H1 Q
theorem bW(M:PT X c tA)(ha:PE X a ta)(O:PE X b tb):PE X (.IfExp c a b pos) (tIf tA ta tb):=by
 intro pins s σ H Q I h;refine wpAny_IfExp<|thn (M pins s σ H _ I h) λd s1 R=>?_;obtain⟨H1,z,B⟩:=R;cases d with
 | true=>exact ha pins s1 σ H1 Q z B
 | false=>exact O pins s1 σ H1 Q z B
end
noncomputable def SqL(K:uW)(H:Hp)(a:Addr)(xs:List V):Prop:=
 Rd H a (.lst xs)\/
  ∃(o:Obj) (z:Array Value) (n:Nat),K.lookup a=some o/\o.cls = .type "list"/\o.dict=none/\o.data = .seq z n/\z.size<=sizeLine/\Vals xs z.toList
noncomputable def SqT(K:uW)(H:Hp)(a:Addr)(xs:List V):Prop:=
 Rd H a (.tup xs)\/
  ∃(o:Obj) (z:Array Value) (n:Nat),K.lookup a=some o/\(o.cls,o.dict)=(Fg "tuple",none)/\o.data = .seq z n/\z.size<=sizeLine/\Vals xs z.toList
noncomputable def uF:Value->Option V
 | .none=>some .non
 | .bool b=>some (.bl b)
 | .int i _=>some (.int i)
 | .str x _=>some (.str x)
 | .bytes b _=>some (.byt b)
 | .float b _=>some (.flt b)
 | .ref a=>some (.ref a)
 | .type n=>some (.ty n)
 | _=>none
theorem RelV.abs(r:RelV x u):uF u=some x:=by
 cases x with
 | non=>cases r;rfl
 | bl _=>cases r;rfl
 | int _=>obtain⟨t,rfl⟩:=r;rfl
 | str _=>obtain⟨t,rfl⟩:=r;rfl
 | byt _=>obtain⟨t,rfl⟩:=r;rfl
 | flt _=>obtain⟨t,rfl⟩:=r;rfl
 | ref _=>cases r;rfl
 | ty _=>cases r;rfl
theorem RelV.inj(r:RelV x u)(q:RelV y u):x=y:=AU<|r.abs.symm.trans q.abs
theorem Vals.inj : ∀{xs ys:List V} {us:List Value},Vals xs us->Vals ys us->xs=ys
 | _,_,_,.nil,.nil=>rfl
 | _,_,_,.cons r t,.cons r' t'=>by rw[r.inj r',Vals.inj t t']
section
variable{X:Cx}{pins:GW}{σ:St}{H:Hp}{s:Shared}{a:Addr}{xs ys:List V}
theorem SqL.of{K:uW}(h:H a=some (.lst xs)):SqL K H a xs:= .inl (.inl h)
theorem SqT.of{K:uW}(h:H a=some (.tup xs)):SqT K H a xs:= .inl (.inl h)
theorem Inv.list(I:Inv X pins σ H s)(h:SqL X.K H a xs) : ∃B:List Value,Vals xs B/\PlainL s.heap a B.toArray/\xs.length<=sizeLine:=by
 rcases h with h | ⟨o,B,n,M,O,hd,R,U,r⟩
 ·obtain⟨z,B,n,r,e⟩:=h.ok I.hok
  exact⟨B,r,⟨_,n,e,rfl,rfl,rfl⟩,z⟩
 ·refine⟨B.toList,r,⟨o,n,I.kIn a o M,O,hd,by simpa using R⟩,?_⟩
  have e:=r.length;simp only[Ei]at e;omega
theorem Inv.tuple(I:Inv X pins σ H s)(h:SqT X.K H a xs) : ∃B:List Value,Vals xs B/\IsTup s.heap a B.toArray/\xs.length<=sizeLine:=by
 rcases h with h | ⟨o,B,n,M,O,R,U,r⟩
 ·obtain⟨z,B,r,p⟩:=h.ok I.hok
  exact⟨B,r,p.tup,z⟩
 ·refine⟨B.toList,r,⟨o,I.kIn a o M,(Prod.mk.inj O).1,n,by simpa using R⟩,?_⟩
  have e:=r.length;simp only[Ei]at e;omega
theorem Inv.list_inj(I:Inv X pins σ H s)(h:SqL X.K H a xs)(h':SqL X.K H a ys):xs=ys:=by
 obtain⟨B,r,⟨o,n,e,_,_,d⟩,_⟩:=I.list h;obtain⟨its',M,⟨o',O,z,_,_,d'⟩,_⟩:=I.list h';rw[e]at z;cases z;rw[d]at d';injection d' with d1 _;have:B=its':=by simpa using congrArg Array.toList d1
 subst this;exact r.inj M
theorem Inv.tuple_inj(I:Inv X pins σ H s)(h:SqT X.K H a xs)(h':SqT X.K H a ys):xs=ys:=by
 obtain⟨B,r,⟨o,e,_,n,d⟩,_⟩:=I.tuple h;obtain⟨its',M,⟨o',z,_,O,d'⟩,_⟩:=I.tuple h';rw[e]at z;cases z;rw[d]at d';injection d' with d1 _;have:B=its':=by simpa using congrArg Array.toList d1
 subst this;exact r.inj M
end
abbrev Cx.wish(X:Cx)(E:GQ):Cx:={X with xe:=E}
abbrev Cx.nox(X:Cx):Cx:=X.wish λ_ _=>False
theorem Cx.Ok.wish{X:Cx}(ok:X.Ok)(E:GQ):(X.wish E).Ok:=
 ⟨ok.mod,ok.kind,ok.glob,ok.blt,ok.above,ok.inj,ok.has,ok.cab,ok.hd,ok.frames,ok.stk,ok.exf,ok.bs,ok.bsz,ok.noex,ok.exfs,ok.funs,ok.frf⟩
theorem Cx.Ok.unwish{X:Cx}{E:GQ}(ok:(X.wish E).Ok):X.Ok:=
 ⟨ok.mod,ok.kind,ok.glob,ok.blt,ok.above,ok.inj,ok.has,ok.cab,ok.hd,ok.frames,ok.stk,ok.exf,ok.bs,ok.bsz,ok.noex,ok.exfs,ok.funs,ok.frf⟩
section
variable{X:Cx}{pins:GW}{σ:St}{H:Hp}{s:Shared}{E:GQ}
theorem Inv.wish(I:Inv X pins σ H s)(E:GQ):Inv (X.wish E) pins σ H s:=⟨I.ok.wish E,I.os,I.bare,I.base,I.loc,I.cell,I.free,I.freeC,I.pin,I.hok,I.len⟩
theorem Inv.unwish(I:Inv (X.wish E) pins σ H s):Inv X pins σ H s:=⟨I.ok.unwish,I.os,I.bare,I.base,I.loc,I.cell,I.free,I.freeC,I.pin,I.hok,I.len⟩
theorem SP.unwish(h:SP (X.wish E) pins D f s'):SP X pins D f s':=by
 cases f with
 | next=>obtain⟨σ',H',I,q⟩:=h;exact⟨σ',H',I.unwish,q⟩
 | brk=>obtain⟨σ',H',I,q⟩:=h;exact⟨σ',H',I.unwish,q⟩
 | cont=>obtain⟨σ',H',I,q⟩:=h;exact⟨σ',H',I.unwish,q⟩
 | ret u=>obtain⟨v,σ',H',I,r,q⟩:=h;exact⟨v,σ',H',I.unwish,r,q⟩
theorem PSs.nox{st:List Stmt}{t:TS}(h:PSs X.nox st t):PSs X st t:=λpins s σ H D I hw=>
 CN (h pins s σ H D (I.wish _) hw) (λ_ _ q=>q.unwish) λ_ _ z=>Cw z
end
section
variable{X:Cx}{st:Stmt}{xk:List Stmt}{t u:TS}{e:Expr}{te:TE}{pos:Pos}
noncomputable def oG:TS:=λD σ H=>D.nx σ H
noncomputable def tI(t u:TS):TS:=λD σ H=>t {D with nx:=u D} σ H
theorem fH:PSs X [] oG:=λ_ _ σ H _ I h=>Fy ⟨σ,H,I,h⟩
theorem bL(h1:PS X st t)(h2:PSs X xk u):PSs X (st::xk) (tI t u):=by
 intro pins s σ H D I h;refine wpAny_execs_cons<|thn (h1 pins s σ H {D with nx:=u D} I h) λf s1 q=>?_;cases f with
 | next=>
  obtain⟨σ',H',z,q⟩:=q;exact h2 pins s1 σ' H' D z q
 | ret v=>exact q
 | brk=>exact q
 | cont=>exact q
theorem Ws(h1:PS X st t):PSs X [st] t:=by
 intro pins s σ H D I h;refine wpAny_execs_cons<|thn (h1 pins s σ H D I h) λf s1 q=>?_;cases f with
 | next=>exact Fy q
 | ret v=>exact q
 | brk=>exact q
 | cont=>exact q
theorem Inv.quiet(I:Inv X pins σ H s):interactive X.env=false:=by simp[interactive,I.ok.kind]
noncomputable def oH(te:TE):TS:=λD σ H=>te σ H λ_ H1=>D.nx σ H1
theorem Wv(z:PE X e te)(B:swapsWith e none pos.line X.env=pure false:=by rfl):PS X (.Expr e pos) (oH te):=by intro pins s σ H D I h;exact wpAny_Expr_any (thn (z pins s σ H _ I h) λv s1 ⟨x,H1,M,R,O⟩=>⟨σ,H1,M,O⟩) I.quiet B
noncomputable def tJ(te:TE):TS:=λD σ H=>te σ H D.rt
theorem Wu(z:PE X e te):PS X (.Return (some e) pos) (tJ te):=by intro pins s σ H D I h;exact wpAny_Return_some<|thn (z pins s σ H _ I h) λv s1 ⟨x,H1,B,M,O⟩=>⟨x,σ,H1,B,M,O⟩
noncomputable def tM(c:TT)(t u:TS):TS:=λD σ H=>c σ H λb H1=>if b=true then t D σ H1 else u D σ H1
theorem pf(M:PT X c tc)(ha:PSs X a t)(O:PSs X b u):PS X (.If c a b pos) (tM tc t u):=by
 intro pins s σ H D I h;refine wpAny_If<|thn (M pins s σ H _ I h) λd s1 R=>?_;obtain⟨H1,z,B⟩:=R;cases d with
 | true=>exact ha pins s1 σ H1 D z B
 | false=>exact O pins s1 σ H1 D z B
noncomputable def iq:TS:=λ_ _ _=>False
theorem bP:PS X st iq:=λ_ _ _ _ _ _ h=>h.elim
end
abbrev TG:=V->St->Hp->(St->Hp->Prop)->Prop
abbrev TGs:=List V->St->Hp->(St->Hp->Prop)->Prop
noncomputable def PG(X:Cx)(z:Expr)(t:TG):Prop:=
 ∀(pins:GW) (s:Shared) (σ:St) (H:Hp) (v:V) (u:Value) (Q:St->Hp->Prop),Inv X pins σ H s->RelV v u->t v σ H Q->
  wpAny (model X.prog X.w) X.A (assign z X.env u) (λ_ s'=>∃σ' H',Inv X pins σ' H' s'/\Q σ' H') X.xe s
noncomputable def PGs(X:Cx)(z:List Expr)(t:TGs):Prop:=
 ∀(pins:GW) (s:Shared) (σ:St) (H:Hp) (vs:List V) (us:List Value) (Q:St->Hp->Prop),Inv X pins σ H s->Vals vs us->t vs σ H Q->
  wpAny (model X.prog X.w) X.A (assignInOrder ((assignEach z X.env).map (·.2)) us) (λ_ s'=>∃σ' H',Inv X pins σ' H' s'/\Q σ' H') X.xe s
abbrev tu:=V->V->V->Hp->(Hp->Prop)->Prop
noncomputable def tv(X:Cx)(t:tu):Prop:=
 ∀(pins:GW) (s:Shared) (σ:St) (H:Hp) (o i v:V) (ov z u:Value) (Q:Hp->Prop),Inv X pins σ H s->RelV o ov->RelV i z->RelV v u->t o i v H Q->
  wpAny (model X.prog X.w) X.A (setItem ov z u) (λ_ s'=>∃H',Inv X pins σ H' s'/\Q H') X.xe s
section
variable{X:Cx}{pos:Pos}
noncomputable def yX(i:Nat):TG:=λv σ H Q=>Q (σ.set i<|some v) H
theorem WG(z:X.N.Nodup)(hi:X.N[i]? = some x)(B:Loc X.env.scope x)(M:X.fn x=true\/X.env.scope.names.lookup x=some .local:=by first | exact .inl rfl | exact .inr rfl | assumption):PG X (.Name x pos) (yX i):=by intro pins s σ H v u Q I r h;exact wpAny_assign_Name<|Yi I z hi B r (λs' O=>⟨_,H,O,h⟩) M
noncomputable def sF:TGs:=λvs σ H Q=>vs=[]/\Q σ H
noncomputable def mq(t:TG)(u:TGs):TGs:=λvs σ H Q=>∃v r,vs=v::r/\t v σ H λσ' H'=>u r σ' H' Q
theorem WE:PGs X [] sF:=by intro pins s σ H vs us Q I r h;obtain⟨e,h⟩:=h;subst e;cases r;exact assignInOrder_nil ⟨σ,H,I,h⟩
theorem yN(h1:PG X e t)(h2:PGs X es u)
 (z:(assignEach (e::es) X.env).map (·.2)=assign e X.env::(assignEach es X.env).map (·.2):=by rfl):PGs X (e::es) (mq t u):=by
 intro pins s σ H vs us Q I r h;obtain⟨v,W,e1,h⟩:=h;subst e1;cases r with
 | cons r B=>
  rw[z];refine assignInOrder_cons<|thn (h1 pins s σ H _ _ _ I r h) λ_ s1 M=>?_;obtain⟨O,H1,R,U⟩:=M;exact h2 pins s1 O H1 _ _ Q R B U
noncomputable def sE(K:uW)(n:Nat)(t:TGs):TG:=λv σ H Q=>∃a xs,v = .ref a/\SqT K H a xs/\xs.length=n/\t xs σ H Q
theorem lq(B:X.calm=true)(h:PGs X es t)
 (hn:(assignEach es X.env).length=n:=by rfl) (M:(assignEach es X.env).findIdx? (·.1)=none:=by rfl):PG X (.Tuple es k pos) (sE X.K n t):=by
 intro pins s σ H v u Q I r hw;obtain⟨a,xs,e1,O,R,hw⟩:=hw;subst e1;cases r;obtain⟨a0,z,U,hz⟩:=I.tuple O;refine assign_Tuple_tuple (I.ok.hd B) U (by simp[hn,<- R,z.length]) M λh' W=>?_;have Y:Inv X pins σ H {s with heap:=h'}:=I.kept (t':=s.toks) λb o e=>W b o (AJ<|Ao e) e;exact h pins _ σ H xs _ Q Y (by simpa using z) hw
noncomputable def uz(to z:TE)(t:tu):TG:=λv σ H Q=>to σ H λo H1=>z σ H1 λi H2=>t o i v H2 λB=>Q σ B
theorem dE(M:PE X o to)(hi:PE X i ti)(O:tv X t)
 (ha : ∀v,assign (.Subscript o i pos) X.env v=(do
   let ov <- holding [v] (eval o X.env);let z <- holding [v,ov] (eval i X.env)
   standAt pos
   holding [v,ov,z] (setItem ov z v)
   release [v,ov,z] []):=by intro _;rfl):PG X (.Subscript o i pos) (uz to ti t):=by
 intro pins s σ H v u Q I r h;rw[ha];refine uX<|Es<|thn (M pins s σ H _ I h) λov s1 B=>?_;obtain⟨x,H1,R,U,W⟩:=B;refine uX<|Es<|thn (hi pins s1 σ H1 _ R W) λz s2 B=>?_;obtain⟨y,H2,Y,r2,q2⟩:=B;refine uX<|wpAny_standAt<|uX<|Es<|thn (O pins s2 σ H2 x y v ov z u _ Y U r2 r q2) λ_ s3 B=>?_;obtain⟨H3,I3,q3⟩:=B;exact wpAny_release ⟨σ,H3,I3,q3⟩
noncomputable def aW(te:TE)(g:TG):TS:=λD σ H=>te σ H λx H1=>g x σ H1 D.nx
theorem Ww(z:PE X e te)(B:PG X tg g)(M:swapsWithSole [tg] e pos.line X.env=pure false:=by rfl)(hw:swappedStores [tg] e X.env=pure none:=by rfl)
 (h1:(assignEach [tg] X.env).map (·.2)=[assign tg X.env]:=by rfl):PS X (.Assign [tg] e pos) (aW te g):=by
 intro pins s σ H D I h;refine wpAny_Assign_stores (thn (z pins s σ H _ I h) λv s1 O=>?_) M hw;obtain⟨x,H1,R,U,W⟩:=O;rw[h1];exact thn (B pins s1 σ H1 x v _ R U W) λ_ s2 q=>q
theorem iX(z:X.N.Nodup)(hi:X.N[i]? = some x)(B:Loc X.env.scope x)(M:PE X e te)(O:swapsWith e (some (.Name x pos')) pos.line X.env=pure false:=by rfl)(R:X.fn x=true\/X.env.scope.names.lookup x=some .local:=by first | exact .inl rfl | exact .inr rfl | assumption) :
 PS X (.Assign [.Name x pos'] e pos) (aW te<|yX i):=by
 intro pins s σ H D I h;refine wpAny_Assign_Name (thn (M pins s σ H _ I h) λv s1 U=>?_) O;obtain⟨y,H1,W,Y,q1⟩:=U;exact Yi W z hi B Y (λs2 I2=>⟨_,H1,I2,q1⟩) R
end
structure It where
 go:Nat->Hp->Prop
 yld:Nat->Hp->V->Hp->Prop
 stop:Nat->Hp->Prop
noncomputable def YM(X:Cx)(pins:GW)(H:Hp)(b:Addr):Prop:=
 H b=none/\b≠X.env.locals/\b∉X.fs/\(b∈X.ex\/X.s₀.heap.objs.size<=b)/\(∀x c,X.env.cells.lookup x=some c->c≠b)/\∀p∈X.pn++pins,p.1≠b
theorem Inv.fpOk(I:Inv X pins σ H s)(B:s.heap.objs.size<=b)(hn:H' b=none):YM X pins H' b:=by
 refine⟨hn,Bk<|Ap I.lt B,I.nofs B,.inr<|AE I.sz B,λx c e z=>?_,λp M z=>?_⟩
 ·obtain⟨v,q⟩:=I.cell x c e
  exact absurd (Ap q.lt<|by rw[z];exact B)<|By _
 ·exact absurd (Ap (Ao (I.pin p M).1)<|by rw[z];exact B)<|By _
structure Turn(P:Program)(w:World)(K:uW)(tg:Expr)(J:It)(fp:List Addr)(it:Addr)(tn:Nat->Heap->Prop):Prop where
 mem:it∈fp
 obj : ∀i h,tn i h->∀b∈fp,∃o,h.get? b=some o/\∀v,o.data ≠ .cell v
 keep : ∀i h h',tn i h->(∀b∈fp,∀o,h.get? b=some o->h'.get? b=some o)->tn i h'
 item : ∀(X:Cx),X.prog=P->X.w=w->X.K=K->X.calm=true->∀(i:Nat) (pins:GW) (s:Shared) (σ:St) (H:Hp) (E:GQ),Inv X pins σ H s->(∀b∈fp,YM X pins H b)->tn i s.heap->J.go i H->
  wpAny (model P w) X.A (pyNext<|.ref it) (λr s1=>∃u,r=some u/\
   wpAny (model P w) X.A (letOwnedTupleGo tg (.ref it) u) (λ_ s2=>∃x H',Inv X pins σ H' s2/\RelV x u/\J.yld i H x H'/\tn (i+1) s2.heap/\∀b∈fp,H' b=none) E s1) E s
 done : ∀(X:Cx),X.prog=P->X.w=w->X.K=K->X.calm=true->∀(i:Nat) (pins:GW) (s:Shared) (σ:St) (H:Hp) (E:GQ),Inv X pins σ H s->(∀b∈fp,YM X pins H b)->tn i s.heap->J.stop i H->
  wpAny (model P w) X.A (pyNext<|.ref it) (λr s1=>r=none/\Inv X pins σ H s1) E s
 self : ∀(A:Around) (i:Nat) (s:Shared) (Q:GQ) (E:GQ),tn i s.heap->Q (.ref it) s->wpAny (model P w) A (pyIter<|.ref it) Q E s
abbrev TI:=St->Hp->(It->Hp->Prop)->Prop
noncomputable def PIE(X:Cx)(pins:GW)(σ:St)(tg:Expr)(R:It->Hp->Prop)(z:Value)(s2:Shared):Prop:=
 ∃(it:Addr) (fp:List Addr) (tn:Nat->Heap->Prop) (J:It) (H':Hp),z = .ref it/\Inv X pins σ H' s2/\Turn X.prog X.w X.K tg J fp it tn/\tn 0 s2.heap/\(∀b∈fp,YM X pins H' b)/\R J H'
noncomputable def PI(X:Cx)(tg iter:Expr)(wi:TI):Prop:=
 ∀(pins:GW) (s:Shared) (σ:St) (H:Hp) (R:It->Hp->Prop),Inv X pins σ H s->wi σ H R->
  wpAny (model X.prog X.w) X.A (eval iter X.env) (λv s1=>wpAny (model X.prog X.w) X.A (pyIter v) (PIE X pins σ tg R) X.xe s1) X.xe s
theorem af(B:s.heap.get? it=some o)(I:o.cls = .type n)(hd:o.data = .fields vs)
 (hn:["enumerate","zip","dict_itemiterator","dict_reverseitemiterator","odict_iterator","itertools.zip_longest","itertools.pairwise"].contains n=false) (z:Q () s):wpAny M A (letOwnedTupleGo tg (.ref it) u) Q E s:=by
 unfold letOwnedTupleGo;cases tg<;>first
  | exact Ad z
  | (cases u<;>first
      | exact Ad z
      | (refine uX (wpAny_load B ?_)
         rw[I,hd];show wpAny M A (if (["enumerate","zip","dict_itemiterator","dict_reverseitemiterator","odict_iterator","itertools.zip_longest","itertools.pairwise"].contains n && vs[0]? == some (rawInt _))=true then _ else _) Q E s;rw[MQ (by intro h;rw[hn,Bool.false_and]at h;cases h)];exact Ad z))
noncomputable def Itl(K:uW)(a:Addr):It:=
 ⟨λi H=>∃xs x,SqL K H a xs/\xs[i]? = some x,λi H x H'=>H'=H/\∀xs,SqL K H a xs->xs[i]? = some x,λi H=>∃xs,SqL K H a xs/\xs.length<=i⟩
noncomputable def Itt(K:uW)(a:Addr):It:=
 ⟨λi H=>∃xs x,SqT K H a xs/\xs[i]? = some x,λi H x H'=>H'=H/\∀xs,SqT K H a xs->xs[i]? = some x,λi H=>∃xs,SqT K H a xs/\xs.length<=i⟩
noncomputable def Itr(lo:Int)(n:Nat):It:=⟨λi _=>i<n,λi H x H'=>H'=H/\x = .int (lo+i),λi _=>n<=i⟩
theorem VI{P:Program}{w:World}{K:uW}{tg:Expr}(a it:Addr):Turn P w K tg (Itl K a) [it] it (λi h=>h.IsListIter it a i) where
 mem:=by simp
 obj:=λi h st b B=>by
  have e:b=it:=by simpa using B
  subst e;obtain⟨o,e,c,d⟩:=st;exact⟨o,e,λv z=>by rw[d]at z;cases z⟩
 keep:=λi h h' st k=>st.at λo e=>k it ⋯ o e
 item:=by intro X R hw U hc i pins s σ H E I M st W;subst R hw U;obtain⟨xs,x,O,Y⟩:=W;obtain⟨a8,rv,p,hz⟩:=I.list O;obtain⟨u,hu,ru⟩:=rv.get Y;obtain⟨f0,f1,f2,f3,f4,f5⟩:=M it ⋯;refine wpAny_pyNext_list_item st p.isList (x:=u) (by simpa using hu) λh' a7 sb=>?_;have I1:Inv X pins σ H {s with heap:=h'}:=I.turned (t':=s.toks) (λb o B e=>(sb.2 b B).trans e) f0 f1 f3 f4 f5;obtain⟨o,e,c,d⟩:=id a7;exact⟨u,rfl,af (s:={s with heap:=h'}) e c d ⋯ ⟨x,H,I1,ru,⟨rfl,λys hy=>by rw[I.list_inj hy O];exact Y⟩,a7,λb B=>(M b B).1⟩⟩
 done:=by intro X R hw U hc i pins s σ H E I M st W;subst R hw U;obtain⟨xs,O,Y⟩:=W;obtain⟨a8,rv,p,hz⟩:=I.list O;obtain⟨f0,f1,f2,f3,f4,f5⟩:=M it ⋯;have hl:=rv.length;exact wpAny_pyNext_list_end (I.ok.hd hc) st p.isList (by simp;omega) λh' eb=>⟨rfl,I.turned (t':=s.toks) (λb o B e=>eb b o B e) f0 f1 f3 f4 f5⟩
 self:=λ_ _ _ _ _ st h=>wpAny_pyIter_listiter st h
theorem YS{P:Program}{w:World}{K:uW}{tg:Expr}(a it:Addr):Turn P w K tg (Itt K a) [it] it (λi h=>h.IsTupleIter it a i) where
 mem:=by simp
 obj:=λi h st b B=>by
  have e:b=it:=by simpa using B
  subst e;obtain⟨o,e,c,d⟩:=st;exact⟨o,e,λv z=>by rw[d]at z;cases z⟩
 keep:=λi h h' st k=>st.at λo e=>k it ⋯ o e
 item:=by intro X R hw U hc i pins s σ H E I M st W;subst R hw U;obtain⟨xs,x,O,Y⟩:=W;obtain⟨a0,rv,p,hz⟩:=I.tuple O;obtain⟨u,hu,ru⟩:=rv.get Y;obtain⟨f0,f1,f2,f3,f4,f5⟩:=M it ⋯;refine wpAny_pyNext_tuple_item st (show s.heap.IsTuple a a0.toArray from p) (x:=u) (by simpa using hu) λh' a8 sb=>?_;have I1:Inv X pins σ H {s with heap:=h'}:=I.turned (t':=s.toks) (λb o B e=>(sb.2 b B).trans e) f0 f1 f3 f4 f5;obtain⟨o,e,c,d⟩:=id a8;exact⟨u,rfl,af (s:={s with heap:=h'}) e c d ⋯ ⟨x,H,I1,ru,⟨rfl,λys hy=>by rw[I.tuple_inj hy O];exact Y⟩,a8,λb B=>(M b B).1⟩⟩
 done:=by intro X R hw U hc i pins s σ H E I M st W;subst R hw U;obtain⟨xs,O,Y⟩:=W;obtain⟨a0,rv,p,hz⟩:=I.tuple O;obtain⟨f0,f1,f2,f3,f4,f5⟩:=M it ⋯;have hl:=rv.length;exact wpAny_pyNext_tuple_end (I.ok.hd hc) st (show s.heap.IsTuple a a0.toArray from p) (by simp;omega) λh' eb=>⟨rfl,I.turned (t':=s.toks) (λb o B e=>eb b o B e) f0 f1 f3 f4 f5⟩
 self:=λ_ _ _ _ _ st h=>wpAny_pyIter_tupleiter st h
theorem YT{P:Program}{w:World}{K:uW}{tg:Expr}(it:Addr)(lo:Int)(n:Nat):Turn P w K tg (Itr lo n) [it] it (λi h=>IsRangeIter h it (lo+(i:Nat)*1) ((n:Int) - (i:Nat)) 1) where
 mem:=by simp
 obj:=λi h st b B=>by
  have e:b=it:=by simpa using B
  subst e;exact⟨_,st,λv z=>by have z':Data.fields _=Data.cell v:=z;cases z'⟩
 keep:=λi h h' st k=>k it ⋯ _ st
 item:=by intro X O hw R U i pins s σ H E I M st Y;subst O hw R;obtain⟨f0,f1,f2,f3,f4,f5⟩:=M it ⋯;have W:=Walks.range (prog:=X.prog) (w:=X.w) (I.ok.hd U) it lo 1 n;refine W.item i s _ _ Y st λv h' tk hv a5 kk=>?_;obtain⟨t,rfl⟩:=hv;have I1:Inv X pins σ H {s with heap:=h',toks:=tk}:=I.turned (λb o B e=>kk b o (by simpa using B) e) f0 f1 f3 f4 f5;refine⟨_,rfl,af (s:={s with heap:=h',toks:=tk}) (n:="range_iterator") a5 rfl rfl ⋯ ⟨.int (lo+i),H,I1,⟨t,?_⟩,⟨rfl,rfl⟩,a5,λb B=>(M b B).1⟩⟩;rw[Int.mul_one]
 done:=by intro X O hw R U i pins s σ H E I M st Y;subst O hw R;obtain⟨f0,f1,f2,f3,f4,f5⟩:=M it ⋯;exact wpAny_pyNext_range_end (I.ok.hd U) st (by have:n<=i:=Y;omega) λh' eb=>⟨rfl,I.turned (t':=s.toks) (λb o B e=>eb b o B e) f0 f1 f3 f4 f5⟩
 self:=λ_ _ _ _ _ st h=>wpAny_pyIter_rangeiter st h
section
variable{X:Cx}{tg:Expr}
theorem Yo{pins:GW}{σ:St}{H:Hp}{s:Shared}{R:It->Hp->Prop}{E:GQ}{lo hi:Int}{t u v:Tok}{tk:Nat}(I:Inv X pins σ H s)(h1 : -(2 ^ 62)<=lo)(h2:lo<2 ^ 62)(B : -(2 ^ 62)<=hi)(M:hi<2 ^ 62)
 (q:R (Itr lo (hi - lo).toNat) H):wpAny (model X.prog X.w) X.A (pyIter (.ref s.heap.objs.size)) (PIE X pins σ tg R) E {s with heap:=s.heap.push {cls:= .type "range",data:= .fields #[.int lo t,.int hi u,.int 1 v]},toks:=tk}:=by
 refine wpAny_pyIter_range (IsRange.new ..) (small_one h1 h2 B M) ?_;have z:Inv X pins σ H {s with heap:=s.heap.push {cls:= .type "range",data:= .fields #[.int lo t,.int hi u,.int 1 v]},toks:=tk}:=I.kept λb o e=>uY _ e;refine⟨(s.heap.push {cls:= .type "range",data:= .fields #[.int lo t,.int hi u,.int 1 v]}).objs.size,[(s.heap.push {cls:= .type "range",data:= .fields #[.int lo t,.int hi u,.int 1 v]}).objs.size],_,_,H,rfl,
  z.kept (t':=tk) λb o e=>uY _ e,YT _ lo (hi - lo).toNat,?_,λb O=>?_,q⟩
 ·have e1:lo+((0:Nat):Int)*1=lo:=by simp
  have e2:(((hi - lo).toNat:Nat):Int) - ((0:Nat):Int)=Builtin.Range.rangeSize lo hi 1:=by rw[rangeSize_one];split<;>omega
  show IsRangeIter _ _ (lo+((0:Nat):Int)*1) ((((hi - lo).toNat:Nat):Int) - ((0:Nat):Int)) 1;rw[e1,e2];exact Aj _ rfl
 ·have e:b=(s.heap.push {cls:= .type "range",data:= .fields #[.int lo t,.int hi u,.int 1 v]}).objs.size:=by simpa using O
  subst e;exact z.fpOk (Ak _)<|z.hok.fresh<|Ak _
noncomputable def pH(ta:TA):TI:=λσ H R=>ta σ H λvs H1=>∃j:Int,vs=[.int j]/\ -(2 ^ 62)<=j/\j<2 ^ 62/\R (Itr 0 j.toNat) H1
noncomputable def pG(ta:TA):TI:=λσ H R=>ta σ H λvs H1=>∃i j:Int,vs=[.int i,.int j]/\(-(2 ^ 62)<=i/\i<2 ^ 62/\ -(2 ^ 62)<=j/\j<2 ^ 62)/\R (Itr i (j - i).toNat) H1
theorem WD{a:Expr}{ta:TA}{p pos:Pos}(B:Gl X "range")(hm:X.mg "range" = none)(ha:PA X [a] ta)(M:starEach [a] X.env=[(false,eval a X.env)]:=by rfl):PI X tg (.Call (.Name "range" p) [a] [] pos) (pH ta):=by
 intro pins s σ H R I h;refine Call_<|qN I B hm boot_range<|AF (thn (ha pos pins s σ H _ I h) λus s1 O=>?_) M rfl;obtain⟨vs,H1,U,W,z⟩:=O;obtain⟨j,e,z,Y,q⟩:=z;subst e;cases W with
 | cons r rr=>
  cases rr;obtain⟨t,rfl⟩:=r;exact call_range_1 (Yo U ⋯ ⋯ z Y<|by simpa using q)
theorem WC(O:Gl X "range")(hm:X.mg "range" = none)(ha:PA X [a,b] ta)(U:starEach [a,b] X.env=[(false,eval a X.env),(false,eval b X.env)]:=by rfl)(M:starEach [b] X.env=[(false,eval b X.env)]:=by rfl) :
 PI X tg (.Call (.Name "range" p) [a,b] [] pos) (pG ta):=by
 intro pins s σ H R I h;refine Call_ (qN I O hm boot_range<|AF (thn (ha pos pins s σ H _ I h) λus s1 W=>?_) (by rw[U,M])<|by rw[M];rfl);obtain⟨vs,H1,Y,r1,z⟩:=W;obtain⟨i,j,e,⟨z,q2,q3,q4⟩,q⟩:=z;subst e;cases r1 with
 | cons r B=>
  cases B with
  | cons r' B=>
   cases B;obtain⟨t,rfl⟩:=r;obtain⟨t',rfl⟩:=r';exact call_range_2<|Yo Y z q2 q3 q4 q
noncomputable def tP(wi:TI)(g:TG)(tb:TS):TS:=λD σ H=>wi σ H λJ H1=>∃W:Nat->Nat->St->Hp->Prop,(∃m,W 0 m σ H1)/\∀i m σ H,W i m σ H->
 (J.stop i H/\D.nx σ H)\/(J.go i H/\∃N:St->Hp->Prop,(∀σ' H',N σ' H'->∃m',m'<m/\W (i+1) m' σ' H')/\∀x H',J.yld i H x H'->g x σ H' λz H2=>tb {D with nx:=N,ct:=N,bk:=D.nx} z H2)
noncomputable def Xu(fp:List Addr)(h:Heap):List (Addr×Obj):=fp.filterMap λb=>(h.get? b).map λo=>(b,o)
theorem kX(z:b∈fp)(e:h.get? b=some o):(b,o)∈Xu fp h:=List.mem_filterMap.mpr ⟨b,z,by rw[e];rfl⟩
theorem WQ(z:p∈Xu fp h):p.1∈fp/\h.get? p.1=some p.2:=by
 obtain⟨b,B,e⟩:=List.mem_filterMap.mp z;cases q:h.get? b with
 | none=>rw[q]at e;cases e
 | some o=>
  rw[q]at e;have I:(b,o)=p:=AU e;subst I;exact⟨B,q⟩
theorem Inv.pinned(I:Inv X pins σ H s)(O : ∀b∈fp,YM X pins H b)(R : ∀b∈fp,∃o,s.heap.get? b=some o/\∀v,o.data ≠ .cell v):Inv X (pins++Xu fp s.heap) σ H s:=
 I.pins_of λp U=>(Cd.mp U).elim (λz=>I.pin p<|Bc _ z) λz=>by obtain⟨B,e⟩:=WQ z;obtain⟨W,Y,f2,_⟩:=O p.1 B;obtain⟨o,M,d⟩:=R p.1 B;rw[e]at M;cases M;exact⟨e,W,Y,f2,d⟩
theorem Inv.unpinned(I:Inv X (pins++pl) σ H s):Inv X pins σ H s:=I.pins_of λp z=>I.pin p<|Bc _<|List.mem_append_left _ z
theorem dA(Y:PassesOwn (model X.prog X.w) X.A X.env X.xe)(hc:X.calm=true)(hi:PI X tg iter wi)(hg:PG X tg g)(z:PSs X body tb)
 (hs : ∀x,foldedSetIterable iter X.env x=pure x:=by intro _;rfl):PS X (.For tg iter body [] pos) (tP wi g tb):=by
 intro pins s σ H D I h;refine wpAny_For (thn (hi pins s σ H _ I h) λv s1 h1=>thn h1 λc4 s2 h2=>?_) hs;obtain⟨it,fp,tn,J,H2,e,I2,T,as,f2,W,⟨m0,w0⟩,b0⟩:=h2;subst e;have a3 : ∀{H':Hp},(∀b∈fp,H' b=none)->∀b∈fp,YM X pins H' b:=λhn b z=>⟨hn b z,(f2 b z).2⟩;refine codeAny_forLoop_any (λn s'=>∃i σ' H',Inv X pins σ' H' s'/\tn i s'.heap/\(∀b∈fp,H' b=none)/\W i n σ' H') ?_ m0 ⟨0,σ,H2,I2,as,λb z=>(f2 b z).1,w0⟩;rintro n s3 ⟨i,σ3,H3,I3,st3,ag,w3⟩;rcases b0 i n σ3 H3 w3 with⟨stop,qn⟩ | ⟨go,N,hN,step⟩
 ·refine EG Y (thn (T.done X rfl rfl rfl hc i pins s3 σ3 H3 X.xe I3 (a3 ag) st3 stop) λr s4 U=>?_)
  obtain⟨hr,I4⟩:=U;subst hr;exact Fy ⟨σ3,H3,I4,qn⟩
 ·refine EG Y (thn (T.item X rfl rfl rfl hc i pins s3 σ3 H3 X.xe I3 (a3 ag) st3 go) λr s4 U=>?_)
  obtain⟨u,hr,h4⟩:=U;subst hr;refine EG Y<|thn h4 λ_ s5 U=>?_;obtain⟨x,H5,I5,r5,y5,a5,bl⟩:=U;have bm:=I5.pinned (a3 bl)<|T.obj _ _ a5;refine EG Y<|thn (hg _ s5 σ3 H5 x u _ bm r5<|step x H5 y5) λ_ s6 U=>?_;obtain⟨σ6,H6,I6,q6⟩:=U;refine EG Y<|thn (z _ s6 σ6 H6 _ I6 q6) λf s7 R=>?_;have again : ∀{B:St} {M:Hp},Inv X (pins++Xu fp s5.heap) B M s7->N B M->∃m,m<n/\∃i σ' H',Inv X pins σ' H' s7/\tn i s7.heap/\(∀b∈fp,H' b=none)/\W i m σ' H':=λ{B M} O n7=>by obtain⟨m',hm,w7⟩:=hN B M n7;refine⟨m',hm,i+1,B,M,O.unpinned,T.keep _ _ _ a5 λb z o e=>(O.pin (b,o)<|Bc _<|Bc _<|kX z e).1,λb z=>?_,w7⟩;obtain⟨o,e,d⟩:=T.obj _ _ a5 b z;exact(O.pin (b,o)<|Bc _<|Bc _<|kX z e).2.1
  cases f with
  | next=>obtain⟨B,M,O,n7⟩:=R;exact again O n7
  | cont=>obtain⟨B,M,O,n7⟩:=R;exact again O n7
  | brk=>obtain⟨B,M,O,R⟩:=R;exact⟨B,M,O.unpinned,R⟩
  | ret v=>obtain⟨x7,B,M,O,r7,R⟩:=R;exact⟨x7,B,M,O.unpinned,r7,R⟩
end
abbrev R2:=V->V->Hp->VK->Prop
noncomputable def OpR(X:Cx)(f:Value->Value->Sem Value)(r:R2):Prop:=
 ∀(pins:GW) (s:Shared) (σ:St) (H:Hp) (x y:V) (v u:Value) (Q:VK),Inv X pins σ H s->RelV x v->RelV y u->r x y H Q->
  wpAny (model X.prog X.w) X.A (f v u) (EP X pins σ Q) X.xe s
noncomputable def UnR(X:Cx)(f:Value->Sem Value)(r:V->Hp->VK->Prop):Prop:=
 ∀(pins:GW) (s:Shared) (σ:St) (H:Hp) (x:V) (v:Value) (Q:VK),Inv X pins σ H s->RelV x v->r x H Q->
  wpAny (model X.prog X.w) X.A (f v) (EP X pins σ Q) X.xe s
noncomputable def Zy(X:Cx)(f:Value)(r:List V->Hp->VK->Prop):Prop:=
 ∀(pins:GW) (s:Shared) (σ:St) (H:Hp) (xs:List V) (us:List Value) (Q:VK),Inv X pins σ H s->Vals xs us->r xs H Q->
  wpAny (model X.prog X.w) X.A (call f us) (EP X pins σ Q) X.xe s
noncomputable def tOp(r:R2)(ta tb:TE):TE:=λσ H Q=>ta σ H λx H1=>tb σ H1 λy H2=>r x y H2 Q
noncomputable def tUn(r:V->Hp->VK->Prop)(ta:TE):TE:=λσ H Q=>ta σ H λx H1=>r x H1 Q
noncomputable def rI(C:Int->Int->Prop)(g:Int->Int->V):R2:=λx y H Q=>∃i j,x = .int i/\y = .int j/\C i j/\Q (g i j) H
noncomputable def rI0(g:Int->Int->V):R2:=λx y H Q=>∃i j,x = .int i/\y = .int j/\Q (g i j) H
noncomputable def rU(g:Int->V):V->Hp->VK->Prop:=λx H Q=>∃i,x = .int i/\Q (g i) H
section
variable{X:Cx}{a b c:Expr}{ta tb tc:TE}{pos:Pos}
theorem rh(ha:PE X a ta)(B:PE X b tb){pins:GW}{s:Shared}{σ:St}{H:Hp}{R:V->V->Hp->Prop}(I:Inv X pins σ H s)
 (h:ta σ H λx H1=>tb σ H1 λy H2=>R x y H2) {Q:GQ} {f:Value->Value->Sem Value}
 (M : ∀v u s2 x y H2,Inv X pins σ H2 s2->RelV x v->RelV y u->R x y H2->wpAny (model X.prog X.w) X.A (f v u) Q X.xe s2) :
 wpAny (model X.prog X.w) X.A (eval a X.env) (λv O=>wpAny (model X.prog X.w) X.A (eval b X.env) (λu U=>wpAny (model X.prog X.w) X.A (f v u) Q X.xe U) X.xe O) X.xe s:=by
 refine thn (ha pins s σ H _ I h) λv s1 z=>?_;obtain⟨x,H1,W,Y,q1⟩:=z;refine thn (B pins s1 σ H1 _ W q1) λu s2 z=>?_;obtain⟨y,H2,I2,r2,q2⟩:=z;exact M v u s2 x y H2 I2 Y r2 q2
theorem fV{z:Operator}{r:R2}(B:OpR X (binaryOp z) r)(ha:PE X a ta)(M:PE X b tb):PE X (.BinOp a z b pos) (tOp r ta tb):=by intro pins s σ H Q I h;exact wpAny_BinOp<|rh ha M I h λv u s2 x y H2 O R U q=>B pins s2 σ H2 x y v u Q O R U q
theorem pq(z:UnR X (unaryOp op) r)(ha:PE X a ta):PE X (.UnaryOp op a pos) (tUn r ta):=by intro pins s σ H Q I h;exact UnaryOp_<|thn (ha pins s σ H _ I h) λv s1 ⟨x,H1,B,M,O⟩=>z pins s1 σ H1 x v Q B M O
theorem opI{f:Value->Value->Sem Value}{C:Int->Int->Prop}{g:Int->Int->Int}
 (rule : ∀(i j:Int) (t u:Tok) (s:Shared) (Q:GQ) (E:GQ),C i j->Q (.int (g i j) s.toks) {s with toks:=s.toks+1}->wpAny (model X.prog X.w) X.A (f (.int i t)<|.int j u) Q E s) :
 OpR X f (rI C λi j=> .int (g i j)):=by
 intro pins s σ H x y v u Q I z B h;obtain⟨i,j,rfl,rfl,M,q⟩:=h;obtain⟨t,rfl⟩:=z;obtain⟨t',rfl⟩:=B;exact rule i j t t' s _ _ M ⟨.int<|g i j,H,I.tok _,⟨_,rfl⟩,q⟩
theorem sr{f:Value->Value->Sem Value}{g:Int->Int->Int}
 (rule : ∀(i j:Int) (t u:Tok) (s:Shared) (Q:GQ) (E:GQ),Q (.int (g i j) s.toks) {s with toks:=s.toks+1}->wpAny (model X.prog X.w) X.A (f (.int i t)<|.int j u) Q E s) :
 OpR X f (rI0 λi j=> .int (g i j)):=by
 intro pins s σ H x y v u Q I z B h;obtain⟨i,j,rfl,rfl,q⟩:=h;obtain⟨t,rfl⟩:=z;obtain⟨t',rfl⟩:=B;exact rule i j t t' s _ _ ⟨.int<|g i j,H,I.tok _,⟨_,rfl⟩,q⟩
theorem nA{f:Value->Value->Sem Value}{g:Int->Int->Bool}
 (rule : ∀(i j:Int) (t u:Tok) (s:Shared) (Q:GQ) (E:GQ),Q (.bool<|g i j) s->wpAny (model X.prog X.w) X.A (f (.int i t)<|.int j u) Q E s) :
 OpR X f (rI0 λi j=> .bl (g i j)):=by
 intro pins s σ H x y v u Q I z B h;obtain⟨i,j,rfl,rfl,q⟩:=h;obtain⟨t,rfl⟩:=z;obtain⟨t',rfl⟩:=B;exact rule i j t t' s _ _ ⟨.bl<|g i j,H,I,rfl,q⟩
noncomputable def tD(i j:Int):Prop:=0<j/\j<1073741824
noncomputable def tw(i j:Int):Prop:=0<=j/\j<=1000000/\i.natAbs<2 ^ 64
noncomputable def CMul(i j:Int):Prop:=(-(2 ^ 64)<i/\i<2 ^ 64)\/(-(2 ^ 64)<j/\j<2 ^ 64)
theorem CMul.ok(h:CMul i j):IntMulOk i j:=by
 rcases h with⟨h1,h2⟩ | ⟨h1,h2⟩
 ·exact .of_left<|intBits_le_64 h1 h2
 ·exact .of_right<|intBits_le_64 h1 h2
theorem op_add:OpR X (binaryOp .Add) (rI0 λi j=> .int (i+j)):=sr λ_ _ _ _ _ _ _ q=>add_int q
theorem lI:OpR X (binaryOp .Sub) (rI0 λi j=> .int (i - j)):=sr λ_ _ _ _ _ _ _ q=>sub_int q
theorem op_mul:OpR X (binaryOp .Mult) (rI CMul λi j=> .int (i*j)):=opI λ_ _ _ _ _ _ _ z q=>mul_int q z.ok
theorem fZ:OpR X (binaryOp .FloorDiv) (rI tD λi j=> .int (i/j)):=opI λi j _ _ _ _ _ z q=>by have h1:(0:Int)<j:=z.1;have h2:j<1073741824:=z.2;exact floordiv_int ⋯ (by rw[Int.fdiv_eq_ediv_of_nonneg i ⋯];exact q)<|.inl<|PyProof.noPylong_small ⋯
theorem lL:OpR X (binaryOp .Mod) (rI (λ_ j=>0<j) λi j=> .int (i%j)):=opI λi j _ _ _ _ _ z q=>by have h1:(0:Int)<j:=z;exact mod_int' ⋯ (by rw[Int.fmod_eq_emod_of_nonneg i ⋯];exact q)
theorem lJ:OpR X (binaryOp .Pow) (rI tw λi j=> .int (i ^ j.toNat)):=opI λ_ _ _ _ _ _ _ z q=>pow_int_small z.1 z.2.1 z.2.2 q
theorem unI{f:Value->Sem Value}{g:Int->Int}
 (rule : ∀(i:Int) (t:Tok) (s:Shared) (Q:GQ) (E:GQ),Q (.int (g i) s.toks) {s with toks:=s.toks+1}->wpAny (model X.prog X.w) X.A (f<|.int i t) Q E s) :
 UnR X f (rU λi=> .int (g i)):=by
 intro pins s σ H x v Q I z h;obtain⟨i,rfl,q⟩:=h;obtain⟨t,rfl⟩:=z;exact rule i t s _ _ ⟨.int<|g i,H,I.tok _,⟨_,rfl⟩,q⟩
theorem ic:UnR X (unaryOp .USub) (rU λi=> .int (-i)):=unI λ_ _ _ _ _ q=>neg_int q
end
section
variable{X:Cx}{a b c:Expr}{ta tb tc:TE}{pos:Pos}
theorem mB(I:Inv X pins σ H s)(q:Q (.bl k) H)(e:k=k'):EP X pins σ Q (.bool k') s:=by subst e;exact⟨.bl k,H,I,rfl,q⟩
theorem fY:OpR X (compareOp .Lt) (rI0 λi j=> .bl (decide<|i<j)):=nA λ_ _ _ _ _ _ _ q=>lt_int q
theorem Y8:OpR X (compareOp .LtE) (rI0 λi j=> .bl (decide<|i<=j)):=nA λ_ _ _ _ _ _ _ q=>le_int q
theorem lM:OpR X (compareOp .Gt) (rI0 λi j=> .bl (decide<|j<i)):=nA λ_ _ _ _ _ _ _ q=>gt_int q
theorem pz:OpR X (compareOp .GtE) (rI0 λi j=> .bl (decide<|j<=i)):=nA λ_ _ _ _ _ _ _ q=>ge_int q
theorem WL:OpR X (compareOp .In) (λx y H Q=>∃i j,x = .str i/\y = .str j/\Q (.bl<|!(Bh j i 0 j.length 1).isEmpty) H):=by intro pins s σ H x y v u Q I z B h;obtain⟨i,j,rfl,rfl,q⟩:=h;obtain⟨t,rfl⟩:=z;obtain⟨t',rfl⟩:=B;exact in_str<|mB I q rfl
theorem OpR.or(h:OpR X f r)(h':OpR X f r'):OpR X f (λx y H Q=>r x y H Q\/r' x y H Q):=by
 intro pins s σ H x y v u Q I z B q;rcases q with q | q
 ·exact h pins s σ H x y v u Q I z B q
 ·exact h' pins s σ H x y v u Q I z B q
theorem yR(b:Expr)(h:op ≠ .In:=by decide)(h2:op ≠ .NotIn:=by decide):behindInMarks op b=false:=by
 have e1:(op==CmpOp.In)=false:=by cases op<;>first | rfl | exact absurd rfl h
 have e2:(op==CmpOp.NotIn)=false:=by cases op<;>first | rfl | exact absurd rfl h2
 cases b<;>simp[behindInMarks,e1,e2]
theorem JF{z:CmpOp}{r:R2}(B:OpR X (compareOp z) r)(ha:PE X a ta)(M:PE X b tb)(hm:behindInMarks z b=false):PE X (.Compare a [z] [b] pos) (tOp r ta tb):=by intro pins s σ H Q I h;exact wpAny_Compare1 (rh ha M I h λv u s2 x y H2 O R U q=>B pins s2 σ H2 x y v u Q O R U q) hm
noncomputable def ip(t:TE):TT:=λσ H Q=>t σ H λx H'=>∃k,x = .bl k/\Q k H'
theorem Wq(B:OpR X (compareOp op) r)(ha:PE X a ta)(M:PE X b tb)(hm:behindInMarks op b=false):PT X (.Compare a [op] [b] pos) (ip<|tOp r ta tb):=by
 intro pins s σ H Q I h;refine wpAny_isTrue_Compare1 (thn (ha pins s σ H _ I h) λv s1 ⟨x,H1,O,R,U⟩=>thn (M pins s1 σ H1 _ O U) λu s2 ⟨y,H2,W,Y,q2⟩=>
  thn (B pins s2 σ H2 x y v u _ W R Y q2) λc s3 ⟨z,H3,I3,r3,k,e,q3⟩=>?_) hm
 subst e;cases r3;exact BC ⟨H3,I3,q3⟩
noncomputable def dh(r I:R2)(ta tb tc:TE):TE:=λσ H Q=>ta σ H λx H1=>tb σ H1 λy H2=>r x y H2 λz B=>∃k,z = .bl k/\
 (if k=true then tc σ B λw' M=>I y w' M Q else Q (.bl false) B)
theorem bX(U:OpR X (compareOp op) r)(W:OpR X (compareOp op') r')(ha:PE X a ta)(Y:PE X b tb)(hc:PE X c tc)
 (hm:lastMarks [op,op'] [b,c]=false:=by with_unfolding_all rfl):PE X (.Compare a [op,op'] [b,c] pos) (dh r r' ta tb tc):=by
 intro pins s σ H Q I h;refine Compare_chain (thn (ha pins s σ H _ I h) λv s1 ⟨x,H1,I1,r1,q1⟩=>chain_link (thn (Y pins s1 σ H1 _ I1 q1) λu s2 ⟨y,H2,I2,B,q2⟩=>
  thn (U pins s2 σ H2 x y v u _ I2 r1 B q2) λd s3 ⟨z,M,O,r3,k,e,R⟩=>?_)) hm
 subst e;cases r3;refine BC ?_;cases k with
 | false=>exact ite_ff ⟨.bl false,M,O,rfl,R⟩
 | true=>exact ite_tt<|chain_last<|thn (hc pins s3 σ M _ O R) λw' s4 ⟨z',H4,I4,r4,q4⟩=>W pins s4 σ H4 y z' u w' Q I4 B r4 q4
theorem bK{B M:CmpOp}{r O:R2}(ho:OpR X (compareOp B) r)(a1:OpR X (compareOp M) O)(ha:PE X a ta)(hb:PE X b tb)(hc:PE X c tc)
 (hm:lastMarks [B,M] [b,c]=false:=by with_unfolding_all rfl):PT X (.Compare a [B,M] [b,c] pos) (ip<|dh r O ta tb tc):=by
 intro pins s σ H Q I h;refine isTrue_chain (thn (ha pins s σ H _ I h) λv s1 ⟨x,H1,I1,r1,q1⟩=>test_link (thn (hb pins s1 σ H1 _ I1 q1) λu s2 ⟨y,H2,I2,R,q2⟩=>
  thn (ho pins s2 σ H2 x y v u _ I2 r1 R q2) λd s3 ⟨z,U,W,r3,k,e,Y⟩=>?_)) hm
 subst e;cases r3;refine BC ?_;cases k with
 | false=>
  obtain⟨k',e',q'⟩:=Y;cases e';exact ite_ff ⟨U,W,q'⟩
 | true=>
  refine ite_tt<|test_last<|thn (hc pins s3 σ U _ W Y) λw' s4 ⟨z',H4,I4,r4,q4⟩=>thn (a1 pins s4 σ H4 y z' u w' _ I4 R r4 q4) λd' s5 ⟨z2,H5,I5,r5,k2,e2,q5⟩=>?_;subst e2;cases r5;exact BC ⟨H5,I5,q5⟩
theorem Jf:(sizeLine:Nat)<2 ^ 63:=by rw[sizeLine_eq];decide
theorem Y9:OpR X (binaryOp .Add) (λx y H Q=>∃i j,x = .str i/\y = .str j/\i.length+j.length<=sizeLine/\Q (.str<|i++j) H):=by intro pins s σ H x y v u Q I z B h;obtain⟨i,j,rfl,rfl,M,q⟩:=h;obtain⟨t,rfl⟩:=z;obtain⟨t',rfl⟩:=B;exact add_str (λt' tk=>⟨.str<|i++j,H,I.tok _,⟨_,rfl⟩,q⟩) M
theorem k6(r:Vals [x] us) : ∃u,us=[u]/\RelV x u:=by
 cases r with
 | cons z B=>cases B;exact⟨_,rfl,z⟩
theorem ib(r:Vals [x,y] us) : ∃u w',us=[u,w']/\RelV x u/\RelV y w':=by
 cases r with
 | cons z B=>
  cases B with
  | cons I M=>cases M;exact⟨_,_,rfl,z,I⟩
theorem az(B:X.calm=true):Zy X (.builtin "max") (λxs H Q=>∃i j,xs=[.int i,.int j]/\Q (.int (if j>i then j else i)) H):=by
 intro pins s σ H xs us Q I r h;obtain⟨i,j,rfl,q⟩:=h;obtain⟨u,w',rfl,⟨t,rfl⟩,⟨t',rfl⟩⟩:=ib r;refine max_two_ints (I.ok.hd B) λh' tk k=>⟨_,H,I.kept k,?_,q⟩;by_cases z:j>i
 ·rw[GY z,GY z];exact⟨_,rfl⟩
 ·rw[MQ z,MQ z];exact⟨_,rfl⟩
theorem aB:Zy X (.type "int") (λxs H Q=>(∃i,xs=[.int i]/\Q (.int i) H)\/∃k,xs=[.bl k]/\Q (.int (if k then 1 else 0)) H):=by
 intro pins s σ H xs us Q I r h;rcases h with⟨i,rfl,q⟩ | ⟨k,rfl,q⟩
 ·obtain⟨u,rfl,t,rfl⟩:=k6 r
  exact call_int_int ⟨.int i,H,I,⟨_,rfl⟩,q⟩
 ·obtain⟨u,rfl,z⟩:=k6 r
  cases z;exact call_int_bool ⟨.int<|if k then 1 else 0,H,I.tok _,⟨_,rfl⟩,q⟩
theorem XZ:Zy X (.type "str") (λxs H Q=>∃i,xs=[.int i]/\i.natAbs.log2<1920/\Q (.str (toString i)) H):=by intro pins s σ H xs us Q I r h;obtain⟨i,rfl,z,q⟩:=h;obtain⟨u,rfl,t,rfl⟩:=k6 r;exact PySem.P.str_of_int z ⟨.str _,H,I.tok _,⟨_,rfl⟩,q⟩
end
structure ObjM(h:Heap)(x dx C:Addr)(mA:GJ):Prop where
 obj:h.get? x=some (PySem.W.instObj C dx)
 ns:h.Ns1 dx mA
 ne:dx≠x
theorem WU{h:Heap}{dx:Addr}{mA:GJ}(n:h.Ns1 dx mA) : ∃od,h.get? dx=some od/\∀name,PySem.W.lookIn name od=some (mA name):=by
 obtain⟨o,es,U,B,hd,I,_,hm⟩:=n;refine⟨o,B,λname=>?_⟩;have e:=hm name;unfold nsFind findBy at e;rw[<- Array.find?_toList]at e;unfold PySem.W.lookIn;rw[hd];dsimp only;split
 ·rename_i y q
  rw[q]at e;exact congrArg some e
 ·rename_i q
  rw[q]at e;have a:es.toList.any (·.refKey)=false:=by rw[List.any_eq_false];intro y M;obtain⟨z,t,O⟩:=I y<|Array.mem_toList_iff.mp M;simp[DictEntry.refKey,O]
  have R : ¬es.toList.any (·.refKey)=true:=by rw[a];exact Ay
  rw[MQ R];exact congrArg some e
theorem ObjM.look(I:ObjM h x dx C mA) : ∃od,PySem.W.InstAt h x (PySem.W.instObj C dx) C (some od)/\∀name,PySem.W.lookIn name od=some (mA name):=
 let ⟨od,z,B⟩:=WU I.ns
 ⟨od,⟨I.obj,rfl,rfl,z⟩,B⟩
section
variable{P:Program}{w:World}{H H':Hp}{h h':Heap}{a C dx:Addr}{fs fs':List (Str×V)}
theorem gu(hok:HOk P w H h)(e:H a=some (.ins C dx fs)) : ∃mA,ObjM h a dx C mA/\(∀f,rR (fs.lookup f)<|mA f)/\PySem.Within mA (fs.map (·.1))/\fs.length<=1000/\H dx=some (.own a):=by obtain⟨d,z,ne,B,mA,n,r,q⟩:=(show ObjOk P w H h a (.ins C dx fs)from hok a _ e);exact⟨mA,⟨B,n,ne⟩,r,q,z,d⟩
end
structure Cls(K:uW)(C:Addr):Prop where
 pg:PySem.W.plainGet K C CK=true
 hd:PySem.W.hasDictIn K C=true
 po:PySem.W.plainOver K C=true
 sa:Ep K (.ref C) "__setattr__" = some (some (.builtin "object.__setattr__"))
theorem Cls.get{K:uW}{C:Addr}(c:Cls K C)(f:Str):PySem.W.plainGet K C f=true:=c.pg
section
variable{X:Cx}{pins:GW}{σ:St}{H:Hp}{s:Shared}{A:Around}{E:GQ}{Q:GQ}{c:Value}{b:Bool}
inductive TyOf(K:uW)(H:Hp):V->Value->Prop where
 | non:TyOf K H .non (.type "NoneType")
 | bl (x:Bool):TyOf K H (.bl x) (.type "bool")
 | int (i:Int):TyOf K H (.int i) (.type "int")
 | str (x:Str):TyOf K H (.str x) (.type "str")
 | flt (x:UInt64):TyOf K H (.flt x) (.type "float")
 | lst {a:Addr} {xs:List V} (e:H a=some (.lst xs)):TyOf K H (.ref a) (.type "list")
 | frz {a:Addr} {o:Obj} {xs:List V} (e:H a=some (.frz o (.lst xs))):TyOf K H (.ref a) (.type "list")
 | tup {a:Addr} {xs:List V} (e:H a=some (.tup xs)):TyOf K H (.ref a) (.type "tuple")
 | dK {a:Addr} {kvs:List (Key×V)} (e:H a=some (.dK kvs)):TyOf K H (.ref a) (.type "dict")
 | dT {a:Addr} {kvs:List (List Key×V)} (e:H a=some (.dT kvs)):TyOf K H (.ref a) (.type "dict")
 | ins {a C dx:Addr} {fs:List (Str×V)} (e:H a=some (.ins C dx fs)) (cl:Cls K C) (ha:Ep K (.ref C) "__class__" = some (some (.builtin "object.__class__")))
  (hn:PySem.W.specialIn K (.builtin "object.__class__") "__get__" = some (some (.builtin "getset_descriptor.__get__"))) (htk:PySem.W.takesIn K (.builtin "object.__class__")=some true)
  (hm:PySem.W.mroIn K C (.type "object")=some true):TyOf K H (.ref a) (.ref C)
theorem W3(I:Inv X pins σ H s)(B:RelV x u)(ty:TyOf X.K H x t)(e:BD X.K t c=some b)(h : ∀tk,Q (.bool b) {s with toks:=tk}) :
 wpAny (model X.prog X.w) A (call (.builtin "isinstance") [u,c]) Q E s:=by
 cases ty with
 | non=>cases (show u=BM from B);exact AN FE I.kIn BN e (λz=>nomatch z) h
 | bl y=>cases (show u=FM y from B);exact AN FF I.kIn BN e (λz=>nomatch z) h
 | int i=>obtain⟨t,q⟩:=(show ∃t,u=FC i t from B);cases q;exact AN FO I.kIn BN e (λz=>nomatch z) h
 | str y=>obtain⟨t,q⟩:=(show ∃t,u=FB y t from B);cases q;exact AN FN I.kIn BN e (λz=>nomatch z) h
 | flt y=>obtain⟨t,q⟩:=(show ∃t,u=Value.float y t from B);cases q;exact AN PySem.W.kitx_float I.kIn BN e (λz=>nomatch z) h
 | @lst a xs M=>
  cases (show u=Bi a from B);obtain⟨_,_,n,_,h1⟩:=(show ObjOk X.prog X.w H s.heap a (.lst xs)from I.hok a _ M);exact AN Eu I.kIn ⟨_,h1,rfl⟩ e (λz=>nomatch z) h
 | @frz a R xs M=>
  cases (show u=Bi a from B);obtain⟨_,_,_,n,_,h1⟩:=(show ObjOk X.prog X.w H s.heap a (.frz R<|.lst xs)from I.hok a _ M);exact AN Eu I.kIn ⟨_,h1,rfl⟩ e (λz=>nomatch z) h
 | @tup a xs M=>
  cases (show u=Bi a from B);obtain⟨_,_,_,p⟩:=(show ObjOk X.prog X.w H s.heap a (.tup xs)from I.hok a _ M);obtain⟨o,h1,h2,_⟩:=p;exact AN Fp I.kIn ⟨o,h1,(Prod.mk.inj h2).1⟩ e (λz=>nomatch z) h
 | @dK a kvs M=>
  cases (show u=Bi a from B);obtain⟨_,_,vs,_,p⟩:=(show ObjOk X.prog X.w H s.heap a (.dK kvs)from I.hok a _ M);obtain⟨o,es,U,h1,h2,_⟩:=p;exact AN CM I.kIn ⟨o,h1,h2.1⟩ e (λz=>nomatch z) h
 | @dT a kvs M=>
  cases (show u=Bi a from B);obtain⟨_,_,xs,_,o,es,U,h1,h2,_⟩:=(show ObjOk X.prog X.w H s.heap a (.dT kvs)from I.hok a _ M);exact AN CM I.kIn ⟨o,h1,h2.1⟩ e (λz=>nomatch z) h
 | @ins a C dx fs M cl ha hn htk hm=>
  cases (show u=Bi a from B);obtain⟨mA,O,_⟩:=gu I.hok M;obtain⟨od,J,_⟩:=O.look;exact AN (PySem.W.kitx_own (cl.get _) cl.hd ha hn htk hm) I.kIn J e (λz=>nomatch z) h
end
structure Room(k:Nat)(A:Around):Prop where
 hd:A.handled=none
 dp:A.depth+3*k+5<recursionLimit
 un:A.units+16*k+200<cLine
theorem Room.mono(r:Room k A)(h:j<=k):Room j A:=⟨r.hd,by have:=r.dp;omega,by have:=r.un;omega⟩
theorem Room.deeper(r:Room (k+1) A)(env:Env):Room k (A.deeper env):=
 ⟨r.hd,by have:=r.dp;show A.depth+1+3*k+5<_;omega,by have:=r.un;show A.units+3+16*k+200<_;omega⟩
theorem Room.depth(r:Room k A):A.depth<recursionLimit:=by have:=r.dp;omega
noncomputable def rW:TA:=λ_ H Q=>Q [] H
noncomputable def iu(ta:TE)(z:TA):TA:=λσ H Q=>ta σ H λx H1=>z σ H1 λxs H2=>Q (x::xs) H2
section
variable{X:Cx}{e:Expr}{es:List Expr}{te:TE}{t:TA}{pos:Pos}
theorem j1:PA X [] rW:=λ_ _ _ _ H Q I h=>CV ⟨[],H,I,.nil,h⟩
theorem z9(ha:PE X e te)(z:PA X es t)(B:starEach (e::es) X.env=(false,eval e X.env)::starEach es X.env:=by rfl):PA X (e::es) (iu te t):=by intro pos pins s σ H Q I h;rw[B];show wpAny _ _ (spliced ((false,eval e X.env)::backTo pos (starEach es X.env))) _ _ s;refine Bv<|thn (ha pins s σ H _ I h) λu s1 M=>?_;obtain⟨x,H1,O,R,U⟩:=M;exact thn (z pos pins s1 σ H1 _ O U) λus s2 ⟨xs,H2,W,Y,q2⟩=>⟨x::xs,H2,W,.cons R Y,q2⟩
noncomputable def tG(t:TA):TE:=λσ H Q=>t σ H λxs H1=>xs.length<=sizeLine/\∀p,H1 p=none->Q (.ref p) (upd H1 p<|.tup xs)
noncomputable def tL(t:TA):TE:=λσ H Q=>t σ H λxs H1=>xs.length<=sizeLine/\∀p,H1 p=none->Q (.ref p) (upd H1 p<|.lst xs)
theorem lx(h:PA X es t):PE X (.Tuple es x1 pos) (tG t):=by intro pins s σ H Q I M;refine wpAny_Tuple_spliced<|thn (h pos pins s σ H _ I M) λus s1 ⟨xs,H1,B,r,z,q⟩=>⟨by rw[<- r.length];exact z,?_⟩;have O:H1 s1.heap.objs.size=none:=B.hok.fresh<|Ak _;refine⟨.ref s1.heap.objs.size,upd H1 s1.heap.objs.size<|.tup xs,B.laid (t':=s1.toks) (λb u e=>uY _ e) (Ak _) ?_,rfl,q _ O⟩;exact⟨z,us,r,⟨_,Aj _ rfl,rfl,_,rfl⟩⟩
theorem lC(h:PA X es t):PE X (.List es pos) (tL t):=by intro pins s σ H Q I M;refine wpAny_List_spliced<|thn (h pos pins s σ H _ I M) λus s1 ⟨xs,H1,B,r,z,q⟩=>⟨by rw[<- r.length];exact z,?_⟩;have O:H1 s1.heap.objs.size=none:=B.hok.fresh<|Ak _;refine⟨.ref s1.heap.objs.size,upd H1 s1.heap.objs.size<|.lst xs,B.laid (t':=s1.toks) (λb u e=>uY _ e) (Ak _) ?_,rfl,q _ O⟩;exact⟨z,us,0,r,Aj _ rfl⟩
end
abbrev Sp:=List V->Hp->VK->XK->Prop
abbrev CXT:=List Env->Hp->Shared->XK->Value->Shared->Prop
structure Env0(P:Program)(w:World)(K:uW)(mg:GJ)(base:Heap)(A:Around)(outer:List Env)(s:Shared)(H:Hp):Prop where
 frames:A.frames=some outer
 mod:Mod K mg base
 bs : ∀b o,base.get? b=some o->s.heap.get? b=some o/\H b=none
 bsz:base.objs.size<=s.heap.objs.size
 funs:s.heap.FunFrames base outer
 frf : ∀b∈frs outer,H b=none
 hok:HOk P w H s.heap
 bare:AllBare s.gens
noncomputable def CE(outer:List Env)(P:Program)(w:World)(H:Hp)(s:Shared)(Q:VK)(u:Value)(s':Shared):Prop:=
 ∃v H',s'.os=s.os/\AllBare s'.gens/\Un (frs outer) [] H H' s.heap s'.heap/\HOk P w H' s'.heap/\RelV v u/\Q v H'
noncomputable def CR(CX:CXT)(outer:List Env)(P:Program)(w:World)(H:Hp)(s:Shared)(Q:VK)(E:XK)(r:Result)(s':Shared):Prop:=
 match r with
 | .ok (.ret u)=>CE outer P w H s Q u s'
 | .ok _=>False
 | .error e=>CX outer H s E e s'
structure FnOk(P:Program)(w:World)(K:uW)(mg:GJ)(base:Heap)(CX:CXT)(k:Nat)(f:Addr)(fd:FuncData)(ps:List Str)(sp:Sp):Prop where
 len : ∀vs H Q E,sp vs H Q E->vs.length=ps.length
 run : ∀(A:Around) (outer:List Env) (s:Shared) (H:Hp) (args:Args) (us:List Value) (vs:List V) (Q:VK) (E:XK),Room k A->Env0 P w K mg base A outer s H->BindsTo s fd args (ps.zip us)->Vals vs us->sp vs H Q E->
  codeAny (model P w) A (.call (.ref f) args) (CR CX outer P w H s Q E) s
section
variable{X:Cx}{pins:GW}{σ:St}{H:Hp}{s s':Shared}
theorem Inv.env0(I:Inv X pins σ H s):Env0 X.prog X.w X.K X.mg X.base X.A X.stack s H:=
 ⟨I.ok.frames,I.ok.mod,I.bs,AE I.ok.bsz I.sz,I.stack,I.stkFree,I.hok,I.bare⟩
theorem Inv.after(I:Inv X pins σ H s)(h:CE X.stack X.prog X.w H s Q u s'):EP X pins σ Q u s':=by obtain⟨v,H',os,bare,un,hok,r,q⟩:=h;obtain⟨B,g,d,t,M⟩:=s';obtain rfl:M=s.os:=os;exact⟨v,H',I.call (h':=B) (g':=g) (d':=d) (t':=t) (ch:=[]) un hok bare<|λb z=>absurd z ⋯,r,q⟩
end
noncomputable def eU(sp:Sp)(dvs:List V)(E:XK)(t:TA):TE:=λσ H Q=>t σ H λvs H1=>sp (vs++dvs) H1 Q E
noncomputable def Binds(K:uW)(fd:FuncData)(ps:List Str)(ds:List Value):Prop:=
 ∀(s:Shared) (us:List Value),K.In s.heap->(us++ds).length=ps.length->BindsTo s fd ⟨us,[]⟩ (ps.zip<|us++ds)
theorem Binds.all{K:uW}{fd:FuncData}{ps:List Str}(h : ∀us:List Value,us.length=ps.length->bindArgs fd ⟨us,[]⟩=pure (ps.zip us)):Binds K fd ps []:=λs us _ z=>by rw[Em]at z ⊢;exact .of_eq<|h us z
noncomputable def aT(CX:CXT)(X:Cx)(E:XK):Prop:=∀(pins:GW) (σ:St) (H:Hp) (s:Shared) (e:Value) (s':Shared),Inv X pins σ H s->CX X.stack H s E e s'->X.xe e s'
section
variable{X:Cx}{CX:CXT}{k:Nat}{f C:Addr}{fd:FuncData}{ps:List Str}{sp:Sp}{dvs:List V}{ds:List Value}{E:XK}{x m:Str}{p pos apos:Pos}{e o:Expr}{es:List Expr}{ta:TE}{t:TA}
theorem iH(F:FnOk X.prog X.w X.K X.mg X.base CX k f fd ps sp)(M:Room k X.A)(O:Binds X.K fd ps ds)(hd:Vals dvs ds)(R:aT CX X E)
 (I:Inv X pins σ H s) (r:Vals vs us) (h:sp (vs++dvs) H Q E):wpAny (model X.prog X.w) X.A (call (.ref f) us) (EP X pins σ Q) X.xe s:=by
 have B:Vals (vs++dvs) (us++ds):=r.append hd;have U:(us++ds).length=ps.length:=by rw[<- B.length];exact F.len _ _ _ _ h
 refine wpAny_call<|Gd (F.run X.A X.stack s H ⟨us,[]⟩ (us++ds) (vs++dvs) Q E M I.env0 (O s us I.kIn U) B h) λr s' z=>?_;cases r with
 | error e=>exact R pins σ H s e s' I z
 | ok W=>
  cases W with
  | ret u=>exact I.after z
  | next=>exact Cw z
  | brk=>exact Cw z
  | cont=>exact Cw z
theorem WJ(F:FnOk X.prog X.w X.K X.mg X.base CX k f fd ps sp)(B:Room k X.A)(M:Gl X x)(hm:X.mg x=some (.ref f))(O:Eo X.K (.ref f)=true)(R:Binds X.K fd ps ds)(hd:Vals dvs ds)(U:aT CX X E)
 (ha:PA X (e::es) t) (Y:(x==("__debug__" : Str))=false:=by decide) (he:starEach (e::es) X.env=(false,eval e X.env)::starEach es X.env:=by rfl) (a1:(backTo pos (starEach es X.env)).any (·.1)=false:=by rfl) :
 PE X (.Call (.Name x p) (e::es) [] pos) (eU sp dvs E t):=by
 intro pins s σ H Q I h;refine BK<|WW I M hm ?_ Y;refine PySem.W.callWith_K (h₀:=X.base) I.ok.mod.kin O (thn (ha pos pins s σ H _ I h) λus s1 ⟨vs,H1,z,r,q⟩=>⟨z.kIn,?_⟩) he a1;exact iH F B R hd U z r q
end
structure FnScope(N P:List Str)(sc:Scope):Prop where
 kind:sc.kind = .function
 co:sc.isCoroutine=false
 gen:sc.isGenerator=false
 nd:N.Nodup
 pre:N.take P.length=P
 par : ∀x∈P,sc.names.lookup x=some .local\/sc.names.lookup x=some .cell
 nofree : ∀y∈sc.names,y.2 ≠ .free
theorem X2{kindOf:Str->Option NameKind}{x:Str} : ∀{z:List (Str×Value)} {m:GJ},(∀v,(x,v)∉z)->bindL kindOf z m x=m x
 | [],_,_=>rfl
 | (n,v)::r,m,h=>by
  unfold bindL;rw[X2 λw hw=>h w (Ah _ hw)];split
  ·have:x≠n:=by rintro rfl;exact h v Ai
   simp[this]
  ·rfl
theorem X5{kindOf:Str->Option NameKind}{x:Str} : ∀{z:List (Str×Value)} {m:GJ},(∀v,(x,v)∉z)->bindC kindOf z m x=m x
 | [],_,_=>rfl
 | (n,v)::r,m,h=>by
  unfold bindC;rw[X5 λw hw=>h w (Ah _ hw)];split
  ·rfl
  ·have:x≠n:=by rintro rfl;exact h v Ai
   simp[this]
theorem X3{kindOf:Str->Option NameKind}{x:Str}{v:Value} : ∀{P:List Str} {vs:List Value} {i:Nat} {m:GJ},P.Nodup->P[i]? = some x->vs[i]? = some v->kindOf x=some .local->
 bindL kindOf (P.zip vs) m x=some v
 | [],_,_,_,_,h,_,_=>by simp at h
 | _::_,[],_,_,_,_,h,_=>by simp at h
 | p::P,w::vs,0,m,nd,h1,h2,hk=>by simp at h1 h2;subst h1;subst h2;show bindL kindOf ((p,w)::P.zip vs) m p=_;unfold bindL;rw[X2 λv z=>(Bn.mp nd).1 (List.of_mem_zip z).1,GY hk];simp
 | p::P,w::vs,i+1,m,nd,h1,h2,hk=>by show bindL kindOf ((p,w)::P.zip vs) m x=_;unfold bindL;exact X3 (i:=i) (Bn.mp nd).2 (by simpa using h1) (by simpa using h2) hk
theorem X6{kindOf:Str->Option NameKind}{x:Str}{v:Value} : ∀{P:List Str} {vs:List Value} {i:Nat} {m:GJ},P.Nodup->P[i]? = some x->vs[i]? = some v->kindOf x≠some .local->
 bindC kindOf (P.zip vs) m x=some v
 | [],_,_,_,_,h,_,_=>by simp at h
 | _::_,[],_,_,_,_,h,_=>by simp at h
 | p::P,w::vs,0,m,nd,h1,h2,hk=>by simp at h1 h2;subst h1;subst h2;show bindC kindOf ((p,w)::P.zip vs) m p=_;unfold bindC;rw[X5 λv z=>(Bn.mp nd).1 (List.of_mem_zip z).1,MQ hk];simp
 | p::P,w::vs,i+1,m,nd,h1,h2,hk=>by show bindC kindOf ((p,w)::P.zip vs) m x=_;unfold bindC;exact X6 (i:=i) (Bn.mp nd).2 (by simpa using h1) (by simpa using h2) hk
noncomputable def wK(N:List Str)(vs:List V):St:=vs.map some++Aa (N.length - vs.length) none
noncomputable def gB(CX:CXT)(P:Program)(w:World)(K:uW)(mg:GJ)(base:Heap)(N:List Str)(qual:Str)(scope:Scope)(f:Addr)(z:Value)(A:Around)(outer:List Env)(s:Shared)(H:Hp)(E:XK):Cx where
 prog:=P
 w:=w
 K:=K
 mg:=mg
 base:=base
 A:=A.deeper<|envOfC qual scope s.heap.objs.size f z
 N:=N
 s₀:=s
 H₀:=H
 env:=envOfC qual scope s.heap.objs.size f z
 outer:=outer
 stack:=envOfC qual scope s.heap.objs.size f z::outer
 ex:=[]
 calm:=true
 fn:=λ_=>true
 pn:=[]
 xe:=λe s'=>wpAny (model P w) (A.deeper<|envOfC qual scope s.heap.objs.size f z) (leaving (envOfC qual scope s.heap.objs.size f z) e) (λ_ B=>CX outer H s E e B) (λI B=>CX outer H s E I B) s'
theorem YJ{sc:Scope}{n:Nat}{x:Str}(h:sc.names.lookup x=some .cell) : ∃c,(cellsFrom n sc.names []).lookup x=some c:=by have q:=CD sc.names n [] (.inl h);exact EB.mp q
theorem W4{CX:CXT}{P:Program}{w:World}{K:uW}{mg:GJ}{base:Heap}{N ps:List Str}{qual:Str}{scope:Scope}{f:Addr}{O:Value}{A:Around}{outer:List Env}{s s1:Shared}{H:Hp}{E:XK}{us:List Value}{vs:List V}
 (S:FnScope N ps scope) (hd:A.handled=none) (B:Env0 P w K mg base A outer s H) (hl:vs.length=ps.length) (r:Vals vs us)
 (x:InCallC s s.heap.objs.size (bindL (envOfC qual scope s.heap.objs.size f O).kindOf (ps.zip us) λ_=>none) (cellsFrom (s.heap.objs.size+1) scope.names []) (bindC (envOfC qual scope s.heap.objs.size f O).kindOf (ps.zip us) λ_=>none) s1) :
 Inv (gB CX P w K mg base N qual scope f O A outer s H E) [] (wK N vs) H s1:=by
 have a2:ps.length<=N.length:=by have:=congrArg Fw S.pre;rw[EZ]at this;omega
 obtain⟨h1,tk,rfl,U⟩:=x.done;have R : ∀b:Addr,b∉(gB CX P w K mg base N qual scope f O A outer s H E).ex:=λb z=>absurd (show b∈([]:List Addr)from z) ⋯;refine⟨⟨B.mod,S.kind,rfl,rfl,Ak _,λy z c h1 h2=>?_,λy I=>?_,λy c _ h=>?_,λ_=>hd,Around.frames_deeper B.frames,.inr ⟨rfl,rfl⟩,λb z=>absurd z<|R b,B.bs,B.bsz,λb _ _=>R b,λb z=>absurd z<|R b,B.funs,B.frf⟩,
  rfl,B.bare,Un.kept U,⟨_,x.toInCall.ns,λi y v h1 h2 h3=>?_⟩,λy c h=>⟨_,x.cell y c h⟩,B.hok.fresh<|Ak _,λy c h=>?_,λp M=>absurd (show p∈([]:GW)from M) ⋯,B.hok.kept U,?_⟩
 ·exact name_of_addr x.apart (Ct h1)<|Ct h2
 ·have I:scope.names.lookup y=some .cell\/scope.names.lookup y=some .free:=I
  rcases I with I | I
  ·exact YJ I
  ·exact absurd rfl<|S.nofree _<|Ct I
 ·exact FW<|x.above y c<|Ct h
 ·have hi:i<vs.length:=by
   unfold wK at h2;by_cases hi:i<vs.length
   ·exact hi
   ·rw[AA (by simpa using hi)]at h2
    rw[CI]at h2;split at h2<;>cases h2
  have ha:vs[i]? = some v:=by
   unfold wK at h2;rw[AD (by simpa using hi),AK]at h2;cases e:vs[i]? with
   | none=>rw[e]at h2;cases h2
   | some a=>rw[e]at h2;cases h2;rfl
  obtain⟨u,W,rv⟩:=r.get ha;have M:ps[i]? = some y:=by rw[<- S.pre,List.getElem?_take_of_lt ⋯];exact h1
  have Y:ps.Nodup:=by rw[<- S.pre];exact S.nd.sublist<|List.take_sublist _ _
  refine⟨u,rv,?_⟩;rcases S.par y (AZ M)with k | k
  ·exact .inl ⟨k,X3 Y M W k⟩
  ·obtain⟨c,e⟩:=YJ (n:=s.heap.objs.size+1) k
   refine .inr ⟨.inl k,c,e,?_⟩;have q:=x.cell y c e;rw[X6 Y M W (by show scope.names.lookup y≠_;rw[k];decide)]at q;exact q
 ·exact B.hok.fresh<|FW<|x.above y c<|Ct h
 ·unfold wK
  show _=N.length;rw[Bl,AO,List.length_replicate];omega
theorem pN{CX:CXT}{P:Program}{w:World}{K:uW}{mg:GJ}{base:Heap}{k:Nat}{f:Addr}{name qual:Str}{R:Arguments}{body:List Stmt}{scope:Scope}{U kV doc pm cdv ct oc:Value}{an od:Option Addr}
 {osl:Array (Option Value)} {N ps:List Str} {sp:Sp} (lk:K.lookup f=some ⟨oc,od,.func<|CS name qual R body scope U kV doc pm an cdv ct,osl⟩) (a2:Fh K cdv qual=true) (S:FnScope N ps scope)
 (len : ∀vs H Q E,sp vs H Q E->vs.length=ps.length)
 (a3 : ∀(A:Around) (outer:List Env) (s:Shared) (H:Hp) (vs:List V) (Q:VK) (E:XK),Room k (A.deeper<|envOfC qual scope s.heap.objs.size f cdv)->sp vs H Q E->
   ∃t,PSs (gB CX P w K mg base N qual scope f cdv A outer s H E) body t/\t {nx:=λ_ H'=>Q .non H',rt:=Q} (wK N vs) H) :
 FnOk P w K mg base CX (k+1) f (CS name qual R body scope U kV doc pm an cdv ct) ps sp:=by
 refine⟨len,λA outer s H args us vs Q E M B hb r Y=>?_⟩;have hl:=len _ _ _ _ Y;have KX:K.In s.heap:=B.mod.kin.keeps λb o e=>(B.bs b o e).1;have lim:s.heap.NoLimit:=B.mod.nolimit.keeps λb o e=>(B.bs b o e).1;have a6 : ∀y∈ps.zip us,scope.names.lookup y.1=some .local\/(scope.names.lookup y.1=some .cell/\((cellsFrom (s.heap.objs.size+1) scope.names []).lookup y.1).isSome=true):=λ⟨n,v⟩ hy=>by
  rcases S.par n (List.of_mem_zip hy).1 with q | q
  ·exact .inl q
  ·exact .inr ⟨q,CD _ _ _<|.inl q⟩
 refine codeAny_call_function M.depth (KX _ _ lk) rfl S.co S.gen rfl (PySem.W.codeRec_of KX a2)<|hb _ _ _ _ ?_;refine wpAny_newFunctionEnv_cells S.kind a6 λenv he s1 x=>?_;subst he;refine⟨lim.keeps x.toInCall.keep,codeAny_func ?_⟩;obtain⟨t,ht,hq⟩:=a3 A outer s H vs Q E (M.deeper _) Y;have I:Inv (gB CX P w K mg base N qual scope f cdv A outer s H E) [] (wK N vs) H s1:=W4 S M.hd B hl r x;refine CN (ht [] s1 (wK N vs) H _ I hq) (λfl s' z=>?_) λe s' z=>z;have a1 : ∀{σ':St} {H':Hp} {v:V} {u:Value},Inv (gB CX P w K mg base N qual scope f cdv A outer s H E) [] σ' H' s'->RelV v u->Q v H'->CE outer P w H s Q u s':=
  λ{σ' H' v u} J O q=>⟨v,H',J.os,J.bare,J.base,J.hok,O,q⟩
 cases fl with
 | ret u=>
  obtain⟨v,σ',H',J,O,q⟩:=z;exact a1 J O q
 | next=>
  obtain⟨σ',H',J,q⟩:=z;exact a1 (v:=V.non) (u:=BM) J rfl q
 | brk=>
  obtain⟨_,_,_,q⟩:=z;exact Cw q
 | cont=>
  obtain⟨_,_,_,q⟩:=z;exact Cw q
section
variable{X:Cx}{x:Str}{p pos:Pos}{e:Expr}{es:List Expr}{t:TA}{id T:String}{r:List V->Hp->VK->Prop}
noncomputable def tCB(r:List V->Hp->VK->Prop)(t:TA):TE:=λσ H Q=>t σ H λvs H1=>r vs H1 Q
theorem yP(z:Zy X (.builtin id) r)(B:Gl X x)(hm:X.mg x=none)(M:bootBuiltins x=some (.builtin id))(ha:PA X (e::es) t)(hn:x ≠ "__name__":=by decide)(O:(x==("__debug__" : Str))=false:=by decide)
 (R:starEach (e::es) X.env=(false,eval e X.env)::starEach es X.env:=by rfl) (U:(backTo pos<|starEach es X.env).any (·.1)=false:=by rfl):PE X (.Call (.Name x p) (e::es) [] pos) (tCB r t):=by
 intro pins s σ H Q I h;refine BK<|qN I B hm M ?_ hn O;exact Cz (thn (ha pos pins s σ H _ I h) λus s1 ⟨vs,H1,W,Y,q1⟩=>z pins s1 σ H1 vs us Q W Y q1) R U
theorem yO(z:Zy X (.type T) r)(B:Gl X x)(hm:X.mg x=none)(M:bootBuiltins x=some (.type T))(ha:PA X (e::es) t)(hn:x ≠ "__name__":=by decide)(O:(x==("__debug__" : Str))=false:=by decide)
 (R:starEach (e::es) X.env=(false,eval e X.env)::starEach es X.env:=by rfl) (U:(backTo pos<|starEach es X.env).any (·.1)=false:=by rfl):PE X (.Call (.Name x p) (e::es) [] pos) (tCB r t):=by
 intro pins s σ H Q I h;refine BK<|qN I B hm M ?_ hn O;exact AF (thn (ha pos pins s σ H _ I h) λus s1 ⟨vs,H1,W,Y,q1⟩=>z pins s1 σ H1 vs us Q W Y q1) R U
end
end L2
namespace HT
open PySem PyProof.Rows
section
variable{prog:Program}{w:World}{A:Around}{E:GQ}{s:Shared}
theorem rf(ht:IsTup s.heap t vs.toArray)(hb:IsTup s.heap b z.toArray)(M:vs ≠ [])
 (h1:z=[]->Q (.ref t) s) (h2:z ≠ []->Q (.ref s.heap.objs.size) {s with heap:=s.heap.push {cls:= .type "tuple",data:= .seq (vs++z).toArray}})
 (a4:vs.length+z.length<=sizeLine):wpAny (model prog w) A (binaryOp .Add (.ref t)<|.ref b) Q E s:=by
 obtain⟨⟨cls,O,data,sl⟩,B,R,n,hd⟩:=id ht;obtain⟨⟨a5,U,data2,W⟩,I,Y,n2,a1⟩:=id hb;simp only at R hd Y a1;subst R hd Y a1;have e:vs.toArray++z.toArray=(vs++z).toArray:=by simp
 by_cases hw:z=[]
 ·exact Gc ⟨_,B,rfl⟩ ⟨_,I,rfl⟩ Ge seq_tuple_add ER EK (Ew _ _)
   (tuple_addW1 t b vs.toArray z.toArray n n2 O U sl W (by simpa using M)<|by simp[hw]) ⟨B,I,h1 hw⟩
 ·refine Gc ⟨_,B,rfl⟩ ⟨_,I,rfl⟩ Ge seq_tuple_add ER EK (Ew _ _)
   (tuple_addW2 t b vs.toArray z.toArray n n2 O U sl W (by simpa using M) (by simpa using hw)<|by rw[An,An];exact a4) ⟨B,I,?_⟩
  rw[e];exact h2 hw
noncomputable def sIx(n d:Nat):Option Int->Nat
 | none=>d
 | some v=>if v<0 then (v+(n:Int)).toNat else min v.toNat n
theorem iD(n d:Nat)(hd:d<=n)(o:Option Int):sIx n d o<=n:=by
 cases o with
 | none=>exact hd
 | some v=>
  show(if v<0 then (v+(n:Int)).toNat else min v.toNat n)<=n;by_cases z:v<0
  ·rw[GY z];omega
  ·rw[MQ z];exact Nat.min_le_right _ _
theorem au(v:Int)(n d:Nat):(if v<0 then max (v+(n:Int)) 0 else min v (n:Int))=((sIx n d (some v):Nat):Int):=by
 show(if v<0 then max (v+(n:Int)) 0 else min v (n:Int))=(((if v<0 then (v+(n:Int)).toNat else min v.toNat n):Nat):Int);by_cases z:v<0
 ·simp only[GY z];omega
 ·simp only[MQ z];omega
theorem Vo(lo hi:Option Int)(n:Nat):Ec lo hi 1 (n:Int)=(((sIx n 0 lo:Nat):Int),((sIx n n hi:Nat):Int)):=by
 have h1 : ¬((1:Int)<0):=by omega
 unfold Ec;simp only[h1,if_false];refine Prod.ext ?_ ?_
 ·cases lo with
  | none=>rfl
  | some v=>exact au v n 0
 ·cases hi with
  | none=>rfl
  | some v=>exact au v n n
theorem Y5(i j:Nat):Ca (i:Int) (j:Int) 1=j - i:=by
 unfold Ca;have h1:(1:Int)>0:=by omega
 simp only[h1,if_true,Int.ediv_one];split<;>omega
theorem ZT(p:IsPart v o)(h:Q o s):wpAny (model prog w) A (Builtin.Slice.slicePartIndex v) Q E s:=by
 cases p with
 | none=>exact slicePart_none h
 | int i t=>exact slicePart_int h
theorem v7{sl:Addr}{z B:Value}{lo hi:Option Int}{n:Nat}{Q:Int×Int×Nat->Shared->Prop}(O:s.heap.IsSliceOf sl z B .none)(R:IsPart z lo)(U:IsPart B hi)
 (h:Q (((sIx n 0 lo:Nat):Int),1,sIx n n hi - sIx n 0 lo) s):wpAny (model prog w) A (Builtin.Slice.sliceApplied (.ref sl)<|pure (n:Int)) Q E s:=by
 obtain⟨os,I,W,M⟩:=id O;unfold Builtin.Slice.sliceApplied Builtin.Slice.sliceFields;refine uX<|uX<|Ax I M (x:=z) rfl<|uX<|Ax I M (x:=B) rfl<|uX<|Ax I M (x:= .none) rfl<|Ad ?_;refine uX<|slicePart_none ?_;show wpAny _ _ (if ((1:Int)==0)=true then _ else _) _ _ s;rw[MQ ⋯];refine uX<|ZT R<|uX<|ZT U<|uX<|Ad ?_;show wpAny _ _ (match Ec lo hi 1 (n:Int)with | (lo,hi)=>pure (lo,(1:Int),Ca lo hi 1)) _ _ s;rw[Vo lo hi n];show wpAny _ _ (pure (((sIx n 0 lo:Nat):Int),(1:Int),Ca ((sIx n 0 lo:Nat):Int) ((sIx n n hi:Nat):Int) 1)) _ _ s;rw[Y5];exact Ad h
theorem bU(xs:Array Value)(i k:Nat):((uZ k).filterMap λ(m:Nat)=>xs[((i:Int)+(m:Int)*1).toNat]?).toArray=((xs.toList.drop i).take k).toArray:=by
 have e:(λ(m:Nat)=>xs[((i:Int)+(m:Int)*1).toNat]?)=λm=>xs[i+m]? :=by
  funext m;have:((i:Int)+(m:Int)*1).toNat=i+m:=by omega
  rw[this]
 rw[e];have:=pick_run xs i k;rw[List.filterMap_map]at this;have e2:((λx=>xs[x]?)∘λx=>i+x)=λm=>xs[i+m]? :=rfl;rw[e2]at this;rw[this]
theorem Vg{t sl:Addr}{z:Array Value}{M O:Value}{lo hi:Option Int}{Q:GQ}(B:IsTup s.heap t z)(R:s.heap.IsSliceOf sl M O .none)(U:IsPart M lo)(W:IsPart O hi)
 (hw : ¬(sIx z.size 0 lo=0/\sIx z.size z.size hi=z.size))
 (h:Q (.ref s.heap.objs.size) {s with heap:=s.heap.push {cls:= .type "tuple",data:= .seq ((z.toList.drop (sIx z.size 0 lo)).take (sIx z.size z.size hi - sIx z.size 0 lo)).toArray}})
 (a3:z.size<=sizeLine):wpAny (model prog w) A (getItem (.ref t)<|.ref sl) Q E s:=by
 have I:sizeOk (.seq ((z.toList.drop<|sIx z.size 0 lo).take (sIx z.size z.size hi - sIx z.size 0 lo)).toArray):=by show((z.toList.drop<|sIx z.size 0 lo).take (sIx z.size z.size hi - sIx z.size 0 lo)).toArray.size<=sizeLine;rw[An,EZ,List.length_drop,Ei];omega
 have hj:sIx z.size z.size hi<=z.size:=iD _ _ (Ak _) hi;obtain⟨os,Y,a0,a5⟩:=id R;have a1:s.TypeIs (.ref sl) "slice":=⟨os,Y,a0⟩;unfold getItem
 try with_reducible refine Es ?_
 first | refine uX (Ad ?_) | skip
 refine uX (wpAny_sequenceKey B.typeIs ⋯ ?_);refine uX (AI (name:=As "__getitem__") B.typeIs Bg
  (AX Bg B.typeIs entry_tuple_getitem ?_ (args_tuple_getitem _ _)))
 show wpAny _ _ (Builtin.Tuple.tupleItemsOf (.ref t) >>= _) _ _ s;refine uX<|Fk B ?_;refine uX<|EV a1 ?_;rw[GY ⋯];refine uX<|v7 R U W ?_;have a2 : ¬((((sIx z.size 0 lo:Nat):Int)==0 && (1:Int)==1 && (sIx z.size z.size hi - sIx z.size 0 lo)==z.size)=true):=by intro q;rw[Au,Au]at q;have q1:((sIx z.size 0 lo:Nat):Int)=0:=eq_of_beq q.1.1;have q2:sIx z.size z.size hi - sIx z.size 0 lo=z.size:=eq_of_beq q.2;exact hw ⟨by omega,by omega⟩
 show wpAny _ _ (if (((sIx z.size 0 lo:Nat):Int)==0 && (1:Int)==1 && (sIx z.size z.size hi - sIx z.size 0 lo)==z.size)=true then _ else _) _ _ s;rw[MQ a2,bU]
 first
  | exact uX (m:=Bf _)<|AW (Ad ⟨_,rfl,Ad h⟩) I
  | exact uX (m:=Bf _)<|AW (uX<|Ad<|Ad ⟨_,rfl,Ad h⟩) I
  | exact uX<|uX (m:=Bf _)<|AW (Ad<|Ad ⟨_,rfl,Ad h⟩) I
  | exact uX<|uX (m:=Bf _)<|AW (Ad ⟨_,rfl,Ad h⟩) I
end
end HT
namespace L2
open PySem PySem.Spec PyProof.Rows
abbrev TO:=St->Hp->(Option Int->Hp->Prop)->Prop
noncomputable def PO(X:Cx)(e:Option Expr)(t:TO):Prop:=
 ∀(pins:GW) (s:Shared) (σ:St) (H:Hp) (Q:Option Int->Hp->Prop),Inv X pins σ H s->t σ H Q->
  wpAny (model X.prog X.w) X.A (evalPart e X.env) (λu s'=>∃o H',Inv X pins σ H' s'/\IsPart u o/\Q o H') X.xe s
noncomputable def eT:TO:=λ_ H Q=>Q none H
noncomputable def oD(t:TE):TO:=λσ H Q=>t σ H λx H1=>∃i,x = .int i/\Q (some i) H1
section
variable{X:Cx}{e:Expr}{te:TE}{lo hi:Option Expr}{tl th:TO}{pos p2:Pos}
theorem fL:PO X none eT:=by intro pins s σ H Q I h;rw[evalPart_none];exact Ad ⟨none,H,I,.none,h⟩
theorem fK(h:PE X e te):PO X (some e) (oD te):=by intro pins s σ H Q I hw;rw[evalPart_some];refine thn (h pins s σ H _ I hw) λu s1 z=>?_;obtain⟨x,H1,B,M,O⟩:=z;obtain⟨i,rfl,q⟩:=O;obtain⟨t,rfl⟩:=M;exact⟨some i,H1,B,.int i t,q⟩
noncomputable def SlR(X:Cx)(r:V->Option Int->Option Int->Hp->VK->Prop):Prop:=
 ∀(pins:GW) (s:Shared) (σ:St) (H:Hp) (x:V) (v z B:Value) (lo hi:Option Int) (sl:Addr) (Q:VK),Inv X pins σ H s->RelV x v->s.heap.IsSliceOf sl z B .none->IsPart z lo->IsPart B hi->r x lo hi H Q->
  ∃T id,typeLookup (.type T) "__getitem__" = pure (some (.builtin id))/\s.TypeIs v T/\wpAny (model X.prog X.w) X.A (getItem v (.ref sl)) (EP X pins σ Q) X.xe s
noncomputable def tSl(r:V->Option Int->Option Int->Hp->VK->Prop)(te:TE)(tl th:TO):TE:=λσ H Q=>te σ H λx H1=>tl σ H1 λl H2=>th σ H2 λu z=>r x l u z Q
theorem Yw(R:SlR X r)(U:PE X e te)(W:PO X lo tl)(Y:PO X hi th):PE X (.Subscript e (.Slice lo hi none p2) pos) (tSl r te tl th):=by intro pins s σ H Q I h;refine Subscript_ (thn (U pins s σ H _ I h) λv s1 hZ=>?_);obtain⟨x,H1,I1,r1,q1⟩:=hZ;refine wpAny_Slice (thn (W pins s1 σ H1 _ I1 q1) λB s2 ⟨l,H2,I2,pl,q2⟩=>thn (Y pins s2 σ H2 _ I2 q2) λM z ⟨u,O,I3,pu,q3⟩=>?_);rw[evalPart_none];refine Ad ?_;have I4:Inv X pins σ O {z with heap:=z.heap.push {cls:= .type "slice",data:= .fields #[B,M,.none]}}:=I3.kept (t':=z.toks) λb ob q=>uY _ q;obtain⟨T,id,hT,ht,hg⟩:=R pins {z with heap:=z.heap.push {cls:= .type "slice",data:= .fields #[B,M,.none]}} σ O x v B M l u z.heap.objs.size Q I4 r1 (Heap.IsSliceOf.new ..) pl pu q3;show wpAny (model X.prog X.w) X.A (subscriptTail e (.Slice lo hi none p2) v (.ref z.heap.objs.size)) (EP X pins σ Q) X.xe {z with heap:=z.heap.push {cls:= .type "slice",data:= .fields #[B,M,.none]}};exact tail_any (ops:=[.ref z.heap.objs.size,v]) ht hT hg (by with_unfolding_all rfl)
noncomputable def gD(xs:List V)(lo hi:Option Int):List V:=(xs.drop<|HT.sIx xs.length 0 lo).take (HT.sIx xs.length xs.length hi - HT.sIx xs.length 0 lo)
theorem K1(xs:List V)(lo hi:Option Int):(gD xs lo hi).length<=xs.length:=by unfold gD;rw[EZ,List.length_drop];omega
noncomputable def ug(K:uW):V->Option Int->Option Int->Hp->VK->Prop:=λx lo hi H Q=>∃a xs,x = .ref a/\SqT K H a xs/\
 ¬(HT.sIx xs.length 0 lo=0/\HT.sIx xs.length xs.length hi=xs.length)/\∀p,H p=none->Q (.ref p) (upd H p<|.tup<|gD xs lo hi)
theorem iy:SlR X (ug X.K):=by
 intro pins s σ H x v vl vu lo hi sl Q I O R U W h;obtain⟨a,xs,rfl,Y,hw,q⟩:=h;cases O;obtain⟨a0,r,B,M⟩:=I.tuple Y;have z:a0.toArray.size=xs.length:=by rw[An];exact r.length.symm
 refine⟨"tuple",_,Bg.lookup,B.typeIs,?_⟩;refine HT.Vg B R U W (by rw[z];exact hw) ?_ (by rw[z];exact M);rw[z];refine⟨.ref s.heap.objs.size,_,I.laid (t':=s.toks) (o:= .tup (gD xs lo hi)) (λb ob q=>uY _ q) (Ak _) ?_,rfl,q _ (I.hok.fresh (Ak _))⟩;exact⟨AE (K1 xs lo hi) M,_,(r.drop (HT.sIx xs.length 0 lo)).take (HT.sIx xs.length xs.length hi - HT.sIx xs.length 0 lo),IsTupD.new _ _⟩
theorem Vals.nil_iff(r:Vals xs us):us=[]↔xs=[]:=by
 cases r with
 | nil=>simp
 | cons _ _=>simp
end
noncomputable def ixN(n:Nat)(i:Int):Option Nat:=if 0<=i then (if i<n then some i.toNat else none)else if -(n:Int)<=i then some (i+n).toNat else none
noncomputable def atI{α:Type}(xs:List α)(i:Int):Option α:=(ixN xs.length i).bind λj=>xs[j]?
theorem W0(h:ixN n i=some j):seqIndex? i n=some j/\j<n/\ -(n:Int)<=i/\i<n:=by
 unfold ixN at h;by_cases z:0<=i
 ·rw[GY z]at h
  by_cases h1:i<n
  ·rw[GY h1]at h
   have e:i.toNat=j:=AU h;exact⟨by rw[seqIndex_of z h1,e],by omega,by omega,h1⟩
  ·rw[MQ h1]at h;cases h
 ·rw[MQ z]at h
  by_cases h1 : -(n:Int)<=i
  ·rw[GY h1]at h
   have e:(i+n).toNat=j:=AU h;exact⟨by rw[seqIndex_neg ⋯ h1,e],by omega,h1,by omega⟩
  ·rw[MQ h1]at h;cases h
theorem K6(h:atI xs i=some v) : ∃j,seqIndex? i xs.length=some j/\xs[j]? = some v/\j<xs.length/\ -(xs.length:Int)<=i/\i<xs.length:=by
 unfold atI at h;cases e:ixN xs.length i with
 | none=>rw[e]at h;cases h
 | some j=>
  rw[e]at h;obtain⟨h1,h2,z,B⟩:=W0 e;exact⟨j,h1,h,h2,z,B⟩
noncomputable def K9(b:Expr):Prop:=∀o i,subscripted b false o i=operate [o,i] (getItem o i)
noncomputable def IxR(X:Cx)(r:R2):Prop:=
 ∀(B z:Expr) (pins:GW) (s:Shared) (σ:St) (H:Hp) (x y:V) (v u:Value) (Q:VK),Inv X pins σ H s->RelV x v->RelV y u->r x y H Q->
  subscripted z false v u=operate [v,u] (getItem v u)->wpAny (model X.prog X.w) X.A (subscriptTail B z v u) (EP X pins σ Q) X.xe s
noncomputable def MtR(X:Cx)(id:String)(r:V->List V->Hp->VK->Prop):Prop:=
 ∀(pins:GW) (s:Shared) (σ:St) (H:Hp) (x:V) (xs:List V) (v:Value) (us:List Value) (Q:VK),Inv X pins σ H s->RelV x v->Vals xs us->r x xs H Q->
  wpAny (model X.prog X.w) X.A (call (.builtin id) (v::us)) (EP X pins σ Q) X.xe s
section
variable{X:Cx}{a b:Expr}{ta tb:TE}{pos:Pos}
theorem IxR.or(h:IxR X r)(h':IxR X r'):IxR X (λx y H Q=>r x y H Q\/r' x y H Q):=by
 intro z B pins s σ H x y v u Q I M O q R;rcases q with q | q
 ·exact h z B pins s σ H x y v u Q I M O q R
 ·exact h' z B pins s σ H x y v u Q I M O q R
theorem lD(z:IxR X r)(ha:PE X a ta)(B:PE X b tb)(M:K9 b):PE X (.Subscript a b pos) (tOp r ta tb):=by intro pins s σ H Q I h;exact Subscript_<|rh ha B I h λv u s2 x y H2 O R U q=>z a b pins s2 σ H2 x y v u Q O R U q<|M _ _
noncomputable def uj(K:uW):R2:=λx y H Q=>∃p xs i v,x = .ref p/\y = .int i/\SqL K H p xs/\atI xs i=some v/\Q v H
noncomputable def uh(K:uW):R2:=λx y H Q=>∃p xs i v,x = .ref p/\y = .int i/\SqT K H p xs/\atI xs i=some v/\Q v H
noncomputable def ui:R2:=λx y H Q=>∃z i c,x = .str z/\y = .int i/\z.length<=sizeLine/\atI z.cps.toList i=some c/\Q (.str ⟨#[c]⟩) H
theorem ix_list:IxR X (uj X.K):=by
 intro a8 a9 pins s σ H x y v u Q I Y ry h O;obtain⟨p,xs,i,z,rfl,rfl,hq,he,q⟩:=h;cases Y;obtain⟨t,rfl⟩:=ry;obtain⟨a3,r,B,hz⟩:=I.list hq;obtain⟨j,h1,h2,h3,h4,h5⟩:=K6 he;obtain⟨w,R,a6⟩:=r.get h2;have hl:=r.length;have hn:=Jf;have U:EP X pins σ Q w s:=⟨z,H,I,a6,q⟩;by_cases W:0<=i
 ·have M:i.toNat=j:=by
   rw[seqIndex_of W h5]at h1;exact AU h1
  exact item_listR B.isList W ⋯ (by rw[M];simpa using R) U O
 ·have M:(i+(a3.toArray.size:Int)).toNat=j:=by
   rw[seqIndex_neg ⋯ h4]at h1;rw[An,<- hl];exact AU h1
  exact subscriptTail_builtinR (x:=w) B.isList.typeIs slot_list_getitem.lookup
   (wpAny_getItem_list_neg (Q:=λr s'=>r=w/\EP X pins σ Q r s') B.isList ⋯ (by rw[An]<;>omega) ⋯ (by rw[M];simpa using R) ⟨rfl,U⟩) O
theorem mf:IxR X (uh X.K):=by
 intro a3 a4 pins s σ H x y v u Q I M O h R;obtain⟨p,xs,i,z,rfl,rfl,U,W,q⟩:=h;cases M;obtain⟨t,rfl⟩:=O;obtain⟨a5,r,B,hz⟩:=I.tuple U;obtain⟨j,h1,h2,h3,h4,h5⟩:=K6 W;obtain⟨w,Y,a0⟩:=r.get h2;have hl:=r.length;have hn:=Jf;have a2:EP X pins σ Q w s:=⟨z,H,I,a0,q⟩;exact subscriptTail_builtinR (x:=w) B.typeIs slot_tuple_getitem.lookup
  (getItem_tuple (j:=j) (Q:=λr s'=>r=w/\EP X pins σ Q r s') B ⋯ ⋯ (by rw[An,<- hl];exact h1) (by simpa using Y) ⟨rfl,a2⟩) R
theorem mh:IxR X ui:=by
 intro a0 a1 pins s σ H x y v u Q I B M h O;obtain⟨z,i,c,rfl,rfl,hz,R,q⟩:=h;obtain⟨t,rfl⟩:=B;obtain⟨t',rfl⟩:=M;obtain⟨j,h1,h2,h3,U,W⟩:=K6 R;have Y:z.cps.toList.length=z.length:=by simp[Str.length]
 rw[Y]at h1 U W;have hn:=Jf;exact tail_any (Ff s z t) slot_str_getitem.lookup (getItem_str (c:=c) (by
  have e1:decide (i < -(2 ^ 63:Int))=false:=decide_eq_false ⋯;have e2:decide (i>=2 ^ 63)=false:=decide_eq_false ⋯;rw[e1,e2,Bool.or_false]) (by rw[h1];simpa using h2) ⟨.str ⟨#[c]⟩,H,I.tok _,⟨_,rfl⟩,q⟩) O
theorem Ve(z:List Value)(n j:Nat)(u:Value):Cm (·.setIfInBounds j u) {cls:= .type "list",data:= .seq z.toArray n} = {cls:= .type "list",data:= .seq (z.set j u).toArray n}:=by simp[Cm]
theorem Inv.lst(I:Inv X pins σ H s)(h:H p=some (.lst xs)) :
 ∃(B:List Value) (n:Nat),Vals xs B/\s.heap.get? p=some {cls:= .type "list",data:= .seq B.toArray n}/\xs.length<=sizeLine:=by
 obtain⟨z,B,n,r,e⟩:=I.hok p _ h;exact⟨B,n,r,e,z⟩
theorem Inv.lstUpd{pins:GW}{σ:St}{H:Hp}{s:Shared}{p:Addr}{xs ys:List V}{B its':List Value}{n z:Nat}{f:Obj->Obj}(I:Inv X pins σ H s)(h:H p=some (.lst xs))
 (O:s.heap.get? p=some {cls:= .type "list",data:= .seq B.toArray n}) (M:f {cls:= .type "list",data:= .seq B.toArray n} = {cls:= .type "list",data:= .seq its'.toArray z}) (r:Vals ys its') (R:ys.length<=sizeLine) (t:Nat) :
 Inv X pins σ (upd H p<|.lst ys) {s with heap:=s.heap.update p f,toks:=t}:=by
 have e:(s.heap.update p f).get? p=some {cls:= .type "list",data:= .seq its'.toArray z}:=by rw[Ce f O (by rw[M]<;>rfl),M]
 refine I.write (x:=p) (e:=p) (by rw[h];trivial) (.inl rfl) (λb u U q=>(CU _ _<|AR U).trans q) ⟨_,e⟩ ?_;exact⟨R,its',z,r,e⟩
noncomputable def oV:V->V->V->Hp->(Hp->Prop)->Prop:=λo i v H Q=>∃p xs k j,o = .ref p/\i = .int k/\H p=some (.lst xs)/\ixN xs.length k=some j/\Q (upd H p<|.lst<|xs.set j v)
theorem Yj:tv X oV:=by
 intro pins s σ H o i v ov iv u Q I ro ri rv h;obtain⟨p,xs,k,j,rfl,rfl,O,hj,q⟩:=h;cases ro;obtain⟨t,rfl⟩:=ri;obtain⟨R,n,r,z,hz⟩:=I.lst O;obtain⟨h1,h2,U,Y⟩:=W0 hj;have B:=r.length;have hn:=Jf;have I':Inv X pins σ (upd H p<|.lst<|xs.set j v) {s with heap:=s.heap.update p (Cm (·.setIfInBounds j u))}:=
  I.lstUpd O z (Ve R n j u) (r.set rv j) (by rw[List.length_set];exact hz) s.toks
 by_cases h0:0<=k
 ·have M:k.toNat=j:=by
   rw[seqIndex_of h0 Y]at h1;exact AU h1
  exact PySem.W.ki_setAt z h0 ⋯ (by rw[An,<- B];exact Y) (by rw[M];exact⟨_,I',q⟩)
 ·have M:(k+(R.toArray.size:Int)).toNat=j:=by
   rw[seqIndex_neg ⋯ U]at h1;rw[An,<- B];exact AU h1
  exact PySem.W.ki_setBack z ⋯ (by rw[An,<- B];exact U) ⋯ (by rw[M];exact⟨_,I',q⟩)
noncomputable def ZL:V->Bool
 | .non=>true
 | .bl _=>true
 | .int _=>true
 | .str _=>true
 | _=>false
noncomputable def eqV:V->V->Bool
 | .non,.non=>true
 | .bl a,.bl b=>a==b
 | .bl a,.int b=>(if a then 1 else 0)==b
 | .int a,.bl b=>a==(if b then 1 else 0)
 | .int a,.int b=>a==b
 | .str a,.str b=>a==b
 | _,_=>false
theorem mD(B:RelV y u)(z:RelV x v)(M:ZL y=true)(I:ZL x=true):Bm A s u v (eqV y x):=by
 cases y with
 | non=>
  cases B;cases x with
  | non=>cases z;exact Bm.same _
  | bl b=>cases z;exact Bm.none_bool b
  | int b=>obtain⟨t,rfl⟩:=z;exact Bm.none_int b t
  | str b=>obtain⟨t,rfl⟩:=z;exact Bm.none_str b t
  | _=>exact absurd (show false=true from I) Ay
 | bl a=>
  cases B;cases x with
  | non=>cases z;exact Bm.bool_none a
  | bl b=>cases z;exact Bm.bool_bool a b
  | int b=>obtain⟨t,rfl⟩:=z;exact Bm.bool_int a b t
  | str b=>obtain⟨t,rfl⟩:=z;exact Bm.bool_str a b t
  | _=>exact absurd (show false=true from I) Ay
 | int a=>
  obtain⟨t',rfl⟩:=B;cases x with
  | non=>cases z;exact Bm.int_none a t'
  | bl b=>cases z;exact Bm.int_bool a t' b
  | int b=>obtain⟨t,rfl⟩:=z;exact Bm.int_int a t' b t
  | str b=>obtain⟨t,rfl⟩:=z;exact Bm.int_str a t' b t
  | _=>exact absurd (show false=true from I) Ay
 | str a=>
  obtain⟨t',rfl⟩:=B;cases x with
  | non=>cases z;exact Bm.str_none a t'
  | bl b=>cases z;exact Bm.str_bool a t' b
  | int b=>obtain⟨t,rfl⟩:=z;exact Bm.str_int a t' b t
  | str b=>obtain⟨t,rfl⟩:=z;exact Bm.str_str a t' b t
  | _=>exact absurd (show false=true from I) Ay
 | _=>exact absurd (show false=true from M) Ay
noncomputable def eqU(x:V)(u:Value):Bool:=match u with
 | .none=>eqV .non x
 | .bool b=>eqV (.bl b) x
 | .int i _=>eqV (.int i) x
 | .str z _=>eqV (.str z) x
 | _=>false
theorem dU(r:RelV y u)(f:ZL y=true):eqU x u=eqV y x:=by
 cases y with
 | non=>cases r;rfl
 | bl b=>cases r;rfl
 | int i=>obtain⟨t,rfl⟩:=r;rfl
 | str z=>obtain⟨t,rfl⟩:=r;rfl
 | _=>exact absurd (show false=true from f) Ay
theorem Zv : ∀{xs:List V} {us:List Value},Vals xs us->xs.all ZL=true->us.any (eqU x)=xs.any λy=>eqV y x
 | _,_,.nil,_=>rfl
 | y::xs,u::us,.cons r t,f=>by rw[FK,Au]at f;rw[List.any_cons,List.any_cons,dU r f.1,Zv t f.2]
theorem yS(B:RelV x v)(I:ZL x=true) : ∀{xs:List V} {us:List Value},Vals xs us->xs.all ZL=true->∀u∈us,Bm A s u v (eqU x u)
 | _,_,.nil,_=>λu z=>by cases z
 | y::xs,u::us,.cons r t,f=>λM z=>by
  rw[FK,Au]at f;rcases Ag.mp z with rfl | z
  ·rw[dU r f.1];exact mD r B f.1 I
  ·exact yS B I t f.2 M z
noncomputable def inV(x:V)(xs:List V):Bool:=xs.any λy=>eqV y x
noncomputable def rIn(K:uW)(z:Bool):R2:=λx y H Q=>∃p xs,y = .ref p/\(SqL K H p xs\/SqT K H p xs)/\ZL x=true/\xs.all ZL=true/\Q (.bl<|if z then !inV x xs else inV x xs) H
theorem Xw:OpR X (compareOp .In) (rIn X.K false):=by
 intro pins s σ H x y v u Q I O U h;obtain⟨p,xs,rfl,z,R,fs,q⟩:=h;cases U;rcases z with z | z
 ·obtain⟨B,r,M,W⟩:=I.list z
  refine SeqAt.in_listAt (eqU x) M.isList (λw hw=>yS O R r fs w<|by simpa using hw) ⟨.bl _,H,I,rfl,?_⟩;rw[show B.toArray.any (eqU x)=B.any (eqU x)by simp,Zv r fs];exact q
 ·obtain⟨B,r,M,W⟩:=I.tuple z
  refine SeqAt.in_tupleAt (eqU x) M (λw hw=>yS O R r fs w<|by simpa using hw) ⟨.bl _,H,I,rfl,?_⟩;rw[show B.toArray.any (eqU x)=B.any (eqU x)by simp,Zv r fs];exact q
theorem Xv:OpR X (compareOp .NotIn) (rIn X.K true):=by
 intro pins s σ H x y v u Q I O U h;obtain⟨p,xs,rfl,z,R,fs,q⟩:=h;cases U;rcases z with z | z
 ·obtain⟨B,r,M,W⟩:=I.list z
  refine SeqAt.notIn_listAt (eqU x) M.isList (λw hw=>yS O R r fs w<|by simpa using hw) ⟨.bl _,H,I,rfl,?_⟩;rw[show B.toArray.any (eqU x)=B.any (eqU x)by simp,Zv r fs];exact q
 ·obtain⟨B,r,M,W⟩:=I.tuple z
  refine SeqAt.notIn_tupleAt (eqU x) M (λw hw=>yS O R r fs w<|by simpa using hw) ⟨.bl _,H,I,rfl,?_⟩;rw[show B.toArray.any (eqU x)=B.any (eqU x)by simp,Zv r fs];exact q
theorem X1:Zy X (.builtin "len") (λxs H Q=>∃p ys,xs=[.ref p]/\(SqL X.K H p ys\/SqT X.K H p ys)/\Q (.int ys.length) H):=by
 intro pins s σ H xs us Q I r h;obtain⟨p,ys,rfl,z,q⟩:=h;obtain⟨u,rfl,R⟩:=k6 r;cases R;have hn:=Jf;rcases z with z | z
 ·obtain⟨U,B,M,W⟩:=I.list z
  have O:=B.length;exact Calls.call_len_list M.isList (by simp only[An]<;>omega) ⟨.int ys.length,H,I.tok _,⟨s.toks+1,by rw[An,O]⟩,q⟩
 ·obtain⟨U,B,M,W⟩:=I.tuple z
  have O:=B.length;exact len_tuple M (by simp only[An]<;>omega) ⟨.int ys.length,H,I.tok _,⟨s.toks+1,by rw[An,O]⟩,q⟩
theorem X0:Zy X (.builtin "len") (λxs H Q=>∃z,xs=[.str z]/\z.length<=sizeLine/\Q (.int z.length) H):=by intro pins s σ H xs us Q I r h;obtain⟨z,rfl,B,q⟩:=h;obtain⟨u,rfl,t,rfl⟩:=k6 r;have hn:=Jf;exact len_str ⋯ ⟨.int z.length,H,I.tok _,⟨_,rfl⟩,q⟩
theorem JZ:Zy X (.type "tuple") (λxs H Q=>∃p ys,xs=[.ref p]/\((SqL X.K H p ys/\∀l,H l=none->Q (.ref l) (upd H l (.tup ys)))\/(SqT X.K H p ys/\Q (.ref p) H))):=by
 intro pins s σ H xs us Q I r h;obtain⟨p,ys,rfl,h⟩:=h;obtain⟨u,rfl,W⟩:=k6 r;cases W;rcases h with⟨z,q⟩ | ⟨z,q⟩
 ·obtain⟨B,M,O,R⟩:=I.list z
  have a0:=M.length;refine call_tuple_list O.isList (λh' kp=>?_) (by simp only[An]<;>omega);have U:Inv X pins σ H {s with heap:=h'}:=I.kept (t':=s.toks) kp;have Y:Inv X pins σ (upd H h'.objs.size (.tup ys)) {s with heap:=h'.push {cls:= .type "tuple",data:= .seq B.toArray}}:=
   U.laid (t':=s.toks) (λb o e=>uY _ e) (Ak _) (show ObjOk X.prog X.w _ _ _ (.tup ys)from⟨R,B,M,IsTupD.new _ _⟩)
  exact⟨.ref h'.objs.size,_,Y,rfl,q _<|U.hok.fresh<|Ak _⟩
 ·obtain⟨B,M,O,R⟩:=I.tuple z
  exact call_tuple_same O ⟨.ref p,H,I,rfl,q⟩
noncomputable def tyV(K:uW)(T:String)(x:V)(H:Hp):Prop:=match x with
 | .str _=>T = "str"
 | .int _=>T = "int"
 | .ref p=>(T = "list"/\∃xs,SqL K H p xs)\/(T = "tuple"/\∃o,K.lookup p=some o/\o.cls = .type "tuple"/\o.dict=none)\/
  (T = "dict"/\((∃kvs,H p=some (.dK kvs))\/∃kvs,H p=some (.dT kvs)))\/(T = "set"/\∃S n,H p=some (.set S n))
 | _=>False
theorem ie(I:Inv X pins σ H s)(r:RelV x v)(ty:tyV X.K T x H) :
 s.TypeIs v T/\∀a,v = .ref a->∃M,s.heap.get? a=some M/\M.dict=none:=by
 cases x with
 | str z=>
  obtain⟨t,rfl⟩:=r;cases (show T = "str" from ty);exact⟨Ff s z t,λ_ e=>nomatch e⟩
 | int i=>
  obtain⟨t,rfl⟩:=r;cases (show T = "int" from ty);exact⟨typeIs_int s i t,λ_ e=>nomatch e⟩
 | ref p=>
  cases r;rcases ty with⟨rfl,xs,R⟩ | ⟨rfl,o,B,U,hd⟩ | ⟨rfl,B⟩ | ⟨rfl,S,n,B⟩
  ·obtain⟨W,_,O,_⟩:=I.list R
   refine⟨O.isList.typeIs,λa e=>?_⟩;cases e;obtain⟨o,n,e,c,hd,_⟩:=O;exact⟨o,e,hd⟩
  ·refine⟨⟨o,I.kIn p o B,U⟩,λa e=>?_⟩
   cases e;exact⟨o,I.kIn _ o B,hd⟩
  ·have z : ∃o,s.heap.get? p=some o/\o.ExactDict:=by
    rcases B with⟨kvs,B⟩ | ⟨kvs,B⟩
    ·obtain⟨_,_,_,_,o,_,_,e,ex,_⟩:=I.hok p _ B
     exact⟨o,e,ex⟩
    ·obtain⟨_,_,_,_,o,_,_,e,ex,_⟩:=I.hok p _ B
     exact⟨o,e,ex⟩
   obtain⟨o,e,ex⟩:=z;refine⟨⟨o,e,ex.1⟩,λa e2=>?_⟩;cases e2;exact⟨o,e,ex.2.1⟩
  ·obtain⟨o,_,_,_,e,ex,_⟩:=I.hok p _ B
   refine⟨⟨o,e,ex.1⟩,λa e2=>?_⟩;cases e2;exact⟨o,e,ex.2.1⟩
 | _=>exact Cw ty
noncomputable def tBM(K:uW)(T:String)(r:V->List V->Hp->VK->Prop)(to:TE)(t:TA):TE:=λσ H Q=>to σ H λx H1=>tyV K T x H1/\t σ H1 λxs H2=>r x xs H2 Q
variable{o e:Expr}{es:List Expr}{to:TE}{t:TA}{name:Str}{apos cpos:Pos}{T id:String}{r:V->List V->Hp->VK->Prop}
theorem bY(O:PlainAttrs T)(slot:Slot T name id)(R:typeOf (.builtin id)=pure (.type "method_descriptor"))(hm:MtR X id r)(U:PE X o to)(ha:PA X (e::es) t)
 (W:attributeBase o name X.env (eval o X.env)=eval o X.env:=by rfl)
 (Y:((backTo cpos<|starEach (e::es) X.env).all (λx=> !x.1) && (backToKw cpos<|keywordEach [] X.env).all (λx=>x.1.isSome)
   && decide ((e::es).length+([]:List Keyword).length+(if ([]:List Keyword).isEmpty then 0 else 1)<30))=true:=by rfl)
 (a0:(apos.endLine==cpos.line)=true:=by rfl) (hs:starEach (e::es) X.env=(false,eval e X.env)::starEach es X.env:=by rfl) (a2:(backTo cpos<|starEach es X.env).any (·.1)=false:=by rfl) :
 PE X (.Call (.Attribute o name apos) (e::es) [] cpos) (tBM X.K T r to t):=by
 intro pins s σ H Q I h;refine wpAny_Call_method_late W Y a0 rfl<|thn (U pins s σ H _ I h) λv s1 hZ=>?_;obtain⟨x,H1,z,B,ty,q1⟩:=hZ;obtain⟨h1,h2⟩:=ie z B ty;refine⟨T,id,O,slot,R,h1,h2,?_⟩;have M:=ha cpos pins s1 σ H1 _ z q1;rw[hs]at M ⊢;refine Calls.callWith_builtin (by show(false || (backTo cpos<|starEach es X.env).any (·.1))=false;rw[a2]<;>rfl)<|Calls.evalArgs_plain ?_;exact thn M λus s2 ⟨vs,H2,I2,r2,q2⟩=>hm pins s2 σ H2 x vs v us Q I2 B r2 q2
end
noncomputable def MtM(X:Cx)(id:String)(r:V->List V->Hp->VK->Prop):Prop:=
 ∀(pins:GW) (s:Shared) (σ:St) (H:Hp) (x:V) (xs:List V) (v:Value) (us:List Value) (Q:VK),Inv X pins σ H s->RelV x v->Vals xs us->r x xs H Q->
  wpAny (model X.prog X.w) X.A (call (.builtin id) (v::us)) (EP X pins σ Q) X.xe s
theorem Vals.one : ∀{x:V} {us:List Value},Vals [x] us->∃u,us=[u]/\RelV x u
 | _,_,.cons r .nil=>⟨_,rfl,r⟩
theorem Vals.dropLast(h:Vals xs us):Vals xs.dropLast us.dropLast:=by
 induction h with
 | nil=>exact .nil
 | cons r t z=>
  cases t with
  | nil=>exact .nil
  | cons q t'=>exact .cons r z
theorem Vals.reverse{xs:List V}{us:List Value}(h:Vals xs us):Vals xs.reverse us.reverse:=by
 induction h with
 | nil=>exact .nil
 | cons r t z=>rw[EM,EM];exact Vals.append z<|.cons r .nil
theorem Vals.rep(h:Vals xs us) : ∀k:Nat,Vals (Aa k xs).flatten (Aa k us).flatten
 | 0=> .nil
 | k+1=>by rw[Bs,Bs,BP,BP];exact Vals.append h<|Vals.rep h k
theorem XR(z:List Value) : ∀(k:Nat) (acc:List Value),
 List.foldl (λx1 B=>x1++B) acc.toArray (Aa k z.toArray)=(acc++(Aa k z).flatten).toArray
 | 0,acc=>by simp
 | k+1,acc=>by
  have e:acc.toArray++z.toArray=(acc++z).toArray:=by simp
  have e2:(acc++z)++(Aa k z).flatten=acc++(Aa (k+1) z).flatten:=by rw[Bs,BP,List.append_assoc]
  rw[<- e2,<- XR z k (acc++z),<- e,Bs,List.foldl_cons]
section
variable{X:Cx}{pins:GW}{σ:St}{H:Hp}{s:Shared}{l b:Addr}{xs ys zs:List V}
theorem Inv.lset{z its':List Value}{n:Nat}{f:Array Value->Array Value}{t':Nat}(I:Inv X pins σ H s)(B:H l=some (.lst xs))
 (e:s.heap.get? l=some {cls:= .type "list",data:= .seq z.toArray n}) (M:f z.toArray=its'.toArray) (O:Vals ys its') (R:ys.length<=sizeLine) :
 Inv X pins σ (upd H l<|.lst ys) {s with heap:=s.heap.update l<|Cm f,toks:=t'}:=by
 have q:=PySem.IsL.update e f;rw[M]at q;refine I.write (x:=l) (e:=l) (by rw[B];exact trivial) (.inl rfl) (λY u U W=>(CU s.heap (Cm f)<|AR U).trans W) ⟨_,q⟩ ?_;exact⟨R,its',_,O,q⟩
theorem Inv.lnew(I:Inv X pins σ H s)(B:Vals ys z)(M:ys.length<=sizeLine) :
 Inv X pins σ (upd H s.heap.objs.size (.lst ys)) {s with heap:=s.heap.push {cls:= .type "list",data:= .seq z.toArray},toks:=t'}:=
 I.laid (λ_ _ q=>uY _ q) (Ak _) ⟨M,z,0,B,Aj _ rfl⟩
theorem Inv.fresh(I:Inv X pins σ H s):H s.heap.objs.size=none:=I.hok.fresh<|Ak _
theorem Inv.lstM(I:Inv X pins σ H s)(M:H l=some (.lst xs)):xs.length<=sizeLine/\∃(B:List Value) (n:Nat),Vals xs B/\xs.length=B.length/\s.heap.get? l=some {cls:= .type "list",data:= .seq B.toArray n}:=by obtain⟨z,B,n,r,e⟩:=I.hok l _ M;exact⟨z,B,n,r,r.length,e⟩
end
section
variable{X:Cx}
noncomputable def Wi:V->List V->Hp->VK->Prop:=λx vs H Q=>∃l xs y,x = .ref l/\vs=[y]/\H l=some (.lst xs)/\xs.length<sizeLine/\Q .non (upd H l<|.lst<|xs++[y])
theorem WT:MtM X "list.append" Wi:=by intro pins s σ H x vs v us Q I O R h;obtain⟨l,xs,y,rfl,rfl,B,W,q⟩:=h;cases O;obtain⟨u,rfl,U⟩:=R.one;obtain⟨z,M,n,r,Y,e⟩:=I.lstM B;refine CP F.slot_list_append ⟨_,e,rfl⟩ F.entry_list_append (F.args_list_append_2 _ _) (PySem.list_append l M.toArray n u (by rw[An];omega)) ⟨e,?_⟩;refine⟨.non,_,I.lset (its':=M++[u]) B e ⋯ (r.append (.cons U .nil)) ?_,rfl,q⟩;rw[Bl,Eb];omega
theorem WV(xs:List α)(k:Nat):(Aa k xs).flatten.length=k*xs.length:=by
 induction k with
 | zero=>simp
 | succ k z=>rw[Bs,BP,Bl,z,Nat.succ_mul,Nat.add_comm]
end
end L2
namespace Att
open PySem PySem.W PySem.Calls PyProof.Rows
theorem Zo : ∀(ns:List Int) (vs:List Value),WellAll P h vs (ns.map WData.int)->IntsAre vs ns:=by
 intro ns
 induction ns with
 | nil=>
  intro vs w;rw[List.map_nil]at w;cases w;exact .nil
 | cons n ns z=>
  intro vs w;rw[Ba]at w;cases w with
  | cons a b=>
   cases a;exact .cons _ _<|z _ b
theorem VX{l:OpenLaw}{n:Nat}(hn:l.most=some n){P:Params}{h:Heap}{args:List WData}{I:List Value}
 (M:l.row.toRowW.claim.pre args=true) (R:WellAll P h I args) :
 ∃a vs ns,I=[Bi a]/\args=[WData.list (ns.map WData.int)]/\h.get? a=some {cls:= .type "list",data:= .seq vs.toArray}/\IntsAre vs ns/\ns.length<=n:=by
 have U:WShape.hasAll [] args [.list .int]=true:=(pre_splitW M).1;have O:l.pre.holds [] {args:=args}=true:=(pre_splitW M).2;obtain⟨d,r,rfl,h1,h2⟩:=hasAllW_cons U;obtain rfl:=hasAllW_nil h2;obtain⟨xs,rfl,W⟩:=hasW_list h1;obtain⟨ns,rfl⟩:=items_int W;have Y:ns.length<=n:=by
  unfold OpenLaw.pre at O;have z:(WTm.not<|.lt (.lit<|.int (n:Int))<|.len<|.arg 0).holds [] {args:=[.list (ns.map .int)]}=true:=by have z:=(holds_andW O).1;rw[hn]at z;exact z
  have B:=condW_of z<|w_not<|w_lt w_lit<|w_len_list<|w_arg rfl;rw[AO]at B;refine Nat.le_of_not_lt λq=>?_;have q':(n:Int)<((ns.length:Nat):Int):=by omega
  first
   | (rw[decide_eq_true q']at B;exact absurd B ⋯)
   | (simp at B;omega)
 cases R with
 | cons w1 w2=>
  cases w2;cases w1 with
  | list ho a4=>exact⟨_,_,ns,rfl,rfl,ho,Zo ns _ a4,Y⟩
theorem Wx(l:OpenLaw)(args:List WData):l.row.toRowW.claim.post args (.bool true) args=true:=
 postW_of (r:=l.row.toRowW) (X:=(true==true))
  (show WShape.has [] (.bool true) .bool=true by first | rfl | decide | simp[WShape.has,WShape.arms,WShape.armsAll])
  (show(WTm.eq .res<|.lit<|.bool true).value [] {args:=args,res:=some (.bool true),after:=args}=some (.bool<|true==true)from w_eq_bool (w_res rfl) w_lit) rfl
theorem gO{l:OpenLaw}{n:Nat}{q:Program}{I:List Str}{M:(Str->Option Value)->Heap->Prop}{O:World->Heap->Prop}{d:DefRec}
 (hn:l.most=some n) (U:d.params.defaults=[])
 (call : ∀(w:World) (s₀ z:Shared) (mg mb:GJ) (fa:Addr) (o:Obj) (pm B doc:Value) (a:Addr) (vs:List Value) (ns:List Int),
   Ground q I [] M w s₀ mg mb z.heap->O w z.heap->
   z.heap.get? fa=some o->o.data = .func (docDef d.name d.params d.body d.scope pm B doc)->z.heap.CodeRec B d.name->mg d.name=some (.ref fa)->
   z.heap.get? a=some {cls:= .type "list",data:= .seq vs.toArray}->IntsAre vs ns->ns.length<=n->z.gens = #[]->
   codeAny (model l.prog w) callerA (.call (.ref fa) ⟨[.ref a],[]⟩) (λr s'=>r = .ok (.ret<|.bool true)/\OldK z.heap s'.heap/\s'.os=z.os/\AllBare s'.gens) z) :
 WalkO q I M O l.row.toRowW d [] (λf vs=>PySem.call f vs):=by
 intro w s₀ z mg mb G Y fa o pm B doc W kV ho hd a1 R a2 hg args am as a4 ao ap a5 ar;obtain rfl:W = .none:=Dflts.none R U;obtain rfl:kV = .none:=Dflts.noKw R;obtain⟨a,vs,ns,rfl,rfl,a6,a7,a8⟩:=VX hn a4 a5;refine enter_call<|Gd (call w s₀ z mg mb fa o pm B doc a vs ns G Y ho (fd_plain hd) a1 a2 a6 a7 a8 hg) λr s' hq=>?_;obtain⟨rfl,h2,h3,h4⟩:=hq;exact⟨.inl ⟨.bool true,.bool true,[],rfl,λ_=>rfl,.bool true,Wx l _,λ_=>⟨List.Pairwise.nil,λ_ hm=>(nomatch hm)⟩⟩,h2,h3,h4⟩
end Att
namespace L2
open PySem PySem.Spec PyProof.Rows
theorem yz : ∀{vs:List Value} {ns:List Int},IntsAre vs ns->Vals (ns.map V.int) vs
 | _,_,.nil=> .nil
 | _,_,.cons n t h=> .cons ⟨t,rfl⟩ (yz h)
noncomputable def ox(H:Hp):Prop:=∀b,H b=none\/∃o xs,H b=some (.frz o<|.lst xs)
theorem cn{P:Program}{w:World}{K:uW}{mg mb:GJ}{CX:CXT}{k:Nat}{fa a:Addr}{fd:FuncData}{x:Str}{sp:Sp}{B:Shared}{vs:List Value}{ns:List Int}
 (W:K.In B.heap) (Y:B.heap.Ns mainGlobals mg) (I:B.heap.Ns builtinsNs mb) (a7 : ∀x:Str,x ≠ "__name__"->mb x=bootBuiltins x) (a8:B.heap.NoLimit) (hg:B.gens = #[])
 (ha:B.heap.get? a=some {cls:= .type "list",data:= .seq vs.toArray}) (hi:IntsAre vs ns) (hl:ns.length<=sizeLine) (hr:Room k callerA)
 (F : ∀base:Heap,K.In base->base.Ns mainGlobals mg->FnOk P w K mg base CX k fa fd [x] sp) (ag : ∀(s:Shared) (u:Value),BindsTo s fd ⟨[u],[]⟩ [(x,u)])
 (am : ∀H:Hp,ox H->SqL K H a (ns.map V.int)->sp [.ref a] H (λv _=>v = .bl true) λ_ _ _=>False)
 (an : ∀H e s',CX [] H B (λ_ _ _=>False) e s'->False) :
 codeAny (model P w) callerA (.call (.ref fa) ⟨[.ref a],[]⟩) (λr s'=>r = .ok (.ret<|.bool true)/\OldK B.heap s'.heap/\s'.os=B.os/\AllBare s'.gens) B:=by
 have rv:=yz hi;have ao:=hi.length;have a2 : ∀H:Hp,ox H->SqL K H a (ns.map V.int)->HOk P w H B.heap->(∀b,H b≠none->b=a)->(H a≠none->K.lookup a=none)->
  codeAny (model P w) callerA (.call (.ref fa) ⟨[.ref a],[]⟩) (λr s'=>r = .ok (.ret<|.bool true)/\OldK B.heap s'.heap/\s'.os=B.os/\AllBare s'.gens) B:=by
  intro H hO hS hok hA hK;have a5 : ∀{b:Addr} {o:Obj},B.heap.get? b=some o->H b=none->(cE B.heap H).get? b=some o:=λe n=>cD e n;have as : ∀{b:Addr} {o:Obj} {es:Array DictEntry} {M:Nat},B.heap.get? b=some o->o.data = .dict es M->H b=none:=λ{b o es M} e d=>by
   cases q:H b with
   | none=>rfl
   | some u=>
    have U:b=a:=hA b (by rw[q];simp);subst U;rw[ha]at e;cases e;have d':Data.seq vs.toArray _=Data.dict es M:=d;cases d'
  have R : ∀{b:Addr} {m:GJ},B.heap.Ns b m->(cE B.heap H).Ns b m:=λ{b m} ⟨o,es,M,e,d,r⟩=>⟨o,es,M,a5 e<|as e d,d,r⟩;have a6:K.In (cE B.heap H):=λb o e=>a5 (W b o e) (by
   cases q:H b with
   | none=>rfl
   | some u=>
    have U:b=a:=hA b (by rw[q];simp);subst U;rw[hK (by rw[q];simp)]at e;cases e)
  have hM:Mod K mg (cE B.heap H):=⟨a6,R Y,⟨mb,R I,a7⟩,let ⟨mc,h1,h2⟩:=a8;⟨mc,R h1,h2⟩⟩;have e0:Env0 P w K mg (cE B.heap H) callerA [] B H:=⟨rfl,hM,λb o e=>gk e,Nat.le_of_eq<|aa _ _,trivial,λb I=>absurd (show b∈([]:List Addr)from I) ⋯,hok,.of_eq hg⟩;refine Gd ((F _ a6<|R Y).run callerA [] B H ⟨[.ref a],[]⟩ [.ref a] [.ref a] _ _ hr e0 (ag B<|.ref a) (.cons rfl .nil) (am H hO hS)) λr s' h=>?_;cases r with
  | error e=>exact(an H e s' h).elim
  | ok fl=>
   cases fl with
   | next=>exact Cw h
   | brk=>exact Cw h
   | cont=>exact Cw h
   | ret u=>
    obtain⟨v,H',os,bare,un,b8,r',q⟩:=h;have q':v = .bl true:=q;subst q';obtain rfl:u=FM true:=r';refine⟨rfl,OldK.of_keep λb o e=>?_,os,bare⟩;cases q:H b with
    | none=>exact un.keep b o e q (by intro z;exact absurd (show b∈([]:List Addr)from z) ⋯) ⋯
    | some u=>
     rcases hO b with z | ⟨ob,xs,z⟩
     ·rw[q]at z;cases z
     ·have z2:=un.frzs b ob _ z
      obtain⟨e1,_⟩:=hok b _ z;obtain⟨e2,_⟩:=b8 b _ z2;rw[e]at e1;cases e1;exact e2
 cases hk:K.lookup a with
 | some o=>
  have e:=W a o hk;rw[ha]at e;cases e;refine a2 (λ_=>none) (λ_=> .inl rfl) (.inr ⟨_,vs.toArray,_,hk,rfl,rfl,rfl,by rw[An,ao];exact hl,by simpa using rv⟩) (λb u z=>by have O:(none:Option HO)=some u:=z;cases O) (λb z=>absurd rfl z) λz=>absurd rfl z
 | none=>
  refine a2 (λb=>if b=a then some (.frz {cls:= .type "list",data:= .seq vs.toArray} (.lst (ns.map V.int)))else none) (λb=>?_) (.inl (.inr ⟨{cls:= .type "list",data:= .seq vs.toArray},GY rfl⟩)) (λb u z=>?_) (λb z=>?_) λ_=>hk
  ·by_cases I:b=a
   ·exact .inr ⟨_,_,GY I⟩
   ·exact .inl<|MQ I
  ·by_cases I:b=a
   ·have O:=(GY I).symm.trans z
    cases O;subst I;exact⟨ha,by rw[AO];exact hl,vs,_,rv,ha⟩
   ·have O:=(MQ I).symm.trans z
    cases O
  ·by_cases I:b=a
   ·exact I
   ·exact absurd (MQ I) z
abbrev KOf{K:uW}{h:Heap}(_:K.In h):uW:=K
theorem eD{l:PySem.W.OpenLaw}{n k:Nat}{q:Program}{M:List Str}{O:(Str->Option Value)->Heap->Prop}{z:World->Heap->Prop}{d:DefRec}{K:Params->uW}{CX:World->CXT}{sp:World->Sp}{x:Str}
 (hn:l.most=some n) (R:n<=sizeLine) (U:d.params.defaults=[]) (hr:Room k callerA)
 (hY : ∀(w:World) (h:Heap),z w h->(K w.params).In h)
 (F : ∀(w:World) (mg:GJ) (fa:Addr) (h:Heap),(K w.params).In h->h.Ns mainGlobals mg->mg d.name=some (.ref fa)->
   ∃fd:FuncData,(∀(s:Shared) (u:Value),BindsTo s fd ⟨[u],[]⟩ [(x,u)])/\
    ∀base:Heap,(K w.params).In base->base.Ns mainGlobals mg->FnOk l.prog w (K w.params) mg base (CX w) k fa fd [x] (sp w))
 (a2 : ∀(w:World) (H:Hp) (a:Addr) (ns:List Int),ns.length<=n->ox H->SqL (K w.params) H a (ns.map V.int)->sp w [.ref a] H (λv _=>v = .bl true) λ_ _ _=>False)
 (a3 : ∀(w:World) (H:Hp) (s:Shared) (e:Value) (s':Shared),CX w [] H s (λ_ _ _=>False) e s'->False) :
 PySem.W.WalkO q M O z l.row.toRowW d [] (λf vs=>PySem.call f vs):=by
 refine Att.gO hn U λw s₀ s₁ mg mb fa o pm cd doc a vs ns G Y ho hd ap a5 a6 a7 B hg=>?_;have I:=hY w _ Y;obtain⟨fd,hb,hF⟩:=F w mg fa _ I G.T.g a5;exact cn I G.T.g G.T.b G.T.builtins G.T.nolimit hg a6 a7 (AE B R) hr hF hb (λH hO hS=>a2 w H a ns B hO hS) λH e s'=>a3 w H s₁ e s'
theorem ng{l:PySem.W.OpenLaw}{n k:Nat}{q:Program}{B:List Str}{I:(Str->Option Value)->Heap->Prop}{z:World->Heap->Prop}{d:DefRec}{K:Params->uW}{CX:CXT}{sp:uW->Sp}{x:Str}
 (hn:l.most=some n) (M:n<=sizeLine) (O:d.params.defaults=[]) (R:Room k callerA)
 (U : ∀(w:World) (h:Heap),z w h->(K w.params).In h)
 (F : ∀(w:World) (mg:GJ) (fa:Addr) (h:Heap),(K w.params).In h->h.Ns mainGlobals mg->mg d.name=some (.ref fa)->
   ∃fd:FuncData,(∀(s:Shared) (u:Value),BindsTo s fd ⟨[u],[]⟩ [(x,u)])/\
    ∀base:Heap,(K w.params).In base->base.Ns mainGlobals mg->FnOk l.prog w (K w.params) mg base CX k fa fd [x] (sp<|K w.params))
 (Y : ∀(K:uW) (H:Hp) (a:Addr) (ns:List Int),ns.length<=n->ox H->SqL K H a (ns.map V.int)->sp K [.ref a] H (λv _=>v = .bl true) λ_ _ _=>False)
 (a0 : ∀(H:Hp) (s:Shared) (e:Value) (s':Shared),CX [] H s (λ_ _ _=>False) e s'->False) :
 PySem.W.WalkO q B I z l.row.toRowW d [] (λf vs=>PySem.call f vs):=
 eD (K:=K) (CX:=λ_=>CX) (sp:=λw=>sp<|K w.params) hn M O R U F (λw H a ns h1 h2 h3=>Y (K w.params) H a ns h1 h2 h3) λ_ H s e s'=>a0 H s e s'
noncomputable def Zr(s:Stmt):Arguments:=match s with
 | .FunctionDef _ a _ _ _ _ _ _ _ _=>a
 | _=>{posonlyargs:=[],args:=[],vararg:=none,kwonlyargs:=[],kw_defaults:=[],kwarg:=none,defaults:=[]}
noncomputable def xW(s:Stmt):List Stmt:=match s with
 | .FunctionDef _ _ b _ _ _ _ _ _ _=>b
 | _=>[]
noncomputable def jh(s:Stmt):Scope:=match s with
 | .FunctionDef _ _ _ _ _ _ sc _ _ _=>sc
 | _=>{kind:= .function,names:=[],isGenerator:=false,isCoroutine:=false}
abbrev CX0:CXT:=λ_ _ _ _ _ _=>False
abbrev E0:XK:=λ_ _ _=>False
theorem lG:aT CX0 X E0:=λ_ _ _ _ _ _ _ h=>h.elim
structure Fun(K:uW)(x qual:Str)(st:Stmt)(f:Addr)(fd:FuncData):Prop where
 ex : ∃(oc:Value) (od:Option Addr) (kV doc pm:Value) (an:Option Addr) (cdv ct:Value) (osl:Array (Option Value)),
  fd=CS x qual (Zr st) (xW st) (jh st) .none kV doc pm an cdv ct/\K.lookup f=some ⟨oc,od,.func fd,osl⟩/\Fh K cdv qual=true
 kp:Eo K (.ref f)=true
section
variable{P:Program}{w:World}{K:uW}{mg:GJ}{base:Heap}
theorem Fun.ok{x qual:Str}{st:Stmt}{f:Addr}{fd:FuncData}{N ps:List Str}{k:Nat}{sp:Sp}(F:Fun K x qual st f fd)(S:FnScope N ps (jh st))(len : ∀vs H Q E,sp vs H Q E->vs.length=ps.length)
 (z : ∀(cdv:Value) (A:Around) (outer:List Env) (s:Shared) (H:Hp) (vs:List V) (Q:VK) (E:XK),Room k (A.deeper<|envOfC qual (jh st) s.heap.objs.size f cdv)->sp vs H Q E->
   ∃t,PSs (gB CX0 P w K mg base N qual (jh st) f cdv A outer s H E).nox (xW st) t/\t {nx:=λ_ H'=>Q .non H',rt:=Q} (wK N vs) H):FnOk P w K mg base CX0 (k+1) f fd ps sp:=by
 obtain⟨oc,od,kV,doc,pm,an,cdv,ct,osl,rfl,lk,B⟩:=F.ex;refine pN lk B S len λA outer s H vs Q E I M=>?_;obtain⟨t,h,q⟩:=z cdv A outer s H vs Q E I M;exact⟨t,h.nox,q⟩
theorem mw{x qual:Str}{st:Stmt}{f:Addr}{oc:Value}{od an:Option Addr}{osl:Array (Option Value)}{kV doc pm cdv ct:Value}(l:K.lookup f=some ⟨oc,od,.func<|CS x qual (Zr st) (xW st) (jh st) .none kV doc pm an cdv ct,osl⟩)
 (c:Fh K cdv qual=true) (k:Eo K (.ref f)=true):Fun K x qual st f (CS x qual (Zr st) (xW st) (jh st) .none kV doc pm an cdv ct):=⟨⟨oc,od,kV,doc,pm,an,cdv,ct,osl,rfl,l,c⟩,k⟩
end
noncomputable def Same(H H':Hp):Prop:=∀b o,H b=some o->H' b=some o
theorem Same.refl(H:Hp):Same H H:=λ_ _ h=>h
theorem Same.trans(a:Same H H1)(b:Same H1 H2):Same H H2:=λc o h=>b c o<|a c o h
theorem Same.free(e:Same H H')(h:H' l=Option.none):H l=Option.none:=by
 cases q:H l with
 | none=>rfl
 | some o=>
  rw[e l o q]at h;cases h
theorem Same.seq{K:uW}{H H':Hp}{a:Addr}{xs:List V}(e:Same H H')(h:SqL K H a xs):SqL K H' a xs:=by
 rcases h with(h | ⟨o,h⟩) | h
 ·exact .inl<|.inl<|e _ _ h
 ·exact .inl<|.inr ⟨o,e _ _ h⟩
 ·exact .inr h
noncomputable def QM(cells:List (Str×Addr)):List (Str×NameKind)->List (Str×Addr)->List (Str×Addr)
 | [],acc=>acc
 | (n,k)::r,acc=>QM cells r<|if k==Az then (match cells.lookup n with | some c=>(n,c)::acc | none=>acc)else acc
theorem kI(f:Str×NameKind->List (Str×Addr)->Sem (ForInStep<|List<|Str×Addr))
 (B : ∀name kind I,f (name,kind) I=if kind==Az then (do let a <- cellOf env name;pure (.yield ((name,a)::I)))else pure (.yield I)) :
 ∀(names:List (Str×NameKind)) (acc:List (Str×Addr)),(∀n,(n,Az)∈names->∃c,env.cells.lookup n=some c)->
  forIn names acc f=(pure (QM env.cells names acc):Sem _)
 | [],acc,_=>by rw[ED];rfl
 | (n,k)::r,acc,h=>by
  rw[El,B];have M : ∀n,(n,Az)∈r->∃c,env.cells.lookup n=some c:=λm hm=>h m<|Ah _ hm;unfold QM;by_cases z:(k==Az)=true
  ·rw[GY z,GY z]
   have R:k=Az:=by simpa using z
   subst R;obtain⟨c,O⟩:=h n Ai;have e:cellOf env n=pure c:=by unfold cellOf;rw[O]
   rw[e,O];exact kI f B r _ M
  ·rw[MQ z,MQ z]
   exact kI f B r acc M
theorem JY(h : ∀n,(n,Az)∈scope.names->∃c,env.cells.lookup n=some c) :
 closureFor scope env=pure (QM env.cells scope.names []):=by
 simp only[closureFor];rw[kI (env:=env) _ (λname kind z=>by cases hk:kind==Az<;>simp[hk]) scope.names [] h];rfl
theorem xx
 (z:Q {scope:=scope,locals:=s.heap.objs.size,globals:=globals,cells:=cellsFrom (s.heap.objs.size+1) scope.names cl,qual:=qual,func:=none,code:=env.code,frame:=env.frame,builtins:=env.builtins}
   {s with heap:=pushCells (s.heap.push {cls:= .type "dict",data:= .dict #[]}) scope.names}) :
 wpAny M A (newFunctionEnv scope globals cl [] qual none .none (some env)) Q E s:=by
 simp only[newFunctionEnv,Option.isSome_some,if_true];refine uX (wpAny_alloc ?_);refine uX (wpAny_layCells _ (λname kind cells=>by cases hkc:kind==BO<;>simp[hkc]) _ _ _ _ ?_);rw[show({s with heap:=s.heap.push {cls:= .type "dict",data:= .dict #[]}}:Shared).heap.objs.size=s.heap.objs.size+1 from AB ..];exact uX (Ad (Ad z))
theorem YA : ∀{names:List (Str×NameKind)} {acc:List (Str×Addr)},(n,c)∈QM cells names acc->(n,c)∈acc\/((n,Az)∈names/\cells.lookup n=some c)
 | [],acc,h=> .inl h
 | (m,k)::r,acc,h=>by
  unfold QM at h;rcases YA h with g | ⟨h1,h2⟩
  ·clear h
   by_cases z:(k==Az)=true
   ·rw[GY z]at g
    have B:k=Az:=by simpa using z
    subst B;cases e:cells.lookup m with
    | none=>rw[e]at g;exact .inl g
    | some I=>
     rw[e]at g;rcases Ag.mp g with g | g
     ·cases g;exact .inr ⟨Ai,e⟩
     ·exact .inl g
   ·rw[MQ z]at g;exact .inl g
  ·exact .inr ⟨Ah _ h1,h2⟩
theorem Zm : ∀{names:List (Str×NameKind)} {acc:List (Str×Addr)},((acc.lookup n).isSome=true\/((n,Az)∈names/\(cells.lookup n).isSome=true))->((QM cells names acc).lookup n).isSome=true
 | [],acc,h=>by
  rcases h with h | ⟨h,_⟩
  ·exact h
  ·cases h
 | (m,k)::r,acc,h=>by
  unfold QM;apply Zm;by_cases z:(k==Az)=true
  ·rw[GY z]
   have I:k=Az:=by simpa using z
   subst I;cases e:cells.lookup m with
   | none=>
    rcases h with h | ⟨h1,h2⟩
    ·exact .inl h
    ·rcases Ag.mp h1 with h1 | h1
     ·cases h1;rw[e]at h2;cases h2
     ·exact .inr ⟨h1,h2⟩
   | some M=>
    dsimp only;by_cases B:n=m
    ·subst B;left;simp
    ·rcases h with h | ⟨h1,h2⟩
     ·left;rw[Bb];split<;>simp_all
     ·rcases Ag.mp h1 with h1 | h1
      ·cases h1;exact absurd rfl B
      ·exact .inr ⟨h1,h2⟩
  ·rw[MQ z]
   rcases h with h | ⟨h1,h2⟩
   ·exact .inl h
   ·rcases Ag.mp h1 with h1 | h1
    ·cases h1;exact absurd rfl z
    ·exact .inr ⟨h1,h2⟩
theorem qP : ∀{names:List (Str×NameKind)} {k:Nat} {acc:List (Str×Addr)},(n,c)∈cellsFrom k names acc->(n,c)∈acc\/(k<=c/\(n,BO)∈names)
 | [],_,_,h=> .inl h
 | (m,kd)::r,k,acc,h=>by
  unfold cellsFrom at h;split at h
  ·rename_i z
   have B:kd=BO:=by simpa using z
   subst B;rcases qP h with h | ⟨h1,h2⟩
   ·rcases Ag.mp h with h | h
    ·cases h;exact .inr ⟨Ak _,Ai⟩
    ·exact .inl h
   ·exact .inr ⟨by omega,Ah _ h2⟩
  ·rcases qP h with h | ⟨h1,h2⟩
   ·exact .inl h
   ·exact .inr ⟨h1,Ah _ h2⟩
theorem xU : ∀{names:List (Str×NameKind)} {k:Nat} {acc:List (Str×Addr)},(∀p∈acc,∀q∈acc,p.2=q.2->p.1=q.1)->(∀p∈acc,p.2<k)->
 ∀p∈cellsFrom k names acc,∀q∈cellsFrom k names acc,p.2=q.2->p.1=q.1
 | [],_,_,h,_=>h
 | (m,kd)::r,k,acc,h,hl=>by
  unfold cellsFrom;split
  ·refine xU (λp z q B e=>?_) (λp z=>?_)
   ·rcases Ag.mp z with rfl | z<;>rcases Ag.mp B with rfl | B
    ·rfl
    ·have I:k=q.2:=e
     exact absurd (I ▸ hl q B)<|By _
    ·have I:p.2=k:=e
     exact absurd (I ▸ hl p z)<|By _
    ·exact h p z q B e
   ·rcases Ag.mp z with rfl | z
    ·exact Cv _
    ·exact Bu<|hl p z
  ·exact xU h hl
theorem Zt : ∀{names:List (Str×NameKind)} {h:Heap} {acc:List (Str×Addr)} {n:Str} {c:Addr},(n,c)∈cellsFrom h.objs.size names acc->(n,c)∈acc\/(pushCells h names).IsCell c none
 | [],_,_,_,_,hm=> .inl hm
 | (m,kd)::r,h,acc,n,c,hm=>by
  unfold cellsFrom at hm;unfold pushCells;split at hm
  ·rename_i z
   rw[GY z];have e:h.objs.size+1=(h.push {cls:= .type "cell",data:= .cell none}).objs.size:=(AB ..).symm;rw[e]at hm;rcases Zt hm with hm | hm
   ·rcases Ag.mp hm with hm | hm
    ·cases hm
     have B:(h.push {cls:= .type "cell",data:= .cell none}).IsCell h.objs.size none:=⟨{cls:= .type "cell",data:= .cell none},Aj _ rfl,rfl⟩;exact .inr (B.keeps λb o q=>EI _ _ b o q)
    ·exact .inl hm
   ·exact .inr hm
  ·rename_i z
   rw[MQ z];exact Zt hm
theorem kY{α:Type}{l:List (Str×α)}(nd:(l.map (·.1)).Nodup) : ∀{n:Str} {a:α},(n,a)∈l->l.lookup n=some a:=by
 induction l with
 | nil=>intro n a h;cases h
 | cons p r z=>
  intro n a h;obtain⟨m,b⟩:=p;rw[Ba,Bn]at nd;rw[Bb];rcases Ag.mp h with h | h
  ·cases h;simp
  ·have B:(n==m)=false:=by
    have:n≠m:=λe=>nd.1 (by rw[<- e];exact AY.mpr ⟨(n,a),h,rfl⟩);simpa using this
   rw[B];exact z nd.2 h
theorem yf(scope:Scope)(env:Env)(x:Str):(relabel scope env).names.lookup x =
 (scope.names.lookup x).map λk=>if (k==Az && env.scope.kind == .function && env.kindOf x==some .cell)then BO else k:=by
 unfold relabel;dsimp only;generalize scope.names=l
 induction l with
 | nil=>rfl
 | cons p r B=>
  obtain⟨n,k⟩:=p;rw[Ba];cases hx:x==n with
  | true=>
   have e:x=n:=by simpa using hx
   subst e;rw[Bb,Bb];dsimp only;by_cases z:(k==Az && env.scope.kind == .function && env.kindOf x==some .cell)=true
   ·rw[GY z,beq_self_eq_true];dsimp only[BV];rw[GY z]
   ·rw[MQ z,beq_self_eq_true];dsimp only[BV];rw[MQ z]
  | false=>
   have : ∀I,List.lookup x ((n,I)::(r.map λx=>match x with | (n,k)=>if (k==Az && env.scope.kind == .function && env.kindOf n==some .cell)=true then (n,BO)else (n,k)))=List.lookup x (r.map λx=>match x with | (n,k)=>if (k==Az && env.scope.kind == .function && env.kindOf n==some .cell)=true then (n,BO)else (n,k)):=λI=>by rw[Bb,hx]
   rw[Bb (k:=n),hx];dsimp only;split
   ·rw[this];exact B
   ·rw[this];exact B
noncomputable def y8(scope:Scope)(env:Env)(L:Addr):Env:=
 {scope:=relabel scope env,locals:=L,globals:=env.globals,cells:=cellsFrom (L+1) scope.names<|QM env.cells scope.names [],qual:=env.qual,func:=none,code:=env.code,frame:=env.frame,builtins:=env.builtins}
noncomputable def jr(X:Cx)(scope:Scope)(z:List Str)(fp:List Addr)(s2:Shared)(H2:Hp):Cx:=
 {X with N:=z,s₀:=s2,H₀:=H2,env:=y8 scope X.env<|s2.heap.objs.size+1,outer:=X.stack,stack:=X.stack,ex:=fp,fn:=λx=>scope.names.lookup x==some .cell,pn:=[],xe:=λ_ _=>False}
structure CompOk(X:Cx)(scope:Scope)(fr:List (Str×Nat)):Prop where
 kind:scope.kind = .function
 nd:(scope.names.map (·.1)).Nodup
 free : ∀p∈scope.names,p.2=Az->X.env.kindOf p.1=some .cell\/X.env.kindOf p.1=some .free
 fr : ∀p∈fr,scope.names.lookup p.1=some .free/\X.N[p.2]? = some p.1
noncomputable def bJ(own:List Str)(fr:List (Str×Nat))(σ:St):St:=own.map (λ_=>none)++fr.map λp=>(σ[p.2]?).join
abbrev KQ:Obj:={cls:= .type "list",data:= .seq #[]}
abbrev dW:Obj:={cls:= .type "dict",data:= .dict #[]}
theorem cC{X:Cx}{pins:GW}{σ:St}{H2:Hp}{s2:Shared}{scope:Scope}{own:List Str}{fr:List (Str×Nat)}{fp:List Addr}(I:Inv X pins σ H2 s2)(ok:CompOk X scope fr)
 (a0 : ∀b∈fp,YM X pins H2 b) (ao : ∀b∈fp,∃o,s2.heap.get? b=some o) :
 Inv (jr X scope (own++fr.map (·.1)) fp s2 H2) [] (bJ own fr σ) (upd H2 s2.heap.objs.size<|.lst []) {s2 with heap:=pushCells ((s2.heap.push KQ).push dW) scope.names}:=by
 have z1:(s2.heap.push KQ).objs.size=s2.heap.objs.size+1:=AB ..;have z2:((s2.heap.push KQ).push dW).objs.size=s2.heap.objs.size+2:=by rw[AB,z1]
 have O : ∀n c,(n,c)∈QM X.env.cells scope.names []->(n,Az)∈scope.names/\X.env.cells.lookup n=some c:=λn c h=>(YA h).resolve_left ⋯;have a7 : ∀n c,X.env.cells.lookup n=some c->c<s2.heap.objs.size:=λn c h=>by obtain⟨v,q⟩:=I.cell n c h;exact q.lt
 have ar : ∀p∈QM X.env.cells scope.names [],p.2<s2.heap.objs.size+1+1:=λp M=>by exact Bu<|Bu<|a7 p.1 p.2 (O p.1 p.2 M).2
 have hC:(y8 scope X.env<|s2.heap.objs.size+1).cells=cellsFrom (s2.heap.objs.size+2) scope.names (QM X.env.cells scope.names []):=rfl;have cells : ∀x c,(y8 scope X.env<|s2.heap.objs.size+1).cells.lookup x=some c->((x,Az)∈scope.names/\X.env.cells.lookup x=some c)\/(s2.heap.objs.size+2<=c/\(x,BO)∈scope.names):=λx c h=>by
  rcases qP (mem_of_lookup h)with h | h
  ·exact .inl<|O x c h
  ·exact .inr h
 have a8 : ∀x,(x,Az)∈scope.names->∃c,X.env.cells.lookup x=some c/\(y8 scope X.env<|s2.heap.objs.size+1).cells.lookup x=some c:=λx U=>by
  obtain⟨c,R⟩:=I.ok.has x<|ok.free (x,.free) U rfl;have h1:((QM X.env.cells scope.names []).lookup x).isSome=true:=Zm<|.inr ⟨U,by rw[R];rfl⟩;have h2:=CD scope.names (s2.heap.objs.size+2) (QM X.env.cells scope.names [])<|.inr h1;obtain⟨c',ac⟩:=EB.mp h2;refine⟨c,R,?_⟩;rcases cells x c' ac with⟨_,q⟩ | ⟨_,q⟩
  ·rw[R]at q;cases q;exact ac
  ·exact absurd ((kY ok.nd q).symm.trans (kY ok.nd U)) ⋯
 have keep : ∀b o,s2.heap.get? b=some o->(pushCells ((s2.heap.push KQ).push dW) scope.names).get? b=some o:=λb o e=>
  EI _ _ b o (uY _<|uY _ e)
 have ag : ∀b∈fp,b<s2.heap.objs.size:=λb B=>by obtain⟨o,e⟩:=ao b B;exact Ao e
 have fresh:H2 s2.heap.objs.size=none:=I.hok.fresh<|Ak _;have am : ∀c,s2.heap.objs.size<c->(upd H2 s2.heap.objs.size<|.lst []) c=none:=λc R=>by rw[zI (Bk R)];exact I.hok.fresh<|FW R
 obtain⟨m0,aw⟩ : ∃m,(pushCells ((s2.heap.push KQ).push dW) scope.names).Ns (s2.heap.objs.size+1) m:=by have q:=(Heap.Ns.new (s2.heap.push KQ) (.type "dict")).keeps (λb o e=>EI scope.names _ b o e);rw[z1]at q;exact⟨_,q⟩
 refine⟨⟨I.ok.mod,ok.kind,I.ok.glob,I.ok.blt,Nat.le_succ _,λx y c h1 h2=>?_,λx U=>?_,λx c hf h=>?_,I.ok.hd,I.ok.frames,.inl rfl,λb B=>⟨?_,λx c h z=>?_⟩,λb o e=>I.bs b o e,?_,λb o e B=>?_,λb B hs=>?_,I.stack,I.stkFree⟩,
  rfl,I.bare,Un.laid keep (Ak _) fresh,⟨m0,aw,λi x v e1 e2 e3=>?_⟩,λx c h=>?_,?_,λx c h=>?_,λp M=>?_,?_,?_⟩
 ·have q:=xU (names:=scope.names) (k:=s2.heap.objs.size+2) (acc:=QM X.env.cells scope.names []) (λp M q hq e=>I.ok.inj p.1 q.1 p.2 (O _ _ M).2 (by rw[e];exact(O _ _ hq).2)) ar
  exact q (x,c) (mem_of_lookup h1) (y,c) (mem_of_lookup h2) rfl
 ·have W:(relabel scope X.env).names.lookup x=some .cell\/(relabel scope X.env).names.lookup x=some .free:=U
  have:scope.names.lookup x=some .cell\/scope.names.lookup x=some .free:=by
   rw[yf]at W;cases e:scope.names.lookup x with
   | none=>rw[e]at W;simp at W
   | some k=>
    rw[e]at W;cases k<;>simp at W ⊢
  rcases this with h | h
  ·exact EB.mp<|CD scope.names _ _<|.inl h
  ·obtain⟨c,_,h2⟩:=a8 x<|mem_of_lookup h;exact⟨c,h2⟩
 ·have b8:(scope.names.lookup x==some .cell)=true:=hf
  have b9:scope.names.lookup x=some .cell:=by simpa using b8
  rcases cells x c h with⟨q,_⟩ | ⟨q,_⟩
  ·exact absurd ((kY ok.nd q).symm.trans b9) ⋯
  ·exact AE (AG _ 2) q
 ·exact AJ<|Bu<|ag b B
 ·rcases cells x c h with⟨_,q⟩ | ⟨q,_⟩
  ·exact(a0 b B).2.2.2.2.1 x c q z
  ·exact absurd (Ap (ag b B)<|AE (AG _ 2)<|z ▸ q)<|By _
 ·exact AE I.ok.bsz I.sz
 ·rcases (a0 b B).2.2.2.1 with q | q
  ·exact I.ok.noex b o e q
  ·exact absurd (Ap (Ao e)<|AE I.ok.bsz q)<|By _
 ·rcases Ag.mp (I.stkSub b hs)with q | q
  ·exact(a0 b B).2.1 q
  ·exact(a0 b B).2.2.1 q
 ·have hi:i<(own++fr.map (·.1)).length:=(Af.mp e1).1
  by_cases a3:i<own.length
  ·unfold bJ at e2
   rw[AD (by simpa using a3)]at e2;simp[AK,a3]at e2
  ·have hj : ∃p,fr[i - own.length]? = some p/\p.1=x/\(σ[p.2]?).join=some v:=by
    unfold bJ at e2;have Y:(own++fr.map (·.1))[i]? = some x:=e1;rw[AA ⋯,AK]at Y;rw[AA (by simpa using a3),AK,AO]at e2;cases q:fr[i - own.length]? with
    | none=>rw[q]at Y;cases Y
    | some p=>
     rw[q]at Y e2;exact⟨p,rfl,by simpa using Y,by simpa using e2⟩
   obtain⟨p,M,bd,a1⟩:=hj;obtain⟨g1,g2⟩:=ok.fr p<|AZ M;rw[bd]at g1 g2;have hσ:σ[p.2]? = some (some v):=by
    cases q:σ[p.2]? with
    | none=>rw[q]at a1;cases a1
    | some o=>rw[q]at a1;simpa using a1
   have an:=ok.free (x,.free) (mem_of_lookup g1) rfl;obtain⟨m,hn,hl⟩:=I.loc;obtain⟨u,ru,lk⟩:=hl p.2 x v g2 hσ (by rcases an with k | k;exact .inr<|.inl k;exact .inr<|.inr k);refine⟨u,ru,.inr ?_⟩;obtain⟨c,bi,bl⟩:=a8 x<|mem_of_lookup g1;have bm:s2.heap.IsCell c (some u):=by
    rcases lk with⟨k,_⟩ | ⟨_,c',e,z⟩
    ·rcases an with k' | k'<;>rw[k]at k'<;>cases k'
    ·rw[bi]at e;cases e;exact z
   refine⟨?_,c,bl,bm.keeps keep⟩;show(relabel scope X.env).names.lookup x=some .cell\/(relabel scope X.env).names.lookup x=some .free;rw[yf,g1];dsimp only[BV];split
   ·exact .inl rfl
   ·exact .inr rfl
 ·rcases qP (mem_of_lookup h)with q | q
  ·obtain⟨v,w'⟩:=I.cell x c (O x c q).2
   exact⟨v,w'.keeps keep⟩
  ·have q2:=mem_of_lookup h
   have q3:(x,c)∈cellsFrom ((s2.heap.push KQ).push dW).objs.size scope.names (QM X.env.cells scope.names []):=by rw[z2];exact q2
   rcases Zt q3 with q4 | q4
   ·obtain⟨v,w'⟩:=I.cell x c (O x c q4).2
    exact⟨v,w'.keeps keep⟩
   ·exact⟨none,q4⟩
 ·exact am _<|Cv _
 ·rcases cells x c h with⟨_,q⟩ | ⟨q,_⟩
  ·rw[zI (AJ<|a7 x c q)];exact I.freeC x c q
  ·exact am c<|Ap (Bu<|Cv _) q
 ·exact absurd (show p∈([]:GW)from M) ⋯
 ·refine I.hok.laid keep (Ak _) ⟨Bt _,[],0,.nil,?_⟩
  exact EI _ _ _ _<|uY _<|Aj _ rfl
 ·show(bJ own fr σ).length=(own++fr.map (·.1)).length
  simp[bJ]
theorem k9(I:Nat->Shared->Prop)
 (a0 : ∀n s,I n s->wpAny (model prog w) A (pyNext it) (λr z=>match r with
   | none=>R (.ok .next) z
   | some v=>wpAny (model prog w) A (letOwnedTupleGo target it v) (λ_ z=>wpAny (model prog w) A (assign target env v) (λ_ M=>
    wpAny (model prog w) A (forIn ifs true λc r=>if r=true then do let ok <- isTrue c env (eval c env);pure (EU ok)else pure (EU r)) (λok B=>
     if ok=true then wpAny (model prog w) A (eval elt env) (λx O=>
      wpAny (model prog w) A (call (.builtin "list.append") [acc,x]) (λ_ U=>∃m,m<n/\I m U) (λ_ _=>False) O) (λ_ _=>False) B
     else ∃m,m<n/\I m B) (λ_ _=>False) M) (λ_ _=>False) z) (λ_ _=>False) z) (λ_ _=>False) s)
 (n:Nat) (h:I n s) :
 codeAny (model prog w) A (.compLoop (.ListComp elt [⟨target,iter,ifs,0⟩] scope pos) 0 it acc env) R s:=by
 refine codeAny_loop rfl I (λn s hI=>?_) n h;show wpAny _ A ((compTurn (.ListComp elt [⟨target,iter,ifs,0⟩] scope pos) 0 it acc env).onRaise (λx=>do noteFrame x env;theTreesLotGoes x)) _ _ s;refine wpAny_noted ?_;rw[compTurn_list];refine uX<|wpAny_standAt<|uX<|CN (a0 n s hI) (λr z W=>?_) λ_ _ h'=>h'.elim;cases r with
 | none=>exact Ad W
 | some v=>
  refine uX<|CN W (λ_ a6 a2=>?_) λ_ _ h'=>h'.elim;refine uX<|CN a2 (λ_ M h₂=>uX<|CN h₂ (λok B Y=>?_) λ_ _ h'=>h'.elim) λ_ _ h'=>h'.elim;cases ok with
  | false=>exact Ad ⟨rfl,Y⟩
  | true=>
   exact uX<|uX<|CN Y (λx O h₄=>uX<|CN h₄ (λ_ U h₅=>Ad<|Ad ⟨rfl,h₅⟩) λ_ _ h'=>h'.elim) λ_ _ h'=>h'.elim
noncomputable def hV(X:Cx)(ifs:List Expr)(t:TT):Prop:=
 ∀(pins:GW) (s:Shared) (σ:St) (H:Hp) (Q:Bool->Hp->Prop),Inv X pins σ H s->t σ H Q->
  wpAny (model X.prog X.w) X.A (forIn ifs true λc r=>if r=true then do let ok <- isTrue c X.env (eval c X.env);pure (EU ok)else pure (EU r)) (TP X pins σ Q) X.xe s
noncomputable def oF:TT:=λ_ H Q=>Q true H
theorem JE:hV X [] oF:=λ_ _ _ H _ I h=>wpAny_tests_nil ⟨H,I,h⟩
theorem bS(h:PT X c t):hV X [c] t:=λpins s σ H Q I z=>wpAny_tests_one<|h pins s σ H Q I z
noncomputable def CW(J:It)(g:TG)(tt:TT)(te:TE)(D:Addr)(Q:VK)(W:Nat->Nat->List V->St->Hp->Prop):Prop:=
 ∀i m ys σ H,W i m ys σ H->H D=some (.lst ys)/\((J.stop i H/\Q (.ref D) H)\/(J.go i H/\ys.length<sizeLine/\∀x H',J.yld i H x H'->g x σ H' λz H2=>tt z H2 λb B=>
  if b=true then te z B λv I=>I D=some (.lst ys)/\∃m',m'<m/\W (i+1) m' (ys++[v]) z (upd I D<|.lst<|ys++[v])else ∃m',m'<m/\W (i+1) m' ys z B))
noncomputable def cX(X:Cx)(pins:GW)(H:Hp)(L:Addr):Prop:=
 H L=none/\L≠X.env.locals/\X.s₀.heap.objs.size<=L/\(∀x c,X.env.cells.lookup x=some c->c≠L)/\∀p∈X.pn++pins,p.1≠L
theorem cQ
 (hc:X.calm=true) (I:Inv X pins σ H2 s2) (ok:CompOk X scope fr) (T:Turn X.prog X.w X.K tg J fp it tn) (st:tn 0 s2.heap) (O : ∀b∈fp,YM X pins H2 b)
 (hg:PG (jr X scope (own++fr.map (·.1)) fp s2 H2) tg g) (ht:hV (jr X scope (own++fr.map (·.1)) fp s2 H2) ifs tt) (he:PE (jr X scope (own++fr.map (·.1)) fp s2 H2) elt te)
 (hW : ∀D,H2 D=none->∃W:Nat->Nat->List V->St->Hp->Prop,(∃m,W 0 m [] (bJ own fr σ) (upd H2 D<|.lst []))/\CW J g tt te D Q W) :
 wpAny (model X.prog X.w) X.A (newList []) (λacc s₃=>wpAny (model X.prog X.w) X.A (newFunctionEnv scope X.env.globals (QM X.env.cells scope.names []) [] X.env.qual none .none (some X.env)) (λa7 s₄=>
  codeAny (model X.prog X.w) X.A (.compStart (.ListComp elt [⟨tg,iter,ifs,0⟩] scope pos) 0 (.ref it) acc {a7 with scope:=relabel scope X.env})
   (λr s'=>(∃f,r = .ok f)/\∃D H',acc = .ref D/\Inv X pins σ H' s'/\Q (.ref D) H'/\(∃m,s'.heap.Ns a7.locals m)/\cX X pins H' a7.locals) s₄) E s₃) E s2:=by
 have ar : ∀b∈fp,∃o,s2.heap.get? b=some o:=λb B=>by obtain⟨o,e,_⟩:=T.obj 0 _ st b B;exact⟨o,e⟩
 have I0:=cC (own:=own) I ok O ar;obtain⟨W,⟨m0,w0⟩,cw⟩:=hW _ I.fresh;refine AW<|xx ?_;have z1:(s2.heap.push KQ).objs.size=s2.heap.objs.size+1:=AB ..;show codeAny _ _ (.compStart _ 0 (.ref it) (.ref s2.heap.objs.size) {scope:=relabel scope X.env,locals:=(s2.heap.push KQ).objs.size,globals:=X.env.globals,cells:=cellsFrom ((s2.heap.push KQ).objs.size+1) scope.names<|QM X.env.cells scope.names [],qual:=X.env.qual,func:=none,code:=X.env.code,frame:=X.env.frame,builtins:=X.env.builtins})
  (λr s'=>(∃f,r = .ok f)/\∃D H',Bi s2.heap.objs.size = .ref D/\Inv X pins σ H' s'/\Q (.ref D) H'/\(∃m,s'.heap.Ns (s2.heap.push KQ).objs.size m)/\cX X pins H' (s2.heap.push KQ).objs.size) {s2 with heap:=pushCells ((s2.heap.push KQ).push dW) scope.names}
 rw[z1];have as:tn 0 (pushCells ((s2.heap.push KQ).push dW) scope.names):=T.keep 0 _ _ st λb _ o e=>EI _ _ b o<|uY _<|uY _ e;have c3 : ∀b∈fp,b<s2.heap.objs.size:=λb B=>by obtain⟨o,e⟩:=ar b B;exact Ao e
 have a8 : ∀{H':Hp},(∀b∈fp,H' b=none)->∀b∈fp,YM (jr X scope (own++fr.map (·.1)) fp s2 H2) [] H' b:=λhn b B=>
  ⟨hn b B,(I0.ok.exf b B).1,I0.ok.exfs b B,.inl B,(I0.ok.exf b B).2,λp hp=>absurd (show p∈([]:GW)from hp) ⋯⟩
 have aw:codeAny (model X.prog X.w) X.A (.compLoop (.ListComp elt [⟨tg,iter,ifs,0⟩] scope pos) 0 (.ref it) (.ref s2.heap.objs.size)<|y8 scope X.env<|s2.heap.objs.size+1)
  (λr s'=>(∃f,r = .ok f)/\∃D H',Bi s2.heap.objs.size = .ref D/\Inv X pins σ H' s'/\Q (.ref D) H'/\(∃m,s'.heap.Ns (s2.heap.objs.size+1) m)/\cX X pins H' (s2.heap.objs.size+1)) {s2 with heap:=pushCells ((s2.heap.push KQ).push dW) scope.names}:=by
  refine k9 (λn s'=>∃i ys σ' H',Inv (jr X scope (own++fr.map (·.1)) fp s2 H2) [] σ' H' s'/\tn i s'.heap/\(∀b∈fp,H' b=none)/\W i n ys σ' H') ?_ m0
   ⟨0,[],_,_,I0,as,λb B=>by rw[zI (AJ<|c3 b B)];exact(O b B).1,w0⟩
  rintro n s3 ⟨i,ys,σ3,H3,I3,st3,b7,w3⟩;obtain⟨hD,c5⟩:=cw i n ys σ3 H3 w3;rcases c5 with⟨stop,qn⟩ | ⟨go,hz,step⟩
  ·refine thn (T.done (jr X scope (own++fr.map (·.1)) fp s2 H2) rfl rfl rfl hc i [] s3 σ3 H3 _ I3 (a8 b7) st3 stop) λr s4 M=>?_
   obtain⟨hr,R⟩:=M;subst hr;refine⟨⟨_,rfl⟩,_,H3,rfl,I.call' (ch:=fp) R.os R.base R.hok R.bare<|λb B=>⟨(O b B).2.2.2.1,(O b B).2.1,(O b B).2.2.2.2.1,(O b B).2.2.2.2.2⟩,qn,?_,R.free,?_,?_,?_,?_⟩
   ·obtain⟨m,hn,_⟩:=R.loc
    exact⟨m,hn⟩
   ·exact Bk<|Bu I.lt
   ·exact Nat.le_succ_of_le I.sz
   ·intro x c e z
    obtain⟨v,q⟩:=I.cell x c e;exact absurd (Bu q.lt) (by rw[z];exact By _)
   ·intro p hp z
    exact absurd (Bu<|Ao (I.pin p hp).1) (by rw[z];exact By _)
  ·refine thn (T.item (jr X scope (own++fr.map (·.1)) fp s2 H2) rfl rfl rfl hc i [] s3 σ3 H3 _ I3 (a8 b7) st3 go) λr s4 M=>?_
   obtain⟨u,hr,h4⟩:=M;subst hr;refine thn h4 λ_ s5 M=>?_;obtain⟨x,H5,I5,r5,y5,ag,ce⟩:=M;have ci:=I5.pinned (a8 ce)<|T.obj _ _ ag;refine thn (hg _ s5 σ3 H5 x u _ ci r5<|step x H5 y5) λ_ s6 M=>?_;obtain⟨σ6,H6,I6,q6⟩:=M;refine thn (ht _ s6 σ6 H6 _ I6 q6) λb s7 M=>?_;obtain⟨H7,I7,q7⟩:=M;have after : ∀{σ8:St} {H8:Hp} {U:Shared},Inv (jr X scope (own++fr.map (·.1)) fp s2 H2) ([]++Xu fp s5.heap) σ8 H8 U->tn (i+1) U.heap/\∀b∈fp,H8 b=none:=λ{σ8 H8 U} Y=>by refine⟨T.keep _ _ _ ag λb B o e=>(Y.pin (b,o)<|Bc _<|Bc _<|kX B e).1,λb B=>?_⟩;obtain⟨o,e,d⟩:=T.obj _ _ ag b B;exact(Y.pin (b,o)<|Bc _<|Bc _<|kX B e).2.1
   cases b with
   | false=>
    rw[MQ Ay]at q7 ⊢;obtain⟨m',hm,w7⟩:=q7;exact⟨m',hm,i+1,ys,σ6,H7,I7.unpinned,(after I7).1,(after I7).2,w7⟩
   | true=>
    rw[GY rfl]at q7 ⊢;refine thn (he _ s7 σ6 H7 _ I7 q7) λv8 U M=>?_;obtain⟨x8,H8,Y,r8,be,m',hm,w8⟩:=M;obtain⟨z8,bf,n8,rv,d3,e8⟩:=Y.lstM be;refine CP F.slot_list_append ⟨_,e8,rfl⟩ F.entry_list_append (F.args_list_append_2 _ _) (PySem.list_append _ bf.toArray n8 v8<|by rw[An];omega) ⟨e8,?_⟩;have I9:=Y.lset (its':=bf++[v8]) (f:=(·.push v8)) (t':=U.toks) be e8 ⋯ (rv.append<|.cons r8 .nil) (by rw[Bl,Eb];omega);exact⟨m',hm,i+1,ys++[x8],σ6,_,I9.unpinned,(after I9).1,(after I9).2,w8⟩
 exact codeAny_compStart_list aw<|T.self _ 0 _ _ _ as aw
noncomputable def VQ(wi:TI)(own:List Str)(fr:List (Str×Nat))(g:TG)(tt:TT)(te:TE):TE:=λσ H Q=>wi σ H λJ H1=>∀D,H1 D=none->
 ∃W:Nat->Nat->List V->St->Hp->Prop,(∃m,W 0 m [] (bJ own fr σ) (upd H1 D<|.lst []))/\CW J g tt te D Q W
section
variable{X:Cx}{scope:Scope}{own:List Str}{fr:List (Str×Nat)}{elt tg iter:Expr}{ifs:List Expr}{pos:Pos}{wi:TI}{g:TG}{tt:TT}{te:TE}
theorem YI
 (z:X.calm=true) (ok:CompOk X scope fr) (hi:PI X tg iter wi) (B : ∀fp s2 H2,PG (jr X scope (own++fr.map (·.1)) fp s2 H2) tg g)
 (M : ∀fp s2 H2,hV (jr X scope (own++fr.map (·.1)) fp s2 H2) ifs tt) (O : ∀fp s2 H2,PE (jr X scope (own++fr.map (·.1)) fp s2 H2) elt te)
 (I:Inv X pins σ H s) (h:VQ wi own fr g tt te σ H Q)
 (U : ∀D H' s' L,Inv X pins σ H' s'->Q (.ref D) H'->(∃m,s'.heap.Ns L m)->cX X pins H' L->
   compPost (model X.prog X.w) X.A X.xe use R (.ref D) L (.ok .next) s')
 (W : ∀x,foldedSetIterable iter X.env x=pure x:=by intro _;rfl) :
 wpAny (model X.prog X.w) X.A (comprehension (.ListComp elt [⟨tg,iter,ifs,0⟩] scope pos) scope X.env (firstIterPos [⟨tg,iter,ifs,0⟩] pos) (newList []) false (eval iter X.env) use) R X.xe s:=by
 refine wpAny_comprehension_free rfl W (JY λn hn=>I.ok.has n<|ok.free (n,.free) hn rfl) ok.kind (λx Y e=>by rw[<- e];exact kY ok.nd<|show(x.1,x.2)∈scope.names from Y) ?_;refine thn (hi pins s σ H _ I h) λv s1 h1=>thn h1 λam s2 h2=>?_;obtain⟨it,fp,tn,J,H2,e,I2,T,a1,f2,hW⟩:=h2;subst e;refine thn (cQ (own:=own) (Q:=Q) (E:=X.xe) z I2 ok T a1 f2 (B fp s2 H2) (M fp s2 H2) (O fp s2 H2) hW) λacc s3 h3=>thn h3 λa5 s4 h4=>Gd h4 λr s' h5=>?_;obtain⟨⟨f,hr⟩,D,H',ea,I',q,hn,y⟩:=h5;subst hr;subst ea;have q2:=U D H' s' a5.locals I' q hn y;cases use<;>exact q2
theorem KA(z:X.calm=true)(ok:CompOk X scope fr)(hi:PI X tg iter wi)(B : ∀fp s2 H2,PG (jr X scope (own++fr.map (·.1)) fp s2 H2) tg g)
 (M : ∀fp s2 H2,hV (jr X scope (own++fr.map (·.1)) fp s2 H2) ifs tt) (O : ∀fp s2 H2,PE (jr X scope (own++fr.map (·.1)) fp s2 H2) elt te)
 (R : ∀x,foldedSetIterable iter X.env x=pure x:=by intro _;rfl) :
 PE X (.ListComp elt [⟨tg,iter,ifs,0⟩] scope pos) (VQ wi own fr g tt te):=by
 intro pins s σ H Q I h;rw[eval_ListComp];refine YI (use:=none) z ok hi B M O I h (λD H' s' L U q hn y=>?_) R;obtain⟨m,hm⟩:=hn;obtain⟨W,Y,y3,y4,y5⟩:=y;refine⟨m,hm,λh' sb=>⟨.ref D,H',U.turned (t':=s'.toks) (it:=L) (λb o hb e=>sb.extBut b o hb e) W Y (.inr y3) y4 y5,rfl,q⟩⟩
theorem ZZ(B:X.N.Nodup)(M:X.N[i]? = some y)(O:Loc X.env.scope y)(U:X.fn y=true\/X.env.scope.names.lookup y=some .local)
 (W:X.calm=true) (ok:CompOk X scope fr) (hi:PI X tg iter wi) (Y : ∀fp s2 H2,PG (jr X scope (own++fr.map (·.1)) fp s2 H2) tg g)
 (ht : ∀fp s2 H2,hV (jr X scope (own++fr.map (·.1)) fp s2 H2) ifs tt) (he : ∀fp s2 H2,PE (jr X scope (own++fr.map (·.1)) fp s2 H2) elt te)
 (hs : ∀x,foldedSetIterable iter X.env x=pure x:=by intro _;rfl) :
 PS X (.Assign [.Name y py] (.ListComp elt [⟨tg,iter,ifs,0⟩] scope pos) spos) (aW (VQ wi own fr g tt te)<|yX i):=by
 have z : ∃b:Bool,swapsWith (.ListComp elt [⟨tg,iter,ifs,0⟩] scope pos) (some (.Name y py)) spos.line X.env=pure b:=⟨_,rfl⟩;obtain⟨b,z⟩:=z;cases b with
 | false=>
  have e1:swapsWithSole [.Name y py] (.ListComp elt [⟨tg,iter,ifs,0⟩] scope pos) spos.line X.env=swapsWith (.ListComp elt [⟨tg,iter,ifs,0⟩] scope pos) (some (.Name y py)) spos.line X.env:=rfl;exact Ww (KA W ok hi Y ht he hs) (WG B M O U) (by rw[e1];exact z)
 | true=>
  intro pins s σ H D I h;rw[exec_Assign_Name_used _ _ _ _ z];refine uX<|wpAny_standAt<|uX ?_;show wpAny _ X.A (do let _ <- comprehension (.ListComp elt [⟨tg,iter,ifs,0⟩] scope pos) scope X.env _ (newList []) false (eval iter X.env) (some (assign (.Name y py) X.env))) _ _ s;refine uX<|thn (YI (R:=λ_ s'=>SP X pins D .next s') (use:=some (assign (.Name y py) X.env)) W ok hi Y ht he I h (λDa H' s' L I' q hn yg=>?_) hs) λ_ s' q=>Ad<|Ad q;obtain⟨y1,y2,y3,y4,y5⟩:=yg;obtain⟨m,hm⟩:=hn;show wpAny _ _ (assign (.Name y py) X.env<|.ref Da) _ _ _;refine wpAny_assign_Name<|QW I' B M O (v:= .ref Da) rfl (λag am an=>?_) U;obtain⟨a,sb,ha⟩:=an;have ap:L≠a:=by
   rcases ha with e | e
   ·rw[e];exact y2
   ·exact AR<|y4 _ _ e
  refine⟨m,hm.sameBut sb ap,λh' ar=>⟨_,_,am.turned (t':=ag.toks) (it:=L) (λb o z e=>ar.extBut b o z e) y1 y2 (.inr y3) y4 y5,q⟩⟩
end
inductive Sk where
 | L | T
 deriving DecidableEq
end L2
namespace DL
open PySem L2
inductive D where
 | non | bl (b:Bool) | int (i:Int) | str (x:Str) | tup (xs:List D) | lst (xs:List D)
 | dic (ks vs:List D)
 | dct (ks:List (List Int)) (vs:List D)
inductive Cell where
 | no | val (d:D) | own (ds:List D) | nest (rows:List (List D))
abbrev Ctx:=List Cell
abbrev CO (a : Type) := Ctx -> Option a
noncomputable def lim:Nat:=2500
noncomputable def jf:D->Option (Sk×List D)
 | .tup ds=>some (.T,ds)
 | .lst ds=>some (.L,ds)
 | _=>none
noncomputable def zT(f:CO D)(γ:Ctx):Option (Sk×List D):=(f γ).bind jf
noncomputable def qE(f:CO (List D))(γ:Ctx):Option D:=(f γ).map D.lst
noncomputable def zX(f:CO (List D))(γ:Ctx):Option (Sk×List D):=(f γ).map λds=>(Sk.L,ds)
noncomputable def av:Option Cell->Option D
 | some (.val d)=>some d
 | _=>none
noncomputable def vC:Option Cell->Option (Sk×List D)
 | some (.val d)=>jf d
 | some (.own ds)=>some (.L,ds)
 | _=>none
noncomputable def zd(i:Nat)(γ:Ctx):Option D:=av γ[i]?
noncomputable def zg(i:Nat)(γ:Ctx):Option (Sk×List D):=vC γ[i]?
noncomputable def zm(d:D):CO D:=λ_=>some d
noncomputable def zu(F:D->D->Option D)(fa fb:CO D)(γ:Ctx):Option D:=(fa γ).bind λx=>(fb γ).bind λy=>F x y
noncomputable def asB:D->Option Bool
 | .bl b=>some b
 | _=>none
noncomputable def asI:D->Option Int
 | .int i=>some i
 | _=>none
noncomputable def sB(f:CO D)(γ:Ctx):Option Bool:=(f γ).bind asB
noncomputable def V4(f g:CO Bool)(γ:Ctx):Option Bool:=(f γ).bind λb=>if b=true then g γ else some false
noncomputable def yb(f g:CO Bool)(γ:Ctx):Option Bool:=(f γ).bind λb=>if b=true then some true else g γ
noncomputable def ji(f:CO Bool)(γ:Ctx):Option Bool:=(f γ).map λb=> !b
noncomputable def Vq(f g:CO D)(γ:Ctx):Option D:=((f γ).bind asB).bind λb=>if b=true then g γ else some (.bl false)
noncomputable def sOr(f g:CO D)(γ:Ctx):Option D:=((f γ).bind asB).bind λb=>if b=true then some (.bl true)else g γ
noncomputable def nq(f:CO D)(γ:Ctx):Option D:=((f γ).bind asB).map λb=> .bl (!b)
noncomputable def fw(c:CO Bool)(f g:CO D)(γ:Ctx):Option D:=(c γ).bind λb=>if b=true then f γ else g γ
noncomputable def zz:CO (List D):=λ_=>some []
noncomputable def zb(f:CO D)(g:CO (List D))(γ:Ctx):Option (List D):=(f γ).bind λx=>(g γ).map λr=>x::r
noncomputable def xj(f:CO (List D))(γ:Ctx):Option D:=(f γ).bind λds=>if ds.length<=lim then some (.tup ds)else none
noncomputable def yn(f:CO (List D))(γ:Ctx):Option (List D):=(f γ).bind λds=>if ds.length<=lim then some ds else none
inductive Res where
 | val (d:D) | own (ds:List D)
inductive Fl where
 | next (γ:Ctx) | brk (γ:Ctx) | cont (γ:Ctx) | ret (r:Res)
noncomputable def jo(γ:Ctx):Option Fl:=some (.next γ)
noncomputable def zN(F G:CO Fl):CO Fl:=λγ=>(F γ).bind λz=>match z with
 | .next γ'=>G γ'
 | f=>some f
noncomputable def jH(f:CO D)(γ:Ctx):Option Fl:=(f γ).map λd=> .ret (.val d)
noncomputable def Xb(f:CO (List D))(γ:Ctx):Option Fl:=(f γ).map λd=> .ret (.own d)
noncomputable def K4:Option Cell->Option Fl
 | some (.val d)=>some (.ret<|.val d)
 | some (.own ds)=>some (.ret<|.own ds)
 | _=>none
noncomputable def V1(i:Nat)(γ:Ctx):Option Fl:=K4 γ[i]?
noncomputable def uM(γ:Ctx):Option Fl:=some (.brk γ)
noncomputable def ue(γ:Ctx):Option Fl:=some (.cont γ)
noncomputable def qD:CO Fl:=λ_=>none
noncomputable def sIf(k:CO Bool)(F G:CO Fl)(γ:Ctx):Option Fl:=(k γ).bind λb=>if b=true then F γ else G γ
noncomputable def jM(i:Nat)(f:CO D)(γ:Ctx):Option Fl:=(f γ).map λd=> .next (γ.set i<|.val d)
noncomputable def v9(i:Nat)(f:CO (List D))(γ:Ctx):Option Fl:=(f γ).map λds=> .next (γ.set i<|.own ds)
noncomputable def Ko(f:CO D)(γ:Ctx):Option Fl:=(f γ).map λ_=> .next γ
noncomputable def xA:Option Cell->Option (List D)
 | some (.own ds)=>some ds
 | _=>none
noncomputable def j8(i:Nat)(f:CO D)(γ:Ctx):Option Fl:=(xA γ[i]?).bind λds=>(f γ).bind λd=>if ds.length<lim then some (.next<|γ.set i<|.own<|ds++[d])else none
noncomputable def zU(n:Nat)(ds:List D):Ctx:=ds.map Cell.val++Aa (n - ds.length) Cell.no
noncomputable def zY(n:Nat)(F:CO Fl)(ds:List D):Option Res:=(F<|zU n ds).bind λz=>match z with
 | .ret r=>some r
 | .next _=>some (.val .non)
 | _=>none
noncomputable def iL:Res->D
 | .val d=>d
 | .own ds=> .lst ds
noncomputable def zt(F:List D->Option Res)(g:CO (List D))(γ:Ctx):Option D:=(g γ).bind λds=>(F ds).map iL
noncomputable def oS:Res->Option (List D)
 | .own ds=>some ds
 | _=>none
noncomputable def kf(F:List D->Option Res)(g:CO (List D))(γ:Ctx):Option (List D):=(g γ).bind λds=>(F ds).bind oS
noncomputable def xH(lo:Int)(n:Nat):List D:=(uZ n).map λ(i:Nat)=>D.int<|lo+(i:Int)
noncomputable def Jk(ds es:List D):List D:=(ds.zip es).map λp=>D.tup [p.1,p.2]
noncomputable def zP(f:CO (Sk×List D))(γ:Ctx):Option (List D):=(f γ).map (·.2)
noncomputable def inR(i:Int):Bool:=decide<|i.natAbs<2 ^ 62
noncomputable def zK(f:CO D)(γ:Ctx):Option (List D):=((f γ).bind asI).bind λn=>if inR n=true then some (xH 0 n.toNat)else none
noncomputable def Jt(f g:CO D)(γ:Ctx):Option (List D):=((f γ).bind asI).bind λm=>((g γ).bind asI).bind λn=>if inR m=true/\inR n=true then some (xH m (n - m).toNat)else none
noncomputable def QK(f g:CO D)(γ:Ctx):Option (List D):=((f γ).bind jf).bind λm=>((g γ).bind jf).map λn=>Jk m.2 n.2
inductive Tg where
 | nm (i:Nat) | tp (is:List Nat)
noncomputable def qd:List Nat->List D->Ctx->Ctx
 | i::is,d::ds,γ=>qd is ds<|γ.set i<|.val d
 | _,_,γ=>γ
noncomputable def xl:Tg->D->CO Ctx
 | .nm i,d,γ=>some (γ.set i<|.val d)
 | .tp is,.tup ds,γ=>if ds.length=is.length then some (qd is ds γ)else none
 | _,_,_=>none
noncomputable def vA(T:Tg)(F:CO Fl):List D->CO Fl
 | [],γ=>some (.next γ)
 | d::ds,γ=>(xl T d γ).bind λB=>(F B).bind λI=>match I with
  | .next z=>vA T F ds z
  | .cont z=>vA T F ds z
  | .brk z=>some (.next z)
  | .ret r=>some (.ret r)
noncomputable def Ke(src:CO (List D))(T:Tg)(F:CO Fl)(γ:Ctx):Option Fl:=(src γ).bind λds=>vA T F ds γ
noncomputable def xS:Cell->Cell
 | .own _=> .no
 | .nest _=> .no
 | c=>c
noncomputable def jc(n:Nat)(fr:List Nat)(γ:Ctx):Ctx:=Aa n Cell.no++fr.map λj=>xS<|γ[j]?.getD .no
noncomputable def zD(T:Tg)(k:CO Bool)(f:CO D)(γ:Ctx):List D->Option (List D)
 | []=>some []
 | d::ds=>(xl T d γ).bind λz=>(k z).bind λb=>if b=true then (f z).bind λe=>(zD T k f γ ds).map λr=>e::r else zD T k f γ ds
noncomputable def zC(src:CO (List D))(T:Tg)(n:Nat)(fr:List Nat)(k:CO Bool)(f:CO D)(γ:Ctx):Option (List D):=(src γ).bind λds=>if ds.length<=lim then zD T k f (jc n fr γ) ds else none
noncomputable def zQ:CO Bool:=λ_=>some true
noncomputable def Tg.idx:Tg->List Nat
 | .nm i=>[i]
 | .tp is=>is
noncomputable def dI(g:Int->Int->D):D->D->Option D
 | .int i,.int j=>some (g i j)
 | _,_=>none
noncomputable def dIc(c:Int->Int->Bool)(g:Int->Int->D):D->D->Option D
 | .int i,.int j=>if c i j=true then some (g i j)else none
 | _,_=>none
noncomputable def Vj:D->D->Option D:=dI λi j=> .int (i - j)
noncomputable def J0(i j:Int):Bool:=decide (i.natAbs<2 ^ 64) || decide (j.natAbs<2 ^ 64)
noncomputable def mK(_ j:Int):Bool:=decide (0<j) && decide (j.natAbs<1073741824)
noncomputable def JX:D->D->Option D:=dIc mK λi j=> .int (i/j)
noncomputable def nV(_ j:Int):Bool:=decide<|0<j
noncomputable def qm:D->D->Option D:=dIc nV λi j=> .int (i%j)
noncomputable def mJ(i j:Int):Bool:=decide (0<=j) && decide (j.natAbs<=1000000) && decide (i.natAbs<2 ^ 64)
noncomputable def gA:D->D->Option D:=dIc mJ λi j=> .int (i ^ j.toNat)
noncomputable def dLt:D->D->Option D:=dI λi j=> .bl (decide<|i<j)
noncomputable def dLe:D->D->Option D:=dI λi j=> .bl (decide<|i<=j)
noncomputable def dGt:D->D->Option D:=dI λi j=> .bl (decide<|j<i)
noncomputable def dGe:D->D->Option D:=dI λi j=> .bl (decide<|j<=i)
noncomputable def jO:D->D->Option D
 | .int i,.int j=>some (.int<|i+j)
 | .tup xs,.tup ys=>if xs.length+ys.length<=lim then some (.tup<|xs++ys)else none
 | _,_=>none
noncomputable def qT:D->D->Option D
 | .int i,.int j=>if J0 i j=true then some (.int<|i*j)else none
 | .tup xs,.int j=>if xs.length*j.toNat<=lim/\inR j=true then some (.tup (Aa j.toNat xs).flatten)else none
 | _,_=>none
noncomputable def fB(f g:CO (Sk×List D))(γ:Ctx):Option (List D):=(f γ).bind λa=>(g γ).bind λb=>
 match a.1,b.1 with
 | .L,.L=>if a.2.length+b.2.length<=lim then some (a.2++b.2)else none
 | _,_=>none
noncomputable def tX(f:CO (Sk×List D))(g:CO D)(γ:Ctx):Option (List D):=(f γ).bind λa=>((g γ).bind asI).bind λj=>
 match a.1 with
 | .L=>if a.2.length*j.toNat<=lim/\inR j=true then some (Aa j.toNat a.2).flatten else none
 | _=>none
noncomputable def ixD(n:Nat)(i:Int):Option Nat:=if 0<=i/\i<n then some i.toNat else if i<0/\0<=i+n then some (i+n).toNat else none
noncomputable def sIx(f:CO (Sk×List D))(g:CO D)(γ:Ctx):Option D:=(f γ).bind λa=>((g γ).bind asI).bind λi=>(ixD a.2.length i).bind λk=>a.2[k]?
noncomputable def Xa(i:Nat)(g f:CO D)(γ:Ctx):Option Fl:=(f γ).bind λd=>(xA γ[i]?).bind λds=>((g γ).bind asI).bind λk=>(ixD ds.length k).map λj=> .next (γ.set i<|.own<|ds.set j d)
noncomputable def K2(n dflt:Nat):Option Int->Nat
 | none=>dflt
 | some i=>if i<0 then (i+n).toNat else min i.toNat n
noncomputable def Vk(xs:List D)(lo hi:Option Int):List D:=(xs.drop<|K2 xs.length 0 lo).take (K2 xs.length xs.length hi - K2 xs.length 0 lo)
noncomputable def wV:CO (Option Int):=λ_=>some none
noncomputable def sBd(f:CO D)(γ:Ctx):Option (Option Int):=((f γ).bind asI).map some
noncomputable def fu(f:CO D)(l h:CO (Option Int))(γ:Ctx):Option D:=(f γ).bind λd=>(l γ).bind λlo=>(h γ).bind λhi=>match d with
 | .tup xs=>some (.tup<|Vk xs lo hi)
 | _=>none
noncomputable def vI(f:CO (Sk×List D))(γ:Ctx):Option D:=(f γ).map λa=> .int a.2.length
inductive Ty where
 | int | bool | str | tuple | list
 deriving DecidableEq
@[simp] noncomputable def dP:D->Bool
 | .int _=>true
 | .bl _=>true
 | _=>false
@[simp] noncomputable def mi:D->Bool
 | .bl _=>true
 | _=>false
@[simp] noncomputable def dM:D->Bool
 | .str _=>true
 | _=>false
@[simp] noncomputable def dJ:D->Bool
 | .tup _=>true
 | _=>false
@[simp] noncomputable def dO:D->Bool
 | .lst _=>true
 | _=>false
noncomputable def QL:Ty->D->Bool
 | .int=>dP
 | .bool=>mi
 | .str=>dM
 | .tuple=>dJ
 | .list=>dO
noncomputable def sIs(T:Ty)(f:CO D)(γ:Ctx):Option D:=(f γ).map λd=> .bl (QL T d)
noncomputable def pE:Ty->Sk->Bool
 | .tuple,.T=>true
 | .list,.L=>true
 | _,_=>false
noncomputable def uK(T:Ty)(f:CO (Sk×List D))(γ:Ctx):Option D:=(f γ).map λa=> .bl (pE T a.1)
@[simp] noncomputable def eqN:D->Bool
 | .non=>true
 | _=>false
@[simp] noncomputable def eqB(a:Bool):D->Bool
 | .bl b=>a==b
 | .int b=>(if a then 1 else 0)==b
 | _=>false
@[simp] noncomputable def eqI(a:Int):D->Bool
 | .bl b=>a==(if b then 1 else 0)
 | .int b=>a==b
 | _=>false
@[simp] noncomputable def eqS(a:Str):D->Bool
 | .str b=>a==b
 | _=>false
@[simp] noncomputable def eqX(a:Str)(i:Option Int):D->Bool
 | _=>false
mutual
def eqD:D->D->Bool
 | .non,y=>eqN y
 | .bl a,y=>eqB a y
 | .int a,y=>eqI a y
 | .str a,y=>eqS a y
 | .tup xs,y=>match y with
  | .tup ys=>eqDs xs ys
  | _=>false
 | .lst xs,y=>match y with
  | .lst ys=>eqDs xs ys
  | _=>false
 | .dic a b,y=>match y with
  | .dic c d=>eqDs a c && eqDs b d
  | _=>false
 | .dct a b,y=>match y with
  | .dct c d=>a==c && eqDs b d
  | _=>false
def eqDs:List D->List D->Bool
 | [],[]=>true
 | x::xs,y::ys=>eqD x y && eqDs xs ys
 | _,_=>false
end
mutual
def deep:D->Nat
 | .tup xs=>deeps xs+1
 | .lst xs=>deeps xs+1
 | _=>0
def deeps:List D->Nat
 | []=>0
 | x::xs=>max (deep x)<|deeps xs
end
mutual
def okS:D->Bool
 | .str x=>x.cps.all (· < 0x110000)
 | .dic _ _=>false
 | .dct _ _=>false
 | .tup xs=>okSs xs
 | .lst xs=>okSs xs
 | _=>true
def okSs:List D->Bool
 | []=>true
 | x::xs=>okS x && okSs xs
end
noncomputable def okD(d:D):Bool:=decide (deep d<=20) && okS d
noncomputable def dEq(x y:D):Option D:=if okD x=true/\okD y=true then some (.bl<|eqD x y)else none
noncomputable def dNe(x y:D):Option D:=if okD x=true/\okD y=true then some (.bl<|!eqD x y)else none
noncomputable def zG(f:CO (Sk×List D))(γ:Ctx):Option D:=(f γ).map λa=> .tup a.2
noncomputable def oP(f:CO (Sk×List D))(γ:Ctx):Option (List D):=(f γ).map λa=>a.2
noncomputable def VR:List D->Option Int
 | []=>some 0
 | .int i::r=>(VR r).map λs=>i+s
 | _::_=>none
noncomputable def gW(f:CO (Sk×List D))(γ:Ctx):Option D:=(f γ).bind λa=>(VR a.2).map D.int
noncomputable def oB:D->Option Bool
 | .non=>some false
 | .bl b=>some b
 | .int i=>some (i != 0)
 | _=>none
noncomputable def Jp:List D->Option (List Bool)
 | []=>some []
 | d::r=>(oB d).bind λb=>(Jp r).map λs=>b::s
noncomputable def Kp(f:CO (Sk×List D))(γ:Ctx):Option D:=(f γ).bind λa=>(Jp a.2).map λs=> .bl (s.all id)
noncomputable def uO(f:CO (Sk×List D))(γ:Ctx):Option D:=(f γ).bind λa=>(Jp a.2).map λs=> .bl (s.any id)
noncomputable def ky(f:CO D)(γ:Ctx):Option D:=(f γ).bind λd=>match d with
 | .int i=>some (.int i)
 | .bl b=>some (.int<|if b then 1 else 0)
 | _=>none
noncomputable def fv(f g:CO D)(γ:Ctx):Option D:=((f γ).bind asI).bind λi=>((g γ).bind asI).map λj=> .int (if j>i then j else i)
noncomputable def tU(f:CO (Sk×List D))(γ:Ctx):Option Bool:=(f γ).map λa=> !a.2.isEmpty
noncomputable def Kn(f:CO D):CO D:=λγ=>((f γ).bind asI).map λi=> .int (-i)
noncomputable def yH(F G:D->D->Option D)(fa fb fc:CO D):CO D:=λγ=>(fa γ).bind λx=>(fb γ).bind λy=>((F x y).bind asB).bind λb=>if b=true then (fc γ).bind λz=>G y z else some (.bl false)
noncomputable def tW(T:Tg)(f:CO D)(γ:Ctx):Option Fl:=(f γ).bind λd=>(xl T d γ).map .next
noncomputable def uq:D->Option Int
 | .tup (.int k::_)=>some k
 | _=>none
noncomputable def lX:List D->Option (List Int)
 | []=>some []
 | d::r=>(uq d).bind λk=>(lX r).map λl=>k::l
noncomputable def sI:List Int->Bool
 | a::b::r=>decide (a<b) && sI (b::r)
 | _=>true
noncomputable def uk(ks:List Int):Nat:=(ks.dropLast.filter λk=>decide<|k<ks.getLast?.getD 0).length
noncomputable def ur(q:Nat)(ds:List D):List D:=ds.dropLast.take q++(ds.drop (ds.length - 1)++ds.dropLast.drop q)
noncomputable def oN(ds:List D):Option (List D):=(lX ds).bind λks=>if (1<=ds.length/\ds.length<=8)/\sI ks.dropLast=true/\decide (ks.getLast?.getD 0∈ks.dropLast)=false then some (ur (uk ks) ds)else none
noncomputable def oO(f:CO (Sk×List D))(γ:Ctx):Option (List D):=(f γ).bind λa=>match a.1 with
 | .L=>oN a.2
 | _=>none
noncomputable def pP:D->Bool
 | .tup _=>false
 | .lst _=>false
 | .dic _ _=>false
 | .dct _ _=>false
 | _=>true
end DL
namespace L2
open PySem PySem.Spec PyProof.Rows
noncomputable def ItAt(k:Sk)(h:Heap)(i l:Addr)(n:Nat):Prop:=match k with
 | .L=>h.IsListIter i l n
 | .T=>h.IsTupleIter i l n
noncomputable def SqAt(k:Sk)(h:Heap)(l:Addr)(xs:Array Value):Prop:=match k with
 | .L=>h.IsList l xs
 | .T=>h.IsTuple l xs
noncomputable def itO(k:Sk)(l:Addr):Obj:=match k with
 | .L=>{cls:= .type "list_iterator",data:= .fields #[.ref l,.int 0 0]}
 | .T=>{cls:= .type "tuple_iterator",data:= .fields #[.ref l,.int 0 0]}
theorem ItAt.at(x:ItAt k h i l n)(e : ∀o,h.get? i=some o->h'.get? i=some o):ItAt k h' i l n:=by cases k<;>exact let ⟨o,z,r⟩:=x;⟨o,e _ z,r⟩
theorem SqAt.at(x:SqAt k h l xs)(e : ∀o,h.get? l=some o->h'.get? l=some o):SqAt k h' l xs:=by cases k<;>exact let ⟨o,z,r⟩:=x;⟨o,e _ z,r⟩
theorem ItAt.obj(x:ItAt k h i l n) : ∃o,h.get? i=some o/\∀v,o.data ≠ .cell v:=by cases k<;>exact let ⟨o,B,_,d⟩:=x;⟨o,B,λv z=>by rw[d]at z;cases z⟩
theorem SqAt.lt(x:SqAt k h l xs):l<h.objs.size:=by cases k<;>exact let ⟨o,z,_⟩:=x;Ao z
theorem vN(k:Sk)(h:Heap)(l:Addr):ItAt k (h.push<|itO k l) h.objs.size l 0:=by cases k<;>exact⟨_,Aj _ rfl,rfl,rfl⟩
section
variable{prog:Program}{w:World}{A:Around}{E:GQ}{s:Shared}
theorem Zn(z:SqAt k s.heap l xs)(B:Q (.ref s.heap.objs.size) {s with heap:=s.heap.push (itO k l)}):wpAny (model prog w) A (pyIter<|.ref l) Q E s:=by
 cases k
 ·exact wpAny_pyIter_list z B
 ·exact EW z B
theorem qg(I:ItAt k s.heap it l i)(M:SqAt k s.heap l items)(O:items[i]? = some x)
 (R : ∀h',ItAt k h' it l (i+1)->BS it s.heap h'->Q x {s with heap:=h'}):wpAny (model prog w) A (Al<|.ref it) Q E s:=by
 cases k with
 | L=>exact wpAny_nextOf_list_item I M O R
 | T=>
  have B:s.heap.IsTupleIter it l i:=I;obtain⟨o,z,U,hd⟩:=id B;obtain⟨ol,W,_,nl,Y⟩:=(show s.heap.IsTuple l items from M);unfold Al;refine uX (AI (name:=As "__next__") B.typeIs EH (AX EH B.typeIs entry_tupleiter_next ?_ (args_tupleiter_next _)));refine uX (m:=field (.ref it) 0) (Ax z hd (x:= .ref l) rfl ?_);show wpAny _ _ (if (Bi l==BM)=true then _ else _) _ _ s;rw[MQ (show ¬((Bi l==BM)=true)from Ay)];refine uX (m:=field (.ref it) 1) (Ax z hd (x:= .int i 0) rfl ?_);refine uX (m:=seqItems? (.ref l)) (Bd W Y ?_);simp only[ET,O];refine uX (wpAny_setField z hd ⋯ (Ad ⟨x,rfl,Ad (R _ ?_ (EX ..))⟩));show Heap.IsTupleIter _ it l (i+1);exact⟨_,Ce _ z (Obj.isFreed_of_fields (Obj.data_mapFields hd _)),(Obj.cls_mapFields ..).trans U,by rw[Obj.data_mapFields hd];simp[rawInt]⟩
theorem kW(z:A.handled=none)(M:ItAt k s.heap it l i)(O:SqAt k s.heap l items)(R:items[i]? = none)
 (U : ∀h' e,Heap.ExtBut it s.heap h'->(∃o,h'.get? e=some o/\o.cls = .type "StopIteration")->E (.ref e) {s with heap:=h'}):wpAny (model prog w) A (Al (.ref it)) Q E s:=by
 cases k with
 | L=>exact wpAny_nextOf_list_end z M O R U
 | T=>
  have B:s.heap.IsTupleIter it l i:=M;obtain⟨o,I,hc,hd⟩:=id B;obtain⟨ol,W,_,nl,Y⟩:=(show s.heap.IsTuple l items from O);unfold Al;refine uX (AI (name:=As "__next__") B.typeIs EH (AX EH B.typeIs entry_tupleiter_next ?_ (args_tupleiter_next _)));refine uX (m:=field (.ref it) 0) (Ax I hd (x:= .ref l) rfl ?_);show wpAny _ _ (if (Bi l==BM)=true then _ else _) _ _ s;rw[MQ (show ¬((Bi l==BM)=true)from Ay)];refine uX (m:=field (.ref it) 1) (Ax I hd (x:= .int i 0) rfl ?_);refine uX (m:=seqItems? (.ref l)) (Bd W Y ?_);simp only[ET,R];refine uX (Cs (uX (wpAny_setField I hd ⋯ ?_)));refine uX (m:=newExc (.type "StopIteration") []) ?_;simp only[newExc,newTuple];refine uX (AW ?_ (by size_fits));refine uX (m:=firstArgMember _ _) (BZ (a:=BM) (by first | rfl | (simp only[firstArgMember];rfl)) ?_);refine AW ?_ (by size_fits);simp only[raiseNew];refine uX (wpAny_handled ?_)
  first | rw[show A.in1.handled=none from z] | rw[z]
  exact uX<|Ad<|wpAny_throw<|U _ _ (((EX ..).extBut.push _).push _) ⟨_,Aj _ rfl,rfl⟩
theorem Vr{k1 k2:Sk}{z TI TO i1 i2 l1 l2:Addr}{n1 n2:Nat}{xs ys:Array Value}{x y a b:Value}{Q:GQ}(D:ZipApart z TI TO i1 i2 l1 l2)
 (U:IsZip s.heap z TI TO .none) (b9:IsPair s.heap TI (.ref i1) (.ref i2)) (bb:IsPair s.heap TO a b)
 (h1:ItAt k1 s.heap i1 l1 n1) (h2:ItAt k2 s.heap i2 l2 n2) (bd:SqAt k1 s.heap l1 xs) (be:SqAt k2 s.heap l2 ys) (hx:xs[n1]? = some x) (hy:ys[n2]? = some y)
 (hQ : ∀h',IsZip h' z TI TO (rawInt s.heap.objs.size)->IsPair h' TO x y->ItAt k1 h' i1 l1 (n1+1)->ItAt k2 h' i2 l2 (n2+1)->IsPair h' s.heap.objs.size x y->h'.objs.size=s.heap.objs.size+1->
   (∀c o,c≠z->c≠TO->c≠i1->c≠i2->s.heap.get? c=some o->h'.get? c=some o)->Q (.ref s.heap.objs.size) {s with heap:=h'}) :
 wpAny (model prog w) A (Builtin.«zip.__next__» ⟨[.ref z],[]⟩) (λbl s'=>∃v,bl = .done (.ret v)/\Q v s') E s:=by
 refine uX (m:=field (.ref z) 2)<|Ax U rfl (x:= .bool false) rfl ?_;refine uX (m:=field (.ref z) 3)<|Ax U rfl (x:= .ref TI) rfl ?_;refine uX<|Bd b9 rfl ?_;refine uX (m:=Av<|.ref z) ?_;unfold Av;refine uX<|Ax U rfl (x:= .none) rfl<|Ad ?_;simp only[if_true];refine uX<|Cs<|uX<|Ax U rfl (x:= .ref TO) rfl ?_;refine uX<|AC U ⋯ λg1 a9 I=>?_;replace a9:IsZip g1 z TI TO .ellipsis:=a9;refine uX ?_;simp only[EY,Fi,El,ED];refine uX<|uX<|BI ?_;refine uX (m:=Al<|.ref i1)<|qg (h1.at λo e=>I.extBut _ _ D.i1z e) (bd.at λo e=>I.extBut _ _ D.l1z e) hx λg2 bn O=>Ad ?_;have ar:IsPair g2 TO a b:=O.extBut _ _ D.TOi1<|I.extBut _ _ D.TOz bb;refine uX<|Bd ar rfl<|uX<|FL ar λg3 ac R=>?_;replace ac:IsPair g3 TO x b:=ac;refine uX<|CJ<|Ad<|uX<|uX<|BI ?_;refine uX (m:=Al<|.ref i2)<|qg (h2.at λo e=>R.extBut _ _ D.TOi2.symm<|O.extBut _ _ D.i12.symm<|I.extBut _ _ D.i2z e) (be.at λo e=>R.extBut _ _ D.l2TO<|O.extBut _ _ D.l2i1<|I.extBut _ _ D.l2z e) hy λg4 c0 W=>Ad ?_;have as:IsPair g4 TO x b:=W.extBut _ _ D.TOi2 ac;refine uX<|Bd as rfl<|uX<|FL as λB a5 Y=>?_;replace a5:IsPair B TO x y:=a5;refine uX<|CJ<|Ad<|Ad<|uX<|Bd a5 rfl<|uX<|wpAny_newTuple ?_;have aw:B.objs.size=s.heap.objs.size:=by rw[Y.1,W.1,R.1,O.1,I.1]
 have ax:IsZip B z TI TO .ellipsis:=Y.extBut _ _ D.TOz.symm (W.extBut _ _ D.i2z.symm (R.extBut _ _ D.TOz.symm (O.extBut _ _ D.i1z.symm a9)));have c5 : ∀c o,c≠z->c≠TO->c≠i1->c≠i2->s.heap.get? c=some o->B.get? c=some o:=λc o M c2 c3 c4 e=>Y.extBut _ _ c2 (W.extBut _ _ c4 (R.extBut _ _ c2 (O.extBut _ _ c3 (I.extBut _ _ M e))));have c6:ItAt k1 B i1 l1 (n1+1):=bn.at λo e=>Y.extBut _ _ D.TOi1.symm (W.extBut _ _ D.i12 (R.extBut _ _ D.TOi1.symm e));have c7:ItAt k2 B i2 l2 (n2+1):=c0.at λo e=>Y.extBut _ _ D.TOi2.symm e;have b0:z<B.objs.size:=Ao ax;refine uX (m:=AV (.ref z) (.ref B.objs.size)) ?_;unfold AV;have c8:IsZip (B.push {cls:= .type "tuple",data:= .seq #[x,y]}) z TI TO .ellipsis:=uY _ ax;refine uX (AC c8 ⋯ λg7 an ao=>?_);replace an:IsZip g7 z TI TO (rawInt B.objs.size):=an;refine AC an ⋯ λg8 a7 ap=>?_;replace a7:IsZip g8 z TI TO (rawInt B.objs.size):=a7;have up : ∀c o,c≠z->B.get? c=some o->g8.get? c=some o:=λc o M e=>ap.extBut _ _ M (ao.extBut _ _ M (uY _ e));have b7:IsPair g8 B.objs.size x y:=ap.extBut _ _ (Bk b0) (ao.extBut _ _ (Bk b0) (Aj _ rfl));have b8:g8.objs.size=B.objs.size+1:=by rw[ap.1,ao.1,AB]
 rw[aw]at a7 b7 b8;refine Ad ⟨_,rfl,?_⟩;show Q (.ref B.objs.size) _;rw[aw];exact hQ g8 a7 (up _ _ D.TOz a5) (c6.at λo e=>up _ o D.i1z e) (c7.at λo e=>up _ o D.i2z e) b7 b8 λc o M c2 c3 c4 e=>up c o M<|c5 c o M c2 c3 c4 e
theorem aY{k1 k2:Sk}{z TI TO i1 i2 l1 l2:Addr}{n1 n2:Nat}{xs ys:Array Value}{a b:Value}{Q:Fin->Shared->Prop}(hh:A.handled=none)(D:ZipApart z TI TO i1 i2 l1 l2)
 (Y:IsZip s.heap z TI TO .none) (ap:IsPair s.heap TI (.ref i1) (.ref i2)) (ar:IsPair s.heap TO a b)
 (h1:ItAt k1 s.heap i1 l1 n1) (h2:ItAt k2 s.heap i2 l2 n2) (ac:SqAt k1 s.heap l1 xs) (as:SqAt k2 s.heap l2 ys) (aw:xs[n1]? = none\/ys[n2]? = none)
 (hE : ∀h' e,(∀c o,c≠z->c≠TO->c≠i1->c≠i2->s.heap.get? c=some o->h'.get? c=some o)->(∃o,h'.get? e=some o/\o.cls = .type "StopIteration")->E (.ref e) {s with heap:=h'}) :
 wpAny (model prog w) A (Builtin.«zip.__next__» ⟨[.ref z],[]⟩) Q E s:=by
 refine uX (m:=field (.ref z) 2) (Ax Y rfl (x:= .bool false) rfl ?_);refine uX (m:=field (.ref z) 3) (Ax Y rfl (x:= .ref TI) rfl ?_);refine uX (Bd ap rfl ?_);refine uX (m:=Av (.ref z)) ?_;unfold Av;refine uX (Ax Y rfl (x:= .none) rfl (Ad ?_));simp only[if_true];refine uX (Cs (uX (Ax Y rfl (x:= .ref TO) rfl ?_)));refine uX (AC Y ⋯ λg1 a1 B=>?_);replace a1:IsZip g1 z TI TO .ellipsis:=a1;refine uX ?_;simp only[EY,Fi,El,ED];refine uX (uX (BI ?_));have ag : ∀{g e:_} {R:Obj},IsZip g z TI TO .ellipsis->(∀c o,c≠z->c≠TO->c≠i1->c≠i2->s.heap.get? c=some o->g.get? c=some o)->g.get? e=some R->R.cls = .type "StopIteration"->
  wpAny (model prog w) A (setField (.ref z) 0 .none) (λ_ s'=>E (.ref e) s') E {s with heap:=g}:=λ{g e R} hz2 hk M U=>by
  have b8:e≠z:=λq=>by subst q;rw[hz2]at M;cases M;simp at U
  exact AC hz2 ⋯ λg3 _ O=>hE g3 e (λc o W c2 c3 c4 q=>O.extBut _ _ W<|hk c o W c2 c3 c4 q) ⟨R,O.extBut _ _ b8 M,U⟩
 cases hx:xs[n1]? with
 | none=>
  refine uX (m:=Al<|.ref i1)<|kW hh (h1.at λo e=>B.extBut _ _ D.i1z e) (ac.at λo e=>B.extBut _ _ D.l1z e) hx λg2 e I he=>?_;obtain⟨R,M,U⟩:=he;exact ag (I _ _ D.i1z.symm a1) (λc o W _ c3 _ q=>I _ _ c3<|B.extBut _ _ W q) M U
 | some x=>
  have hy:ys[n2]? = none:=by rcases aw with h | h;rw[hx]at h;cases h;exact h
  refine uX (m:=Al<|.ref i1)<|qg (h1.at λo e=>B.extBut _ _ D.i1z e) (ac.at λo e=>B.extBut _ _ D.l1z e) hx λg2 bb I=>Ad ?_;have an:IsPair g2 TO a b:=I.extBut _ _ D.TOi1<|B.extBut _ _ D.TOz ar;refine uX<|Bd an rfl<|uX<|FL an λg3 bd O=>?_;refine uX<|CJ<|Ad<|uX<|uX<|BI ?_;refine uX (m:=Al<|.ref i2)<|kW hh (h2.at λo e=>O.extBut _ _ D.TOi2.symm<|I.extBut _ _ D.i12.symm<|B.extBut _ _ D.i2z e) (as.at λo e=>O.extBut _ _ D.l2TO<|I.extBut _ _ D.l2i1<|B.extBut _ _ D.l2z e) hy λg4 e ao he=>?_;obtain⟨R,M,U⟩:=he;exact ag (ao _ _ D.i2z.symm<|O.extBut _ _ D.TOz.symm<|I.extBut _ _ D.i1z.symm a1) (λc o W c2 c3 c4 q=>ao _ _ c4<|O.extBut _ _ c2<|I.extBut _ _ c3<|B.extBut _ _ W q) M U
end
noncomputable def vt(a b:Value):Obj:={cls:= .type "tuple",data:= .seq #[a,b]}
noncomputable def gU(TI TO:Addr):Obj:={cls:= .type "zip",data:= .fields #[.none,.bool false,.bool false,.ref TI,.ref TO]}
noncomputable def ZC(z B:Sk)(h:Heap)(l1 l2:Addr):Heap:=
 Am (Am (Am (Am (Am h<|itO z l1)<|itO B l2)<|vt (.ref h.objs.size)<|.ref<|h.objs.size+1)<|vt .none .none) (gU (h.objs.size+2)<|h.objs.size+3)
theorem aX(z B:Sk)(l1 l2:Addr)(xs ys:Array Value) :
 Meets (Builtin.«zip.__new__» ⟨[.type "zip",.ref l1,.ref l2],[]⟩) (λ_ R s=>SqAt z s.heap l1 xs/\SqAt B s.heap l2 ys/\
  R (.ok<|.ret<|.ref<|s.heap.objs.size+4) {s with heap:=ZC z B s.heap l1 l2}):=
 .of_wp λprog w A R s h=>by
  obtain⟨I,g,d,tk,os⟩:=s;obtain⟨M,O,h⟩:=h;have Y:=sub_zip;have U:SqAt z (EL ⟨I,g,d,tk,os⟩) l1 xs:=M;have W:SqAt B (EL ⟨I.push<|itO z l1,g,d,tk,os⟩) l2 ys:=O.at λo e=>uY _ e
  wp_walk using Zn U,Zn W
  refine⟨_,rfl,?_⟩;simp only[ZC,vt,gU,AB]at h ⊢;exact h
section
variable{X:Cx}{pins:GW}{σ:St}{H:Hp}{s:Shared}{h':Heap}
theorem Inv.turnLaid{t':Nat}{fp:List Addr}{a:Addr}{o:HO}(I:Inv X pins σ H s)(k : ∀b u,b∉fp->s.heap.get? b=some u->h'.get? b=some u)(O : ∀b∈fp,YM X pins H b)
 (U:s.heap.objs.size<=a) (new:ObjOk X.prog X.w (upd H a o) h' a o):Inv X pins σ (upd H a o) {s with heap:=h',toks:=t'}:=by
 have ha:H a=none:=I.hok.fresh U;have W : ∀b u,H b=some u->b∉fp:=λb u e z=>by rw[(O b z).1]at e;cases e
 have Y : ∀b u,s.heap.get? b=some u->b≠a:=λb u e=>AJ<|Ap (Ao e) U;refine I.step (g':=s.gens) (d':=s.drawn) (ch:=fp) (λb B=>⟨(O b B).2.2.2.1,(O b B).2.1,(O b B).2.2.2.2.1,(O b B).2.2.2.2.2⟩) (λb u _ _ M e _=>k b u M e) (λb u _ _ M e _=>⟨u.slots,k b u M e⟩)
  (λb u _ e n=>by rw[zI (Y b u e)];exact n) (λb u M e=>⟨u,k b u M e⟩) (λb xs e=>by rw[zI (jE e ha)];exact e) (λb R xs e=>by rw[zI (jE e ha)];exact e)
  (λb ps e=>⟨#[],by rw[zI (jE e ha),e];simp⟩) (λm hm=>?_) (λb u e=>?_) I.bare
 ·obtain⟨R,es,ep,ho,r⟩:=hm
  refine⟨R,es,ep,k _ R (λz=>(O _ z).2.1 rfl) ho,r⟩
 ·by_cases B:b=a
  ·subst B;rw[zM]at e;cases e;exact new
  ·rw[zI B]at e
   refine(I.hok b u e).stay (λc v M q=>k c v ?_ q) (λc q=>by rw[zI (jE q ha)];exact q) λc xs q=>by rw[zI (jE q ha)];exact q
   rcases M with z | z
   ·rw[z];exact W b u e
   ·exact W c _ z
theorem Inv.turnedL{t':Nat}{fp:List Addr}(I:Inv X pins σ H s)(k : ∀b u,b∉fp->s.heap.get? b=some u->h'.get? b=some u)(M : ∀b∈fp,YM X pins H b):Inv X pins σ H {s with heap:=h',toks:=t'}:=by
 have U : ∀b u,H b=some u->b∉fp:=λb u e z=>by rw[(M b z).1]at e;cases e
 refine I.step (g':=s.gens) (d':=s.drawn) (ch:=fp) (λb O=>⟨(M b O).2.2.2.1,(M b O).2.1,(M b O).2.2.2.2.1,(M b O).2.2.2.2.2⟩) (λb u _ _ B e _=>k b u B e) (λb u _ _ B e _=>⟨u.slots,k b u B e⟩)
  (λb u _ e n=>n) (λb u B e=>⟨u,k b u B e⟩) (λb xs e=>e) (λb R xs e=>e)
  (λb ps e=>⟨#[],by rw[e];simp⟩) (λm hm=>?_) (λb u e=>?_) I.bare
 ·obtain⟨R,es,W,Y,r⟩:=hm
  refine⟨R,es,W,k _ R (λz=>(M _ z).2.1 rfl) Y,r⟩
 ·refine(I.hok b u e).stay (λc v B q=>k c v ?_ q) (λc q=>q) λc xs q=>q
  rcases B with z | z
  ·rw[z];exact U b u e
  ·exact U c _ z
end
noncomputable def SqK(k:Sk)(K:uW)(H:Hp)(a:Addr)(xs:List V):Prop:=match k with
 | .L=>SqL K H a xs
 | .T=>SqT K H a xs
theorem Inv.sq(I:Inv X pins σ H s)(h:SqK k X.K H a xs) :
 ∃B:List Value,Vals xs B/\SqAt k s.heap a B.toArray/\xs.length<=sizeLine:=by
 cases k with
 | L=>obtain⟨B,r,p,z⟩:=I.list h;exact⟨B,r,p.isList,z⟩
 | T=>obtain⟨B,r,p,z⟩:=I.tuple h;exact⟨B,r,p,z⟩
theorem Inv.sq_inj(I:Inv X pins σ H s)(h:SqK k X.K H a xs)(h':SqK k X.K H a ys):xs=ys:=by
 cases k with
 | L=>exact I.list_inj h h'
 | T=>exact I.tuple_inj h h'
noncomputable def Itz(z B:Sk)(K:uW)(a b:Addr):It:=
 ⟨λi H=>∃xs ys,SqK z K H a xs/\SqK B K H b ys/\i<xs.length/\i<ys.length,
  λi H x H'=>∃p u v,x = .ref p/\H p=none/\H'=upd H p (.tup [u,v])/\(∀xs,SqK z K H a xs->xs[i]? = some u)/\(∀ys,SqK B K H b ys->ys[i]? = some v),
  λi H=>∃xs ys,SqK z K H a xs/\SqK B K H b ys/\(xs.length<=i\/ys.length<=i)⟩
theorem br{P:Program}{w:World}{K:uW}{elts:List Expr}{x1:Nat}{tpos:Pos}(k1 k2:Sk){z TI TO i1 i2 a b:Addr}(D:ZipApart z TI TO i1 i2 a b) :
 Turn P w K (.Tuple elts x1 tpos) (Itz k1 k2 K a b) [z,TI,TO,i1,i2] z (λi h=>IsZip h z TI TO .none/\IsPair h TI (.ref i1) (.ref i2)/\(∃c d,IsPair h TO c d)/\ItAt k1 h i1 a i/\ItAt k2 h i2 b i) where
 mem:=by simp
 obj:=λi h ⟨M,R,⟨c,d,U⟩,h1,h2⟩ y Y=>by
  simp only[Ag,Aw,or_false]at Y;rcases Y with rfl | rfl | rfl | rfl | rfl
  ·exact⟨_,M,λv q=>by cases q⟩
  ·exact⟨_,R,λv q=>by cases q⟩
  ·exact⟨_,U,λv q=>by cases q⟩
  ·exact h1.obj
  ·exact h2.obj
 keep:=λi h h' ⟨M,R,⟨c,d,U⟩,h1,h2⟩ k=>
  ⟨k z ⋯ _ M,k TI ⋯ _ R,⟨c,d,k TO ⋯ _ U⟩,h1.at λo e=>k i1 ⋯ o e,h2.at λo e=>k i2 ⋯ o e⟩
 item:=by
  rintro X hP hw hK hc i pins s σ H E I hf ⟨M,R,⟨c,d,U⟩,h1,h2⟩ ⟨xs,ys,a9,ac,bb,bd⟩;subst hP hw hK;obtain⟨be,an,p1,z1⟩:=I.sq a9;obtain⟨bg,ap,p2,z2⟩:=I.sq ac;have hx:xs[i]? = some xs[i]:=Ae bb;have Y:ys[i]? = some ys[i]:=Ae bd;obtain⟨u1,bl,bm⟩:=an.get hx;obtain⟨u2,bn,bv⟩:=ap.get Y;have hT:s.TypeIs (.ref z) "zip":=⟨_,M,rfl⟩;unfold pyNext;refine uX (BJ (AI (name:=As "__next__") hT BU (AX BU hT Fj
   (Vr D M R U h1 h2 p1 p2 (x:=u1) (y:=u2) (by simpa using bl) (by simpa using bn) λg a1 a2 a3 a4 a5 a6 a7=>Ad ⟨_,rfl,?_⟩) (Fd _))))
  refine wpAny_letOwnedTupleGo_zip a1 λg2 hz2 W=>?_;have lt : ∀{c o},s.heap.get? c=some o->s.heap.objs.size≠c:=λe=>Bk<|Ao e;have c4:IsPair g2 s.heap.objs.size u1 u2:=W.extBut _ _ (lt M) a5;have kk : ∀O u,O ∉ [z,TI,TO,i1,i2]->s.heap.get? O=some u->g2.get? O=some u:=λO u B e=>by simp only[Ag,Aw,or_false,not_or]at B;exact W.extBut _ _ B.1<|a7 O u B.1 B.2.2.1 B.2.2.2.1 B.2.2.2.2 e
  have I1:Inv X pins σ (upd H s.heap.objs.size<|.tup [xs[i],ys[i]]) {s with heap:=g2,toks:=s.toks}:=
   I.turnLaid (fp:=[z,TI,TO,i1,i2]) kk hf (Ak _) ⟨by show 2<=sizeLine;decide,[u1,u2],.cons bm<|.cons bv .nil,⟨_,c4,rfl,_,rfl⟩⟩
  have c6:H s.heap.objs.size=none:=I.fresh;refine⟨.ref s.heap.objs.size,_,I1,rfl,⟨_,_,_,rfl,c6,rfl,λch aw=>by rw[I.sq_inj aw a9];exact hx,λci aw=>by rw[I.sq_inj aw ac];exact Y⟩,?_,λO B=>?_⟩
  ·exact⟨hz2,W.extBut _ _ D.TIz<|a7 _ _ D.TIz D.TITO D.TIi1 D.TIi2 R,⟨_,_,W.extBut _ _ D.TOz a2⟩,a3.at λo e=>W.extBut _ _ D.i1z e,a4.at λo e=>W.extBut _ _ D.i2z e⟩
  ·have c7:O≠s.heap.objs.size:=by
    simp only[Ag,Aw,or_false]at B;rcases B with rfl | rfl | rfl | rfl | rfl
    ·exact(lt M).symm
    ·exact(lt R).symm
    ·exact(lt U).symm
    ·obtain⟨o,e,_⟩:=h1.obj;exact(lt e).symm
    ·obtain⟨o,e,_⟩:=h2.obj;exact(lt e).symm
   rw[zI c7];exact(hf O B).1
 done:=by
  rintro X hP hw hK hc i pins s σ H E I hf ⟨M,R,⟨c,d,U⟩,h1,h2⟩ ⟨xs,ys,a9,ac,hi⟩;subst hP hw hK;obtain⟨be,an,p1,z1⟩:=I.sq a9;obtain⟨bg,ap,p2,z2⟩:=I.sq ac;have hT:s.TypeIs (.ref z) "zip":=⟨_,M,rfl⟩;have l1:=an.length;have l2:=ap.length;unfold pyNext;refine uX (BJ (AI (name:=As "__next__") hT BU (AX BU hT Fj
   (aY (show X.A.handled=none from I.ok.hd hc) D M R U h1 h2 p1 p2 (by rcases hi with q | q;left;simp;omega;right;simp;omega) λg e hk he=>?_) (Fd _))))
  obtain⟨o,ho,cd⟩:=he;refine uX (CC (T:="StopIteration") (b:=true) ⟨o,ho,cd⟩ FP (Ad ⟨rfl,?_⟩));refine I.turnedL (t':=s.toks) (fp:=[z,TI,TO,i1,i2]) (λO u B e=>?_) hf;simp only[Ag,Aw,or_false,not_or]at B;exact hk O u B.1 B.2.2.1 B.2.2.2.1 B.2.2.2.2 e
 self:=λ_ _ _ _ _ st h=>Fo st.1 h
noncomputable def uu(K:uW)(ta:TA):TI:=λσ H R=>ta σ H λvs H1=>∃z B a b,vs=[.ref a,.ref b]/\(∃xs,SqK z K H1 a xs)/\(∃ys,SqK B K H1 b ys)/\R (Itz z B K a b) H1
theorem lh{X:Cx}{e1 e2:Expr}{ta:TA}{p pos:Pos}{elts:List Expr}{x1:Nat}{tpos:Pos}(hg:Gl X "zip")(hm:X.mg "zip" = none)(ha:PA X [e1,e2] ta)
 (hv:bootBuiltins "zip" = some (.type "zip")) (hs:starEach [e1,e2] X.env=[(false,eval e1 X.env),(false,eval e2 X.env)]:=by rfl) (Y:starEach [e2] X.env=[(false,eval e2 X.env)]:=by rfl) :
 PI X (.Tuple elts x1 tpos) (.Call (.Name "zip" p) [e1,e2] [] pos) (uu X.K ta):=by
 intro pins s σ H R I h;refine Call_ (qN I hg hm hv<|AF (thn (ha pos pins s σ H _ I h) λus s1 hZ=>?_) (by rw[hs,Y])<|by rw[Y];rfl);obtain⟨vs,H1,M,r1,q1⟩:=hZ;obtain⟨z,B,a,b,e,⟨xs,am⟩,⟨ys,an⟩,q⟩:=q1;subst e;obtain⟨w1,w2,eu,ap,ar⟩:=ib r1;subst eu;cases ap;cases ar;obtain⟨as,bf,p1,z1⟩:=M.sq am;obtain⟨aw,bi,p2,z2⟩:=M.sq an;have la:=p1.lt;have lb:=p2.lt;refine callType_new F.called_zip ⋯ (F.typeCall_zip_2 _ _) (F.newCall_zip_2 _ _) (λobj=>F.args_object_init_3 obj _ _) F.entry_zip_new (aX z B a b as.toArray aw.toArray) ⟨p1,p2,?_⟩;have keep : ∀c o,s1.heap.get? c=some o->(ZC z B s1.heap a b).get? c=some o:=λc o e=>
  uY _ (uY _<|uY _<|uY _<|uY _ e)
 have y1:(Am s1.heap<|itO z a).objs.size=s1.heap.objs.size+1:=AB ..;have y2:(Am (Am s1.heap<|itO z a)<|itO B b).objs.size=s1.heap.objs.size+2:=by rw[AB,y1]
 have y3:(Am (Am (Am s1.heap<|itO z a)<|itO B b)<|vt (.ref s1.heap.objs.size)<|.ref<|s1.heap.objs.size+1).objs.size=s1.heap.objs.size+3:=by rw[AB,y2]
 have y4:(Am (Am (Am (Am s1.heap<|itO z a)<|itO B b)<|vt (.ref s1.heap.objs.size)<|.ref<|s1.heap.objs.size+1)<|vt .none .none).objs.size=s1.heap.objs.size+4:=by rw[AB,y3]
 have g0:ItAt z (ZC z B s1.heap a b) s1.heap.objs.size a 0:=(vN z s1.heap a).at λo e=>uY _<|uY _<|uY _<|uY _ e;have g1:ItAt B (ZC z B s1.heap a b) (s1.heap.objs.size+1) b 0:=by have q:=vN B (Am s1.heap<|itO z a) b;rw[y1]at q;exact q.at λo e=>uY _<|uY _<|uY _ e
 have g2:IsPair (ZC z B s1.heap a b) (s1.heap.objs.size+2) (.ref s1.heap.objs.size) (.ref<|s1.heap.objs.size+1):=by have q:_=some (vt (.ref s1.heap.objs.size)<|.ref<|s1.heap.objs.size+1):=Aj (Am (Am s1.heap<|itO z a)<|itO B b) (o:=vt (.ref s1.heap.objs.size)<|.ref<|s1.heap.objs.size+1) rfl;rw[y2]at q;exact uY _<|uY _ q
 have g3:IsPair (ZC z B s1.heap a b) (s1.heap.objs.size+3) .none .none:=by have q:_=some (vt .none .none):=Aj (Am (Am (Am s1.heap<|itO z a)<|itO B b)<|vt (.ref s1.heap.objs.size)<|.ref<|s1.heap.objs.size+1) (o:=vt .none .none) rfl;rw[y3]at q;exact uY _ q
 have W:IsZip (ZC z B s1.heap a b) (s1.heap.objs.size+4) (s1.heap.objs.size+2) (s1.heap.objs.size+3) .none:=by have q:=Aj (Am (Am (Am (Am s1.heap<|itO z a)<|itO B b)<|vt (.ref s1.heap.objs.size)<|.ref<|s1.heap.objs.size+1)<|vt .none .none) (o:=gU (s1.heap.objs.size+2)<|s1.heap.objs.size+3) rfl;rw[y4]at q;exact q
 refine⟨⟨_,W,rfl⟩,Fo (s:={s1 with heap:=ZC z B s1.heap a b}) W ?_⟩;have I2:Inv X pins σ H1 {s1 with heap:=ZC z B s1.heap a b,toks:=s1.toks}:=M.kept keep;have nn : ∀m:Nat,s1.heap.objs.size≠s1.heap.objs.size+m+1:=λm=>by omega
 have O : ∀m:Nat,a≠s1.heap.objs.size+m:=λm=>AJ<|Ap la<|AG _ m;have U : ∀m:Nat,b≠s1.heap.objs.size+m:=λm=>AJ<|Ap lb<|AG _ m;have ne : ∀m n:Nat,m≠n->(s1.heap.objs.size+m:Nat)≠s1.heap.objs.size+n:=λm n h=>by omega
 have D:ZipApart (s1.heap.objs.size+4) (s1.heap.objs.size+2) (s1.heap.objs.size+3) s1.heap.objs.size (s1.heap.objs.size+1) a b:=
  ⟨ne 2 4 ⋯,ne 3 4 ⋯,ne 0 4 ⋯,ne 1 4 ⋯,ne 2 3 ⋯,ne 2 0 ⋯,ne 2 1 ⋯,ne 3 0 ⋯,ne 3 1 ⋯,ne 0 1 ⋯,
   O 4,O 3,O 0,O 1,U 4,U 3,U 0,U 1⟩
 refine⟨_,[s1.heap.objs.size+4,s1.heap.objs.size+2,s1.heap.objs.size+3,s1.heap.objs.size,s1.heap.objs.size+1],_,_,H1,rfl,I2,br z B D,⟨W,g2,⟨_,_,g3⟩,g0,g1⟩,λc hc=>?_,q⟩;have a5:s1.heap.objs.size<=c:=by
  simp only[Ag,Aw,or_false]at hc;rcases hc with rfl | rfl | rfl | rfl | rfl
  ·exact AG _ _
  ·exact AG _ _
  ·exact AG _ _
  ·exact Ak _
  ·exact AG _ _
 exact M.fpOk a5<|M.hok.fresh a5
noncomputable def Itk(k:Sk)(K:uW)(a:Addr):It:=match k with
 | .L=>Itl K a
 | .T=>Itt K a
noncomputable def uw(K:uW)(tl:TE):TI:=λσ H R=>tl σ H λx H1=>∃a k,x = .ref a/\(∃xs,SqK k K H1 a xs)/\R (Itk k K a) H1
theorem WB(M:PE X l tl):PI X tg l (uw X.K tl):=by
 intro pins s σ H R I h;refine thn (M pins s σ H _ I h) λv s1 O=>?_;obtain⟨x,H1,z,U,W⟩:=O;obtain⟨a,k,e,⟨xs,Y⟩,q⟩:=W;subst e;cases U;have B : ∀b ∈ [s1.heap.objs.size],YM X pins H1 b:=λb hb=>by
  have e:b=s1.heap.objs.size:=by simpa using hb
  subst e;exact z.fpOk (Ak _)<|z.hok.fresh<|Ak _
 obtain⟨a1,rv,p,hz⟩:=z.sq Y;cases k with
 | L=>exact wpAny_pyIter_list p ⟨s1.heap.objs.size,[s1.heap.objs.size],_,_,H1,rfl,z.kept (t':=s1.toks) λb o e=>uY _ e,VI a _,⟨_,Aj _ rfl,rfl,rfl⟩,B,q⟩
 | T=>exact EW p ⟨s1.heap.objs.size,[s1.heap.objs.size],_,_,H1,rfl,z.kept (t':=s1.toks) λb o e=>uY _ e,YS a _,⟨_,Aj _ rfl,rfl,rfl⟩,B,q⟩
section
variable{P:Program}{w:World}{H:Hp}{h:Heap}{a:Addr}
theorem oT(ok:HOk P w H h)(e:Rd H a u):ObjOk P w H h a u:=e.ok ok
theorem pS(ok:HOk P w H h)(e:Rd H a (.dK kvs)):kvs.length<=sizeLine/\(a==sysModules)=false/\∃vs,KV kvs vs/\h.DictOf (JN P w) a vs:=
 show ObjOk P w H h a (.dK kvs)from oT ok e
theorem pT(ok:HOk P w H h)(e:H a=some (.dK kvs)):kvs.length<=sizeLine/\(a==sysModules)=false/\∃vs,KV kvs vs/\h.DictOf (JN P w) a vs:=pS ok<|.inl e
end
end L2
namespace DL
open PySem PySem.Spec PyProof.Rows L2
noncomputable def xNames:List Str:=["NoPrime","Nought","NoTable","NoWidths","NoRow","Unlike","TooMany","NoTurn","NoLine","Nothing","NoArrow","NoText","NoRoom"]
noncomputable def nc(K:uW)(c:Str):Option Addr:=match Ej K mainGlobals c with
 | some (some (.ref C))=>some C
 | _=>none
noncomputable def tE(K:uW)(C:Addr):Bool:=
 ["int","bool","str","tuple","list"].all (λt=>BD K (.ref C) (.type t)==some false) && BD K (.ref C) (.type "ValueError")==some true &&
 Ep K (.ref C) "__getattribute__" == some (some (.builtin "BaseException.__getattribute__")) && Ep K (.ref C) "__getattr__" == some none &&
 Ep K (.ref C) "__class__" == some (some (.builtin "object.__class__")) && PySem.W.mroIn K C (.type "object")==some true && PySem.W.mroIn K C (.type "BaseException")==some true &&
 PySem.W.specialIn K (.builtin "object.__class__") "__get__" == some (some (.builtin "getset_descriptor.__get__")) && PySem.W.takesIn K (.builtin "object.__class__")==some true &&
 (PySem.W.clsIn K C).any (λz=> !z.hasDel) && PySem.W.typeIn K (.ref C)==some (.type "type")
noncomputable def tF(K:uW):Bool:=match nc K "SplitError" with
 | some S=>xNames.all λc=>match nc K c with
  | some C=>tE K C && BD K (.ref C) (.ref S)==some true && xNames.all λz=>match nc K z with
   | some B=>BD K (.ref C) (.ref B)==some (c==z)
   | none=>false
  | none=>false
 | none=>false
noncomputable def uG(h:Heap)(a:Addr)(C:Addr):Prop:=∃o vs,h.get? a=some o/\o.cls = .ref C/\o.data = .fields vs
structure XRep(K:uW)(H:Hp)(c:Str)(n:Option Int)(a:Addr):Prop where
 all:tF K=true
 mem:c∈xNames
 ex : ∃C φ,nc K c=some C/\H a=some (.ext φ)/\(∀h,φ h->uG h a C)/\
  match n with
  | none=>True
  | some i=>∃d,(∀h,φ h->∃o,h.get? a=some o/\o.dict=some d)/\H d=some (.xd [(if c==("NoRoom" : Str)then "room" else "at",.int i)])
theorem XRep.mono{K:uW}{H H':Hp}{c:Str}{n:Option Int}{a:Addr}(e : ∀b o,H b=some o->H' b=some o)(h:XRep K H c n a):XRep K H' c n a:=by
 obtain⟨h1,h2,C,φ,B,g2,I,z⟩:=h;refine⟨h1,h2,C,φ,B,e _ _ g2,I,?_⟩;cases n with
 | none=>exact z
 | some i=>obtain⟨d,M,O⟩:=z;exact⟨d,M,e _ _ O⟩
abbrev St:=L2.St
noncomputable def pD:D->Option Key
 | .int i=>some (.inl i)
 | .str x=>some (.inr x)
 | _=>none
noncomputable def dH:List D->Option (List Key)
 | []=>some []
 | d::ds=>(pD d).bind λk=>(dH ds).map λr=>k::r
noncomputable def DRp(H:Hp)(a:Addr)(ks:List D)(xs:List V):Prop:=∃kk,dH ks=some kk/\kk.length=xs.length/\H a=some (.dK<|kk.zip xs)
noncomputable def oC(k:List Int):Int:=reduceHash<|Builtin.Tuple.tupleHashOf<|k.map hashInt
noncomputable def uJ(o:Obj)(xs:List (List Int×Addr×Value)):Prop:=o.ExactDict/\∃es z,o.data = .dict es z/\es.toList=xs.map (λx=>⟨oC x.1,.ref x.2.1,x.2.2⟩)/\(xs.map (·.1)).Nodup
noncomputable def atO(a:Addr)(o:Obj):HO:= .ext λh=>h.get? a=some o
noncomputable def DRt(K:uW)(H:Hp)(a:Addr)(ks:List (List Int))(ys:List V):Prop:=
 (a==sysModules)=false/\∃o xs,H a=some (atO a o)/\uJ o xs/\xs.map (·.1)=ks/\xs.length<=sizeLine/\(∀x∈xs,SqT K H x.2.1<|x.1.map V.int)/\Vals ys (xs.map (·.2.2))
mutual
def Rep(K:uW)(H:Hp):D->V->Prop
 | .non,v=>v = .non
 | .bl b,v=>v = .bl b
 | .int i,v=>v = .int i
 | .str x,v=>v = .str x
 | .tup ds,v=>∃a xs,v = .ref a/\SqT K H a xs/\Reps K H ds xs
 | .lst ds,v=>∃a xs,v = .ref a/\SqL K H a xs/\Reps K H ds xs
 | .dic ks vs,v=>∃a xs,v = .ref a/\DRp H a ks xs/\Reps K H vs xs
 | .dct ks vs,v=>∃a xs,v = .ref a/\DRt K H a ks xs/\Reps K H vs xs
def Reps(K:uW)(H:Hp):List D->List V->Prop
 | [],xs=>xs=[]
 | d::ds,xs=>∃x r,xs=x::r/\Rep K H d x/\Reps K H ds r
end
theorem sameT{K:uW}{H H':Hp}{a:Addr}{xs:List V}(e:Same H H')(h:SqT K H a xs):SqT K H' a xs:=by
 rcases h with(h | ⟨o,h⟩) | h
 ·exact .inl<|.inl<|e _ _ h
 ·exact .inl<|.inr ⟨o,e _ _ h⟩
 ·exact .inr h
theorem xF{k:Sk}{K:uW}{H H':Hp}{a:Addr}{xs:List V}(e:Same H H')(h:SqK k K H a xs):SqK k K H' a xs:=by
 cases k
 ·exact e.seq h
 ·exact sameT e h
mutual
theorem Rep.mono{K:uW}{H H':Hp}(e:Same H H') : ∀{d:D} {v:V},Rep K H d v->Rep K H' d v
 | .non,_,h=>h
 | .bl _,_,h=>h
 | .int _,_,h=>h
 | .str _,_,h=>h
 | .tup ds,v,h=>by obtain⟨a,xs,e1,h1,h2⟩:=(show ∃a xs,v = .ref a/\SqT K H a xs/\Reps K H ds xs from h);exact(show ∃a xs,v = .ref a/\SqT K H' a xs/\Reps K H' ds xs from⟨a,xs,e1,sameT e h1,Reps.mono e h2⟩)
 | .lst ds,v,h=>by obtain⟨a,xs,e1,h1,h2⟩:=(show ∃a xs,v = .ref a/\SqL K H a xs/\Reps K H ds xs from h);exact(show ∃a xs,v = .ref a/\SqL K H' a xs/\Reps K H' ds xs from⟨a,xs,e1,e.seq h1,Reps.mono e h2⟩)
 | .dic ks vs,v,h=>by obtain⟨a,xs,e1,⟨kk,z,g2,B⟩,h2⟩:=(show ∃a xs,v = .ref a/\DRp H a ks xs/\Reps K H vs xs from h);exact(show ∃a xs,v = .ref a/\DRp H' a ks xs/\Reps K H' vs xs from⟨a,xs,e1,⟨kk,z,g2,e _ _ B⟩,Reps.mono e h2⟩)
 | .dct ks vs,v,h=>by obtain⟨a,xs,e1,⟨z,o,zs,g2,B,I,M,g6,O⟩,h2⟩:=(show ∃a xs,v = .ref a/\DRt K H a ks xs/\Reps K H vs xs from h);exact(show ∃a xs,v = .ref a/\DRt K H' a ks xs/\Reps K H' vs xs from⟨a,xs,e1,⟨z,o,zs,e _ _ g2,B,I,M,λx R=>sameT e<|g6 x R,O⟩,Reps.mono e h2⟩)
theorem Reps.mono{K:uW}{H H':Hp}(e:Same H H') : ∀{ds:List D} {xs:List V},Reps K H ds xs->Reps K H' ds xs
 | [],_,h=>h
 | d::ds,xs,h=>by obtain⟨x,r,e1,h1,h2⟩:=(show ∃x r,xs=x::r/\Rep K H d x/\Reps K H ds r from h);exact(show ∃x r,xs=x::r/\Rep K H' d x/\Reps K H' ds r from⟨x,r,e1,Rep.mono e h1,Reps.mono e h2⟩)
end
section
variable{K:uW}{H:Hp}
theorem Reps.nil:Reps K H [] []:=(show([]:List V)=[]from rfl)
theorem Reps.cons(h:Rep K H d x)(t:Reps K H ds xs):Reps K H (d::ds) (x::xs):=⟨x,xs,rfl,h,t⟩
theorem Reps.inv_nil(h:Reps K H [] xs):xs=[]:=h
theorem Reps.inv_cons(h:Reps K H (d::ds) xs) : ∃x r,xs=x::r/\Rep K H d x/\Reps K H ds r:=h
theorem Reps.length : ∀{ds:List D} {xs:List V},Reps K H ds xs->xs.length=ds.length
 | [],xs,h=>by rw[h.inv_nil];rfl
 | d::ds,xs,h=>by obtain⟨x,r,e,_,t⟩:=h.inv_cons;rw[e,Be,Be,Reps.length t]
theorem Reps.get : ∀{ds:List D} {xs:List V} {i:Nat} {d:D},Reps K H ds xs->ds[i]? = some d->∃x,xs[i]? = some x/\Rep K H d x
 | [],_,_,_,_,e=>by simp at e
 | c::ds,xs,0,d,h,e=>by obtain⟨x,r,e1,h1,_⟩:=h.inv_cons;simp at e;subst e;exact⟨x,by rw[e1];rfl,h1⟩
 | c::ds,xs,i+1,d,h,e=>by obtain⟨x,r,e1,_,t⟩:=h.inv_cons;obtain⟨y,z,g2⟩:=Reps.get (i:=i) (d:=d) t (by simpa using e);exact⟨y,by rw[e1];simpa using z,g2⟩
theorem Reps.getV{ds:List D}{xs:List V}{i:Nat}{x:V}(h:Reps K H ds xs)(e:xs[i]? = some x) : ∃d,ds[i]? = some d/\Rep K H d x:=by
 have hi:i<ds.length:=by rw[<- h.length];exact(Af.mp e).1
 obtain⟨y,e1,r⟩:=h.get<|Ae hi;rw[e]at e1;cases e1;exact⟨_,Ae hi,r⟩
theorem Reps.append : ∀{ds es:List D} {xs ys:List V},Reps K H ds xs->Reps K H es ys->Reps K H (ds++es) (xs++ys)
 | [],_,xs,_,h,g=>by rw[h.inv_nil];exact g
 | d::ds,es,xs,ys,h,g=>by obtain⟨x,r,e,h1,t⟩:=h.inv_cons;rw[e];exact Reps.cons h1<|Reps.append t g
theorem Reps.drop : ∀{ds:List D} {xs:List V} (n:Nat),Reps K H ds xs->Reps K H (ds.drop n) (xs.drop n)
 | _,_,0,h=>h
 | [],xs,n+1,h=>by rw[h.inv_nil];exact Reps.nil
 | d::ds,xs,n+1,h=>by obtain⟨x,r,e,_,t⟩:=h.inv_cons;rw[e];exact Reps.drop n t
theorem Reps.take : ∀{ds:List D} {xs:List V} (n:Nat),Reps K H ds xs->Reps K H (ds.take n) (xs.take n)
 | _,_,0,h=>by simp;exact Reps.nil
 | [],xs,n+1,h=>by rw[h.inv_nil];exact Reps.nil
 | d::ds,xs,n+1,h=>by obtain⟨x,r,e,h1,t⟩:=h.inv_cons;rw[e];exact Reps.cons h1<|Reps.take n t
theorem Reps.set : ∀{ds:List D} {xs:List V} {d:D} {x:V} (i:Nat),Reps K H ds xs->Rep K H d x->Reps K H (ds.set i d) (xs.set i x)
 | [],xs,_,_,_,h,_=>by rw[h.inv_nil];exact Reps.nil
 | c::ds,xs,d,x,0,h,g=>by obtain⟨y,r,e,_,t⟩:=h.inv_cons;rw[e];exact Reps.cons g t
 | c::ds,xs,d,x,i+1,h,g=>by obtain⟨y,r,e,h1,t⟩:=h.inv_cons;rw[e];exact Reps.cons h1<|Reps.set i t g
end
structure Ext(H0 H H0' H':Hp):Prop where
 s0:Same H0 H0'
 s1:Same H H'
 sub:Same H0' H'
 new : ∀a,H0 a=none->H a≠none->H0' a=none
theorem Ext.refl(s:Same H0 H):Ext H0 H H0 H:=⟨Same.refl _,Same.refl _,s,λ_ h _=>h⟩
theorem Ext.trans(a:Ext H0 H H1 G1)(b:Ext H1 G1 H2 G2):Ext H0 H H2 G2:=
 ⟨a.s0.trans b.s0,a.s1.trans b.s1,b.sub,λc h1 h2=>b.new c (a.new c h1 h2) (by
  cases q:H c with
  | none=>exact absurd q h2
  | some o=>rw[a.s1 c o q];simp)⟩
theorem zV(h:H p=none)(o:HO):Same H (upd H p o):=λb u q=>by rw[zI (jE q h)];exact q
theorem js(s:Same H0 H)(h:H p=none):H0 p=none:=s.free h
theorem VY(s:Same H0 H):Same (upd H0 p o) (upd H p o):=λb u q=>by
 by_cases e:b=p
 ·subst e;rw[zM]at q ⊢;exact q
 ·rw[zI e]at q ⊢;exact s b u q
theorem Ext.alloc(s:Same H0 H)(h:H p=none)(o:HO):Ext H0 H (upd H0 p o) (upd H p o):=
 ⟨zV (js s h) o,zV h o,VY s,λa h1 h2=>by rw[zI (λe=>h2<|by rw[e];exact h)];exact h1⟩
theorem Ext.hide(s:Same H0 H)(h:H p=none)(o:HO):Ext H0 H H0 (upd H p o):=
 ⟨Same.refl _,zV h o,s.trans<|zV h o,λa h1 _=>h1⟩
theorem Ext.show(e:Ext H0 H H0' H')(h1:H a=none)(h2:H0' a=none)(I:H' a=some o)(s:Same H0 H):Ext H0 H (upd H0' a o) H':=
 ⟨e.s0.trans<|zV h2 o,e.s1,λb u q=>by
  by_cases z:b=a
  ·subst z;rw[zM]at q;rw[I];exact q
  ·rw[zI z]at q;exact e.sub b u q,λb M B=>by
  rw[zI (λz=>B<|by rw[z];exact h1)];exact e.new b M B⟩
structure Nest(K:uW)(H0 H:Hp)(rows:List (List D))(a:Addr)(bs:List Addr):Prop where
 a0:H0 a=none
 ha:H a=some (.lst<|bs.map V.ref)
 nd:(a::bs).Nodup
 len:bs.length=rows.length
 row : ∀(k:Nat) b row,bs[k]? = some b->rows[k]? = some row->H0 b=none/\∃xs,H b=some (.lst xs)/\Reps K H0 row xs
theorem Nest.at{K:uW}{H0 H:Hp}{rows:List (List D)}{a:Addr}{bs:List Addr}(n:Nest K H0 H rows a bs){b:Addr}(z:b∈a::bs):H0 b=none/\∃xs,H b=some (.lst xs):=by
 rcases Ag.mp z with rfl | z
 ·exact⟨n.a0,_,n.ha⟩
 ·obtain⟨k,B⟩:=List.getElem?_of_mem z
  have I:=(Af.mp B).1;rw[n.len]at I;obtain⟨h1,xs,h2,_⟩:=n.row k b _ B<|Ae I;exact⟨h1,xs,h2⟩
theorem Nest.move{K:uW}{H0 H H0' H':Hp}{rows:List (List D)}{a:Addr}{bs:List Addr}(n:Nest K H0 H rows a bs)(s:Same H0 H0')(z : ∀b∈a::bs,H0' b=none)(h : ∀b∈a::bs,H' b=H b):Nest K H0' H' rows a bs:=
 ⟨z a Ai,by rw[h a Ai];exact n.ha,n.nd,n.len,λk b row B M=>by obtain⟨_,xs,h2,O⟩:=n.row k b row B M;have I:b∈a::bs:=Ah _<|AZ B;exact⟨z b I,xs,by rw[h b I];exact h2,O.mono s⟩⟩
noncomputable def NestOk(K:uW)(H0 H:Hp)(σ:St)(γ:Ctx):Prop:=
 (∀(i:Nat) rows,γ[i]? = some (.nest rows)->∃a bs,σ[i]? = some (some (.ref a))/\Nest K H0 H rows a bs/\∀(j:Nat) ds c,γ[j]? = some (.own ds)->σ[j]? = some (some (.ref c))->c∉a::bs)/\
 ∀(i j:Nat) z B,γ[i]? = some (.nest z)->γ[j]? = some (.nest B)->i=j
theorem NestOk.nil0{K:uW}{H0 H:Hp}{σ:St}{γ:Ctx}(h : ∀(i:Nat) rows,γ[i]? ≠ some (.nest rows)):NestOk K H0 H σ γ:=⟨λi rows e=>absurd e<|h i rows,λi j z B e=>absurd e<|h i z⟩
theorem NestOk.move{K:uW}{H0 H H0' H':Hp}{σ:St}{γ:Ctx}(n:NestOk K H0 H σ γ)(s:Same H0 H0')(h : ∀(i:Nat) rows a bs,γ[i]? = some (.nest rows)->σ[i]? = some (some (.ref a))->Nest K H0 H rows a bs->(∀(j:Nat) ds c,γ[j]? = some (.own ds)->σ[j]? = some (some (.ref c))->c∉a::bs)->∀b∈a::bs,H0' b=none/\H' b=H b):NestOk K H0' H' σ γ:=
 ⟨λi rows e=>by obtain⟨a,bs,h1,h2,z⟩:=n.1 i rows e;exact⟨a,bs,h1,h2.move s (λb B=>(h i rows a bs e h1 h2 z b B).1)<|λb B=>(h i rows a bs e h1 h2 z b B).2,z⟩,n.2⟩
theorem NestOk.ext{K:uW}{H0 H H0' H':Hp}{σ:St}{γ:Ctx}(n:NestOk K H0 H σ γ)(e:Ext H0 H H0' H'):NestOk K H0' H' σ γ:=
 n.move e.s0 λi rows a bs _ _ h2 _ b z=>by obtain⟨B,xs,g2⟩:=h2.at z;exact⟨e.new b B (by rw[g2];simp),by rw[e.s1 b _ g2,g2]⟩
structure RC(K:uW)(H0 H:Hp)(σ:St)(γ:Ctx):Prop where
 sub:Same H0 H
 len:σ.length=γ.length
 val : ∀(i:Nat) d,γ[i]? = some (.val d)->∃v,σ[i]? = some (some v)/\Rep K H0 d v
 own : ∀(i:Nat) ds,γ[i]? = some (.own ds)->∃a xs,σ[i]? = some (some (.ref a))/\H0 a=none/\H a=some (.lst xs)/\Reps K H0 ds xs
 ne : ∀(i j:Nat) a ds es,γ[i]? = some (.own ds)->γ[j]? = some (.own es)->σ[i]? = some (some (.ref a))->σ[j]? = some (some (.ref a))->i=j
 nst:NestOk K H0 H σ γ
theorem RC.ext{K:uW}{H0 H H0' H':Hp}{σ:St}{γ:Ctx}(r:RC K H0 H σ γ)(e:Ext H0 H H0' H'):RC K H0' H' σ γ:=
 ⟨e.sub,r.len,λi d h=>let ⟨v,h1,h2⟩:=r.val i d h;⟨v,h1,h2.mono e.s0⟩,
  λi ds h=>let ⟨a,xs,h1,h2,z,B⟩:=r.own i ds h;⟨a,xs,h1,e.new a h2 (by rw[z];simp),e.s1 _ _ z,B.mono e.s0⟩,r.ne,r.nst.ext e⟩
noncomputable def tV(K:uW)(f:CO D):TE:=λσ H Q=>∃H0 γ d,RC K H0 H σ γ/\f γ=some d/\∀v H' H0',Ext H0 H H0' H'->Rep K H0' d v->Q v H'
noncomputable def tQ(K:uW)(f:CO (Sk×List D)):TE:=λσ H Q=>∃H0 γ k ds,RC K H0 H σ γ/\f γ=some (k,ds)/\∀a xs H' H0',Ext H0 H H0' H'->SqK k K H' a xs->(k = .T->SqT K H0' a xs)->Reps K H0' ds xs->Q (.ref a) H'
noncomputable def tO(K:uW)(f:CO (List D)):TE:=λσ H Q=>∃H0 γ ds,RC K H0 H σ γ/\f γ=some ds/\
 ∀a xs H' H0',Ext H0 H H0' H'->H a=none->H0' a=none->H' a=some (.lst xs)->Reps K H0' ds xs->Q (.ref a) H'
noncomputable def tT(K:uW)(f:CO Bool):TT:=λσ H Q=>∃H0 γ b,RC K H0 H σ γ/\f γ=some b/\∀H' H0',Ext H0 H H0' H'->Q b H'
noncomputable def tA(K:uW)(f:CO (List D)):TA:=λσ H Q=>∃H0 γ ds,RC K H0 H σ γ/\f γ=some ds/\∀vs H' H0',Ext H0 H H0' H'->Reps K H0' ds vs->Q vs H'
abbrev PV(X:Cx)(e:Expr)(f:CO D):Prop:=PE X e (tV X.K f)
abbrev PQ(X:Cx)(e:Expr)(f:CO (Sk×List D)):Prop:=PE X e (tQ X.K f)
abbrev PO(X:Cx)(e:Expr)(f:CO (List D)):Prop:=PE X e (tO X.K f)
abbrev PTD(X:Cx)(e:Expr)(f:CO Bool):Prop:=PT X e (tT X.K f)
abbrev PWD(X:Cx)(e:Expr)(f:CO Bool):Prop:=PW X e (tT X.K f)
abbrev PAD(X:Cx)(es:List Expr)(f:CO (List D)):Prop:=PA X es (tA X.K f)
theorem jz(h:PE X e t)(i : ∀σ H Q,t' σ H Q->t σ H Q):PE X e t':=λpins s σ H Q I q=>h pins s σ H Q I<|i σ H Q q
theorem Wr(h:PT X e t)(i : ∀σ H Q,t' σ H Q->t σ H Q):PT X e t':=λpins s σ H Q I q=>h pins s σ H Q I<|i σ H Q q
theorem iQ(h:PW X e t)(i : ∀σ H Q,t' σ H Q->t σ H Q):PW X e t':=λz pins s σ H Q I q=>h z pins s σ H Q I<|i σ H Q q
theorem lH(h:PA X es t)(i : ∀σ H Q,t' σ H Q->t σ H Q):PA X es t':=λpos pins s σ H Q I q=>h pos pins s σ H Q I<|i σ H Q q
theorem kA{X:Cx}{st:Stmt}{t t':TS}(h:PS X st t)(i : ∀D σ H,t' D σ H->t D σ H):PS X st t':=λpins s σ H D I q=>h pins s σ H D I<|i D σ H q
theorem dz{X:Cx}{st:List Stmt}{t t':TS}(h:PSs X st t)(i : ∀D σ H,t' D σ H->t D σ H):PSs X st t':=λpins s σ H D I q=>h pins s σ H D I<|i D σ H q
theorem w6(h:PI X tg e t)(i : ∀σ H R,t' σ H R->t σ H R):PI X tg e t':=λpins s σ H R I q=>h pins s σ H R I<|i σ H R q
theorem kF(h:n<=lim):n<=sizeLine:=AE h ⋯
section
variable{X:Cx}{e a b c:Expr}{pos:Pos}
theorem PV.q(h:PV X e f):PQ X e (zT f):=jz h λσ H Q M=>by
 obtain⟨H0,γ,k,ds,rc,B,q⟩:=M;unfold zT at B;cases e1:f γ with
 | none=>rw[e1]at B;cases B
 | some d=>
  rw[e1]at B;refine⟨H0,γ,d,rc,e1,λv H' H0' ext r=>?_⟩;cases d with
  | tup es=>
   obtain⟨e2,I⟩:k = .T/\ds=es:=by simp[jf]at B;exact⟨B.1.symm,B.2.symm⟩
   subst e2 I;obtain⟨a,xs,rfl,h1,h2⟩:=(show ∃a xs,v = .ref a/\SqT X.K H0' a xs/\Reps X.K H0' ds xs from r);exact q a xs H' H0' ext (sameT ext.sub h1) (λ_=>h1) h2
  | lst es=>
   obtain⟨e2,I⟩:k = .L/\ds=es:=by simp[jf]at B;exact⟨B.1.symm,B.2.symm⟩
   subst e2 I;obtain⟨a,xs,rfl,h1,h2⟩:=(show ∃a xs,v = .ref a/\SqL X.K H0' a xs/\Reps X.K H0' ds xs from r);exact q a xs H' H0' ext (ext.sub.seq h1) (λz=>nomatch z) h2
  | _=>simp[jf]at B
theorem PO.v(h:PO X e f):PV X e (qE f):=jz h λσ H Q M=>by
 obtain⟨H0,γ,d,rc,z,q⟩:=M;unfold qE at z;cases e1:f γ with
 | none=>rw[e1]at z;cases z
 | some ds=>
  rw[e1]at z;cases z;refine⟨H0,γ,ds,rc,e1,λa xs H' H0' ext h1 h2 O r=>?_⟩;exact q _ _ _ (ext.show h1 h2 O rc.sub) (show ∃B I,V.ref a = .ref B/\SqL X.K _ B I/\Reps X.K _ ds I from⟨a,xs,rfl,SqL.of zM,r.mono<|zV h2 _⟩)
theorem PO.q(h:PO X e f):PQ X e (zX f):=jz h λσ H Q I=>by
 obtain⟨H0,γ,k,ds,rc,B,q⟩:=I;unfold zX at B;cases e1:f γ with
 | none=>rw[e1]at B;cases B
 | some es=>
  rw[e1]at B;cases B;exact⟨H0,γ,_,rc,e1,λa xs H' H0' ext h1 h2 M r=>q a xs H' H0' ext (SqL.of M) (λz=>nomatch z) r⟩
theorem iR(i:Nat)(h:PE X e (gV i)):PV X e (zd i):=jz h λσ H Q B=>by
 obtain⟨H0,γ,d,rc,z,q⟩:=B;unfold zd at z;cases e1:γ[i]? with
 | none=>rw[e1]at z;cases z
 | some c=>
  rw[e1]at z;cases c with
  | val d'=>
   cases z;obtain⟨v,h1,h2⟩:=rc.val i d e1;exact⟨v,h1,q v H H0 (Ext.refl rc.sub) h2⟩
  | no=>cases z
  | own ds=>cases z
  | nest rows=>cases z
theorem iY(i:Nat)(h:PE X e (gV i)):PQ X e (zg i):=jz h λσ H Q O=>by
 obtain⟨H0,γ,k,ds,rc,B,q⟩:=O;unfold zg at B;cases e1:γ[i]? with
 | none=>rw[e1]at B;cases B
 | some c=>
  rw[e1]at B;cases c with
  | no=>cases B
  | nest rows=>cases B
  | own es=>
   cases B;obtain⟨a,xs,h1,h2,R,U⟩:=rc.own i ds e1;exact⟨_,h1,q a xs H H0 (Ext.refl rc.sub) (SqL.of R) (λz=>nomatch z) U⟩
  | val d=>
   obtain⟨v,h1,h2⟩:=rc.val i d e1;refine⟨v,h1,?_⟩;cases d with
   | tup es=>
    obtain⟨e2,M⟩:k = .T/\ds=es:=by simp[vC,jf]at B;exact⟨B.1.symm,B.2.symm⟩
    subst e2 M;obtain⟨a,xs,rfl,I,g2⟩:=(show ∃a xs,v = .ref a/\SqT X.K H0 a xs/\Reps X.K H0 ds xs from h2);exact q a xs H H0 (Ext.refl rc.sub) (sameT rc.sub I) (λ_=>I) g2
   | lst es=>
    obtain⟨e2,M⟩:k = .L/\ds=es:=by simp[vC,jf]at B;exact⟨B.1.symm,B.2.symm⟩
    subst e2 M;obtain⟨a,xs,rfl,I,g2⟩:=(show ∃a xs,v = .ref a/\SqL X.K H0 a xs/\Reps X.K H0 ds xs from h2);exact q a xs H H0 (Ext.refl rc.sub) (rc.sub.seq I) (λz=>nomatch z) g2
   | _=>simp[vC,jf]at B
theorem JB(h:PE X e (tC v))(r : ∀H,Rep X.K H d v):PV X e (zm d):=jz h λσ H Q z=>by obtain⟨H0,γ,d',rc,B,q⟩:=z;cases B;exact q v H H0 (Ext.refl rc.sub)<|r H0
theorem ze:PV X (.Constant (.int i) j pos) (zm<|.int i):=JB lE λ_=>(show V.int i = .int i from rfl)
theorem k8:PV X (.Constant (.bool x) j pos) (zm<|.bl x):=JB pv λ_=>(show V.bl x = .bl x from rfl)
theorem jD:PV X (.Constant (.str x) j pos) (zm<|.str x):=JB ly λ_=>(show V.str x = .str x from rfl)
noncomputable def Snd(K:uW)(r:R2)(F:D->D->Option D):Prop:=∀H0 H x y dx z d Q,Same H0 H->Rep K H0 dx x->Rep K H0 z y->F dx z=some d->(∀v H' H0',Ext H0 H H0' H'->Rep K H0' d v->Q v H')->r x y H Q
theorem zc(h:o.bind f=some y) : ∃x,o=some x/\f x=some y:=by
 cases o with
 | none=>cases h
 | some x=>exact⟨x,rfl,h⟩
theorem KB{K:uW}{r:R2}{F:D->D->Option D}{fa fb:CO D}(I:Snd K r F) : ∀σ H Q,tV K (zu F fa fb) σ H Q->tOp r (tV K fa) (tV K fb) σ H Q:=λσ H Q M=>by obtain⟨H0,γ,d,rc,z,q⟩:=M;obtain⟨x,e1,z⟩:=zc z;obtain⟨y,e2,z⟩:=zc z;refine⟨H0,γ,x,rc,e1,λO H1 R x1 U=>⟨R,γ,y,rc.ext x1,e2,λW H2 Y B r2=>?_⟩⟩;exact I Y H2 O W x y d Q B.sub (U.mono B.s0) r2 z λv H' H0' x3 r3=>q v H' H0' (x1.trans<|B.trans x3) r3
theorem ZW(z:OpR X (binaryOp op) r)(B:Snd X.K r F)(ha:PV X a fa)(I:PV X b fb):PV X (.BinOp a op b pos) (zu F fa fb):=
 jz (fV z ha I) (KB B)
theorem Xr(z:OpR X (compareOp op) r)(B:Snd X.K r F)(ha:PV X a fa)(I:PV X b fb)(hm:behindInMarks op b=false):PV X (.Compare a [op] [b] pos) (zu F fa fb):=
 jz (JF z ha I hm) (KB B)
theorem wB{d:D}{b:Bool}(h:asB d=some b):d = .bl b:=by cases d<;>simp[asB]at h;rw[h]
theorem JC(B:OpR X (compareOp op) r)(I:Snd X.K r F)(ha:PV X a fa)(M:PV X b fb)(hm:behindInMarks op b=false):PTD X (.Compare a [op] [b] pos) (sB<|zu F fa fb):=
 Wr (Wq B ha M hm) λσ H Q O=>by obtain⟨H0,γ,k,rc,z,q⟩:=O;obtain⟨d,e1,z⟩:=zc z;refine KB I σ H _ ⟨H0,γ,d,rc,e1,λv H' H0' x r=>?_⟩;rw[wB z]at r;exact⟨k,r,q H' H0' x⟩
theorem z6{f:CO D}(h:PV X e f)(I : ∀B,isTrue e X.env B=(do let v <- B;standAt e.pos;holding [v] (truthy v)):=by intro _;rfl):PTD X e (sB f):=
 Wr (iU h I) λσ H Q M=>by obtain⟨H0,γ,k,rc,z,q⟩:=M;obtain⟨d,e1,z⟩:=zc z;refine⟨H0,γ,d,rc,e1,λv H' H0' x r=>?_⟩;rw[wB z]at r;exact⟨k,r,q H' H0' x⟩
theorem Jv(h:PTD X a f):PWD X (.BoolOp .And [a] pos) f:=fD h
theorem qK(h:PTD X a f):PWD X (.BoolOp .Or [a] pos) f:=iO h
theorem Kv{f g:CO Bool}{xk:List Expr}(ha:PTD X a f)(B:PWD X (.BoolOp .And (b::xk) pos) g):PWD X (.BoolOp .And (a::b::xk) pos) (V4 f g):=
 iQ (iP ha B) λσ H Q I=>by
  obtain⟨H0,γ,k,rc,z,q⟩:=I;obtain⟨c,e1,z⟩:=zc z;refine⟨H0,γ,c,rc,e1,λH' H0' x=>?_⟩;cases c with
  | true=>rw[GY rfl]at z ⊢;exact⟨H0',γ,k,rc.ext x,z,λH2 M O=>q H2 M<|x.trans O⟩
  | false=>rw[MQ Ay]at z ⊢;cases z;exact q H' H0' x
theorem qe{f g:CO Bool}{xk:List Expr}(ha:PTD X a f)(B:PWD X (.BoolOp .Or (b::xk) pos) g):PWD X (.BoolOp .Or (a::b::xk) pos) (yb f g):=
 iQ (oX ha B) λσ H Q I=>by
  obtain⟨H0,γ,k,rc,z,q⟩:=I;obtain⟨c,e1,z⟩:=zc z;refine⟨H0,γ,c,rc,e1,λH' H0' x=>?_⟩;cases c with
  | true=>rw[GY rfl]at z ⊢;cases z;exact q H' H0' x
  | false=>rw[MQ Ay]at z ⊢;exact⟨H0',γ,k,rc.ext x,z,λH2 M O=>q H2 M<|x.trans O⟩
theorem z7(ha:PTD X a f):PTD X (.UnaryOp .Not a pos) (ji f):=
 Wr (iV ha) λσ H Q B=>by
  obtain⟨H0,γ,k,rc,z,q⟩:=B;unfold ji at z;cases e1:f γ with
  | none=>rw[e1]at z;cases z
  | some c=>rw[e1]at z;cases z;exact⟨H0,γ,c,rc,e1,λH' H0' x=>q H' H0' x⟩
theorem yo(h:PWD X e f):PTD X e f:=h.pt
theorem yc(h:PV X a f):PV X (.BoolOp op [a] pos) f:=lA h
theorem yd{f g:CO D}{xk:List Expr}(ha:PV X a f)(B:PV X (.BoolOp .And (b::xk) pos) g):PV X (.BoolOp .And (a::b::xk) pos) (Vq f g):=
 jz (lF ha B) λσ H Q I=>by
  obtain⟨H0,γ,d,rc,z,q⟩:=I;obtain⟨c,e1,z⟩:=zc z;obtain⟨d1,M,e1⟩:=zc e1;refine⟨H0,γ,d1,rc,M,λv H' H0' x r=>?_⟩;rw[wB e1]at r;refine⟨c,r,?_⟩;cases c with
  | true=>rw[GY rfl]at z ⊢;exact⟨H0',γ,d,rc.ext x,z,λO H2 R U W=>q O H2 R (x.trans U) W⟩
  | false=>rw[MQ Ay]at z ⊢;cases z;exact q _ H' H0' x (show V.bl false = .bl false from rfl)
theorem dr(ha:PV X a f):PV X (.UnaryOp .Not a pos) (nq f):=
 jz (lB ha) λσ H Q B=>by
  obtain⟨H0,γ,d,rc,z,q⟩:=B;unfold nq at z;cases e1:f γ with
  | none=>rw[e1]at z;cases z
  | some d1=>
   rw[e1]at z;refine⟨H0,γ,d1,rc,e1,λv H' H0' x r=>?_⟩;cases d1 with
   | bl c=>cases z;exact⟨c,r,q _ H' H0' x<|show V.bl (!c) = .bl (!c)from rfl⟩
   | _=>cases z
theorem yJ(R:PTD X c k)(ha:PV X a f)(U:PV X b g):PV X (.IfExp c a b pos) (fw k f g):=
 jz (bW R ha U) λσ H Q W=>by
  obtain⟨H0,γ,d,rc,z,q⟩:=W;obtain⟨t,e1,z⟩:=zc z;refine⟨H0,γ,t,rc,e1,λH' H0' x=>?_⟩;cases t with
  | true=>rw[GY rfl]at z ⊢;exact⟨H0',γ,d,rc.ext x,z,λB H2 I M O=>q B H2 I (x.trans M) O⟩
  | false=>rw[MQ Ay]at z ⊢;exact⟨H0',γ,d,rc.ext x,z,λB H2 I M O=>q B H2 I (x.trans M) O⟩
theorem fW:PAD X [] zz:=lH j1 λσ H Q z=>by obtain⟨H0,γ,ds,rc,B,q⟩:=z;cases B;exact q [] H H0 (Ext.refl rc.sub) Reps.nil
theorem bZ(ha:PV X e f)(I:PAD X es g)(M:starEach (e::es) X.env=(false,eval e X.env)::starEach es X.env:=by rfl):PAD X (e::es) (zb f g):=
 lH (z9 ha I M) λσ H Q O=>by
  obtain⟨H0,γ,ds,rc,z,q⟩:=O;obtain⟨x,e1,z⟩:=zc z;cases e2:g γ with
  | none=>rw[e2]at z;cases z
  | some r=>
   rw[e2]at z;cases z;exact⟨H0,γ,x,rc,e1,λv H1 R x1 U=>⟨R,γ,r,rc.ext x1,e2,λvs H2 W B Y=>q (v::vs) H2 W (x1.trans B)<|Reps.cons (U.mono B.s0) Y⟩⟩
theorem jv(h:PAD X es f):PV X (.Tuple es x1 pos) (xj f):=
 jz (lx h) λσ H Q O=>by
  obtain⟨H0,γ,d,rc,z,q⟩:=O;obtain⟨ds,e1,z⟩:=zc z;by_cases B:ds.length<=lim
  ·rw[GY B]at z;cases z
   refine⟨H0,γ,ds,rc,e1,λvs H1 R x1 I=>⟨kF (by rw[I.length];exact B),λp M=>?_⟩⟩;exact q _ _ _ (x1.trans<|Ext.alloc x1.sub M _) (show ∃a xs,V.ref p = .ref a/\SqT X.K _ a xs/\Reps X.K _ ds xs from⟨p,vs,rfl,SqT.of zM,I.mono<|zV (js x1.sub M) _⟩)
  ·rw[MQ B]at z;cases z
theorem yM(h:PAD X es f):PO X (.List es pos) (yn f):=
 jz (lC h) λσ H Q R=>by
  obtain⟨H0,γ,d,rc,B,q⟩:=R;obtain⟨ds,e1,B⟩:=zc B;by_cases M:ds.length<=lim
  ·rw[GY M]at B;cases B
   refine⟨H0,γ,_,rc,e1,λvs H1 U x1 O=>⟨kF (by rw[O.length];exact M),λp I=>?_⟩⟩;exact q p vs _ U (x1.trans<|Ext.hide x1.sub I _) (by
    cases z:H p with
    | none=>rfl
    | some o=>rw[x1.s1 p o z]at I;cases I) (js x1.sub I) zM O
  ·rw[MQ M]at B;cases B
end
noncomputable def uN(i:Nat)(f:CO D)(γ:Ctx):Option D:=(xA γ[i]?).bind λds=>(f<|γ.set i<|.val<|.lst ds).bind λd=>if pP d=true then some d else none
noncomputable def uf(i:Nat)(f:CO Bool)(γ:Ctx):Option Bool:=(xA γ[i]?).bind λds=>f<|γ.set i<|.val<|.lst ds
noncomputable def sf(i:Nat)(γ:Ctx):Option Fl:=(xA γ[i]?).map λ_=> .next (γ.set i<|.own [])
noncomputable def kH(ds:List D):List D:=(uZ ds.length).map λ(i:Nat)=>D.tup [.int i,ds[i]?.getD .non]
noncomputable def fA(f:CO D)(γ:Ctx):Option (List D):=(f γ).bind λd=>match d with
 | .tup ds=>some (kH ds)
 | _=>none
noncomputable def W5:List D->Option (List Int)
 | []=>some []
 | .int i::r=>(W5 r).map λl=>i::l
 | _::_=>none
noncomputable def rZ(f:CO D)(g:CO (Sk×List D))(γ:Ctx):Option D:=(f γ).bind λd=>(g γ).bind λa=>(asI d).bind λi=>(W5 a.2).map λl=> .bl (decide<|i∈l)
noncomputable def ah(k:Int):List Int->Option Nat
 | []=>none
 | i::r=>if i=k then some 0 else (ah k r).map (· + 1)
noncomputable def uL(f g:CO D)(γ:Ctx):Option D:=(f γ).bind λd=>((g γ).bind asI).bind λk=>match d with
 | .tup ds=>(W5 ds).bind λl=>(ah k l).map λ(j:Nat)=>D.int (j:Int)
 | _=>none
noncomputable def yr(T:Tg)(f:CO (List D))(γ:Ctx):List D->Option (List<|List D)
 | []=>some []
 | d::ds=>(xl T d γ).bind λz=>(f z).bind λe=>(yr T f γ ds).map λr=>e::r
noncomputable def Xd(src:CO (List D))(T:Tg)(n:Nat)(fr:List Nat)(f:CO (List D))(γ:Ctx):Option (List<|List D):=(src γ).bind λds=>if ds.length<=lim then yr T f (jc n fr γ) ds else none
noncomputable def Jg:Cell->Bool
 | .nest _=>true
 | _=>false
noncomputable def V0(i:Nat)(f:CO (List<|List D)):CO Fl:=λγ=>(f γ).bind λrows=>if γ.any Jg=false then some (.next<|γ.set i<|.nest rows)else none
noncomputable def wz:Option Cell->Option (List<|List D)
 | some (.nest rows)=>some rows
 | _=>none
noncomputable def kg(γ:Ctx)(j i:Nat)(r:List D):Ctx:=(γ.set j .no).set i (.own r)
noncomputable def qR(j i:Nat)(g f:CO D)(γ:Ctx):List (List D)->Option (List<|List D)
 | []=>some []
 | r::rs=>(f<|kg γ j i r).bind λd=>((g<|kg γ j i r).bind asI).bind λk=>(ixD r.length k).bind λm=>(qR j i g f γ rs).map λt=>r.set m d::t
noncomputable def wW(j i:Nat)(g f:CO D)(γ:Ctx):Option Fl:=(wz γ[j]?).bind λrows=>if i=j\/γ.length<=i then none else (qR j i g f γ rows).map λz=> .next ((γ.set j<|.nest z).set i .no)
noncomputable def oQ(i:Nat)(F:CO Fl)(γ:Ctx):Option Fl:=(xA γ[i]?).bind λds=>F<|γ.set i<|.val<|.lst ds
noncomputable def fz(i:Nat)(F:CO Fl)(γ:Ctx):Option Fl:=(wz γ[i]?).bind λrows=>F<|γ.set i<|.val<|.lst<|rows.map D.lst
noncomputable def rX(is:List Nat)(f:CO D)(γ:Ctx):Option Fl:=(f γ).bind λd=>match d with
 | .lst ds=>if ds.length=is.length then some (.next<|qd is ds γ)else none
 | _=>none
noncomputable def vZ:List D->Option (List Str)
 | []=>some []
 | .str x::r=>(vZ r).map λl=>x::l
 | _::_=>none
noncomputable def zA(x:Str):Bool:=decide<|x.length<=1000
noncomputable def ZG(f:CO D)(g:CO (Sk×List D))(γ:Ctx):Option D:=(f γ).bind λd=>(g γ).bind λa=>match d,a.1 with
 | .str sep,.L=>(vZ a.2).bind λl=>if l.length<=lim/\l.all zA=true/\zA sep=true then some (.str<|Cb sep l)else none
 | _,_=>none
noncomputable def ya(f g:CO D)(γ:Ctx):Option D:=(f γ).bind λd=>((g γ).bind asI).bind λi=>match d with
 | .str z=>if zA z=true then (ixD z.cps.toList.length i).bind λk=>z.cps.toList[k]?.map λc=> .str ⟨#[c]⟩else none
 | _=>none
noncomputable def vm(f:CO D)(γ:Ctx):Option D:=(f γ).bind λd=>match d with
 | .str z=>if zA z=true then some (.int z.length)else none
 | _=>none
noncomputable def uc(z I B M:Str)(f:CO D)(γ:Ctx):Option D:=(f γ).bind λd=>match d with
 | .str x=>if z=B then none else if x=z then some (.str I)else if x=B then some (.str M)else none
 | _=>none
noncomputable def tY(f g:CO D)(γ:Ctx):Option D:=((f γ).bind asI).bind λi=>((g γ).bind asI).map λj=> .int (if j<i then j else i)
noncomputable def nk(f:CO D):CO (List D):=λγ=>(f γ).bind λd=>match d with
 | .tup ds=>some ds.reverse
 | _=>none
noncomputable def Js(f:CO D):CO D:=λγ=>(f γ).bind λd=>match d with
 | .tup ds=>some (.tup ds.reverse)
 | _=>none
abbrev Xn:=Str×Option Int
noncomputable def xNo:CO Xn:=λ_=>none
noncomputable def ey(c:Str):CO Xn:=λ_=>some (c,none)
noncomputable def ia(c:Str)(f:CO D):CO Xn:=λγ=>((f γ).bind asI).bind λi=>if inR i=true then some (c,some i)else none
noncomputable def xIf(k:CO Bool)(G H:CO Xn):CO Xn:=λγ=>(k γ).bind λb=>if b=true then G γ else H γ
noncomputable def eh(G:CO Xn)(F:CO Fl)(H:CO Xn):CO Xn:=λγ=>match G γ with
 | some c=>some c
 | none=>(F γ).bind λz=>match z with
  | .next γ'=>H γ'
  | _=>none
noncomputable def yx(G:List D->Option Xn)(g:CO (List D)):CO Xn:=λγ=>(g γ).bind G
noncomputable def Kr(n:Nat)(G:CO Xn)(ds:List D):Option Xn:=G<|zU n ds
end DL
namespace DL
open PySem L2
open PySem.W (KasT kas_sort)
noncomputable def ke(z:Str):List D:=z.cps.toList.map λc=>D.str ⟨#[c]⟩
noncomputable def wR(f:CO D)(γ:Ctx):Option (List D):=(f γ).bind λd=>match d with
 | .str z=>if zA z=true then some (ke z)else none
 | _=>none
noncomputable def iF(f:CO D)(γ:Ctx):Option (List D):=(f γ).bind λd=>match d with
 | .str z=>if zA z=true then some (kH<|ke z)else none
 | _=>none
noncomputable def vJ(f:CO D)(γ:Ctx):Option (List D):=(f γ).bind λd=>match d with
 | .lst ds=>some (kH ds)
 | _=>none
noncomputable def iE(f:CO D)(g:CO (Sk×List D))(γ:Ctx):Option D:=(f γ).bind λd=>(g γ).bind λa=>match d with
 | .str x=>(vZ a.2).map λl=> .bl (l.any λy=>y==x)
 | _=>none
noncomputable def Y0(f g:CO D)(γ:Ctx):Option D:=(f γ).bind λd=>(g γ).bind λe=>match d,e with
 | .str x,.str y=>if zA x=true/\zA y=true then some (.str<|x++y)else none
 | _,_=>none
noncomputable def Ym(f:CO D)(l h:CO (Option Int))(γ:Ctx):Option D:=(f γ).bind λd=>(l γ).bind λlo=>(h γ).bind λhi=>match d with
 | .str z=>if zA z=true then some (.str<|Cg z lo hi)else none
 | _=>none
noncomputable def nt(f:CO (Sk×List D))(γ:Ctx):Option (List D):=(f γ).bind λa=>match a.1 with
 | .L=>if a.2.length<=lim then some a.2.reverse else none
 | _=>none
noncomputable def px:D->Option (Int×Int)
 | .tup [.int a,.int b]=>some (a,b)
 | _=>none
noncomputable def dF:List D->Option (List<|Int×Int)
 | []=>some []
 | d::r=>(px d).bind λp=>(dF r).map λl=>p::l
noncomputable def um(x y:Int×Int):Bool:=if x.1=y.1 then decide (x.2<y.2)else decide (x.1<y.1)
noncomputable def si{α:Type}(lt:Nat->Nat->Bool):KasT α->α
 | .ret a=>a
 | .ask i j k=>si lt<|k<|lt i j
noncomputable def lr(ps:List (Int×Int)):List Nat:=if ps.length<2 then uZ ps.length else (si (λi j=>um (ps.getD i (0,0))<|ps.getD j (0,0))<|kas_sort ps.length).toList
noncomputable def oM(ds:List D):Option (List D):=(dF ds).bind λps=>if ds.length<64 then some ((lr ps).map λi=>ds.getD i .non)else none
noncomputable def iC(f:CO (Sk×List D))(γ:Ctx):Option (List D):=(f γ).bind λa=>match a.1 with
 | .L=>oM a.2
 | _=>none
end DL
namespace DL
open PySem L2
noncomputable def oR(i:Nat)(f:CO (List D))(γ:Ctx):Option Fl:=(xA γ[i]?).bind λds=>(f γ).bind λes=>if ds.length+es.length<=lim then some (.next<|γ.set i<|.own<|ds++es)else none
noncomputable def sg(F G:List D->Option Res)(g:CO (List D))(γ:Ctx):Option (List D):=(g γ).bind λl=>match l with
 | [p,.str z,t,b]=>((if z=("r" : Str)then F else G) [p,t,b]).bind oS
 | _=>none
noncomputable def W6:List D->Option (List Int)
 | []=>some []
 | .int i::r=>(W6 r).map λl=>i::l
 | _::_=>none
noncomputable def pU(ds es:List D):Option D:=match W6 ds with
 | some ns=>if ds.length=es.length/\ns.Nodup/\ds.length<=lim then some (.dic ds es)else none
 | none=>none
open PySem.Spec PyProof.Rows
structure RS(K:uW)(E0 E H0 H:Hp)(σ:St)(γ:Ctx):Prop where
 rc:RC K H0 H σ γ
 ext:Ext E0 E H0 H
 fresh : ∀(i:Nat) ds a,γ[i]? = some (.own ds)->σ[i]? = some (some (.ref a))->E a=none
 fr2 : ∀(i:Nat) rows a xs,γ[i]? = some (.nest rows)->σ[i]? = some (some (.ref a))->H a=some (.lst xs)->E a=none/\∀b,V.ref b∈xs->E b=none
noncomputable def Sat(K:uW)(E0 E:Hp)(D:Ends):Fl->Prop
 | .next γ=>∀σ H H0,RS K E0 E H0 H σ γ->D.nx σ H
 | .brk γ=>∀σ H H0,RS K E0 E H0 H σ γ->D.bk σ H
 | .cont γ=>∀σ H H0,RS K E0 E H0 H σ γ->D.ct σ H
 | .ret (.val d)=>∀v H H0,Ext E0 E H0 H->Rep K H0 d v->D.rt v H
 | .ret (.own es)=>∀a xs H H0,Ext E0 E H0 H->E a=none->H0 a=none->H a=some (.lst xs)->Reps K H0 es xs->D.rt (.ref a) H
noncomputable def tS(K:uW)(F:CO Fl):TS:=λD σ H=>∃E0 E H0 γ z,RS K E0 E H0 H σ γ/\F γ=some z/\Sat K E0 E D z
abbrev PSD(X:Cx)(st:Stmt)(F:CO Fl):Prop:=PS X st (tS X.K F)
abbrev aU(X:Cx)(sts:List Stmt)(F:CO Fl):Prop:=PSs X sts (tS X.K F)
section
variable{K:uW}{E0 E H0 H H0' H':Hp}{σ:St}{γ:Ctx}
theorem RS.step(r:RS K E0 E H0 H σ γ)(e:Ext H0 H H0' H'):RS K E0 E H0' H' σ γ:=⟨r.rc.ext e,r.ext.trans e,r.fresh,λi rows a xs h1 h2 B=>by obtain⟨I,bs,z,g2,_⟩:=r.rc.nst.1 i rows h1;rw[h2]at z;cases z;have:=e.s1 a _ g2.ha;rw[B]at this;cases this;exact r.fr2 i rows a _ h1 h2 g2.ha⟩
theorem zv{α:Type}{l:List α}{i j:Nat}{x y:α}(h:(l.set i x)[j]? = some y):(j=i/\y=x/\i<l.length)\/(j≠i/\l[j]? = some y):=by
 by_cases e:i=j
 ·subst e
  by_cases z:i<l.length
  ·rw[Ar z]at h;cases h;exact .inl ⟨rfl,rfl,z⟩
  ·rw[List.set_eq_of_length_le ⋯]at h
   exact absurd (Af.mp h).1 z
 ·rw[Ac e]at h;exact .inr ⟨AR e,h⟩
theorem NestOk.setVal{i:Nat}{d:D}{v:V}(n:NestOk K H0 H σ γ):NestOk K H0 H (σ.set i<|some v) (γ.set i<|.val d):=
 ⟨λj rows e=>by
  rcases zv e with⟨_,z,_⟩ | ⟨I,z⟩
  ·cases z
  ·obtain⟨a,bs,h1,h2,M⟩:=n.1 j rows z
   refine⟨a,bs,by rw[Ac (AR I)];exact h1,h2,λk ds c e1 e2=>?_⟩;rcases zv e1 with⟨_,z,_⟩ | ⟨O,B⟩
   ·cases z
   ·rw[Ac (AR O)]at e2;exact M k ds c B e2,
 λj k R U e1 e2=>by
  rcases zv e1 with⟨_,z,_⟩ | ⟨_,B⟩
  ·cases z
  ·rcases zv e2 with⟨_,z,_⟩ | ⟨_,W⟩
   ·cases z
   ·exact n.2 j k R U B W⟩
theorem RC.setVal{i:Nat}{d:D}{v:V}(r:RC K H0 H σ γ)(h:Rep K H0 d v):RC K H0 H (σ.set i<|some v) (γ.set i<|.val d):=by
 refine⟨r.sub,by simp[r.len],λj d' e=>?_,λj ds e=>?_,λj k a ds es e1 e2 M O=>?_,r.nst.setVal⟩
 ·rcases zv e with⟨rfl,z,R⟩ | ⟨B,z⟩
  ·cases z;exact⟨v,Ar (by rw[r.len];exact R),h⟩
  ·obtain⟨U,I,g2⟩:=r.val j d' z
   exact⟨U,by rw[Ac (AR B)];exact I,g2⟩
 ·rcases zv e with⟨rfl,z,R⟩ | ⟨B,z⟩
  ·cases z
  ·obtain⟨a,xs,I,g2⟩:=r.own j ds z
   exact⟨a,xs,by rw[Ac (AR B)];exact I,g2⟩
 ·rcases zv e1 with⟨_,z,_⟩ | ⟨B,W⟩
  ·cases z
  ·rcases zv e2 with⟨_,z,_⟩ | ⟨Y,z2⟩
   ·cases z
   ·rw[Ac (AR B)]at M
    rw[Ac (AR Y)]at O;exact r.ne j k a ds es W z2 M O
theorem RS.setVal{i:Nat}{d:D}{v:V}(r:RS K E0 E H0 H σ γ)(h:Rep K H0 d v):RS K E0 E H0 H (σ.set i<|some v) (γ.set i<|.val d):=
 ⟨r.rc.setVal h,r.ext,λj ds a e1 e2=>by
  rcases zv e1 with⟨_,z,_⟩ | ⟨B,z⟩
  ·cases z
  ·rw[Ac (AR B)]at e2;exact r.fresh j ds a z e2,
 λj rows a xs e1 e2 I=>by
  rcases zv e1 with⟨_,z,_⟩ | ⟨B,z⟩
  ·cases z
  ·rw[Ac (AR B)]at e2;exact r.fr2 j rows a xs z e2 I⟩
theorem xT : ∀{z bs:List Addr},z.map V.ref=bs.map V.ref->z=bs
 | [],[],_=>rfl
 | [],_::_,h=>by cases h
 | _::_,[],h=>by cases h
 | a::z,b::bs,h=>by rw[Ba,Ba]at h;injection h with h1 h2;injection h1 with h1;rw[h1,xT h2]
theorem RS.setOwn{i:Nat}{es:List D}{a:Addr}{xs:List V}{G0 G:Hp}(r:RS K E0 E G0 G σ γ)(e:Ext G0 G H0 H)(h1:G a=none)(h2:H0 a=none)(h3:H a=some (.lst xs))(h4:Reps K H0 es xs) :
 RS K E0 E H0 H (σ.set i<|some (.ref a)) (γ.set i<|.own es):=by
 have rc:=r.rc.ext e;have no : ∀(j:Nat) ds,γ[j]? = some (.own ds)->¬σ[j]? = some (some (.ref a)):=λj ds g z=>by obtain⟨b,ys,B,g2,W,_⟩:=r.rc.own j ds g;rw[z]at B;cases B;rw[h1]at W;cases W
 refine⟨⟨rc.sub,by simp[rc.len],λj d' g=>?_,λj ds g=>?_,λj k b ds fs e1 e2 O R=>?_,⟨λj rows g=>?_,λj k r1 r2 B g2=>?_⟩⟩,r.ext.trans e,λj ds b B g2=>?_,λj rows b xs B g2 W=>?_⟩
 ·rcases zv g with⟨_,z,_⟩ | ⟨I,z⟩
  ·cases z
  ·obtain⟨v',B,g2⟩:=rc.val j d' z
   exact⟨v',by rw[Ac (AR I)];exact B,g2⟩
 ·rcases zv g with⟨rfl,z,M⟩ | ⟨I,z⟩
  ·cases z;exact⟨a,xs,Ar (by rw[rc.len];exact M),h2,h3,h4⟩
  ·obtain⟨b,ys,B,g2⟩:=rc.own j ds z
   exact⟨b,ys,by rw[Ac (AR I)];exact B,g2⟩
 ·rcases zv e1 with⟨rfl,z,M⟩ | ⟨I,U⟩
  ·rcases zv e2 with⟨rfl,_,_⟩ | ⟨Y,z2⟩
   ·rfl
   ·rw[Ar (by rw[rc.len];exact M)]at O
    rw[Ac (AR Y)]at R;cases O;exact absurd R<|no k fs z2
  ·rcases zv e2 with⟨rfl,z,M⟩ | ⟨Y,z2⟩
   ·rw[Ar (by rw[rc.len];exact M)]at R
    rw[Ac (AR I)]at O;cases R;exact absurd O<|no j ds U
   ·rw[Ac (AR I)]at O
    rw[Ac (AR Y)]at R;exact rc.ne j k b ds fs U z2 O R
 ·rcases zv g with⟨_,z,_⟩ | ⟨I,z⟩
  ·cases z
  ·obtain⟨b,bs,B,g2,W⟩:=r.rc.nst.1 j rows z
   obtain⟨b',a1,f1,f2,f3⟩:=rc.nst.1 j rows z;rw[B]at f1;cases f1;have eb:a1.map V.ref=bs.map V.ref:=by have:=e.s1 b _ g2.ha;rw[f2.ha]at this;injection this with this;injection this
   have ag:a1=bs:=xT eb;subst ag;refine⟨b,a1,by rw[Ac (AR I)];exact B,f2,λk ds c e1 e2=>?_⟩;rcases zv e1 with⟨rfl,_,M⟩ | ⟨Y,U⟩
   ·rw[Ar (by rw[rc.len];exact M)]at e2;cases e2
    intro hm;obtain⟨_,an,q⟩:=g2.at hm;rw[h1]at q;cases q
   ·rw[Ac (AR Y)]at e2;exact f3 k ds c U e2
 ·rcases zv B with⟨_,z,_⟩ | ⟨_,U⟩
  ·cases z
  ·rcases zv g2 with⟨_,z,_⟩ | ⟨_,z2⟩
   ·cases z
   ·exact rc.nst.2 j k r1 r2 U z2
 ·rcases zv B with⟨rfl,z,M⟩ | ⟨I,z⟩
  ·rw[Ar (by rw[rc.len];exact M)]at g2;cases g2
   cases q:E a with
   | none=>rfl
   | some o=>rw[r.ext.s1 a o q]at h1;cases h1
  ·rw[Ac (AR I)]at g2;exact r.fresh j ds b z g2
 ·rcases zv B with⟨_,z,_⟩ | ⟨I,z⟩
  ·cases z
  ·rw[Ac (AR I)]at g2;exact(r.step e).fr2 j rows b xs z g2 W
theorem RS.rewrite{i:Nat}{ds es:List D}{a:Addr}{xs ys:List V}(r:RS K E0 E H0 H σ γ)(hi:γ[i]? = some (.own ds))(I:σ[i]? = some (some (.ref a)))(h4:Reps K H0 es ys) :
 RS K E0 E H0 (upd H a<|.lst ys) σ (γ.set i<|.own es):=by
 obtain⟨a',ag,g1,g2,g3,g4⟩:=r.rc.own i ds hi;rw[I]at g1;cases g1;have ao:i<γ.length:=(Af.mp hi).1;refine⟨⟨λb o q=>?_,by simp[r.rc.len],λj d' g=>?_,λj fs g=>?_,λj k b fs gs e1 e2 U e4=>?_,⟨λj rows g=>?_,λj k r1 r2 e1 e2=>?_⟩⟩,⟨r.ext.s0,λb o q=>?_,λb o q=>?_,r.ext.new⟩,λj fs b e1 e2=>?_,λj rows b zs e1 e2 U=>?_⟩
 ·rw[zI (λz=>by rw[z,g2]at q;cases q)];exact r.rc.sub b o q
 ·rcases zv g with⟨_,z,_⟩ | ⟨W,z⟩
  ·cases z
  ·exact r.rc.val j d' z
 ·rcases zv g with⟨rfl,z,hl⟩ | ⟨W,z⟩
  ·cases z;exact⟨a,ys,I,g2,zM,h4⟩
  ·obtain⟨b,zs,B,M,O,f4⟩:=r.rc.own j fs z
   refine⟨b,zs,B,M,?_,f4⟩;rw[zI (λq=>W<|r.rc.ne j i a fs ds z hi (by rw[B,q]) I)];exact O
 ·have c1 : ∃fs',γ[j]? = some (.own fs'):=by
   rcases zv e1 with⟨q,_,_⟩ | ⟨_,z⟩
   ·exact⟨ds,by rw[q];exact hi⟩
   ·exact⟨fs,z⟩
  have c2 : ∃fs',γ[k]? = some (.own fs'):=by
   rcases zv e2 with⟨q,_,_⟩ | ⟨_,z⟩
   ·exact⟨ds,by rw[q];exact hi⟩
   ·exact⟨gs,z⟩
  obtain⟨B,R⟩:=c1;obtain⟨M,Y⟩:=c2;exact r.rc.ne j k b B M R Y U e4
 ·rcases zv g with⟨_,z,_⟩ | ⟨W,z⟩
  ·cases z
  ·obtain⟨b,bs,B,M,O⟩:=r.rc.nst.1 j rows z
   have a2:=O i ds a hi I;refine⟨b,bs,B,M.move (Same.refl _) (λc hc=>(M.at hc).1)<|λc hc=>zI λq=>a2<|q ▸ hc,λk fs c e1 e2=>?_⟩;rcases zv e1 with⟨q,_,_⟩ | ⟨_,R⟩
   ·rw[q,I]at e2;cases e2;exact a2
   ·exact O k fs c R e2
 ·rcases zv e1 with⟨_,z,_⟩ | ⟨_,R⟩
  ·cases z
  ·rcases zv e2 with⟨_,z,_⟩ | ⟨_,Y⟩
   ·cases z
   ·exact r.rc.nst.2 j k r1 r2 R Y
 ·rw[zI (λz=>by rw[z,r.fresh i ds a hi I]at q;cases q)];exact r.ext.s1 b o q
 ·rw[zI (λz=>by rw[z,g2]at q;cases q)];exact r.ext.sub b o q
 ·rcases zv e1 with⟨q,_,_⟩ | ⟨_,z⟩
  ·rw[q]at e2;exact r.fresh i ds b hi e2
  ·exact r.fresh j fs b z e2
 ·rcases zv e1 with⟨_,z,_⟩ | ⟨W,z⟩
  ·cases z
  ·obtain⟨b',bs,B,M,O⟩:=r.rc.nst.1 j rows z
   rw[e2]at B;cases B;rw[zI (show b≠a from λq=>O i ds a hi I<|by rw[q];exact Ai)]at U;exact r.fr2 j rows b zs z e2 U
end
section
variable{X:Cx}{e a b c:Expr}{pos:Pos}{st:Stmt}{xk:List Stmt}
theorem zH:aU X [] jo:=dz fH λD σ H z=>by obtain⟨E0,E,H0,γ,O,B,I,M⟩:=z;cases I;exact M σ H H0 B
theorem zf{F G:CO Fl}(h1:PSD X st F)(h2:aU X xk G):aU X (st::xk) (zN F G):=dz (bL h1 h2) λD σ H M=>by
 obtain⟨E0,E,H0,γ,O,R,z,B⟩:=M;obtain⟨I,e1,z⟩:=zc z;refine⟨E0,E,H0,γ,I,R,e1,?_⟩;cases I with
 | next γ'=>exact λσ' H' H0' U=>⟨E0,E,H0',γ',O,U,z,B⟩
 | brk γ'=>cases z;exact B
 | cont γ'=>cases z;exact B
 | ret r=>cases z;cases r<;>exact B
theorem zk(h1:PSD X st F):aU X [st] F:=Ws h1
theorem zy(h:o.map f=some y) : ∃x,o=some x/\f x=y:=by
 cases o with
 | none=>cases h
 | some x=>exact⟨x,rfl,by simpa using h⟩
theorem zw{f:CO D}(h:PV X e f):PSD X (.Return (some e) pos) (jH f):=kA (Wu h) λD σ H I=>by obtain⟨E0,E,H0,γ,O,B,z,M⟩:=I;obtain⟨d,e1,z⟩:=zy z;subst z;exact⟨H0,γ,d,B.rc,e1,λv H' H0' x r=>M v H' H0' (B.ext.trans x) r⟩
theorem wu{f:CO (List D)}(h:PO X e f):PSD X (.Return (some e) pos) (Xb f):=kA (Wu h) λD σ H I=>by
 obtain⟨E0,E,H0,γ,R,z,B,M⟩:=I;obtain⟨ds,e1,B⟩:=zy B;subst B;refine⟨H0,γ,ds,z.rc,e1,λa xs H' H0' x h1 h2 O r=>M a xs H' H0' (z.ext.trans x) ?_ h2 O r⟩;cases q:E a with
 | none=>rfl
 | some o=>rw[z.ext.s1 a o q]at h1;cases h1
theorem Yt(i:Nat)(h:PE X e (gV i)):PSD X (.Return (some e) pos) (V1 i):=kA (Wu h) λD σ H M=>by
 obtain⟨E0,E,H0,γ,U,B,z,I⟩:=M;unfold V1 at z;cases e1:γ[i]? with
 | none=>rw[e1]at z;cases z
 | some c=>
  rw[e1]at z;cases c with
  | no=>cases z
  | val d=>
   cases z;obtain⟨v,h1,h2⟩:=B.rc.val i d e1;exact⟨v,h1,I v H H0 B.ext h2⟩
  | nest rows=>cases z
  | own ds=>
   cases z;obtain⟨a,xs,h1,h2,O,R⟩:=B.rc.own i ds e1;exact⟨_,h1,I a xs H H0 B.ext (B.fresh i ds a e1 h1) h2 O R⟩
theorem jN:PSD X st qD:=kA bP λD σ H ⟨E0,E,H0,γ,B,I,z,M⟩=>by cases z
theorem je{k:CO Bool}{F G:CO Fl}{x y:List Stmt}(O:PTD X c k)(ha:aU X x F)(R:aU X y G):PSD X (.If c x y pos) (sIf k F G):=kA (pf O ha R) λD σ H U=>by
 obtain⟨E0,E,H0,γ,I,B,z,M⟩:=U;obtain⟨t,e1,z⟩:=zc z;refine⟨H0,γ,t,B.rc,e1,λH' H0' x=>?_⟩;cases t with
 | true=>rw[GY rfl]at z ⊢;exact⟨E0,E,H0',γ,I,B.step x,z,M⟩
 | false=>rw[MQ Ay]at z ⊢;exact⟨E0,E,H0',γ,I,B.step x,z,M⟩
theorem Wt(i:Nat){f:CO D}(h:PS X st (aW (tV X.K f)<|yX i)):PSD X st (jM i f):=kA h λD σ H I=>by obtain⟨E0,E,H0,γ,O,B,z,M⟩:=I;obtain⟨d,e1,z⟩:=zy z;subst z;exact⟨H0,γ,d,B.rc,e1,λv H' H0' x r=>M _ _ H0'<|(B.step x).setVal r⟩
theorem Ys(i:Nat){f:CO (List D)}(h:PS X st (aW (tO X.K f)<|yX i)):PSD X st (v9 i f):=kA h λD σ H I=>by obtain⟨E0,E,H0,γ,R,B,z,M⟩:=I;obtain⟨ds,e1,z⟩:=zy z;subst z;exact⟨H0,γ,ds,B.rc,e1,λa xs H' H0' x h1 h2 O r=>M _ _ H0'<|B.setOwn x h1 h2 O r⟩
theorem kJ(h:xA o=some ds):o=some (.own ds):=by
 cases o with
 | none=>cases h
 | some c=>cases c<;>simp[xA]at h;rw[h]
theorem Y3(i:Nat){f:CO D}(h:PE X e (tBM X.K "list" Wi (gV i) (iu (tV X.K f) rW)))(R:swapsWith e none pos.line X.env=pure false:=by rfl):PSD X (.Expr e pos) (j8 i f):=
 kA (Wv h R) λD σ H U=>by
  obtain⟨E0,E,H0,γ,fl,B,z,W⟩:=U;obtain⟨ds,e1,z⟩:=zc z;obtain⟨d,e2,z⟩:=zc z;have e1:=kJ e1;by_cases I:ds.length<lim
  ·rw[GY I]at z;cases z
   obtain⟨a,xs,h1,h2,M,O⟩:=B.rc.own i ds e1;refine⟨_,h1,.inl ⟨rfl,_,SqL.of M⟩,H0,γ,d,B.rc,e2,λv H' H0' x r=>?_⟩;have Y:=B.step x;have a0:=x.s1 _ _ M;refine⟨a,xs,v,rfl,rfl,a0,?_,?_⟩
   ·exact Ap (by rw[O.length];exact I)<|kF<|Ak _
   ·exact W _ _ H0'<|Y.rewrite (xs:=xs) e1 h1<|(O.mono x.s0).append (Reps.cons r Reps.nil)
  ·rw[MQ I]at z;cases z
end
noncomputable def uH(K:uW)(H0 H:Hp)(Q:VK):Res->Prop
 | .val d=>∀v H' H0',Ext H0 H H0' H'->Rep K H0' d v->Q v H'
 | .own es=>∀a xs H' H0',Ext H0 H H0' H'->H a=none->H0' a=none->H' a=some (.lst xs)->Reps K H0' es xs->Q (.ref a) H'
noncomputable def spF(K:uW)(n:Nat)(F:List D->Option Res):Sp:=λvs H Q _=>∃H0 ds r,Same H0 H/\Reps K H0 ds vs/\ds.length=n/\F ds=some r/\uH K H0 H Q r
theorem spF.len{K:uW}{n:Nat}{F:List D->Option Res}{ps:List Str}(hn:ps.length=n) : ∀vs H Q E,spF K n F vs H Q E->vs.length=ps.length:=λvs H Q E h=>by obtain⟨H0,ds,r,_,h1,h2,_⟩:=h;rw[h1.length,h2,hn]
section
variable{P:Program}{w:World}{K:uW}{mg:GJ}{base:Heap}
theorem bG(s:Same H0 H)(h:Reps K H0 ds vs)(hn:ds.length<=N.length):RS K H0 H H0 H (wK N vs) (zU N.length ds):=by
 have z:=h.length;refine⟨⟨s,by simp[L2.wK,zU,z],λi d e=>?_,λi es e=>?_,λi j a es fs e _ _ _=>?_,NestOk.nil0 λi rows e=>?_⟩,Ext.refl s,λi es a e _=>?_,λi rows a xs e _ _=>?_⟩
 all_goals unfold zU at e
 ·by_cases hi:i<ds.length
  ·rw[AD (by simpa using hi),AK]at e
   cases e1:ds[i]? with
   | none=>rw[e1]at e;cases e
   | some d'=>
    rw[e1]at e;cases e;obtain⟨x,B,g2⟩:=h.get e1;refine⟨x,?_,g2⟩;unfold L2.wK;rw[AD (by simp;omega),AK,B];rfl
  ·rw[AA (by simpa using hi),CI]at e
   split at e<;>cases e
 all_goals
  by_cases hi:i<ds.length
  ·rw[AD (by simpa using hi),AK]at e
   cases e1:ds[i]? with
   | none=>rw[e1]at e;cases e
   | some d'=>rw[e1]at e;cases e
  ·rw[AA (by simpa using hi),CI]at e
   split at e<;>cases e
theorem my{x qual:Str}{st:Stmt}{f:Addr}{fd:FuncData}{N ps:List Str}{k:Nat}{F:CO Fl}(I:L2.Fun K x qual st f fd)(S:FnScope N ps (jh st))
 (M : ∀(cdv:Value) (A:Around) (outer:List Env) (s:Shared) (H:Hp) (E:XK),Room k (A.deeper<|envOfC qual (jh st) s.heap.objs.size f cdv)->aU (gB CX0 P w K mg base N qual (jh st) f cdv A outer s H E).nox (xW st) F) :
 FnOk P w K mg base CX0 (k+1) f fd ps (spF K ps.length<|zY N.length F):=by
 refine I.ok S (spF.len rfl)<|λcdv A outer s H vs Q E O h=>⟨_,M cdv A outer s H E O,?_⟩;obtain⟨H0,ds,r,s0,h1,h2,R,z⟩:=h;obtain⟨B,e1,e2⟩:=zc R;have W:ps.length<=N.length:=by have:=congrArg Fw S.pre;rw[EZ]at this;omega
 refine⟨H0,H,H0,zU N.length ds,B,bG s0 h1 ⋯,e1,?_⟩;cases B with
 | ret Y=>cases e2;cases r<;>exact z
 | next γ=>cases e2;exact λσ' H' H0' U=>z .non H' H0' U.ext (show V.non = .non from rfl)
 | brk γ=>cases e2
 | cont γ=>cases e2
end
section
variable{X:Cx}{es:List Expr}{pos p:Pos}{k:Nat}{f:Addr}{fd:FuncData}{ps:List Str}{x:Str}{F:List D->Option Res}{g:CO (List D)}
theorem fG{A0:List Expr}(G:FnOk X.prog X.w X.K X.mg X.base CX0 k f fd ps (spF X.K ps.length F))(ha:PAD X es g)(R : ∀γ ds,g γ=some ds->ds.length=ps.length)
 (U : ∀{t:TA},PA X es t->PE X (.Call (.Name x p) es [] pos) (eU (spF X.K ps.length F) [] E0 t)):PV X (.Call (.Name x p) es [] pos) (zt F g):=
 jz (U ha) λσ H Q W=>by
  obtain⟨H0,γ,d,rc,z,q⟩:=W;obtain⟨ds,e1,z⟩:=zc z;obtain⟨r,e2,z⟩:=zy z;refine⟨H0,γ,ds,rc,e1,λvs H1 Y x1 r1=>⟨Y,ds,r,x1.sub,by simpa using r1,R γ ds e1,e2,?_⟩⟩;subst z;cases r with
  | val d=>exact λv H' H0' B I=>q v H' H0' (x1.trans B) I
  | own fs=>
   refine λa xs H' H0' B h1 h2 h3 I=>q _ H' _ (x1.trans<|B.show h1 h2 h3 x1.sub) ?_;exact(show ∃M O,V.ref a = .ref M/\SqL X.K _ M O/\Reps X.K _ fs O from⟨a,xs,rfl,SqL.of zM,I.mono<|zV h2 _⟩)
theorem fN(G:FnOk X.prog X.w X.K X.mg X.base CX0 k f fd ps (spF X.K ps.length F))(ha:PAD X es g)(I : ∀γ ds,g γ=some ds->ds.length=ps.length)
 (M : ∀{t:TA},PA X es t->PE X (.Call (.Name x p) es [] pos) (eU (spF X.K ps.length F) [] E0 t)):PO X (.Call (.Name x p) es [] pos) (kf F g):=
 jz (M ha) λσ H Q O=>by
  obtain⟨H0,γ,fs,rc,B,q⟩:=O;obtain⟨ds,e1,B⟩:=zc B;obtain⟨r,e2,B⟩:=zc B;refine⟨H0,γ,ds,rc,e1,λvs H1 R x1 U=>⟨R,ds,r,x1.sub,by simpa using U,I γ ds e1,e2,?_⟩⟩;cases r with
  | val d=>cases B
  | own gs=>
   cases B;exact λa xs H' H0' W h1 h2 Y r2=>q a xs H' H0' (x1.trans W) (by
    cases z:H a with
    | none=>rfl
    | some o=>rw[x1.s1 a o z]at h1;cases h1) h2 Y r2
end
structure Walk(K:uW)(H0 Hs:Hp)(J:It)(ds:List D):Prop where
 go : ∀i H1,Same Hs H1->i<ds.length->J.go i H1
 stop : ∀H1,Same Hs H1->J.stop ds.length H1
 yld : ∀i H1 x H1',Same Hs H1->i<ds.length->J.yld i H1 x H1'->∃d,ds[i]? = some d/\∀G0,Same H0 G0->Same G0 H1->∃G0',Ext G0 H1 G0' H1'/\Rep K G0' d x
theorem Walk.weak{K:uW}{H0 Hs z:Hp}{J:It}{ds:List D}(w:Walk K H0 Hs J ds)(s:Same Hs z):Walk K H0 z J ds:=
 ⟨λi H1 h=>w.go i H1<|s.trans h,λH1 h=>w.stop H1<|s.trans h,λi H1 x H1' h=>w.yld i H1 x H1'<|s.trans h⟩
theorem Jm{k:Sk}{K:uW}{H0 Hs:Hp}{a:Addr}{xs:List V}{ds:List D}(h:SqK k K Hs a xs)(r:Reps K H0 ds xs):Walk K H0 Hs (Itk k K a) ds:=by
 have I:=r.length;refine⟨λi H1 s hi=>?_,λH1 s=>?_,λi H1 x H1' s hi y=>?_⟩
 ·have z:i<xs.length:=by omega
  cases k with
  | L=>exact⟨xs,xs[i],s.seq h,Ae z⟩
  | T=>exact⟨xs,xs[i],sameT s h,Ae z⟩
 ·cases k with
  | L=>exact⟨xs,s.seq h,by omega⟩
  | T=>exact⟨xs,sameT s h,by omega⟩
 ·have e:H1'=H1/\xs[i]? = some x:=by
   cases k with
   | L=>exact⟨y.1,y.2 xs<|s.seq h⟩
   | T=>exact⟨y.1,y.2 xs<|sameT s h⟩
  obtain⟨e1,e2⟩:=e;subst e1;obtain⟨d,hd,B⟩:=r.getV e2;exact⟨d,hd,λG0 s1 s2=>⟨G0,Ext.refl s2,B.mono s1⟩⟩
theorem vn(lo:Int)(n:Nat):(xH lo n).length=n:=by simp[xH]
theorem ZN{K:uW}{H0 Hs:Hp}(lo:Int)(n:Nat):Walk K H0 Hs (Itr lo n) (xH lo n):=by
 refine⟨λi H1 s hi=>?_,λH1 s=>?_,λi H1 x H1' s hi y=>?_⟩
 ·rw[vn]at hi;exact hi
 ·rw[vn];exact Ak _
 ·rw[vn]at hi
  obtain⟨e1,e2⟩:=y;subst e1 e2;exact⟨.int<|lo+i,by simp[xH,hi],λG0 s1 s2=>⟨G0,Ext.refl s2,(show V.int (lo+i) = .int (lo+i)from rfl)⟩⟩
theorem bh{B I:Sk}{K:uW}{H0 Hs:Hp}{a b:Addr}{xs ys:List V}{ds es:List D}(h1:SqK B K Hs a xs)(M:Reps K H0 ds xs)(h2:SqK I K Hs b ys)(O:Reps K H0 es ys) :
 Walk K H0 Hs (Itz B I K a b) (Jk ds es):=by
 have l1:=M.length;have l2:=O.length;have W:(Jk ds es).length=min ds.length es.length:=by simp[Jk]
 refine⟨λi H1 s hi=>?_,λH1 s=>?_,λi H1 x H1' s hi y=>?_⟩
 ·exact⟨xs,ys,xF s h1,xF s h2,by omega,by omega⟩
 ·refine⟨xs,ys,xF s h1,xF s h2,?_⟩
  rw[W];omega
 ·obtain⟨p,u,v,e1,z,e2,Y,g2⟩:=y
  obtain⟨d,hd,hr⟩:=M.getV<|Y xs<|xF s h1;obtain⟨c,hc,a2⟩:=O.getV<|g2 ys<|xF s h2;refine⟨.tup [d,c],?_,λG0 s1 s2=>⟨upd G0 p<|.tup [u,v],?_,?_⟩⟩
  ·have a3:(ds.zip es)[i]? = some (d,c):=EC.mpr ⟨hd,hc⟩
   simp[Jk,a3]
  ·rw[e2];exact Ext.alloc s2 z _
  ·rw[e1]
   exact(show ∃R U,V.ref p = .ref R/\SqT K _ R U/\Reps K _ [d,c] U from⟨p,[u,v],rfl,SqT.of zM,Reps.cons ((hr.mono s1).mono (zV (js s2 z) _))<|Reps.cons ((a2.mono s1).mono (zV (js s2 z) _)) Reps.nil⟩)
noncomputable def tIc(K:uW)(src:CO (List D)):TI:=λσ H R=>∃H0 γ ds,RC K H0 H σ γ/\src γ=some ds/\∀J H' H0',Ext H0 H H0' H'->Walk K H0' H' J ds->R J H'
noncomputable def tIf(K:uW)(src:CO (List D)):TI:=λσ H R=>∃H0 γ ds,RC K H0 H σ γ/\src γ=some ds/\∀J H' H0',Ext H0 H H0' H'->Walk K H0' H0' J ds->R J H'
abbrev PIC(X:Cx)(tg e:Expr)(src:CO (List D)):Prop:=PI X tg e (tIc X.K src)
abbrev PIF(X:Cx)(tg e:Expr)(src:CO (List D)):Prop:=PI X tg e (tIf X.K src)
section
variable{X:Cx}{tg e a b:Expr}{pos p:Pos}
theorem PIF.c(h:PIF X tg e src):PIC X tg e src:=w6 h λσ H R ⟨H0,γ,ds,rc,z,q⟩=>⟨H0,γ,ds,rc,z,λJ H' H0' x w=>q J H' H0' x<|w.weak x.sub⟩
theorem zZ(h:PQ X e f):PIC X tg e (zP f):=w6 (WB h) λσ H R z=>by obtain⟨H0,γ,ds,rc,B,q⟩:=z;obtain⟨⟨k,es⟩,e1,e2⟩:=zy B;subst e2;exact⟨H0,γ,k,es,rc,e1,λa xs H' H0' x h1 _ r=>⟨a,k,rfl,⟨xs,h1⟩,q _ H' H0' x<|Jm h1 r⟩⟩
theorem fR(h:PV X e f):PIF X tg e (zP<|zT f):=w6 (WB h) λσ H R B=>by
 obtain⟨H0,γ,ds,rc,I,q⟩:=B;obtain⟨⟨k,es⟩,e1,e2⟩:=zy I;subst e2;obtain⟨d,M,e1⟩:=zc e1;refine⟨H0,γ,d,rc,M,λv H' H0' x r=>?_⟩;cases d with
 | tup fs=>
  obtain⟨e2,z⟩:k = .T/\es=fs:=by simp[jf]at e1;exact⟨e1.1.symm,e1.2.symm⟩
  subst e2 z;obtain⟨a,xs,rfl,h1,h2⟩:=(show ∃a xs,v = .ref a/\SqT X.K H0' a xs/\Reps X.K H0' es xs from r);exact⟨a,.T,rfl,⟨xs,sameT x.sub h1⟩,q _ H' H0' x<|Jm (k:= .T) h1 h2⟩
 | lst fs=>
  obtain⟨e2,z⟩:k = .L/\es=fs:=by simp[jf]at e1;exact⟨e1.1.symm,e1.2.symm⟩
  subst e2 z;obtain⟨a,xs,rfl,h1,h2⟩:=(show ∃a xs,v = .ref a/\SqL X.K H0' a xs/\Reps X.K H0' es xs from r);exact⟨a,.L,rfl,⟨xs,x.sub.seq h1⟩,q _ H' H0' x<|Jm (k:= .L) h1 h2⟩
 | _=>simp[jf]at e1
theorem jY(h:asI d=some i):d = .int i:=by cases d<;>simp[asI]at h;rw[h]
theorem JS(h:inR i=true) : -(2 ^ 62)<=i/\i<2 ^ 62:=by unfold inR at h;have h:=of_decide_eq_true h;omega
theorem Y7(I:Gl X "range")(hm:X.mg "range" = none)(ha:PV X a f)(B:starEach [a] X.env=[(false,eval a X.env)]:=by rfl):PIF X tg (.Call (.Name "range" p) [a] [] pos) (zK f):=
 w6 (WD I hm (z9 ha j1 B) B) λσ H R M=>by
  obtain⟨H0,γ,ds,rc,z,q⟩:=M;obtain⟨n,e1,z⟩:=zc z;obtain⟨d,O,e1⟩:=zc e1;by_cases hn:inR n=true
  ·rw[GY hn]at z;cases z
   refine⟨H0,γ,d,rc,O,λv H' H0' x r=>?_⟩;rw[jY e1]at r;obtain⟨h1,h2⟩:=JS hn;exact⟨n,by rw[show v = .int n from r],h1,h2,q _ H' H0' x<|ZN 0 n.toNat⟩
  ·rw[MQ hn]at z;cases z
theorem Y6(U:Gl X "range")(hm:X.mg "range" = none)(ha:PV X a f)(W:PV X b g)(M:starEach [a,b] X.env=[(false,eval a X.env),(false,eval b X.env)]:=by rfl)(B:starEach [b] X.env=[(false,eval b X.env)]:=by rfl) :
 PIF X tg (.Call (.Name "range" p) [a,b] [] pos) (Jt f g):=
 w6 (WC U hm (z9 ha (z9 W j1 B)<|by rw[M,B]) M B) λσ H R Y=>by
  obtain⟨H0,γ,ds,rc,z,q⟩:=Y;obtain⟨m,e1,z⟩:=zc z;obtain⟨d,e0,e1⟩:=zc e1;obtain⟨n,I,z⟩:=zc z;obtain⟨c,e2,I⟩:=zc I;by_cases hn:inR m=true/\inR n=true
  ·rw[GY hn]at z;cases z
   refine⟨H0,γ,d,rc,e0,λv H' H0' x r=>⟨H0',γ,c,rc.ext x,e2,λv2 H2 a2 x2 O=>?_⟩⟩;rw[jY e1]at r;rw[jY I]at O;obtain⟨h1,h2⟩:=JS hn.1;obtain⟨h3,h4⟩:=JS hn.2;exact⟨m,n,by rw[show v = .int m from r,show v2 = .int n from O],⟨h1,h2,h3,h4⟩,q _ H2 a2 (x.trans x2)<|ZN m (n - m).toNat⟩
  ·rw[MQ hn]at z;cases z
theorem wQ{K:uW}{H:Hp}{d:D}{v:V}{k:Sk}{ds:List D}(r:Rep K H d v)(e:jf d=some (k,ds)) : ∃a xs,v = .ref a/\SqK k K H a xs/\Reps K H ds xs:=by
 cases d with
 | tup fs=>simp[jf]at e;obtain⟨e1,e2⟩:=e;subst e1 e2;exact r
 | lst fs=>simp[jf]at e;obtain⟨e1,e2⟩:=e;subst e1 e2;exact r
 | _=>simp[jf]at e
theorem fQ{f g:CO D}{elts:List Expr}{x1:Nat}{tpos:Pos}(Y:Gl X "zip")(hm:X.mg "zip" = none)(ha:PV X a f)(hb:PV X b g)(O:starEach [a,b] X.env=[(false,eval a X.env),(false,eval b X.env)]:=by rfl)(I:starEach [b] X.env=[(false,eval b X.env)]:=by rfl) :
 PIF X (.Tuple elts x1 tpos) (.Call (.Name "zip" p) [a,b] [] pos) (QK f g):=
 w6 (lh Y hm (z9 ha (z9 hb j1 I)<|by rw[O,I]) PyProof.Rows.boot_zip O I) λσ H R hZ=>by obtain⟨H0,γ,ds,rc,z,q⟩:=hZ;obtain⟨⟨k1,m⟩,e1,z⟩:=zc z;obtain⟨d,e0,e1⟩:=zc e1;obtain⟨⟨k2,n⟩,M,z⟩:=zy z;obtain⟨c,e2,M⟩:=zc M;subst z;refine⟨H0,γ,d,rc,e0,λv H' H0' x r=>⟨H0',γ,c,rc.ext x,e2,λv2 H2 a7 B r2=>?_⟩⟩;obtain⟨a1,xs,rfl,U,g2⟩:=wQ (r.mono B.s0) e1;obtain⟨a2,ys,rfl,W,g4⟩:=wQ r2 M;exact⟨k1,k2,a1,a2,rfl,⟨xs,xF B.sub U⟩,⟨ys,xF B.sub W⟩,q _ H2 a7 (x.trans B)<|bh U g2 W g4⟩
end
noncomputable def Yk:List Nat->List V->St->St
 | i::is,v::vs,σ=>Yk is vs<|σ.set i<|some v
 | _,_,σ=>σ
noncomputable def gs:List Nat->TGs
 | []=>sF
 | i::is=>mq (yX i)<|gs is
noncomputable def gOf(K:uW):Tg->TG
 | .nm i=>yX i
 | .tp is=>sE K is.length<|gs is
theorem ae : ∀{is:List Nat} {vs:List V} {σ:St} {H:Hp} {Q:St->Hp->Prop},vs.length=is.length->Q (Yk is vs σ) H->gs is vs σ H Q
 | [],[],_,_,_,_,q=>⟨rfl,q⟩
 | i::is,v::vs,σ,H,Q,hl,q=>⟨v,vs,rfl,ae (by simpa using hl) q⟩
 | [],_::_,_,_,_,hl,_=>by simp at hl
 | _::_,[],_,_,_,hl,_=>by simp at hl
theorem RS.setAll{K:uW}{E0 E H0 H:Hp} : ∀{is:List Nat} {ds:List D} {vs:List V} {σ:St} {γ:Ctx},RS K E0 E H0 H σ γ->Reps K H0 ds vs->RS K E0 E H0 H (Yk is vs σ) (qd is ds γ)
 | [],ds,vs,σ,γ,r,h=>by cases ds<;>cases vs<;>exact r
 | i::is,[],vs,σ,γ,r,h=>by rw[h.inv_nil];exact r
 | i::is,d::ds,vs,σ,γ,r,h=>by obtain⟨x,t,e,h1,h2⟩:=h.inv_cons;subst e;show RS K E0 E H0 H (DL.Yk is t<|σ.set i<|some x) (qd is ds<|γ.set i<|.val d);exact RS.setAll (r.setVal h1) h2
theorem RC.setAll{K:uW}{H0 H:Hp} : ∀{is:List Nat} {ds:List D} {vs:List V} {σ:St} {γ:Ctx},RC K H0 H σ γ->Reps K H0 ds vs->RC K H0 H (Yk is vs σ) (qd is ds γ)
 | [],ds,vs,σ,γ,r,h=>by cases ds<;>cases vs<;>exact r
 | i::is,[],vs,σ,γ,r,h=>by rw[h.inv_nil];exact r
 | i::is,d::ds,vs,σ,γ,r,h=>by obtain⟨x,t,e,h1,h2⟩:=h.inv_cons;subst e;show RC K H0 H (DL.Yk is t<|σ.set i<|some x) (qd is ds<|γ.set i<|.val d);exact RC.setAll (r.setVal h1) h2
theorem Zu{K:uW}{H0 H:Hp}{T:Tg}{d:D}{v:V}{σ:St}{γ z:Ctx}{Q:St->Hp->Prop}(s:Same H0 H)(h:Rep K H0 d v)(e:xl T d γ=some z)
 (q : ∀B,(RC K H0 H σ γ->RC K H0 H B z)->(∀E0 E,RS K E0 E H0 H σ γ->RS K E0 E H0 H B z)->Q B H):gOf K T v σ H Q:=by
 cases T with
 | nm i=>cases e;exact q _ (λr=>r.setVal h) λE0 E r=>r.setVal h
 | tp is=>
  cases d with
  | tup ds=>
   simp only[xl]at e;by_cases I:ds.length=is.length
   ·rw[GY I]at e;cases e
    obtain⟨a,xs,rfl,h1,h2⟩:=(show ∃a xs,v = .ref a/\SqT K H0 a xs/\Reps K H0 ds xs from h);have M:xs.length=is.length:=by rw[h2.length,I]
    exact⟨a,xs,rfl,sameT s h1,M,ae M<|q _ (λr=>r.setAll h2) λE0 E r=>r.setAll h2⟩
   ·rw[MQ I]at e;cases e
  | _=>simp[xl]at e
theorem Ext.rebase{E0 E z H0 H B:Hp}(e:Ext E0 E z B)(x:Ext z E H0 H):Ext E0 E H0 H:=
 ⟨e.s0.trans x.s0,x.s1,x.sub,λa h1 h2=>x.new a (e.new a h1 h2) h2⟩
theorem Ext.base{E0 E z B:Hp}(e:Ext E0 E z B):Ext z E z B:=⟨Same.refl _,e.s1,e.sub,λa h _=>h⟩
theorem Sat.rebase{K:uW}{E0 E I B:Hp}{D:Ends}{z:Fl}(e:Ext E0 E I B)(h:Sat K E0 E D z):Sat K I E D z:=by
 cases z with
 | next γ=>exact λσ H H0 r=>h σ H H0 ⟨r.rc,e.rebase r.ext,r.fresh,r.fr2⟩
 | brk γ=>exact λσ H H0 r=>h σ H H0 ⟨r.rc,e.rebase r.ext,r.fresh,r.fr2⟩
 | cont γ=>exact λσ H H0 r=>h σ H H0 ⟨r.rc,e.rebase r.ext,r.fresh,r.fr2⟩
 | ret r=>
  cases r with
  | val d=>exact λv H H0 x q=>h v H H0 (e.rebase x) q
  | own es=>exact λa xs H H0 x h1 h2 M q=>h a xs H H0 (e.rebase x) h1 h2 M q
section
variable{X:Cx}{tg iter:Expr}{body:List Stmt}{pos:Pos}
theorem fJ{src:CO (List D)}{T:Tg}{F:CO Fl}(hp:PassesOwn (model X.prog X.w) X.A X.env X.xe)(hc:X.calm=true)(hi:PIF X tg iter src)(hg:PG X tg (gOf X.K T))(hb:aU X body F)
 (hs : ∀x,foldedSetIterable iter X.env x=pure x:=by intro _;rfl):PSD X (.For tg iter body [] pos) (Ke src T F):=
 kA (dA hp hc hi hg hb hs) λD σ H hZ=>by
  obtain⟨E0,E,H0,γ,B,I,z,O⟩:=hZ;obtain⟨ds,e1,z⟩:=zc z;refine⟨H0,γ,ds,I.rc,e1,λJ H1 M x1 Y=>?_⟩;have U:=I.step x1;have ex:=U.ext;refine⟨λi m σ H=>m=ds.length - i/\i<=ds.length/\∃H0 γ B,RS X.K M E H0 H σ γ/\vA T F (ds.drop i) γ=some B/\Sat X.K M E D B,⟨_,rfl,Bt _,M,γ,B,⟨U.rc,ex.base,U.fresh,U.fr2⟩,z,O.rebase ex⟩,?_⟩;rintro i m σ H ⟨rfl,hi,H0,γ,B,I,z,O⟩;have a0:Same M H:=I.ext.s0.trans I.ext.sub;by_cases R:i<ds.length
  ·refine .inr ⟨Y.go i H a0 R,λσ H=>i+1<=ds.length/\∃H0 γ B,RS X.K M E H0 H σ γ/\vA T F (ds.drop<|i+1) γ=some B/\Sat X.K M E D B,λσ' H' n=>⟨ds.length - (i+1),by omega,rfl,n.1,n.2⟩,λx H' y=>?_⟩
   obtain⟨d,hd,hx⟩:=Y.yld i H x H' a0 R y;obtain⟨G0,xg,rg⟩:=hx H0 I.ext.s0 I.rc.sub;have an:ds.drop i=d::ds.drop (i+1):=by
    have ao:d=ds[i]:=by rw[Ae R]at hd;exact(AU hd).symm
    rw[ao];exact BG R
   rw[an]at z;simp only[vA]at z;obtain⟨γ1,eb,z⟩:=zc z;obtain⟨f1,eF,z⟩:=zc z;refine Zu xg.sub rg eb λσ1 _ aw=>⟨M,E,G0,γ1,f1,aw M E<|I.step xg,eF,?_⟩;cases f1 with
   | next W=>exact λσ2 H2 a1 r2=>⟨R,a1,W,B,r2,z,O⟩
   | cont W=>exact λσ2 H2 a1 r2=>⟨R,a1,W,B,r2,z,O⟩
   | brk W=>cases z;exact O
   | ret r=>cases z;cases r<;>exact O
  ·have e:i=ds.length:=by omega
   subst e;rw[Ee]at z;cases z;exact .inl ⟨Y.stop H a0,O σ H H0 I⟩
end
theorem j4(h:(jc n fr γ)[i]? = some c):c = .no\/(∃d j,c = .val d/\n<=i/\fr[i - n]? = some j/\γ[j]? = some (.val d)):=by
 unfold jc at h;by_cases hi:i<n
 ·rw[AD (by simpa using hi),CI,GY hi]at h
  exact .inl (AU h).symm
 ·rw[AA (by simpa using hi),AK,List.length_replicate]at h
  cases e:fr[i - n]? with
  | none=>rw[e]at h;cases h
  | some j=>
   rw[e]at h;have h':xS (γ[j]?.getD .no)=c:=by simpa using h
   cases e2:γ[j]? with
   | none=>rw[e2]at h';exact .inl h'.symm
   | some z=>
    rw[e2]at h';cases z with
    | no=>exact .inl h'.symm
    | own ds=>exact .inl h'.symm
    | nest rows=>exact .inl h'.symm
    | val d=>exact .inr ⟨d,j,h'.symm,by omega,rfl,e2⟩
theorem RC.pull{K:uW}{H0 H:Hp}{σ:St}{γ:Ctx}{own:List Str}{fr:List (Str×Nat)}(r:RC K H0 H σ γ):RC K H0 H (L2.bJ own fr σ) (jc own.length (fr.map (·.2)) γ):=by
 refine⟨r.sub,by simp[L2.bJ,jc],λi d h=>?_,λi ds h=>?_,λi j a ds es h _ _ _=>?_,NestOk.nil0 λi rows h=>?_⟩
 ·rcases j4 h with z | ⟨d',j,z,hi,B,I⟩
  ·cases z
  ·cases z
   obtain⟨v,h1,h2⟩:=r.val j d I;refine⟨v,?_,h2⟩;rw[AK]at B;cases q:fr[i - own.length]? with
   | none=>rw[q]at B;cases B
   | some p=>
    rw[q]at B;have M:p.2=j:=by simpa using B
    unfold L2.bJ;rw[AA (by simpa using hi),AK,AO,q];simp[M,h1]
 ·rcases j4 h with z | ⟨d',j,z,_⟩<;>cases z
 ·rcases j4 h with z | ⟨d',j,z,_⟩<;>cases z
 ·rcases j4 h with z | ⟨d',j,z,_⟩<;>cases z
theorem RC.weak{K:uW}{H0 H:Hp}{σ:St}{γ γ':Ctx}(r:RC K H0 H σ γ)(B:γ'.length=γ.length)(I : ∀(i:Nat) d,γ'[i]? = some (.val d)->γ[i]? = some (.val d))(z : ∀(i:Nat) ds,γ'[i]? ≠ some (.own ds))(M : ∀(i:Nat) rows,γ'[i]? ≠ some (.nest rows)):RC K H0 H σ γ':=
 ⟨r.sub,by rw[B];exact r.len,λi d h=>r.val i d<|I i d h,λi ds h=>absurd h<|z i ds,λi j a ds es h _ _ _=>absurd h<|z i ds,NestOk.nil0 M⟩
theorem RC.upd{K:uW}{H0 H:Hp}{σ:St}{γ:Ctx}{D:Addr}{o:HO}(r:RC K H0 H σ γ)(I:H0 D=none)(B : ∀(i:Nat) ds,γ[i]? ≠ some (.own ds))(M : ∀(i:Nat) rows,γ[i]? ≠ some (.nest rows)):RC K H0 (upd H D o) σ γ:=
 ⟨λb u q=>by rw[zI (λz=>by rw[z,I]at q;cases q)];exact r.sub b u q,r.len,r.val,λi ds h=>absurd h<|B i ds,λi j a ds es h _ _ _=>absurd h<|B i ds,NestOk.nil0 M⟩
theorem wN : ∀{is:List Nat} {ds:List D} {γ:Ctx},(qd is ds γ).length=γ.length
 | [],ds,γ=>by cases ds<;>rfl
 | i::is,[],γ=>rfl
 | i::is,d::ds,γ=>by show(qd is ds<|γ.set i<|.val d).length=_;rw[wN];simp
theorem wO : ∀{is:List Nat} {ds:List D} {γ:Ctx} {i:Nat},i∉is->(qd is ds γ)[i]? = γ[i]?
 | [],ds,γ,i,_=>by cases ds<;>rfl
 | j::is,[],γ,i,_=>rfl
 | j::is,d::ds,γ,i,h=>by show(qd is ds<|γ.set j<|.val d)[i]? = _;rw[wO (λz=>h<|Ah _ z),Ac (λz=>h<|by rw[<- z];exact Ai)]
theorem X4(h:xl T d γ=some γ1):γ1.length=γ.length/\∀i,i∉T.idx->γ1[i]? = γ[i]? :=by
 cases T with
 | nm j=>cases h;exact⟨by simp,λi hi=>Ac<|λz=>hi<|by simp[Tg.idx,z]⟩
 | tp is=>
  cases d with
  | tup ds=>
   simp only[xl]at h;by_cases B:ds.length=is.length
   ·rw[GY B]at h;cases h;exact⟨wN,λi hi=>wO hi⟩
   ·rw[MQ B]at h;cases h
  | _=>simp[xl]at h
section
variable{K:uW}{own:List Str}{fr:List (Str×Nat)}{src:CO (List D)}{T:Tg}{k:CO Bool}{f:CO D}
theorem Zs(hT : ∀i∈T.idx,i<own.length)(bm : ∀σ H Q,tT K k σ H Q->tt σ H Q) : ∀σ H Q,tO K (zC src T own.length (fr.map (·.2)) k f) σ H Q->VQ (tIc K src) own fr (gOf K T) tt (tV K f) σ H Q:=λσ H Q hZ=>by
 obtain⟨H0,γ,ds,rc,O,q⟩:=hZ;obtain⟨I,e1,O⟩:=zc O;by_cases hl:I.length<=lim
 ·rw[GY hl]at O
  refine⟨H0,γ,I,rc,e1,λJ H1 a4 x1 wk D W=>?_⟩;have a6 : ∀(i:Nat) es,(jc own.length (fr.map (·.2)) γ)[i]? ≠ some (.own es):=λi es h=>by rcases j4 h with z | ⟨d',j,z,_⟩<;>cases z
  have a7 : ∀(i:Nat) rows,(jc own.length (fr.map (·.2)) γ)[i]? ≠ some (.nest rows):=λi es h=>by rcases j4 h with z | ⟨d',j,z,_⟩<;>cases z
  have as:a4 D=none:=js x1.sub W;have bv:H D=none:=by
   cases z:H D with
   | none=>rfl
   | some o=>rw[x1.s1 D o z]at W;cases W
  refine⟨λi m ys σ' H'=>m=I.length - i/\i<=I.length/\ys.length<=i/\H' D=some (.lst ys)/\∃H0' Y a1,RC K H0' H' σ' (jc own.length (fr.map (·.2)) γ)/\H0' D=none/\Ext a4 H1 H0' H'/\Reps K H0' Y ys/\zD T k f (jc own.length (fr.map (·.2)) γ) (I.drop i)=some a1/\ds=Y++a1,
   ⟨_,rfl,Bt _,Ak _,zM,a4,[],ds,((rc.ext x1).pull).upd as a6 a7,as,Ext.hide x1.sub W _,Reps.nil,O,rfl⟩,?_⟩
  rintro i m ys σ' H' ⟨rfl,hi,hy,a2,H0',Y,a1,a8,aw,R,r',B,rfl⟩;refine⟨a2,?_⟩;by_cases U:i<I.length
  ·refine .inr ⟨wk.go i H' R.s1 U,?_,λx ac y=>?_⟩
   ·have:=kF<|Ak lim;omega
   obtain⟨d,hd,hx⟩:=wk.yld i H' x ac R.s1 U y;obtain⟨G0,M,rg⟩:=hx H0' R.s0 a8.sub;have c1:I.drop i=d::I.drop (i+1):=by
    have c2:d=I[i]:=by rw[Ae U]at hd;exact(AU hd).symm
    rw[c2];exact BG U
   rw[c1]at B;simp only[zD]at B;obtain⟨γ1,eb,B⟩:=zc B;obtain⟨b,ek,B⟩:=zc B;have c4:G0 D=none:=M.new D aw (by rw[a2];simp);have b0:ac D=some (.lst ys):=M.s1 _ _ a2;obtain⟨bl,bg⟩:=X4 eb;have b7 : ∀{σ2:St} {G2 H2:Hp},RC K G2 H2 σ2 γ1->RC K G2 H2 σ2 (jc own.length (fr.map (·.2)) γ):=λr=>r.weak bl.symm (λj d' hj=>by
    by_cases hm:j∈T.idx
    ·rcases j4 hj with z | ⟨d2,j2,_,hn,_⟩
     ·cases z
     ·exact absurd (hT j hm) ⋯
    ·rw[bg j hm];exact hj) a6 a7
   refine Zu M.sub rg eb λσ1 bb _=>bm σ1 ac _ ⟨G0,γ1,b,bb<|a8.ext M,ek,λH3 am x3=>?_⟩;have an:=(bb<|a8.ext M).ext x3;have xa:=R.trans<|M.trans x3;have be:am D=none:=x3.new D c4 (by rw[b0];simp);have ao:H3 D=some (.lst ys):=x3.s1 _ _ b0;cases b with
   | true=>
    dsimp only;rw[GY rfl]at B ⊢;obtain⟨e,ee,B⟩:=zc B;obtain⟨xk,er,B⟩:=zy B;refine⟨am,γ1,e,an,ee,λv H4 bf x4 r4=>?_⟩;have ap:bf D=none:=x4.new D be (by rw[ao];simp);have cd:H4 D=some (.lst ys):=x4.s1 _ _ ao;have xb:=xa.trans x4;refine⟨cd,I.length - (i+1),by omega,rfl,U,by rw[Bl,Eb];omega,zM,bf,Y++[e],xk,(b7<|an.ext x4).upd ap a6 a7,ap,?_,(r'.mono<|(M.trans<|x3.trans x4).s0).append (Reps.cons r4 Reps.nil),er,?_⟩
    ·exact⟨xb.s0,λc o z=>by rw[zI (λw=>by rw[w,W]at z;cases z)];exact xb.s1 c o z,λc o z=>by rw[zI (λw=>by rw[w,ap]at z;cases z)];exact xb.sub c o z,xb.new⟩
    ·rw[<- B];simp
   | false=>
    dsimp only;rw[MQ Ay]at B ⊢;exact⟨I.length - (i+1),by omega,rfl,U,by omega,ao,am,Y,a1,b7 an,be,xa,r'.mono<|(M.trans x3).s0,B,rfl⟩
  ·have e:i=I.length:=by omega
   subst e;rw[Ee]at B;cases B;rw[Em]at q;exact .inl ⟨wk.stop H' R.s1,q D ys H' H0' (x1.trans R) bv aw a2 r'⟩
 ·rw[MQ hl]at O;cases O
end
section
variable{X:Cx}{scope:Scope}{own:List Str}{fr:List (Str×Nat)}{elt tg iter c:Expr}{pos:Pos}{src:CO (List D)}{T:Tg}{k:CO Bool}{f:CO D}
theorem fM(z:X.calm=true)(ok:CompOk X scope fr)(B : ∀i∈T.idx,i<own.length)(hi:PIC X tg iter src)(I : ∀fp s2 H2,PG (jr X scope (own++fr.map (·.1)) fp s2 H2) tg<|gOf X.K T)
 (M : ∀fp s2 H2,PV (jr X scope (own++fr.map (·.1)) fp s2 H2) elt f) (O : ∀x,foldedSetIterable iter X.env x=pure x:=by intro _;rfl) :
 PO X (.ListComp elt [⟨tg,iter,[],0⟩] scope pos) (zC src T own.length (fr.map (·.2)) zQ f):=
 jz (KA z ok hi I (λ_ _ _=>JE) M O) (Zs B λσ H Q ⟨H0,γ,b,rc,R,q⟩=>by cases R;exact q H H0<|Ext.refl rc.sub)
theorem Wy(z:X.calm=true)(ok:CompOk X scope fr)(B : ∀i∈T.idx,i<own.length)(hi:PIC X tg iter src)(I : ∀fp s2 H2,PG (jr X scope (own++fr.map (·.1)) fp s2 H2) tg<|gOf X.K T)
 (M : ∀fp s2 H2,PTD (jr X scope (own++fr.map (·.1)) fp s2 H2) c k) (O : ∀fp s2 H2,PV (jr X scope (own++fr.map (·.1)) fp s2 H2) elt f) (R : ∀x,foldedSetIterable iter X.env x=pure x:=by intro _;rfl) :
 PO X (.ListComp elt [⟨tg,iter,[c],0⟩] scope pos) (zC src T own.length (fr.map (·.2)) k f):=
 jz (KA z ok hi I (λfp s2 H2=>bS<|M fp s2 H2) O R) (Zs B λσ H Q h=>h)
theorem bQ(z:X.N.Nodup)(B:X.N[i]? = some y)(I:Loc X.env.scope y)(M:X.fn y=true\/X.env.scope.names.lookup y=some .local)
 (O:X.calm=true) (ok:CompOk X scope fr) (R : ∀i∈T.idx,i<own.length) (hi:PIC X tg iter src) (U : ∀fp s2 H2,PG (jr X scope (own++fr.map (·.1)) fp s2 H2) tg<|gOf X.K T)
 (W : ∀fp s2 H2,PV (jr X scope (own++fr.map (·.1)) fp s2 H2) elt f) (Y : ∀x,foldedSetIterable iter X.env x=pure x:=by intro _;rfl) :
 PS X (.Assign [.Name y py] (.ListComp elt [⟨tg,iter,[],0⟩] scope pos) spos) (aW (tO X.K<|zC src T own.length (fr.map (·.2)) zQ f)<|yX i):=
 kA (ZZ z B I M O ok hi U (λ_ _ _=>JE) W Y) λD σ H h=>Zs R (λσ H Q hZ=>by obtain⟨H0,γ,b,rc,ef,q⟩:=hZ;cases ef;exact q H H0<|Ext.refl rc.sub) σ H _ h
end
theorem jw{K:uW}{H:Hp}{i:Int}{v:V}(h:Rep K H (.int i) v):v = .int i:=h
theorem VV{K:uW}{g:Int->Int->D}{z:Int->Int->V}(I : ∀H i j,Rep K H (g i j)<|z i j):Snd K (rI0 z) (dI g):=λH0 H x y dx M d Q s O R B q=>by cases dx<;>cases M<;>simp[dI]at B;subst B;exact⟨_,_,jw O,jw R,q _ H H0 (Ext.refl s)<|I H0 _ _⟩
theorem VU{K:uW}{C:Int->Int->Prop}{c:Int->Int->Bool}{g:Int->Int->D}{z:Int->Int->V}(I : ∀i j,c i j=true->C i j)(M : ∀H i j,Rep K H (g i j)<|z i j):Snd K (rI C z) (dIc c g):=λH0 H x y dx O d Q s R U B q=>by cases dx<;>cases O<;>simp[dIc]at B;obtain⟨e1,e2⟩:=B;subst e2;exact⟨_,_,jw R,jw U,I _ _ e1,q _ H H0 (Ext.refl s)<|M H0 _ _⟩
theorem eY{K:uW}:Snd K (rI0 λi j=> .int (i - j)) Vj:=VV λ_ _ _=>rfl
theorem cT(h:J0 i j=true):CMul i j:=by unfold J0 at h;rw[Bo,decide_eq_true_eq,decide_eq_true_eq]at h;unfold CMul;omega
theorem fj{K:uW}:Snd K (rI tD λi j=> .int (i/j)) JX:=VU (λi j h=>by unfold mK at h;rw[Au,decide_eq_true_eq,decide_eq_true_eq]at h;exact⟨h.1,by omega⟩) λ_ _ _=>rfl
theorem fi{K:uW}:Snd K (rI (λ_ j=>0<j) λi j=> .int (i%j)) qm:=VU (λi j h=>by unfold nV at h;exact of_decide_eq_true h) λ_ _ _=>rfl
theorem eZ{K:uW}:Snd K (rI tw λi j=> .int (i ^ j.toNat)) gA:=VU (λi j h=>by unfold mJ at h;rw[Au,Au,decide_eq_true_eq,decide_eq_true_eq,decide_eq_true_eq]at h;exact⟨h.1.1,by omega,h.2⟩) λ_ _ _=>rfl
theorem VT{K:uW}:Snd K (rI0 λi j=> .bl (decide<|i<j)) dLt:=VV λ_ _ _=>rfl
theorem ZS{K:uW}:Snd K (rI0 λi j=> .bl (decide<|i<=j)) dLe:=VV λ_ _ _=>rfl
theorem dj{K:uW}:Snd K (rI0 λi j=> .bl (decide<|j<i)) dGt:=VV λ_ _ _=>rfl
theorem iw{K:uW}:Snd K (rI0 λi j=> .bl (decide<|j<=i)) dGe:=VV λ_ _ _=>rfl
section
variable{X:Cx}
noncomputable def dq(K:uW):R2:=λx y H Q=>∃a b xs ys,x = .ref a/\y = .ref b/\SqT K H a xs/\SqT K H b ys/\xs.length+ys.length<=sizeLine/\
 (xs=[]->Q (.ref b) H)/\(ys=[]->Q (.ref a) H)/\∀p,H p=none->Q (.ref p) (upd H p<|.tup<|xs++ys)
theorem cb:OpR X (binaryOp .Add) (dq X.K):=by
 intro pins s σ H x y v u Q I rx ry h;obtain⟨a,b,xs,ys,rfl,rfl,ha,hb,R,q0,q1,q2⟩:=h;cases rx;cases ry;obtain⟨B,r,U,z1⟩:=I.tuple ha;obtain⟨ac,M,W,z2⟩:=I.tuple hb;by_cases O:xs=[]
 ·have e1:B=[]:=(r.nil_iff).mpr O
  obtain⟨⟨cls,dd,data,sl⟩,Y,hc,n,hd⟩:=id U;obtain⟨⟨as,am,data2,an⟩,a1,a2,n2,a3⟩:=id W;simp only at hc hd a2 a3;subst hc hd a2 a3;exact Gc ⟨_,Y,rfl⟩ ⟨_,a1,rfl⟩ Ge seq_tuple_add ER EK (Ew _ _)
   (tuple_addW0 a b B.toArray ac.toArray n n2 dd am sl an<|by simp[e1]) ⟨Y,a1,⟨.ref b,H,I,rfl,q0 O⟩⟩
 ·have e1:B ≠ []:=λz=>O ((r.nil_iff).mp z)
  refine HT.rf U W e1 (λz=>⟨.ref a,H,I,rfl,q1<|(M.nil_iff).mp z⟩) (λ_=>?_) (by rw[<- r.length,<- M.length];exact R);refine⟨.ref s.heap.objs.size,_,I.laid (t':=s.toks) (o:= .tup (xs++ys)) (λc ob q=>uY _ q) (Ak _) ?_,rfl,q2 _<|I.hok.fresh<|Ak _⟩;exact⟨by rw[Bl];exact R,_,r.append M,IsTupD.new _ _⟩
noncomputable def iN(K:uW):R2:=λx y H Q=>∃l b xs zs,x = .ref l/\y = .ref b/\SqL K H l xs/\SqL K H b zs/\xs.length+zs.length<=sizeLine/\∀p,H p=none->Q (.ref p) (upd H p<|.lst<|xs++zs)
theorem cc:OpR X (binaryOp .Add) (iN X.K):=by
 intro pins s σ H x y v u Q I rx ry h;obtain⟨l,b,xs,zs,rfl,rfl,hH,hB,hz,q⟩:=h;cases rx;cases ry;obtain⟨z,r,⟨o,n,e,M,O,R⟩,z1⟩:=I.list hH;obtain⟨B,U,⟨o2,n2,e2,d1,W,Y⟩,z2⟩:=I.list hB;have l1:=r.length;have l2:=U.length;obtain⟨cls,dct,dt,sl⟩:=o;obtain⟨an,ao,ap,a6⟩:=o2;simp only at M O R d1 W Y;subst M O R d1 W Y;have a7:EP X pins σ Q (.ref s.heap.objs.size) {s with heap:=s.heap.push {cls:= .type "list",data:= .seq (z++B).toArray}}:=
  ⟨.ref _,_,I.lnew (t':=s.toks) (r.append U) (by rw[Bl];omega),rfl,q _ I.fresh⟩
 have ea:z.toArray++B.toArray=(z++B).toArray:=by simp
 refine Gc ⟨_,e,rfl⟩ ⟨_,e2,rfl⟩ noFill_list_add seq_list_add PySem.F.slot_list_add PySem.F.entry_list_add (PySem.F.args_list_add_2 _ _)
  (list_addW l b z.toArray B.toArray n n2 none none sl a6<|by rw[An,An];omega) ⟨e,e2,?_⟩
 rw[ea];exact a7
end
noncomputable def xR(scope sc:Scope):Scope:={scope with names:=scope.names.map λp=>if p.2==Az && sc.kind == .function && sc.names.lookup p.1==some .cell then (p.1,BO)else (p.1,p.2)}
theorem Y2(scope:Scope)(env:Env):relabel scope env=xR scope env.scope:=by unfold relabel xR;rfl
structure SX(X:Cx)(sc:Scope)(N T:List Str)(k:Nat):Prop where
 esc:X.env.scope=sc
 eN:X.N=N
 nd:N.Nodup
 calm:X.calm=true
 room:Room k X.A
 fn : ∀x∈T,X.fn x=true\/sc.names.lookup x=some .local
noncomputable def QR(sc:Scope)(N:List Str)(i:Nat)(x:Str):Bool:=
 decide (N[i]? = some x) && (decide (sc.names.lookup x=some .local) || decide (sc.names.lookup x=some .cell) || decide (sc.names.lookup x=some .free)) && !(x==("__debug__" : Str)) && !(x==("__classdict__" : Str))
noncomputable def k7(sc:Scope)(N T:List Str)(i:Nat)(x:Str):Bool:=decide (x∈T) && decide (N[i]? = some x) && (decide (sc.names.lookup x=some .local) || decide (sc.names.lookup x=some .cell))
noncomputable def ki(sc:Scope)(x:Str):Bool:=decide (sc.names.lookup x=some .globalImplicit) && !(x==("__name__" : Str)) && !(x==("__debug__" : Str))
section
variable{X:Cx}{sc:Scope}{N T:List Str}{k:Nat}{i:Nat}{x:Str}{pos:Pos}
theorem SX.var(h:SX X sc N T k)(c:QR sc N i x=true):PE X (.Name x pos) (gV i):=by
 unfold QR at c;simp only[Au,Bo,decide_eq_true_eq,EO]at c;obtain⟨⟨⟨h1,h2⟩,z⟩,B⟩:=c;refine lu (by rw[h.eN];exact h1) ?_ z B;unfold Vis;rw[h.esc];rcases h2 with(h2 | h2) | h2
 ·exact .inl h2
 ·exact .inr<|.inl h2
 ·exact .inr<|.inr h2
theorem SX.loc(h:SX X sc N T k)(c:k7 sc N T i x=true):X.N[i]? = some x/\L2.Loc X.env.scope x/\(X.fn x=true\/X.env.scope.names.lookup x=some .local):=by
 unfold k7 at c;simp only[Au,Bo,decide_eq_true_eq]at c;refine⟨by rw[h.eN];exact c.1.2,?_,?_⟩
 ·unfold L2.Loc;rw[h.esc];exact c.2
 ·rw[h.esc];exact h.fn x c.1.1
theorem SX.ndX(h:SX X sc N T k):X.N.Nodup:=by rw[h.eN];exact h.nd
theorem SX.tgt(h:SX X sc N T k)(i:Nat)(c:k7 sc N T i x=true):PG X (.Name x pos) (yX i):=by obtain⟨h1,h2,z⟩:=h.loc c;exact WG h.ndX h1 h2 z
theorem SX.tgts(h:SX X sc N T k)(g:PGs X es (gs is))(hn:(assignEach es X.env).length=is.length:=by rfl)(z:(assignEach es X.env).findIdx? (·.1)=none:=by rfl):PG X (.Tuple es j pos) (gOf X.K<|.tp is):=
 lq h.calm g hn z
theorem SX.set(h:SX X sc N T k)(i:Nat)(c:k7 sc N T i x=true)(z:PE X e te)(B:swapsWith e (some (.Name x pos')) pos.line X.env=pure false:=by rfl):PS X (.Assign [.Name x pos'] e pos) (aW te<|yX i):=by obtain⟨h1,h2,I⟩:=h.loc c;exact iX h.ndX h1 h2 z B I
theorem SX.gl(h:SX X sc N T k)(c:ki sc x=true):Gl X x/\x ≠ "__name__"/\(x==("__debug__" : Str))=false:=by
 unfold ki at c;simp only[Au,decide_eq_true_eq,EO]at c;refine⟨?_,?_,c.2⟩
 ·show X.env.scope.names.lookup x=_
  rw[h.esc];exact c.1.1
 ·intro e;rw[e]at c;simp at c
noncomputable def K3(sc scope:Scope)(N:List Str)(fr:List (Str×Nat)):Bool:=
 decide (scope.kind = .function) && decide ((scope.names.map (·.1)).Nodup) && scope.names.all (λp=> !(p.2==Az) || decide (sc.names.lookup p.1=some .cell) || decide (sc.names.lookup p.1=some .free)) &&
 fr.all λp=>decide (scope.names.lookup p.1=some .free) && decide (N[p.2]? = some p.1)
noncomputable def oJ(own:List Str)(scope:Scope)(fr:List (Str×Nat)):Bool:=decide ((own++fr.map (·.1)).Nodup) && own.all (λx=>decide (scope.names.lookup x=some .local) || decide (scope.names.lookup x=some .cell))
theorem SX.compOk(h:SX X sc N T k)(c:K3 sc scope N fr=true):CompOk X scope fr:=by
 unfold K3 at c;simp only[Au,decide_eq_true_eq,Bp,Bo,EO]at c;obtain⟨⟨⟨I,M⟩,O⟩,B⟩:=c;refine⟨I,M,λp z R=>?_,λp z=>⟨(B p z).1,by rw[h.eN];exact(B p z).2⟩⟩;have e:X.env.kindOf p.1=sc.names.lookup p.1:=by show X.env.scope.names.lookup p.1=_;rw[h.esc]
 rw[e];rcases O p z with(q | q) | q
 ·rw[R]at q;exact absurd q ⋯
 ·exact .inl q
 ·exact .inr q
theorem Zl(scope sc:Scope)(x:Str):(xR scope sc).names.lookup x=(scope.names.lookup x).map λk=>if (k==Az && sc.kind == .function && sc.names.lookup x==some .cell)then BO else k:=by
 unfold xR;dsimp only;generalize scope.names=l
 induction l with
 | nil=>rfl
 | cons p r B=>
  obtain⟨n,I⟩:=p;rw[Ba];cases hx:x==n with
  | true=>
   have e:x=n:=by simpa using hx
   subst e;dsimp only;split
   ·rename_i z;rw[Bb,Bb,beq_self_eq_true];dsimp only[BV];rw[GY z]
   ·rename_i z;rw[Bb,Bb,beq_self_eq_true];dsimp only[BV];rw[MQ z]
  | false=>
   dsimp only;split
   ·rw[Bb,Bb,hx];exact B
   ·rw[Bb,Bb,hx];exact B
theorem SX.comp(h:SX X sc N T k)(c:oJ own scope fr=true) :
 SX (jr X scope (own++fr.map (·.1)) fp s2 H2) (xR scope sc) (own++fr.map (·.1)) own k:=by
 unfold oJ at c;simp only[Au,decide_eq_true_eq,Bp,Bo]at c;refine⟨?_,rfl,c.1,h.calm,h.room,λx z=>?_⟩
 ·show relabel scope X.env=_
  rw[Y2,h.esc]
 ·rcases c.2 x z with q | q
  ·right;rw[Zl,q];rfl
  ·left
   show(scope.names.lookup x==some .cell)=true;rw[q];rfl
end
mutual
def toP:D->PyData
 | .non=> .none
 | .bl b=> .bool b
 | .int i=> .int i
 | .str x=> .str x
 | .tup ds=> .tuple (toPs ds)
 | .lst ds=> .list (toPs ds)
 | .dic _ _=> .none
 | .dct _ _=> .none
def toPs:List D->List PyData
 | []=>[]
 | d::ds=>toP d::toPs ds
end
theorem okS_dic(h:okS (.dic ks vs)=true):False:=by simp[okS]at h
theorem okS_dct(h:okS (.dct ks vs)=true):False:=by simp[okS]at h
mutual
theorem eqv_toP : ∀x y:D,okS x=true->okS y=true->CQ (toP x) (toP y)=eqD x y
 | .non,y,_,h=>by cases y<;>first | exact(okS_dic h).elim | exact(okS_dct h).elim | simp[toP,CQ,eqD]
 | .bl a,y,_,h=>by cases y<;>first | exact(okS_dic h).elim | exact(okS_dct h).elim | simp[toP,CQ,eqD]
 | .int a,y,_,h=>by cases y<;>first | exact(okS_dic h).elim | exact(okS_dct h).elim | simp[toP,CQ,eqD]
 | .str a,y,_,h=>by cases y<;>first | exact(okS_dic h).elim | exact(okS_dct h).elim | simp[toP,CQ,eqD]
 | .dic c n,y,h,_=>(okS_dic h).elim
 | .dct c n,y,h,_=>(okS_dct h).elim
 | .tup xs,y,h1,h2=>by
  cases y with
  | tup ys=>simp only[okS]at h1 h2;simp only[toP,CQ,eqD];exact eqvs_toP xs ys h1 h2
  | dic c n=>exact(okS_dic h2).elim
  | dct c n=>exact(okS_dct h2).elim
  | _=>simp[toP,CQ,eqD]
 | .lst xs,y,h1,h2=>by
  cases y with
  | lst ys=>simp only[okS]at h1 h2;simp only[toP,CQ,eqD];exact eqvs_toP xs ys h1 h2
  | dic c n=>exact(okS_dic h2).elim
  | dct c n=>exact(okS_dct h2).elim
  | _=>simp[toP,CQ,eqD]
theorem eqvs_toP : ∀xs ys:List D,okSs xs=true->okSs ys=true->Ft (toPs xs) (toPs ys)=eqDs xs ys
 | [],ys,_,_=>by cases ys<;>simp[toPs,Ft,eqDs]
 | x::xs,ys,h1,h2=>by
  cases ys with
  | nil=>simp[toPs,Ft,eqDs]
  | cons y ys=>
   simp only[okSs,Au]at h1 h2;simp only[toPs,Ft,eqDs];rw[eqv_toP x y h1.1 h2.1,eqvs_toP xs ys h1.2 h2.2]
end
mutual
theorem lay_toP : ∀x:D,okS x=true->(toP x).canLay0=true
 | .non,_=>by simp[toP,CT]
 | .bl a,_=>by simp[toP,CT]
 | .int a,_=>by simp[toP,CT]
 | .str a,h=>by simpa[toP,CT,okS,PyData.strOk]using h
 | .tup xs,h=>by simp only[okS]at h;simp only[toP,CT];exact lays_toP xs h
 | .lst xs,h=>by simp only[okS]at h;simp only[toP,CT];exact lays_toP xs h
 | .dic c n,h=>(okS_dic h).elim
 | .dct c n,h=>(okS_dct h).elim
theorem lays_toP : ∀xs:List D,okSs xs=true->FJ (toPs xs)=true
 | [],_=>by simp[toPs,FJ]
 | x::xs,h=>by simp only[okSs,Au]at h;simp only[toPs,FJ];rw[lay_toP x h.1,lays_toP xs h.2];rfl
end
mutual
theorem depth_toP : ∀x:D,(toP x).depth=deep x
 | .non=>by simp[toP,Cu,deep]
 | .bl a=>by simp[toP,Cu,deep]
 | .int a=>by simp[toP,Cu,deep]
 | .str a=>by simp[toP,Cu,deep]
 | .dic c n=>by simp[toP,Cu,deep]
 | .dct c n=>by simp[toP,Cu,deep]
 | .tup xs=>by simp only[toP,Cu,deep];rw[depths_toP xs]
 | .lst xs=>by simp only[toP,Cu,deep];rw[depths_toP xs]
theorem depths_toP : ∀xs:List D,PyData.depthAll (toPs xs)=deeps xs
 | []=>by simp[toPs,PyData.depthAll,deeps]
 | x::xs=>by simp only[toPs,PyData.depthAll,deeps];rw[depth_toP x,depths_toP xs]
end
theorem kE(h:okD d=true):okS d=true:=by unfold okD at h;rw[Au]at h;exact h.2
theorem yE(h:okD d=true):SeqAt.shaped (toP d)=true:=by unfold okD at h;rw[Au,decide_eq_true_eq]at h;unfold SeqAt.shaped;rw[lay_toP d h.2,Bool.true_and,depth_toP];exact decide_eq_true ⋯
section
variable{X:Cx}{pins:GW}{σ:St}{H0 H:Hp}{s:Shared}
mutual
theorem reads_of(I:Inv X pins σ H s)(sub:Same H0 H) : ∀{d:D} {v:V} {u:Value},okS d=true->Rep X.K H0 d v->RelV v u->∃z,Reads s.heap u (toP d) z
 | .non,v,u,_,h,r=>by cases (show v = .non from h);cases r;exact⟨_,.none⟩
 | .bl b,v,u,_,h,r=>by cases (show v = .bl b from h);cases r;exact⟨_,.bool b⟩
 | .int i,v,u,_,h,r=>by cases (show v = .int i from h);obtain⟨t,rfl⟩:=r;exact⟨_,.int i t⟩
 | .str x,v,u,_,h,r=>by cases (show v = .str x from h);obtain⟨t,rfl⟩:=r;exact⟨_,.str x t⟩
 | .dic c n,v,u,o,_,_=>(okS_dic o).elim
 | .dct c n,v,u,o,_,_=>(okS_dct o).elim
 | .tup ds,v,u,o,h,r=>by obtain⟨a,xs,rfl,h1,h2⟩:=(show ∃a xs,v = .ref a/\SqT X.K H0 a xs/\Reps X.K H0 ds xs from h);cases r;simp only[okS]at o;obtain⟨U,B,⟨W,M,O,n,hd⟩,Y⟩:=I.tuple<|sameT sub h1;obtain⟨z,R⟩:=readsAll_of I sub o h2 B;exact⟨z,.tuple M O hd<|by simpa using R⟩
 | .lst ds,v,u,o,h,r=>by obtain⟨a,xs,rfl,h1,h2⟩:=(show ∃a xs,v = .ref a/\SqL X.K H0 a xs/\Reps X.K H0 ds xs from h);cases r;simp only[okS]at o;obtain⟨U,B,p,Y⟩:=I.list<|sub.seq h1;obtain⟨W,M,O,n,hd⟩:=p.isList;obtain⟨z,R⟩:=readsAll_of I sub o h2 B;exact⟨_,.list M O hd<|by simpa using R⟩
theorem readsAll_of(I:Inv X pins σ H s)(sub:Same H0 H) : ∀{ds:List D} {xs:List V} {us:List Value},okSs ds=true->Reps X.K H0 ds xs->Vals xs us->∃z,ReadsAll s.heap us (toPs ds) z
 | [],xs,us,_,h,r=>by rw[h.inv_nil]at r;cases r;exact⟨_,.nil⟩
 | d::ds,xs,us,o,h,r=>by
  obtain⟨x,t,e,h1,h2⟩:=h.inv_cons;subst e;simp only[okSs,Au]at o;cases r with
  | cons B M=>
   obtain⟨z,O⟩:=reads_of I sub o.1 h1 B;obtain⟨bs,R⟩:=readsAll_of I sub o.2 h2 M;exact⟨_,.cons O R⟩
end
end
noncomputable def sk(K:uW):R2:=λx y H Q=>∃H0 dx z,Same H0 H/\Rep K H0 dx x/\Rep K H0 z y/\okD dx=true/\okD z=true/\Q (.bl<|eqD dx z) H
noncomputable def sj(K:uW):R2:=λx y H Q=>∃H0 dx z,Same H0 H/\Rep K H0 dx x/\Rep K H0 z y/\okD dx=true/\okD z=true/\Q (.bl<|!eqD dx z) H
theorem dG(M:X.A.units+64<cLine):OpR X (compareOp .Eq) (sk X.K):=by intro pins s σ H x y v u Q I O R h;obtain⟨H0,dx,dy,sub,U,W,z,B,q⟩:=h;obtain⟨as,Y⟩:=reads_of I sub (kE z) U O;obtain⟨bs,rb⟩:=reads_of I sub (kE B) W R;exact eq_dataH Y rb (yE z) (yE B) M ⟨.bl _,H,I,by rw[eqv_toP _ _ (kE z) (kE B)];rfl,q⟩
theorem lK(M:X.A.units+64<cLine):OpR X (compareOp .NotEq) (sj X.K):=by intro pins s σ H x y v u Q I O R h;obtain⟨H0,dx,dy,sub,U,W,z,B,q⟩:=h;obtain⟨as,Y⟩:=reads_of I sub (kE z) U O;obtain⟨bs,rb⟩:=reads_of I sub (kE B) W R;exact ne_dataH Y rb (yE z) (yE B) M ⟨.bl _,H,I,by rw[eqv_toP _ _ (kE z) (kE B)];rfl,q⟩
theorem VW{K:uW}:Snd K (sk K) dEq:=λH0 H x y dx B d Q s I M z q=>by
 unfold dEq at z;split at z
 ·rename_i h;cases z;exact⟨H0,dx,B,s,I,M,h.1,h.2,q _ H H0 (Ext.refl s) rfl⟩
 ·cases z
theorem fe{K:uW}:Snd K (sj K) dNe:=λH0 H x y dx B d Q s I M z q=>by
 unfold dNe at z;split at z
 ·rename_i h;cases z;exact⟨H0,dx,B,s,I,M,h.1,h.2,q _ H H0 (Ext.refl s) rfl⟩
 ·cases z
theorem SX.u64(h:SX X sc N T k):X.A.units+64<cLine:=by have:=h.room.un;omega
section
variable{X:Cx}{sc:Scope}{N T:List Str}{k:Nat}{a b c:Expr}{pos p:Pos}{fa fb fc:CO D}
theorem ZU(ha:PV X a fa)(z:PV X b fb):PV X (.BinOp a .Sub b pos) (zu Vj fa fb):=ZW lI eY ha z
theorem wZ(ha:PV X a fa)(z:PV X b fb):PV X (.BinOp a .FloorDiv b pos) (zu JX fa fb):=ZW fZ fj ha z
theorem jt(ha:PV X a fa)(z:PV X b fb):PV X (.BinOp a .Mod b pos) (zu qm fa fb):=ZW lL fi ha z
theorem Wm(ha:PV X a fa)(z:PV X b fb):PV X (.BinOp a .Pow b pos) (zu gA fa fb):=ZW lJ eZ ha z
theorem oY(ha:PV X a fa)(z:PV X b fb):PV X (.Compare a [.Lt] [b] pos) (zu dLt fa fb):=Xr fY VT ha z<|yR b
theorem oZ(ha:PV X a fa)(z:PV X b fb):PV X (.Compare a [.LtE] [b] pos) (zu dLe fa fb):=Xr Y8 ZS ha z<|yR b
theorem pb(ha:PV X a fa)(z:PV X b fb):PV X (.Compare a [.Gt] [b] pos) (zu dGt fa fb):=Xr lM dj ha z<|yR b
theorem pd(ha:PV X a fa)(z:PV X b fb):PV X (.Compare a [.GtE] [b] pos) (zu dGe fa fb):=Xr pz iw ha z<|yR b
theorem Kx(h:SX X sc N T k)(ha:PV X a fa)(z:PV X b fb):PV X (.Compare a [.Eq] [b] pos) (zu dEq fa fb):=Xr (dG h.u64) VW ha z<|yR b
theorem dv(ha:PV X a fa)(z:PV X b fb):PTD X (.Compare a [.Lt] [b] pos) (sB<|zu dLt fa fb):=JC fY VT ha z<|yR b
theorem dw(ha:PV X a fa)(z:PV X b fb):PTD X (.Compare a [.Gt] [b] pos) (sB<|zu dGt fa fb):=JC lM dj ha z<|yR b
theorem xo(h:SX X sc N T k)(ha:PV X a fa)(z:PV X b fb):PTD X (.Compare a [.Eq] [b] pos) (sB<|zu dEq fa fb):=JC (dG h.u64) VW ha z<|yR b
theorem xc(h:SX X sc N T k)(ha:PV X a fa)(z:PV X b fb):PTD X (.Compare a [.NotEq] [b] pos) (sB<|zu dNe fa fb):=JC (lK h.u64) fe ha z<|yR b
theorem xO{K:uW}{H:Hp}{ds:List D}{v:V}(h:Rep K H (.tup ds) v) : ∃a xs,v = .ref a/\SqT K H a xs/\Reps K H ds xs:=h
theorem KP{K:uW}{H:Hp}{ds:List D}{v:V}(h:Rep K H (.lst ds) v) : ∃a xs,v = .ref a/\SqL K H a xs/\Reps K H ds xs:=h
theorem qr{K:uW}{H:Hp}{ds:List D}{a:Addr}{xs:List V}(h1:SqT K H a xs)(h2:Reps K H ds xs):Rep K H (.tup ds) (.ref a):=⟨a,xs,rfl,h1,h2⟩
theorem wX{K:uW}{H:Hp}{ds:List D}{a:Addr}{xs:List V}(h1:SqL K H a xs)(h2:Reps K H ds xs):Rep K H (.lst ds) (.ref a):=⟨a,xs,rfl,h1,h2⟩
theorem fm{K:uW}:Snd K (λx y H Q=>rI0 (λi j=> .int (i+j)) x y H Q\/dq K x y H Q) jO:=λH0 H x y dx U d Q s I M B q=>by
 cases dx<;>cases U<;>simp[jO]at B
 ·subst B;exact .inl ⟨_,_,jw I,jw M,q _ H H0 (Ext.refl s) rfl⟩
 ·rename_i ds es
  obtain⟨W,rfl⟩:=B;obtain⟨a,xs,rfl,h1,h2⟩:=xO I;obtain⟨b,ys,rfl,O,z⟩:=xO M;refine .inr ⟨a,b,xs,ys,rfl,rfl,sameT s h1,sameT s O,kF (by rw[h2.length,z.length];exact W),λe=>?_,λe=>?_,λp R=>?_⟩
  ·have e2:ds=[]:=by
    have:=h2.length;rw[e]at this;exact AM this.symm
   subst e2;exact q _ H H0 (Ext.refl s)<|qr O z
  ·have e2:es=[]:=by
    have:=z.length;rw[e]at this;exact AM this.symm
   subst e2;exact q _ H H0 (Ext.refl s) (by rw[Em];exact qr h1 h2)
  ·exact q _ _ _ (Ext.alloc s R _)<|qr (SqT.of zM)<|(h2.append z).mono (zV (js s R) _)
theorem jb(ha:PV X a fa)(z:PV X b fb):PV X (.BinOp a .Add b pos) (zu jO fa fb):=ZW (op_add.or cb) fm ha z
end
theorem Yd(M:A.handled=none)(k:Sk)(I z:Addr)(O:z≠I)(B:Array Value) :
 Walks P w A I [I,z] [I] B.size (λi v=>B[i]? = some v) (λi h=>ItAt k h I z i/\SqAt k h z B):=by
 cases k
 ·exact Walks.list M I z O B
 ·exact Walks.tuple M I z O B
theorem w4(zs:List Int) : ∀n,preSum (λi=>zs.getD i 0) n=(zs.take n).sum
 | 0=>by simp[preSum]
 | n+1=>by
  have z:=w4 zs n;simp only[preSum,z];by_cases h:n<zs.length
  ·rw[List.take_succ_eq_append_getElem h,List.sum_append]
   simp[h]
  ·rw[BY ⋯,BY ⋯]
   simp[h]
section
variable{X:Cx}{pins:GW}{σ:St}{H:Hp}{s:Shared}
theorem ay(W:X.calm=true):Zy X (.builtin "sum") (λxs H Q=>∃p k ys zs,xs=[.ref p]/\SqK k X.K H p ys/\ys=(zs:List Int).map V.int/\Q (.int zs.sum) H):=by
 intro pins s σ H vs us Q I Y h;obtain⟨p,k,ys,zs,rfl,hq,rfl,q⟩:=h;obtain⟨u,rfl,B⟩:=k6 Y;cases B;obtain⟨z,r,M,hz⟩:=I.sq hq;have lt:=M.lt;have O:=r.length;rw[AO]at O;refine call_sum_walkG<|Zn M ⟨_,[_,p],[_],z.toArray.size,_,_,λi=>zs.getD i 0,rfl,Yd (A:=X.A.in1) (I.ok.hd W) k _ p (AJ lt) z.toArray,⟨vN k _ p,M.at λo e=>uY _ e⟩,?_,?_,?_⟩
 ·intro b R
  rw[AB];simp only[Ag,Aw,or_false]at R;rcases R with rfl | rfl
  ·exact Cv _
  ·exact Bu lt
 ·intro i v hv
  have U:z[i]? = some v:=by simpa using hv
  have hi:i<zs.length:=by rw[O];exact(Af.mp U).1
  obtain⟨u,e1,B⟩:=r.get (i:=i) (x:= .int zs[i]) (by simp[hi]);rw[U]at e1;cases e1;obtain⟨t,rfl⟩:=B;exact⟨t,by simp[hi]⟩
 ·intro h' tk t' hk
  have e:preSum (λi=>zs.getD i 0) z.toArray.size=zs.sum:=by rw[w4,BY (by rw[An,O];exact Ak _)]
  refine⟨.int zs.sum,H,I.kept (t':=tk)<|λb u e=>hk b u ?_ (uY _ e),⟨t',by rw[e]⟩,q⟩;simp only[Ag,Aw,or_false];exact AJ<|Ao e
noncomputable def ig:V->Option Bool
 | .non=>some false
 | .bl b=>some b
 | .int i=>some (i != 0)
 | _=>none
theorem bw(r:RelV x u)(e:ig x=some b)(q:Q b s):wpAny (model P w) A (truthy u) Q E s:=by
 cases x with
 | non=>cases r;cases e;exact λ_ _ _=>q
 | bl c=>cases r;cases e;exact BC q
 | int i=>obtain⟨t,rfl⟩:=r;cases e;exact PyProof.Rows.truthy_int q
 | _=>cases e
noncomputable def VM:List V->Option (List Bool)
 | []=>some []
 | x::r=>(ig x).bind λb=>(VM r).map λl=>b::l
theorem QU : ∀{xs:List V} {bs:List Bool},VM xs=some bs->bs.length=xs.length/\∀(i:Nat) x,xs[i]? = some x->ig x=some (bs.getD i false)
 | [],bs,h=>by cases h;exact⟨rfl,λi x e=>by simp at e⟩
 | y::xs,bs,h=>by
  obtain⟨b,e1,h⟩:=zc h;obtain⟨l,e2,h⟩:=zy h;subst h;obtain⟨h1,h2⟩:=QU e2;refine⟨by simp[h1],λi x e=>?_⟩;cases i with
  | zero=>simp at e;subst e;simpa using e1
  | succ i=>simpa using h2 i x (by simpa using e)
theorem aR(bs:List Bool):(uZ bs.length).all (λi=>bs.getD i false)=bs.all id:=by
 rw[En];simp only[Bp,Aq,id_eq];constructor
 ·intro h b z
  obtain⟨i,hi,e⟩:=List.mem_iff_getElem.mp z;have:=h i hi;rw[Cn,Ae hi]at this;rw[<- e];exact this
 ·intro h i hi
  rw[Cn,Ae hi];exact h _<|List.getElem_mem hi
theorem aC(U:X.calm=true):Zy X (.builtin "all") (λxs H Q=>∃p k ys bs,xs=[.ref p]/\SqK k X.K H p ys/\VM ys=some bs/\Q (.bl (bs.all id)) H):=by
 intro pins s σ H vs us Q I W h;obtain⟨p,k,ys,bs,rfl,Y,ht,q⟩:=h;obtain⟨u,rfl,B⟩:=k6 W;cases B;obtain⟨z,r,M,hz⟩:=I.sq Y;have lt:=M.lt;have O:=r.length;obtain⟨a1,a2⟩:=QU ht;refine call_all_walk<|Zn M ⟨_,[_,p],[_],z.toArray.size,_,_,λi=>bs.getD i false,rfl,Yd (A:=X.A.in1) (I.ok.hd U) k _ p (AJ lt) z.toArray,⟨vN k _ p,M.at λo e=>uY _ e⟩,?_,?_⟩
 ·intro i v s' Q' E' hv hQ
  have R:z[i]? = some v:=by simpa using hv
  have hi:i<ys.length:=by rw[O];exact(Af.mp R).1
  obtain⟨u,e1,B⟩:=r.get (i:=i) (x:=ys[i]) (by simp[hi]);rw[R]at e1;cases e1;exact bw B (a2 i ys[i] (by simp[hi])) hQ
 ·intro h' tk hk
  have e:(uZ z.toArray.size).all (λi=>bs.getD i false)=bs.all id:=by rw[An,<- O,<- a1];exact aR bs
  refine⟨.bl<|bs.all id,H,I.kept (t':=tk)<|λb u e=>hk b u ?_ (uY _ e),by rw[e];rfl,q⟩;simp only[Ag,Aw,or_false];exact AJ<|Ao e
end
section
variable{X:Cx}{sc:Scope}{N T:List Str}{k:Nat}{e a b c:Expr}{pos p p2:Pos}{f g:CO D}{fq:CO (Sk×List D)}
theorem oK{K:uW}{H:Hp}{k:Sk}{a:Addr}{xs:List V}(h:SqK k K H a xs):SqL K H a xs\/SqT K H a xs:=by
 cases k
 ·exact .inl h
 ·exact .inr h
theorem qo(h:SX X sc N T k)(c:ki sc "len" = true)(z:X.mg "len" = none)(I:PQ X e fq)(B:starEach [e] X.env=[(false,eval e X.env)]:=by rfl):PV X (.Call (.Name "len" p) [e] [] pos) (vI fq):=
 jz (yP X1 (h.gl c).1 z PySem.boot_len (z9 I j1 B) ⋯ ⋯ B rfl) λσ H Q M=>by obtain⟨H0,γ,d,rc,O,q⟩:=M;obtain⟨⟨kk,ds⟩,e1,e2⟩:=zy O;subst e2;refine⟨H0,γ,kk,ds,rc,e1,λa xs H' H0' ext h1 h2 r=>⟨a,xs,rfl,oK h1,?_⟩⟩;exact q _ H' H0' ext (show V.int xs.length = .int ds.length by rw[r.length])
theorem z5(h:SX X sc N T k)(c:ki sc "tuple" = true)(z:X.mg "tuple" = none)(M:PQ X e fq)(B:starEach [e] X.env=[(false,eval e X.env)]:=by rfl):PV X (.Call (.Name "tuple" p) [e] [] pos) (zG fq):=
 jz (yO JZ (h.gl c).1 z Cr (z9 M j1 B) ⋯ ⋯ B rfl) λσ H Q O=>by
  obtain⟨H0,γ,d,rc,R,q⟩:=O;obtain⟨⟨kk,ds⟩,e1,e2⟩:=zy R;subst e2;refine⟨H0,γ,kk,ds,rc,e1,λa xs H' H0' ext h1 h2 r=>⟨a,xs,rfl,?_⟩⟩;cases kk with
  | L=>exact .inl ⟨h1,λl I=>q _ _ _ (ext.trans<|Ext.alloc ext.sub I _)<|qr (SqT.of zM)<|r.mono<|zV (js ext.sub I) _⟩
  | T=>exact .inr ⟨h1,q _ H' H0' ext (qr (h2 rfl) r)⟩
theorem XD{H H':Hp}(s:Same H H'){a:Addr}(h:H' a=none):H a=none:=by
 cases z:H a with
 | none=>rfl
 | some o=>rw[s a o z]at h;cases h
theorem QV : ∀{ds:List D} {n:Int},VR ds=some n->∃zs:List Int,ds=zs.map D.int/\n=zs.sum
 | [],n,h=>by cases h;exact⟨[],rfl,rfl⟩
 | d::ds,n,h=>by
  cases d with
  | int i=>
   obtain⟨s,e,h⟩:=zy h;obtain⟨zs,rfl,rfl⟩:=QV e;exact⟨i::zs,rfl,by rw[<- h];simp⟩
  | _=>cases h
theorem Xl{K:uW}{H:Hp} : ∀{zs:List Int} {xs:List V},Reps K H (zs.map D.int) xs->xs=zs.map V.int
 | [],xs,h=>h.inv_nil
 | z::zs,xs,h=>by obtain⟨x,r,e,h1,h2⟩:=Reps.inv_cons h;rw[e,jw h1,Xl h2];rfl
theorem Wk(h:SX X sc N T k)(c:ki sc "sum" = true)(z:X.mg "sum" = none)(O:PQ X e fq)(M:starEach [e] X.env=[(false,eval e X.env)]:=by rfl):PV X (.Call (.Name "sum" p) [e] [] pos) (gW fq):=
 jz (yP (ay h.calm) (h.gl c).1 z PyProof.Rows.boot_sum (z9 O j1 M) ⋯ ⋯ M rfl) λσ H Q R=>by obtain⟨H0,γ,d,rc,B,q⟩:=R;obtain⟨⟨kk,ds⟩,e1,B⟩:=zc B;obtain⟨n,e2,U⟩:=zy B;subst U;obtain⟨zs,I,rfl⟩:=QV e2;have I:ds=zs.map D.int:=I;subst I;exact⟨H0,γ,kk,_,rc,e1,λa xs H' H0' ext h1 h2 r=>⟨a,kk,xs,zs,rfl,h1,Xl r,q _ H' H0' ext rfl⟩⟩
theorem eP{K:uW}{H:Hp}{d:D}{x:V}{b:Bool}(h:Rep K H d x)(e:oB d=some b):ig x=some b:=by
 cases d with
 | non=>cases (show x = .non from h);exact e
 | bl c=>cases (show x = .bl c from h);exact e
 | int i=>cases (show x = .int i from h);exact e
 | _=>cases e
theorem Yg{K:uW}{H:Hp} : ∀{ds:List D} {xs:List V} {bs:List Bool},Reps K H ds xs->Jp ds=some bs->VM xs=some bs
 | [],xs,bs,h,e=>by rw[h.inv_nil];exact e
 | d::ds,xs,bs,h,e=>by obtain⟨x,r,z,h1,h2⟩:=h.inv_cons;obtain⟨b,e1,e⟩:=zc e;obtain⟨l,e2,e⟩:=zy e;subst z e;show(ig x).bind _=_;rw[eP h1 e1];show((VM r).map λl=>b::l)=_;rw[Yg h2 e2];rfl
theorem yK(h:SX X sc N T k)(c:ki sc "all" = true)(z:X.mg "all" = none)(M:PQ X e fq)(I:starEach [e] X.env=[(false,eval e X.env)]:=by rfl):PV X (.Call (.Name "all" p) [e] [] pos) (Kp fq):=
 jz (yP (aC h.calm) (h.gl c).1 z PyProof.Rows.boot_all (z9 M j1 I) ⋯ ⋯ I rfl) λσ H Q O=>by obtain⟨H0,γ,d,rc,B,q⟩:=O;obtain⟨⟨kk,ds⟩,e1,B⟩:=zc B;obtain⟨bs,e2,R⟩:=zy B;subst R;exact⟨H0,γ,kk,_,rc,e1,λa xs H' H0' ext h1 h2 r=>⟨a,kk,xs,bs,rfl,h1,Yg r e2,q _ H' H0' ext rfl⟩⟩
theorem Jy(h:SX X sc N T k)(c:ki sc "int" = true)(z:X.mg "int" = none)(M:PV X e f)(I:starEach [e] X.env=[(false,eval e X.env)]:=by rfl):PV X (.Call (.Name "int" p) [e] [] pos) (ky f):=
 jz (yO aB (h.gl c).1 z EA (z9 M j1 I) ⋯ ⋯ I rfl) λσ H Q O=>by
  obtain⟨H0,γ,d,rc,B,q⟩:=O;obtain⟨d1,e1,B⟩:=zc B;refine⟨H0,γ,d1,rc,e1,λv H' H0' ext r=>?_⟩;cases d1 with
  | int i=>cases B;exact .inl ⟨i,by rw[jw r],q _ H' H0' ext rfl⟩
  | bl b=>cases B;exact .inr ⟨b,by rw[show v = .bl b from r],q _ H' H0' ext rfl⟩
  | _=>cases B
theorem iS(h:SX X sc N T k)(c:ki sc "max" = true)(z:X.mg "max" = none)(ha:PV X a f)(U:PV X b g)(O:starEach [a,b] X.env=[(false,eval a X.env),(false,eval b X.env)]:=by rfl)(I:starEach [b] X.env=[(false,eval b X.env)]:=by rfl) :
 PV X (.Call (.Name "max" p) [a,b] [] pos) (fv f g):=
 jz (yP (az h.calm) (h.gl c).1 z PyProof.Rows.boot_max (z9 ha (z9 U j1 I)<|by rw[O,I]) ⋯ ⋯ (by rw[O,I]) (by rw[I];rfl)) λσ H Q W=>by obtain⟨H0,γ,d,rc,B,q⟩:=W;obtain⟨i,e1,B⟩:=zc B;obtain⟨d1,Y,e1⟩:=zc e1;obtain⟨j,M,B⟩:=zy B;obtain⟨d2,e2,M⟩:=zc M;subst B;refine⟨H0,γ,d1,rc,Y,λv H' H0' x r=>⟨H0',γ,d2,rc.ext x,e2,λv2 H2 a1 x2 R=>⟨i,j,?_,q _ H2 a1 (x.trans x2) rfl⟩⟩⟩;rw[jY e1]at r;rw[jY M]at R;rw[jw r,jw R]
end
section
variable{X:Cx}{sc:Scope}{N T:List Str}{k:Nat}{e a b c:Expr}{pos p p2:Pos}{f g:CO D}{fq:CO (Sk×List D)}
theorem YC(h:ixD n i=some j):ixN n i=some j:=by
 unfold ixD at h;unfold ixN;split at h
 ·rename_i h1;rw[GY h1.1,GY h1.2];exact h
 ·split at h
  ·rename_i h1 h2;rw[MQ ⋯,GY ⋯];exact h
  ·cases h
theorem zx(ha:PQ X a fq)(R:PV X b g)(U:K9 b:=by intro _ _;rfl):PV X (.Subscript a b pos) (sIx fq g):=
 jz (lD (ix_list.or mf) ha R U) λσ H Q W=>by
  obtain⟨H0,γ,d,rc,z,q⟩:=W;obtain⟨⟨kk,ds⟩,e1,z⟩:=zc z;obtain⟨i,e2,z⟩:=zc z;obtain⟨Y,e3,e2⟩:=zc e2;obtain⟨j,e4,z⟩:=zc z;refine⟨H0,γ,kk,ds,rc,e1,λp xs H' H0' ext h1 h2 r=>⟨H0',γ,Y,rc.ext ext,e3,λv2 H2 a2 B I=>?_⟩⟩;rw[jY e2]at I;obtain⟨x,hx,rx⟩:=r.get z;have M:atI xs i=some x:=by unfold atI;rw[r.length,YC e4];exact hx
  have O:=q x H2 a2 (ext.trans B)<|rx.mono B.s0;cases kk with
  | L=>exact .inl ⟨p,xs,i,x,rfl,jw I,B.s1.seq h1,M,O⟩
  | T=>exact .inr ⟨p,xs,i,x,rfl,jw I,sameT B.s1 h1,M,O⟩
theorem vy{P:Program}{w:World}{A:Around}{E:GQ}{s:Shared}{t sl:Addr}{z:Array Value}{I M:Value}{lo hi:Option Int}{Q:GQ}(B:IsTup s.heap t z)(O:s.heap.IsSliceOf sl I M .none)(R:IsPart I lo)(U:IsPart M hi)
 (hw:HT.sIx z.size 0 lo=0/\HT.sIx z.size z.size hi=z.size) (h:Q (.ref t) s):wpAny (model P w) A (getItem (.ref t)<|.ref sl) Q E s:=by
 obtain⟨os,W,Y,a2⟩:=id O;have a0:s.TypeIs (.ref sl) "slice":=⟨os,W,Y⟩;unfold getItem
 try with_reducible refine Es ?_
 first | refine uX (Ad ?_) | skip
 refine uX (wpAny_sequenceKey B.typeIs ⋯ ?_);refine uX (AI (name:=As "__getitem__") B.typeIs Bg
  (AX Bg B.typeIs entry_tuple_getitem ?_ (args_tuple_getitem _ _)))
 show wpAny _ _ (Builtin.Tuple.tupleItemsOf (.ref t) >>= _) _ _ s;refine uX<|Fk B ?_;refine uX<|EV a0 ?_;rw[GY ⋯];refine uX<|HT.v7 O R U ?_;have a1:(((HT.sIx z.size 0 lo:Nat):Int)==0 && (1:Int)==1 && (HT.sIx z.size z.size hi - HT.sIx z.size 0 lo)==z.size)=true:=by rw[hw.1,hw.2];simp
 show wpAny _ _ (if (((HT.sIx z.size 0 lo:Nat):Int)==0 && (1:Int)==1 && (HT.sIx z.size z.size hi - HT.sIx z.size 0 lo)==z.size)=true then _ else _) _ _ s;rw[GY a1];refine uX (m:=BX _) ?_;unfold BX;refine uX<|EV B.typeIs<|Ad ?_;rw[GY ⋯];exact uX<|Cs<|Ad ⟨_,rfl,Ad h⟩
noncomputable def oU(K:uW):V->Option Int->Option Int->Hp->VK->Prop:=λx lo hi H Q=>∃a xs,x = .ref a/\SqT K H a xs/\(HT.sIx xs.length 0 lo=0/\HT.sIx xs.length xs.length hi=xs.length->Q (.ref a) H)/\∀p,H p=none->Q (.ref p) (upd H p<|.tup<|gD xs lo hi)
theorem ft:SlR X (oU X.K):=by
 intro pins s σ H x v W Y lo hi sl Q I z B M O h;obtain⟨a,xs,rfl,R,q1,q2⟩:=h;by_cases hw:HT.sIx xs.length 0 lo=0/\HT.sIx xs.length xs.length hi=xs.length
 ·cases z
  obtain⟨a2,r,U,hz⟩:=I.tuple R;have a3:a2.toArray.size=xs.length:=by rw[An];exact r.length.symm
  refine⟨"tuple",_,Bg.lookup,U.typeIs,?_⟩;exact vy U B M O (by rw[a3];exact hw) ⟨.ref a,H,I,rfl,q1 hw⟩
 ·exact iy pins s σ H (.ref a) v W Y lo hi sl Q I z B M O ⟨a,xs,rfl,R,hw,q2⟩
theorem wy(n d:Nat)(o:Option Int):K2 n d o=HT.sIx n d o:=by cases o<;>rfl
theorem bH{K:uW}{H:Hp}{ds:List D}{xs:List V}(r:Reps K H ds xs)(lo hi:Option Int):Reps K H (Vk ds lo hi) (gD xs lo hi):=by unfold Vk gD;rw[<- wy,<- wy,r.length];exact(r.drop _).take _
theorem ak{ds:List D}{lo hi:Option Int}(h:HT.sIx ds.length 0 lo=0/\HT.sIx ds.length ds.length hi=ds.length):Vk ds lo hi=ds:=by unfold Vk;rw[wy,wy,h.1,h.2];simp
noncomputable def tB(K:uW)(f:CO (Option Int)):TO:=λσ H Q=>∃H0 γ o,RC K H0 H σ γ/\f γ=some o/\∀H' H0',Ext H0 H H0' H'->Q o H'
theorem kB:L2.PO X none (tB X.K wV):=λpins s σ H Q I ⟨H0,γ,o,rc,z,q⟩=>fL pins s σ H Q I (by cases z;exact q H H0<|Ext.refl rc.sub)
theorem jS(h:PV X e f):L2.PO X (some e) (tB X.K<|sBd f):=λpins s σ H Q I ⟨H0,γ,o,rc,z,q⟩=>fK h pins s σ H Q I (by
 obtain⟨i,e1,e2⟩:=zy z;obtain⟨d,B,e1⟩:=zc e1;subst e2;refine⟨H0,γ,d,rc,B,λv H' H0' x r=>?_⟩;rw[jY e1]at r;exact⟨i,jw r,q H' H0' x⟩)
theorem Xo{lo hi:Option Expr}{I M:CO (Option Int)}(ha:PV X a f)(U:L2.PO X lo (tB X.K I))(W:L2.PO X hi (tB X.K M)):PV X (.Subscript a (.Slice lo hi none p2) pos) (fu f I M):=
 jz (Yw ft ha U W) λσ H Q Y=>by
  obtain⟨H0,γ,d,rc,z,q⟩:=Y;obtain⟨d1,e1,z⟩:=zc z;obtain⟨l,e2,z⟩:=zc z;obtain⟨u,e3,z⟩:=zc z;refine⟨H0,γ,d1,rc,e1,λv H' H0' x r=>⟨H0',γ,l,rc.ext x,e2,λH2 a2 B=>⟨a2,γ,u,(rc.ext x).ext B,e3,λH3 a4 x3=>?_⟩⟩⟩;have O:=x.trans<|B.trans x3;cases d1 with
  | tup ds=>
   cases z;obtain⟨a1,xs,rfl,h1,h2⟩:=xO<|r.mono (B.trans x3).s0;have a6:=h2.length;refine⟨a1,xs,rfl,sameT x3.sub h1,λhw=>?_,λp R=>?_⟩
   ·rw[a6]at hw
    exact q _ H3 a4 O (by rw[ak hw];exact qr h1 h2)
   ·exact q _ _ _ (O.trans<|Ext.alloc x3.sub R _)<|qr (SqT.of zM)<|(bH h2 _ _).mono (zV (js x3.sub R) _)
  | _=>cases z
theorem Yn{K:uW}{H:Hp}{ds:List D}{xs:List V}(r:Reps K H ds xs) : ∀n:Nat,Reps K H (Aa n ds).flatten (Aa n xs).flatten
 | 0=>Reps.nil
 | n+1=>by rw[Bs,Bs,BP,BP];exact r.append<|Yn r n
theorem dC(ha:PQ X a fq)(W:PQ X b gq):PO X (.BinOp a .Add b pos) (fB fq gq):=
 jz (fV cc ha W) λσ H Q Y=>by
  obtain⟨H0,γ,ds,rc,z,q⟩:=Y;obtain⟨⟨k1,d1⟩,e1,z⟩:=zc z;obtain⟨⟨k2,O⟩,e2,z⟩:=zc z;cases k1<;>cases k2<;>try (simp at z;done)
  dsimp only at z;by_cases I:d1.length+O.length<=lim
  ·rw[GY I]at z;cases z
   refine⟨H0,γ,.L,d1,rc,e1,λa1 xs H1 a5 x1 h1 h2 R=>⟨a5,γ,.L,O,rc.ext x1,e2,λa2 ys H2 a7 B h3 h4 U=>⟨a1,a2,xs,ys,rfl,rfl,B.s1.seq h1,h3,kF (by rw[R.length,U.length];exact I),λp M=>?_⟩⟩⟩;exact q p (xs++ys) _ a7 (x1.trans<|B.trans<|Ext.hide B.sub M _) (XD (x1.trans B).s1 M) (js B.sub M) zM<|(R.mono B.s0).append U
  ·rw[MQ I]at z;cases z
theorem lU{K:uW}{t c:String}{b:Bool}(h:(if ((Fg t) == .type c)=true then some true else if PySem.W.kitMeta c=true then (fastBuiltinMro t).map (·.contains (.type c))else none)=some b):BD K (.type t) (.type c)=some b:=h
noncomputable def tyN:Ty->String
 | .int=>"int"
 | .bool=>"bool"
 | .str=>"str"
 | .tuple=>"tuple"
 | .list=>"list"
noncomputable def lV:D->String
 | .non=>"NoneType"
 | .bl _=>"bool"
 | .int _=>"int"
 | .str _=>"str"
 | .tup _=>"tuple"
 | .lst _=>"list"
 | .dic _ _=>"dict"
 | .dct _ _=>"dict"
theorem qQ{K:uW}(T:Ty)(d:D):BD K (.type<|lV d) (.type<|tyN T)=some (QL T d):=by cases d<;>cases T<;>(dsimp only[lV,tyN,QL,dP,mi,dM,dJ,dO];exact lU ⋯)
theorem cy{pins:GW}{σ:St}{H0 H:Hp}{s:Shared}{A:Around}{E:GQ}{Q:GQ}{d:D}{x:V}{u:Value}(I:Inv X pins σ H s)(sub:Same H0 H)(B:RelV x u)(r:Rep X.K H0 d x)(T:Ty)
 (h : ∀tk,Q (.bool (QL T d)) {s with toks:=tk}):wpAny (model X.prog X.w) A (call (.builtin "isinstance") [u,.type (tyN T)]) Q E s:=by
 cases d with
 | non=>have e:=qQ (K:=X.K) T .non;cases (show x = .non from r);cases (show u=BM from B);exact AN FE I.kIn BN e (λz=>nomatch z) h
 | bl y=>have e:=qQ (K:=X.K) T<|.bl y;cases (show x = .bl y from r);cases (show u=FM y from B);exact AN FF I.kIn BN e (λz=>nomatch z) h
 | int i=>have e:=qQ (K:=X.K) T<|.int i;cases (show x = .int i from r);obtain⟨t,q⟩:=(show ∃t,u=FC i t from B);cases q;exact AN FO I.kIn BN e (λz=>nomatch z) h
 | str y=>have e:=qQ (K:=X.K) T<|.str y;cases (show x = .str y from r);obtain⟨t,q⟩:=(show ∃t,u=FB y t from B);cases q;exact AN FN I.kIn BN e (λz=>nomatch z) h
 | tup ds=>
  have e:=qQ (K:=X.K) T<|.tup ds;obtain⟨a,xs,rfl,h1,h2⟩:=xO r;cases (show u=Bi a from B);obtain⟨R,U,⟨o,M,O,_⟩,W⟩:=I.tuple<|sameT sub h1;exact AN Fp I.kIn ⟨o,M,O⟩ e (λz=>nomatch z) h
 | lst ds=>
  have e:=qQ (K:=X.K) T<|.lst ds;obtain⟨a,xs,rfl,h1,h2⟩:=KP r;cases (show u=Bi a from B);obtain⟨R,U,p,W⟩:=I.list<|sub.seq h1;obtain⟨o,M,O,_⟩:=p.isList;exact AN Eu I.kIn ⟨o,M,O⟩ e (λz=>nomatch z) h
 | dic ks vs=>
  have e:=qQ (K:=X.K) T<|.dic ks vs;obtain⟨a,xs,rfl,⟨kk,_,_,h1⟩,_⟩:=(show ∃a xs,x = .ref a/\DRp H0 a ks xs/\Reps X.K H0 vs xs from r);exact W3 I B (.dK<|sub _ _ h1) e h
 | dct ks vs=>
  have e:=qQ (K:=X.K) T<|.dct ks vs;obtain⟨a,xs,rfl,⟨_,o,zs,h1,h2,_⟩,_⟩:=(show ∃a xs,x = .ref a/\DRt X.K H0 a ks xs/\Reps X.K H0 vs xs from r);cases (show u=Bi a from B);obtain⟨M,_⟩:=(show ObjOk X.prog X.w H s.heap a (atO a o)from I.hok a _<|sub _ _ h1);exact AN CM I.kIn ⟨o,M,h2.1.1⟩ e (λz=>nomatch z) h
theorem bI(T:Ty)(h:SX X sc N L k)(c:ki sc "isinstance" = true)(z:X.mg "isinstance" = none)(B:ki sc ty=true)(R:X.mg ty=none)(U:bootBuiltins ty=some (.type (tyN T)))(ha:PV X a f)
 (O:starEach [a,.Name ty p2] X.env=[(false,eval a X.env),(false,eval (.Name ty p2) X.env)]:=by rfl):PV X (.Call (.Name "isinstance" p) [a,.Name ty p2] [] pos) (sIs T f):=by
 intro pins s σ H Q I ⟨H0,γ,d,rc,W,q⟩;obtain⟨d1,e1,e2⟩:=zy W;subst e2;refine BK<|qN I (h.gl c).1 z Fq ?_ ⋯ ⋯;refine Cz ?_ (by rw[O];rfl) rfl;rw[O];show wpAny _ _ (spliced ((false,eval a X.env)::backTo pos [(false,eval (.Name ty p2) X.env)])) _ _ s;refine Bv<|thn (ha pins s σ H _ I ⟨H0,γ,d1,rc,e1,λv H' H0' x r=>(show(λv H'=>∃H0',Ext H0 H H0' H'/\Rep X.K H0' d1 v) v H' from⟨H0',x,r⟩)⟩) λu s1 Y=>?_;obtain⟨x,H1,M,r1,a1,x1,rr⟩:=Y;show wpAny _ _ (spliced ((false,eval (.Name ty p2) X.env)::[])) _ _ s1;refine Bv<|qN M (h.gl B).1 R U ?_ (h.gl B).2.1 (h.gl B).2.2;refine CV ?_;exact cy M x1.sub r1 rr T λtk=>⟨.bl _,H1,M.tok tk,rfl,q _ H1 a1 x1 rfl⟩
end
section
variable{X:Cx}{sc:Scope}{N L:List Str}{k:Nat}{e a b c:Expr}{pos p p2:Pos}{f g:CO D}{fq:CO (Sk×List D)}
theorem jl(h:SX X sc N L k)(c:ki sc "range" = true)(z:X.mg "range" = none)(ha:PV X a f)(B:starEach [a] X.env=[(false,eval a X.env)]:=by rfl):PIF X tg (.Call (.Name "range" p) [a] [] pos) (zK f):=Y7 (h.gl c).1 z ha B
theorem bT(h:SX X sc N L k)(c:ki sc "range" = true)(z:X.mg "range" = none)(ha:PV X a f)(B:PV X b g)(I:starEach [a,b] X.env=[(false,eval a X.env),(false,eval b X.env)]:=by rfl)(M:starEach [b] X.env=[(false,eval b X.env)]:=by rfl) :
 PIF X tg (.Call (.Name "range" p) [a,b] [] pos) (Jt f g):=Y6 (h.gl c).1 z ha B I M
theorem w5(h:SX X sc N L k)(c:ki sc "zip" = true)(z:X.mg "zip" = none)(ha:PV X a f)(B:PV X b g)(I:starEach [a,b] X.env=[(false,eval a X.env),(false,eval b X.env)]:=by rfl)(M:starEach [b] X.env=[(false,eval b X.env)]:=by rfl) :
 PIF X (.Tuple elts x1 tpos) (.Call (.Name "zip" p) [a,b] [] pos) (QK f g):=fQ (h.gl c).1 z ha B I M
theorem Xq(h:SX X sc N L k)(c:ki sc "isinstance" = true)(z:X.mg "isinstance" = none)(B:ki sc "int" = true)(I:X.mg "int" = none)(ha:PV X a f)
 (M:starEach [a,.Name "int" p2] X.env=[(false,eval a X.env),(false,eval (.Name "int" p2) X.env)]:=by rfl):PV X (.Call (.Name "isinstance" p) [a,.Name "int" p2] [] pos) (sIs .int f):=bI .int h c z B I EA ha M
theorem ZV(h:SX X sc N L k)(c:ki sc "isinstance" = true)(z:X.mg "isinstance" = none)(B:ki sc "bool" = true)(I:X.mg "bool" = none)(ha:PV X a f)
 (M:starEach [a,.Name "bool" p2] X.env=[(false,eval a X.env),(false,eval (.Name "bool" p2) X.env)]:=by rfl):PV X (.Call (.Name "isinstance" p) [a,.Name "bool" p2] [] pos) (sIs .bool f):=bI .bool h c z B I PyProof.Rows.boot_bool ha M
theorem qs(h:SX X sc N L k)(c:ki sc "isinstance" = true)(z:X.mg "isinstance" = none)(B:ki sc "tuple" = true)(I:X.mg "tuple" = none)(ha:PV X a f)
 (M:starEach [a,.Name "tuple" p2] X.env=[(false,eval a X.env),(false,eval (.Name "tuple" p2) X.env)]:=by rfl):PV X (.Call (.Name "isinstance" p) [a,.Name "tuple" p2] [] pos) (sIs .tuple f):=bI .tuple h c z B I Cr ha M
theorem Yp(ha:PV X a f):PV X (.UnaryOp .USub a pos) (Kn f):=
 jz (pq ic ha) λσ H Q z=>by obtain⟨H0,γ,d,rc,B,q⟩:=z;obtain⟨i,e1,e2⟩:=zy B;obtain⟨d1,I,e1⟩:=zc e1;subst e2;refine⟨H0,γ,d1,rc,I,λv H' H0' x r=>?_⟩;rw[jY e1]at r;exact⟨i,jw r,q _ H' H0' x rfl⟩
theorem vp(i:Nat)(h:SX X sc N L k)(c:QR sc N i x=true)(ha:PV X a f)(z:starEach [a] X.env=[(false,eval a X.env)]:=by rfl)
 (B:attributeBase (.Name x np) "append" X.env (eval (.Name x np) X.env)=eval (.Name x np) X.env:=by rfl)
 (I:((backTo cpos<|starEach [a] X.env).all (λx=> !x.1) && (backToKw cpos<|keywordEach [] X.env).all (λx=>x.1.isSome)
   && decide ([a].length+([]:List Keyword).length+(if ([]:List Keyword).isEmpty then 0 else 1)<30))=true:=by rfl)
 (M:(apos.endLine==cpos.line)=true:=by rfl) (O:swapsWith (.Call (.Attribute (.Name x np) "append" apos) [a] [] cpos) none pos.line X.env=pure false:=by rfl) :
 PSD X (.Expr (.Call (.Attribute (.Name x np) "append" apos) [a] [] cpos) pos) (j8 i f):=
 Y3 i (bY PySem.F.plainAttrs_list PySem.F.slot_list_append PySem.F.type_list_append WT (h.var c) (z9 ha j1 z) B I M z rfl) O
theorem qf(i:Nat){st:Stmt}{f:CO (List D)}(h:PS X st (aW (tO X.K f)<|yX i)):PSD X st (jM i<|qE f):=kA h λD σ H I=>by obtain⟨E0,E,H0,γ,U,z,B,M⟩:=I;obtain⟨d,e1,B⟩:=zy B;obtain⟨ds,O,e1⟩:=zy e1;subst B e1;exact⟨H0,γ,ds,z.rc,O,λa xs H' H0' x h1 h2 R r=>M _ _ _<|(z.step<|x.show h1 h2 R z.rc.sub).setVal (wX (SqL.of zM)<|r.mono<|zV h2 _)⟩
theorem psc(i:Nat)(h:SX X sc N L k)(c:k7 sc N L i y=true)
 (z:X.calm=true) (ok:CompOk X scope fr) (B : ∀i∈T.idx,i<own.length) (hi:PIC X tg iter src) (I : ∀fp s2 H2,PG (jr X scope (own++fr.map (·.1)) fp s2 H2) tg<|gOf X.K T)
 (M : ∀fp s2 H2,PV (jr X scope (own++fr.map (·.1)) fp s2 H2) elt f) (O : ∀x,foldedSetIterable iter X.env x=pure x:=by intro _;rfl) :
 PS X (.Assign [.Name y py] (.ListComp elt [⟨tg,iter,[],0⟩] scope cpos) spos) (aW (tO X.K<|zC src T own.length (fr.map (·.2)) zQ f)<|yX i):=by
 obtain⟨h1,h2,R⟩:=h.loc c;exact bQ h.ndX h1 h2 R z ok B hi I M O
theorem Xs(i:Nat)(h:SX X sc N L k)(c:QR sc N i x=true)(hi:PV X b g)(Y:PV X e f)
 (ha : ∀v,assign (.Subscript (.Name x np) b p) X.env v=(do
   let ov <- holding [v] (eval (.Name x np) X.env);let I <- holding [v,ov] (eval b X.env)
   standAt p
   holding [v,ov,I] (setItem ov I v)
   release [v,ov,I] []):=by intro _;rfl)
 (hs:swapsWithSole [.Subscript (.Name x np) b p] e pos.line X.env=pure false:=by rfl) (hw:swappedStores [.Subscript (.Name x np) b p] e X.env=pure none:=by rfl)
 (h1:(assignEach [.Subscript (.Name x np) b p] X.env).map (·.2)=[assign (.Subscript (.Name x np) b p) X.env]:=by rfl) :
 PSD X (.Assign [.Subscript (.Name x np) b p] e pos) (Xa i g f):=
 kA (Ww Y (dE (h.var c) hi Yj ha) hs hw h1) λD σ H hZ=>by obtain⟨E0,E,H0,γ,fl,R,z,a2⟩:=hZ;obtain⟨d,e1,z⟩:=zc z;obtain⟨ds,e2,z⟩:=zc z;obtain⟨kk,M,z⟩:=zc z;obtain⟨dk,e4,M⟩:=zc M;obtain⟨j,e5,z⟩:=zy z;subst z;have e2:=kJ e2;refine⟨H0,γ,d,R.rc,e1,λv H' H0' x r=>?_⟩;have O:=R.step x;obtain⟨a,xs,h1,h2,h3,U⟩:=O.rc.own i ds e2;refine⟨_,h1,H0',γ,dk,O.rc,e4,λv2 H2 a7 B W=>?_⟩;rw[jY M]at W;have a8:=O.step B;refine⟨a,xs,kk,j,rfl,jw W,B.s1 _ _ h3,by rw[U.length];exact YC e5,?_⟩;exact a2 _ _ a7<|a8.rewrite (xs:=xs) e2 h1<|(U.mono B.s0).set j (r.mono B.s0)
end
structure FnD(P:Program)(w:World)(K:uW)(mg:GJ)(base:Heap)(k:Nat)(x:Str)(n:Nat)(F:List D->Option Res):Prop where
 ex : ∃(f:Addr) (fd:FuncData) (ps:List Str),ps.length=n/\FnOk P w K mg base CX0 k f fd ps (spF K ps.length F)/\mg x=some (.ref f)/\Eo K (.ref f)=true/\Binds K fd ps []
structure DefAt(K:uW)(mg:GJ)(x:Str)(st:Stmt)(ps:List Str):Prop where
 ex : ∃(f:Addr) (fd:FuncData),L2.Fun K x x st f fd/\(∀us:List Value,us.length=ps.length->bindArgs fd ⟨us,[]⟩=pure (ps.zip us))/\mg x=some (.ref f)
noncomputable def PAn(X:Cx)(es:List Expr)(n:Nat)(g:CO (List D)):Prop:=PAD X es g/\∀γ ds,g γ=some ds->ds.length=n
section
variable{X:Cx}{sc:Scope}{N L:List Str}{k:Nat}{e:Expr}{es:List Expr}{f:CO D}{g:CO (List D)}{n:Nat}{pos p:Pos}{x:Str}
theorem zh:PAn X [] 0 zz:=⟨fW,λγ ds h=>by cases h;rfl⟩
theorem za(ha:PV X e f)(z:PAn X es n g)(B:starEach (e::es) X.env=(false,eval e X.env)::starEach es X.env:=by rfl):PAn X (e::es) (n+1) (zb f g):=
 ⟨bZ ha z.1 B,λγ ds h=>by obtain⟨y,e1,h⟩:=zc h;obtain⟨r,e2,h⟩:=zy h;subst h;rw[Be,z.2 γ r e2]⟩
variable{j:Nat}{F:List D->Option Res}
theorem pe(z:FnD X.prog X.w X.K X.mg X.base j x n F)(B:j<=k)(h:SX X sc N L k)(c:ki sc x=true)(ha:PAn X (e::es) n g)
 (I:starEach (e::es) X.env=(false,eval e X.env)::starEach es X.env:=by rfl) (M:(backTo pos<|starEach es X.env).any (·.1)=false:=by rfl):PV X (.Call (.Name x p) (e::es) [] pos) (zt F g):=by
 obtain⟨fa,fd,ps,hn,G,hm,O,R⟩:=z.ex;subst hn;exact fG (A0:=[]) G ha.1 ha.2 λ{t} U=>WJ G (h.room.mono B) (h.gl c).1 hm O R .nil lG U (h.gl c).2.2 I M
theorem pj(z:FnD X.prog X.w X.K X.mg X.base j x n F)(B:j<=k)(h:SX X sc N L k)(c:ki sc x=true)(ha:PAn X (e::es) n g)
 (I:starEach (e::es) X.env=(false,eval e X.env)::starEach es X.env:=by rfl) (M:(backTo pos<|starEach es X.env).any (·.1)=false:=by rfl):PO X (.Call (.Name x p) (e::es) [] pos) (kf F g):=by
 obtain⟨fa,fd,ps,hn,G,hm,O,R⟩:=z.ex;subst hn;exact fN G ha.1 ha.2 λ{t} U=>WJ G (h.room.mono B) (h.gl c).1 hm O R .nil lG U (h.gl c).2.2 I M
end
section
variable{P:Program}{w:World}{K:uW}{mg:GJ}{base:Heap}
noncomputable def cM(N ps:List Str)(st:Stmt):Bool:=
 decide ((jh st).kind = .function) && decide ((jh st).isCoroutine=false) && decide ((jh st).isGenerator=false) && decide N.Nodup && decide (N.take ps.length=ps) &&
 ps.all (λx=>decide ((jh st).names.lookup x=some .local) || decide ((jh st).names.lookup x=some .cell)) && (jh st).names.all (λy=> !(y.2==Az))
theorem Yl{N ps:List Str}{st:Stmt}(h:cM N ps st=true):FnScope N ps (jh st):=by unfold cM at h;simp only[Au,decide_eq_true_eq,Bp,Bo,EO]at h;obtain⟨⟨⟨⟨⟨⟨h1,h2⟩,z⟩,B⟩,I⟩,M⟩,O⟩:=h;exact⟨h1,h2,z,B,I,M,λy R e=>by have:=O y R;rw[e]at this;exact absurd this ⋯⟩
theorem WK{X:Cx}(z:X.xe=λ_ _=>False):PassesOwn (model X.prog X.w) X.A X.env X.xe:=by rw[z];exact PassesOwn.never
theorem qp{x:Str}{st:Stmt}{N ps:List Str}{k:Nat}{F:CO Fl}(A:DefAt K mg x st ps)(hd:cM N ps st=true)
 (B : ∀X:Cx,X.prog=P->X.w=w->X.K=K->X.mg=mg->X.base=base->SX X (jh st) N N k->X.xe=(λ_ _=>False)->aU X (xW st) F) :
 FnD P w K mg base (k+1) x ps.length (zY N.length F):=by
 obtain⟨f,fd,z,I,hm⟩:=A.ex;have S:=Yl hd;refine⟨f,fd,ps,rfl,my z S λcdv A outer s H E M=>?_,hm,z.kp,.all I⟩;exact B _ rfl rfl rfl rfl rfl ⟨rfl,rfl,S.nd,rfl,M,λ_ _=> .inl rfl⟩ rfl
theorem sH{h:Heap}{x:Str}{st:Stmt}{ps:List Str}{f:Addr}{oc:Value}{od an:Option Addr}{osl:Array (Option Value)}{kV doc pm cdv ct:Value}(z:K.In h)(G:h.Ns mainGlobals mg)
 (a:Ej K mainGlobals x=some (some (.ref f))) (l:K.lookup f=some ⟨oc,od,.func<|CS x x (Zr st) (xW st) (jh st) .none kV doc pm an cdv ct,osl⟩)
 (c:Fh K cdv x=true) (kp:Eo K (.ref f)=true)
 (b : ∀(kV doc pm:Value) (an:Option Addr) (cdv ct:Value) (us:List Value),us.length=ps.length->bindArgs (CS x x (Zr st) (xW st) (jh st) .none kV doc pm an cdv ct) ⟨us,[]⟩=pure (ps.zip us)):DefAt K mg x st ps:=
 ⟨f,_,mw l c kp,b kV doc pm an cdv ct,EJ z G a⟩
theorem pO{x:Str}{st:Stmt}{f:Addr}{fd:FuncData}{N ps:List Str}{k:Nat}{F:CO Fl}(z:L2.Fun K x x st f fd)(hd:cM N ps st=true)
 (B : ∀X:Cx,X.prog=P->X.w=w->X.K=K->X.mg=mg->X.base=base->SX X (jh st) N N k->X.xe=(λ_ _=>False)->aU X (xW st) F) :
 FnOk P w K mg base CX0 (k+1) f fd ps (spF K ps.length<|zY N.length F):=by
 have S:=Yl hd;exact my z S λcdv A outer s H E I=>B _ rfl rfl rfl rfl rfl ⟨rfl,rfl,S.nd,rfl,I,λ_ _=> .inl rfl⟩ rfl
theorem nN{F:List D->Option Res}{H:Hp}{a:Addr}{ns:List Int}(z:SqL K H a (ns.map V.int))(B:F [.lst (ns.map D.int)]=some (.val<|.bl true)) :
 spF K 1 F [.ref a] H (λv _=>v = .bl true) λ_ _ _=>False:=by
 refine⟨H,[.lst (ns.map D.int)],.val<|.bl true,Same.refl _,Reps.cons (wX z ?_) Reps.nil,rfl,B,λv H' H0' _ r=>r⟩;clear B z
 induction ns with
 | nil=>exact Reps.nil
 | cons n ns I=>exact Reps.cons rfl I
end
end DL
namespace DL
open PySem PySem.Spec PyProof.Rows L2
open AutoSeq1 (wpAny_loadPart')
theorem wq:fillsNumberSlot (.type "tuple") "mul" = pure false:=
 PySem.fillsNumberSlot_seq (id:="tuple.__mul__") (r:=some (.builtin "tuple.__rmul__")) Eg.lookup ⋯ F.slot_tuple_rmul.lookup ⋯
theorem Xm:seqRepeat? (.type "tuple")=pure (some (.builtin "tuple.__mul__")):=by unfold seqRepeat?;rw[PySem.seqSlot_of (T:="tuple") (name:="__mul__") (id:="tuple.__mul__") Eg.lookup ⋯,PySem.seqSlot_of (T:="tuple") (name:="__rmul__") (id:="tuple.__rmul__") F.slot_tuple_rmul.lookup ⋯];rfl
theorem ZK(a:Int)(t:Tok)(l:Addr)(z:Array Value)(n:Nat)(B:Option Addr)(sl:Array (Option Value)) :
 Meets (Builtin.«int.__rmul__» ⟨[.int a t,.ref l],[]⟩) (λ_ R s=>s.heap.get? l=some {cls:= .type "tuple",dict:=B,data:= .seq z n,slots:=sl}/\R (.ok (.ret Value.notImplemented)) s):=
 .of_wp λprog w A R s h=>by obtain⟨I,g,d,tk,os⟩:=s;obtain⟨M,h⟩:=h;wp_walk;exact⟨_,rfl,h⟩
theorem Jo(a:Int)(t:Tok)(l:Addr)(z:Array Value)(n:Nat)(I:Option Addr)(sl:Array (Option Value))(h1 : ¬(decide (a < -(2 ^ 63)) || decide (a>=2 ^ 63))=true)(h2 : ¬(z.isEmpty || a==1)=true)
 (M : ¬(decide (a<=0) || z.isEmpty)=true) (O : ¬((z.size:Int)*a>(2 ^ 63 - 1)/8)) (U : ¬Builtin.Tuple.tupleTooMany ((z.size:Int)*a)=true) (W:((Aa a.toNat z).foldl (· ++ ·) #[]).size<=sizeLine) :
 Meets (Builtin.«tuple.__mul__» ⟨[.ref l,.int a t],[]⟩) (λ_ R s=>s.heap.get? l=some {cls:= .type "tuple",dict:=I,data:= .seq z n,slots:=sl}/\
  R (.ok (.ret (.ref s.heap.objs.size))) {s with heap:=s.heap.push {cls:= .type "tuple",data:= .seq ((Aa a.toNat z).foldl (· ++ ·) #[])}}):=
 .of_wp λprog w A R s h=>by
  obtain⟨Y,g,d,tk,os⟩:=s;obtain⟨B,h⟩:=h
  wp_walk using Bx B
  rw[MQ h1];refine uX<|Fk (s:=⟨Y,g,d,tk,os⟩) ⟨_,B,rfl,n,rfl⟩ ?_;dsimp only;rw[MQ h2,MQ M,MQ O,MQ U];refine uX (m:=Bf _)<|AW ?_ W;exact Ad ⟨_,rfl,h⟩
theorem ZF(a:Int)(t:Tok)(l:Addr)(z:Array Value)(n:Nat)(I:Option Addr)(sl:Array (Option Value))(h1 : ¬(decide (a < -(2 ^ 63)) || decide (a>=2 ^ 63))=true)(h2 : ¬(z.isEmpty || a==1)=true)
 (M:(decide (a<=0) || z.isEmpty)=true) :
 Meets (Builtin.«tuple.__mul__» ⟨[.ref l,.int a t],[]⟩) (λ_ R s=>s.heap.get? l=some {cls:= .type "tuple",dict:=I,data:= .seq z n,slots:=sl}/\
  R (.ok (.ret (.ref s.heap.objs.size))) {s with heap:=s.heap.push {cls:= .type "tuple",data:= .seq #[]}}):=
 .of_wp λprog w A R s h=>by
  obtain⟨O,g,d,tk,os⟩:=s;obtain⟨B,h⟩:=h
  wp_walk using Bx B
  rw[MQ h1];refine uX<|Fk (s:=⟨O,g,d,tk,os⟩) ⟨_,B,rfl,n,rfl⟩ ?_;dsimp only;rw[MQ h2,GY M];refine uX (m:=Bf _)<|AW ?_ (Bt _);exact Ad ⟨_,rfl,h⟩
theorem ZE(a:Int)(t:Tok)(l:Addr)(B:Array Value)(n:Nat)(I:Option Addr)(sl:Array (Option Value))(h1 : ¬(decide (a < -(2 ^ 63)) || decide (a>=2 ^ 63))=true)(h2:(B.isEmpty || a==1)=true) :
 Meets (Builtin.«tuple.__mul__» ⟨[.ref l,.int a t],[]⟩) (λ_ R s=>s.heap.get? l=some {cls:= .type "tuple",dict:=I,data:= .seq B n,slots:=sl}/\R (.ok (.ret (.ref l))) s):=
 .of_wp λprog w A R s h=>by
  obtain⟨M,g,d,tk,os⟩:=s;obtain⟨z,h⟩:=h
  wp_walk using Bx z
  rw[MQ h1];refine uX (Fk (s:=⟨M,g,d,tk,os⟩) ⟨_,z,rfl,n,rfl⟩ ?_);dsimp only;rw[GY h2];refine uX (m:=BX _) ?_;unfold BX;refine uX (EV (T:="tuple") ⟨_,z,rfl⟩ (Ad ?_));rw[GY ⋯];exact uX (Cs (Ad ⟨_,rfl,h⟩))
section
variable{X:Cx}
noncomputable def iM(K:uW):R2:=λx y H Q=>∃l k xs,x = .ref l/\y = .int k/\SqT K H l xs/\ -(2 ^ 62)<=k/\k<2 ^ 62/\xs.length*k.toNat<=sizeLine/\(xs=[]\/k=1->Q (.ref l) H)/\
 ∀p,H p=none->Q (.ref p) (upd H p<|.tup (Aa k.toNat xs).flatten)
theorem fX:OpR X (binaryOp .Mult) (iM X.K):=by
 intro pins s σ H x y v u Q I rx ry h;obtain⟨l,k,xs,rfl,rfl,hq,h1,h2,hz,q1,q2⟩:=h;cases rx;obtain⟨t,rfl⟩:=ry;obtain⟨z,r,ht,z1⟩:=I.tuple hq;obtain⟨⟨cls,O,data,sl⟩,B,hc,n,hd⟩:=id ht;simp only at hc hd;subst hc hd;have ac:=r.length;have R : ¬(decide (k < -(2 ^ 63)) || decide (k>=2 ^ 63))=true:=by simp;omega
 refine wpAny_binaryOp_repeat_ref (T:="tuple") (U:="int") ⋯ ⟨_,B,rfl⟩ (λs'=>typeIs_int s' k t) wq F.fills_int_mul F.slot_int_rmul Xm F.slot_int_index.lookup
  (CP F.slot_int_rmul (typeIs_int s k t) F.entry_int_rmul (F.args_int_rmul_2 _ _) (ZK k t l z.toArray n O sl) ⟨B,rfl,⟨_,B,rfl⟩,?_⟩)
 have f0 : ∀m:Nat,List.foldl (λx1 W=>x1++W) #[] (Aa m z.toArray)=(Aa m z).flatten.toArray:=λm=>by have:=XR z m [];rw[List.nil_append]at this;exact this
 by_cases g2:(z.toArray.isEmpty || k==1)=true
 ·refine CP Eg ⟨_,B,rfl⟩ FZ (FT _ _) (ZE k t l z.toArray n O sl R g2) ⟨B,⟨.ref l,H,I,rfl,q1 ?_⟩⟩
  rw[Bo]at g2;rcases g2 with g | g
  ·left
   have:z=[]:=by simpa using g
   exact(r.nil_iff).mp this
  ·right;simpa using g
 ·have Y:=g2
  simp only[Bo,not_or]at Y;have ag:z ≠ []:=by intro e;exact Y.1 (by rw[e];rfl)
  have ar:0<z.length:=List.length_pos_iff.mpr ag;by_cases M:(decide (k<=0) || z.toArray.isEmpty)=true
  ·have hk:k.toNat=0:=by
    rw[Bo]at M;rcases M with g | g
    ·have:=of_decide_eq_true g;omega
    ·exact absurd g Y.1
   refine CP Eg ⟨_,B,rfl⟩ FZ (FT _ _) (ZF k t l z.toArray n O sl R g2 M) ⟨B,?_⟩;refine⟨.ref s.heap.objs.size,_,I.laid (t':=s.toks) (o:= .tup (Aa k.toNat xs).flatten) (λc ob q=>uY _ q) (Ak _) ?_,rfl,q2 _<|I.hok.fresh<|Ak _⟩;rw[hk];exact⟨Bt _,[],.nil,IsTupD.new _ _⟩
  ·have hk : ¬k<=0:=by intro g;exact M (by rw[Bo];exact .inl<|decide_eq_true g)
   have an:z.length*k.toNat<=sizeLine:=by rw[<- ac];exact hz
   have as:((z.toArray.size:Nat):Int)*k<=(sizeLine:Int):=by
    rw[An];have e:((z.length*k.toNat:Nat):Int)=(z.length:Int)*k:=by rw[Int.natCast_mul,Int.toNat_of_nonneg ⋯]
    omega
   have aw:sizeLine=16777216:=sizeLine_eq;have ao:(List.foldl (λx1 W=>x1++W) #[] (Aa k.toNat z.toArray)).size<=sizeLine:=by rw[f0,An,WV,Nat.mul_comm];exact an
   refine CP Eg ⟨_,B,rfl⟩ FZ (FT _ _) (Jo k t l z.toArray n O sl R g2 M ⋯ (by unfold Builtin.Tuple.tupleTooMany;simp only[decide_eq_true_eq];omega) ao) ⟨B,?_⟩;rw[f0];refine⟨.ref s.heap.objs.size,_,I.laid (t':=s.toks) (o:= .tup (Aa k.toNat xs).flatten) (λc ob q=>uY _ q) (Ak _) ?_,rfl,q2 _<|I.hok.fresh<|Ak _⟩;exact⟨by rw[WV,Nat.mul_comm];exact hz,_,r.rep k.toNat,IsTupD.new _ _⟩
theorem ff{K:uW}:Snd K (λx y H Q=>rI CMul (λi j=> .int (i*j)) x y H Q\/iM K x y H Q) qT:=λH0 H x y dx O d Q s B I z q=>by
 cases dx<;>cases O<;>simp[qT]at z
 ·obtain⟨e1,e2⟩:=z
  subst e2;exact .inl ⟨_,_,jw B,jw I,cT e1,q _ H H0 (Ext.refl s) rfl⟩
 ·rename_i ds j
  obtain⟨⟨R,U⟩,rfl⟩:=z;obtain⟨a,xs,rfl,h1,h2⟩:=xO B;obtain⟨W,Y⟩:=JS U;refine .inr ⟨a,j,xs,rfl,jw I,sameT s h1,W,Y,kF (by rw[h2.length];exact R),λe=>?_,λp M=>?_⟩
  ·refine q _ H H0 (Ext.refl s) ?_
   rcases e with e | e
   ·have e2:ds=[]:=by
     have:=h2.length;rw[e]at this;exact AM this.symm
    subst e2;rw[show(Aa j.toNat ([]:List D)).flatten=[]by simp];exact qr h1 h2
   ·subst e
    rw[show(Aa (1:Int).toNat ds).flatten=ds by simp];exact qr h1 h2
  ·exact q _ _ _ (Ext.alloc s M _)<|qr (SqT.of zM)<|(Yn h2 _).mono (zV (js s M) _)
theorem j0(ha:PV X a fa)(z:PV X b fb):PV X (.BinOp a .Mult b pos) (zu qT fa fb):=ZW (op_mul.or fX) ff ha z
end
end DL
namespace DL
open PySem PySem.Spec PyProof.Rows L2
theorem RC.lendAt{K:uW}{H0 H:Hp}{σ:St}{γ:Ctx}{i:Nat}{ds:List D}{a:Addr}{xs:List V}(r:RC K H0 H σ γ)(e:γ[i]? = some (.own ds))(h1:σ[i]? = some (some (.ref a)))(h2:H0 a=none)(Y:H a=some (.lst xs))(h4:Reps K H0 ds xs):RC K (L2.upd H0 a<|.lst xs) H σ (γ.set i<|.val<|.lst ds):=by
 refine⟨λb o q=>?_,by simp[r.len],λj d g=>?_,λj es g=>?_,λj k b es fs e1 e2 e3 e4=>?_,⟨λj rows g=>?_,λj k r1 r2 e1 e2=>?_⟩⟩
 ·by_cases z:b=a
  ·subst z;rw[zM]at q;rw[Y];exact q
  ·rw[zI z]at q;exact r.sub b o q
 ·rcases zv g with⟨rfl,z,hl⟩ | ⟨I,z⟩
  ·cases z;exact⟨_,h1,wX (SqL.of zM)<|h4.mono<|zV h2 _⟩
  ·obtain⟨v,M,g2⟩:=r.val j d z
   exact⟨v,M,g2.mono<|zV h2 _⟩
 ·rcases zv g with⟨_,z,_⟩ | ⟨I,z⟩
  ·cases z
  ·obtain⟨b,ys,M,g2,g3,g4⟩:=r.own j es z
   refine⟨b,ys,M,?_,g3,g4.mono<|zV h2 _⟩;rw[zI (λq=>I<|r.ne j i a es ds z e (by rw[M,q]) h1)];exact g2
 ·rcases zv e1 with⟨_,z,_⟩ | ⟨I,B⟩
  ·cases z
  ·rcases zv e2 with⟨_,z,_⟩ | ⟨hk,O⟩
   ·cases z
   ·exact r.ne j k b es fs B O e3 e4
 ·rcases zv g with⟨_,z,_⟩ | ⟨I,z⟩
  ·cases z
  ·obtain⟨b,bs,f1,U,W⟩:=r.nst.1 j rows z
   have a8:=W i ds a e h1;refine⟨b,bs,f1,U.move (zV h2 _) (λc R=>by rw[zI (λq=>a8<|by rw[<- q];exact R)];exact(U.at R).1)<|λc R=>rfl,λk fs c e1 e2=>?_⟩;rcases zv e1 with⟨_,z,_⟩ | ⟨_,B⟩
   ·cases z
   ·exact W k fs c B e2
 ·rcases zv e1 with⟨_,z,_⟩ | ⟨_,B⟩
  ·cases z
  ·rcases zv e2 with⟨_,z,_⟩ | ⟨_,O⟩
   ·cases z
   ·exact r.nst.2 j k r1 r2 B O
end DL
namespace L2
open PySem PySem.Spec PyProof.Rows
open AutoSeq1 (wpAny_loadPart')
section
variable{prog:Program}{w:World}{A:Around}{E:GQ}{s:Shared}
theorem Vi{z it l:Addr}{n:Nat}{xs:Array Value}{x M:Value}{Q:GQ}(hz:IsEnum s.heap z it n M)(h1:ItAt .T s.heap it l n)(hl:SqAt .T s.heap l xs)(hx:xs[n]? = some x)(U:z≠it)
 (hQ : ∀g,IsEnumOut g z it ((n:Int)+1) x s.heap.objs.size->ItAt .T g it l (n+1)->IsPair g s.heap.objs.size (.int n s.toks) x->g.objs.size=s.heap.objs.size+1->
   (∀c o,c≠z->c≠it->s.heap.get? c=some o->g.get? c=some o)->Q (.ref s.heap.objs.size) {s with heap:=g,toks:=s.toks+1}) :
 wpAny (model prog w) A (Builtin.«enumerate.__next__» ⟨[.ref z],[]⟩) (λb0 s'=>∃v,b0 = .done (.ret v)/\Q v s') E s:=by
 refine uX (m:=field (.ref z) 2) (Ax hz rfl (x:= .ref it) rfl ?_);refine uX (m:=Al (.ref it)) (qg h1 hl hx λg1 b7 a2=>?_);have a3:IsEnum g1 z it n M:=a2.extBut _ _ U hz;refine uX (m:=field (.ref z) 3) (Ax a3 rfl (x:=rawInt n) rfl ?_);refine uX (m:=field (.ref z) 4) (Ax a3 rfl (x:= .none) rfl ?_);refine uX (m:=mkInt n) (wpAny_mkInt ?_);refine uX (m:=setField (.ref z) 3 (rawInt ((n:Int)+1))) (AC a3 ⋯ λg2 hz2 a4=>?_);replace hz2:IsEnum g2 z it ((n:Int)+1) M:=hz2;refine uX (m:=setField (.ref z) 4 .none) (AC hz2 ⋯ λO a5 a6=>?_);replace a5:IsEnum O z it ((n:Int)+1) M:=a5;refine uX (m:=newTuple [.int n s.toks,x]) (wpAny_newTuple ?_);have W:IsEnum (O.push {cls:= .type "tuple",data:= .seq #[.int n s.toks,x]}) z it ((n:Int)+1) M:=uY _ a5;generalize Y:O.push {cls:= .type "tuple",data:= .seq #[.int n s.toks,x]}=I at W;have y1:g1.objs.size=s.heap.objs.size:=a2.1;have y2:g2.objs.size=g1.objs.size:=a4.1;have y3:O.objs.size=g2.objs.size:=a6.1;have a7:O.objs.size=s.heap.objs.size:=by rw[y3,y2,y1]
 have bd:z<s.heap.objs.size:=Ao hz;have be:IsPair I s.heap.objs.size (.int n s.toks) x:=by show I.get? _=_;rw[<- Y,<- a7];exact Aj _ rfl
 have y4:I.objs.size=s.heap.objs.size+1:=by rw[<- Y,AB,a7]
 have bg : ∀c o,c≠z->c≠it->s.heap.get? c=some o->I.get? c=some o:=λc o B c2 e=>by rw[<- Y];exact uY _<|a6.extBut _ _ B<|a4.extBut _ _ B<|a2.extBut _ _ c2 e
 have bi:ItAt .T I it l (n+1):=b7.at λo e=>by rw[<- Y];exact uY _<|a6.extBut _ _ U.symm<|a4.extBut _ _ U.symm e
 refine uX (m:=Av<|.ref z) ?_;unfold Av;refine uX<|Ax W rfl (x:= .none) rfl<|Ad ?_;simp only[if_true];refine uX<|Cs<|uX<|Ax W rfl (x:=M) rfl ?_;refine uX<|AC W ⋯ λg5 ac ao=>?_;replace ac:IsEnum g5 z it ((n:Int)+1) x:=ac;rw[a7];refine uX (m:=AV (.ref z)<|.ref s.heap.objs.size) ?_;unfold AV;refine uX<|AC ac ⋯ λg6 ag ap=>?_;replace ag:IsEnumOut g6 z it ((n:Int)+1) x s.heap.objs.size:=ag;refine AC ag ⋯ λR am ar=>?_;replace am:IsEnumOut R z it ((n:Int)+1) x s.heap.objs.size:=am;have up : ∀c o,c≠z->I.get? c=some o->R.get? c=some o:=λc o B e=>ar.extBut _ _ B<|ap.extBut _ _ B<|ao.extBut _ _ B e;have y7:R.objs.size=s.heap.objs.size+1:=by have q5:g5.objs.size=I.objs.size:=ao.1;have q6:g6.objs.size=g5.objs.size:=ap.1;have q7:R.objs.size=g6.objs.size:=ar.1;rw[q7,q6,q5,y4]
 exact uX<|CJ<|Ad ⟨_,rfl,hQ R am (bi.at λo e=>up _ o U.symm e) (up _ _ (Bk bd) be) y7 λc o B c2 e=>up c o B<|bg c o B c2 e⟩
theorem aj{z it l:Addr}{n:Nat}{xs:Array Value}{B:Value}{Q:Fin->Shared->Prop}(I:A.handled=none)(M:IsEnum s.heap z it n B)(h1:ItAt .T s.heap it l n)(O:SqAt .T s.heap l xs)(R:xs[n]? = none)
 (U : ∀g e,Heap.ExtBut it s.heap g->(∃o,g.get? e=some o/\o.cls = .type "StopIteration")->E (.ref e) {s with heap:=g}) :
 wpAny (model prog w) A (Builtin.«enumerate.__next__» ⟨[.ref z],[]⟩) Q E s:=
 uX (m:=field (.ref z) 2) (Ax M rfl (x:= .ref it) rfl<|uX (m:=Al<|.ref it)<|kW I h1 O R U)
end
noncomputable def gy(i:Addr):Obj:={cls:= .type "enumerate",data:= .fields #[.none,.bool false,.ref i,rawInt 0,.none,.none]}
noncomputable def Zp(h:Heap)(l:Addr):Heap:=Am (Am h<|itO .T l)<|gy h.objs.size
theorem ai(l:Addr)(xs:Array Value) :
 Meets (Builtin.«enumerate.__new__» ⟨[.type "enumerate",.ref l],[]⟩) (λ_ R s=>SqAt .T s.heap l xs/\R (.ok (.ret (.ref (s.heap.objs.size+1)))) {s with heap:=Zp s.heap l}):=
 .of_wp λprog w A R s h=>by
  obtain⟨M,g,d,tk,os⟩:=s;obtain⟨O,h⟩:=h;have U:=sub_enumerate;have z:Heap.IsTuple (EL ⟨M,g,d,tk,os⟩) l xs:=O;obtain⟨o,B,I,m,hd⟩:=id z;obtain⟨cls,dct,W,sl⟩:=o;simp only at I hd;subst I hd;simp only[Zp,gy,itO,AB]at h
  wp_walk using Bx B
  refine wpAny_stack_any λst=>Ad ?_;split
  ·rename_i c _ _ _ _ _
   cases (c==Fg "enumerate")<;>(wp_walk using Bx B,EW z;exact⟨_,rfl,by simpa[AB,Er]using h⟩)
  ·wp_walk using Bx B,EW z
   exact⟨_,rfl,by simpa[AB,Er]using h⟩
noncomputable def Ite(K:uW)(a:Addr):It:=
 ⟨λi H=>∃xs,SqK .T K H a xs/\i<xs.length,
  λi H x H'=>∃p u,x = .ref p/\H p=none/\H'=upd H p (.tup [.int i,u])/\(∀xs,SqK .T K H a xs->xs[i]? = some u),
  λi H=>∃xs,SqK .T K H a xs/\xs.length<=i⟩
theorem yU(M:IsEnum s.heap z it n old)(h:Q (.ref z) s):wpAny (model prog w) A (pyIter (.ref z)) Q E s:=by have B:s.TypeIs (.ref z) "enumerate":=⟨_,M,rfl⟩;refine wpAny_pyIter_slot B F.slot_enumerate_iter (AX F.slot_enumerate_iter B F.entry_enumerate_iter ?_ (F.args_enumerate_iter_1 _));have I:wpAny (model prog w) A.in1 (ret (.ref z)) (λI s'=>∃v,I = .done (.ret v)/\∃T m,s'.TypeIs v T/\typeLookup (.type T) "__next__" = pure (some m)/\Q v s') E s:=Ad ⟨_,rfl,"enumerate",_,B,Cq.lookup,h⟩;exact I
theorem VJ{P:Program}{w:World}{K:uW}{elts:List Expr}{x1:Nat}{tpos:Pos}{z it a:Addr}(ag:z≠it) :
 Turn P w K (.Tuple elts x1 tpos) (Ite K a) [z,it] z (λi h=>(∃R,IsEnum h z it i R)/\ItAt .T h it a i) where
 mem:=by simp
 obj:=λi h ⟨⟨R,B⟩,h1⟩ y hy=>by
  simp only[Ag,Aw,or_false]at hy;rcases hy with rfl | rfl
  ·exact⟨_,B,λv q=>by cases q⟩
  ·exact h1.obj
 keep:=λi h h' ⟨⟨R,B⟩,h1⟩ k=>⟨⟨R,k z ⋯ _ B⟩,h1.at λo e=>k it ⋯ o e⟩
 item:=by
  rintro X hP hw hK hc i pins s σ H E I W ⟨⟨R,B⟩,h1⟩ ⟨xs,Y,ap⟩;subst hP hw hK;obtain⟨ar,a7,p1,z1⟩:=I.sq Y;have hx:xs[i]? = some xs[i]:=Ae ap;obtain⟨u1,aw,ax⟩:=a7.get hx;have U:s.TypeIs (.ref z) "enumerate":=⟨_,B,rfl⟩;unfold pyNext;refine uX (BJ (AI (name:=As "__next__") U Cq (AX Cq U F.entry_enumerate_next
   (Vi B h1 p1 (x:=u1) (by simpa using aw) ag λg a1 a2 a3 a4 a5=>Ad ⟨_,rfl,?_⟩) (F.args_enumerate_next_1 _))))
  refine wpAny_letOwnedTupleGo_enum a1 λg2 hz2 ac=>?_;have lt : ∀{c o},s.heap.get? c=some o->s.heap.objs.size≠c:=λe=>Bk<|Ao e;have bb:IsPair g2 s.heap.objs.size (.int i s.toks) u1:=ac.extBut _ _ (lt B) a3;have kk : ∀O u,O ∉ [z,it]->s.heap.get? O=some u->g2.get? O=some u:=λO u M e=>by simp only[Ag,Aw,or_false,not_or]at M;exact ac.extBut _ _ M.1<|a5 O u M.1 M.2 e
  have I1:Inv X pins σ (upd H s.heap.objs.size<|.tup [.int i,xs[i]]) {s with heap:=g2,toks:=s.toks+1}:=
   I.turnLaid (fp:=[z,it]) kk W (Ak _) ⟨by show 2<=sizeLine;decide,[.int i s.toks,u1],.cons ⟨_,rfl⟩<|.cons ax .nil,⟨_,bb,rfl,_,rfl⟩⟩
  have be:H s.heap.objs.size=none:=I.fresh;refine⟨.ref s.heap.objs.size,_,I1,rfl,⟨_,_,rfl,be,rfl,λbx bf=>by rw[I.sq_inj bf Y];exact hx⟩,?_,λO M=>?_⟩
  ·exact⟨⟨_,by have:=hz2;rwa [show((i:Int)+1)=((i+1:Nat):Int)by omega]at this⟩,a2.at λo e=>ac.extBut _ _ ag.symm e⟩
  ·have bg:O≠s.heap.objs.size:=by
    simp only[Ag,Aw,or_false]at M;rcases M with rfl | rfl
    ·exact(lt B).symm
    ·obtain⟨o,e,_⟩:=h1.obj;exact(lt e).symm
   rw[zI bg];exact(W O M).1
 done:=by
  rintro X hP hw hK hc i pins s σ H E I W ⟨⟨R,B⟩,h1⟩ ⟨xs,Y,hi⟩;subst hP hw hK;obtain⟨ar,a7,p1,z1⟩:=I.sq Y;have U:s.TypeIs (.ref z) "enumerate":=⟨_,B,rfl⟩;have l1:=a7.length;unfold pyNext;refine uX (BJ (AI (name:=As "__next__") U Cq (AX Cq U F.entry_enumerate_next
   (aj (show X.A.handled=none from I.ok.hd hc) B h1 p1 (by simp;omega) λg e hk he=>?_) (F.args_enumerate_next_1 _))))
  obtain⟨o,ho,bn⟩:=he;refine uX (CC (T:="StopIteration") (b:=true) ⟨o,ho,bn⟩ FP (Ad ⟨rfl,?_⟩));refine I.turnedL (t':=s.toks) (fp:=[z,it]) (λO u M e=>?_) W;simp only[Ag,Aw,or_false,not_or]at M;exact hk O u M.2 e
 self:=λ_ _ _ _ _ st h=>yU st.1.choose_spec h
noncomputable def pI(K:uW)(ta:TA):TI:=λσ H R=>ta σ H λvs H1=>∃a,vs=[.ref a]/\(∃xs,SqK .T K H1 a xs)/\R (Ite K a) H1
theorem fU{X:Cx}{e1:Expr}{ta:TA}{p pos:Pos}{elts:List Expr}{x1:Nat}{tpos:Pos}(W:Gl X "enumerate")(hm:X.mg "enumerate" = none)(ha:PA X [e1] ta)
 (Y:bootBuiltins "enumerate" = some (.type "enumerate")) (hs:starEach [e1] X.env=[(false,eval e1 X.env)]:=by rfl) :
 PI X (.Tuple elts x1 tpos) (.Call (.Name "enumerate" p) [e1] [] pos) (pI X.K ta):=by
 intro pins s σ H R I h;refine Call_<|qN I W hm Y<|AF (thn (ha pos pins s σ H _ I h) λus s1 hZ=>?_) (by rw[hs];rfl) rfl;obtain⟨vs,H1,z,r1,q1⟩:=hZ;obtain⟨a,e,⟨xs,a4⟩,q⟩:=q1;subst e;obtain⟨w1,eu,a6⟩:=k6 r1;subst eu;cases a6;obtain⟨a7,ag,M,z1⟩:=z.sq a4;have la:=M.lt;refine callType_new F.called_enumerate ⋯ (F.typeCall_enumerate_1 _) (F.newCall_enumerate_1 _) (λobj=>FI obj _) F.entry_enumerate_new (ai a a7.toArray) ⟨M,?_⟩;have keep : ∀c o,s1.heap.get? c=some o->(Zp s1.heap a).get? c=some o:=λc o e=>uY _<|uY _ e;have y1:(Am s1.heap<|itO .T a).objs.size=s1.heap.objs.size+1:=AB ..;have g0:ItAt .T (Zp s1.heap a) s1.heap.objs.size a 0:=(vN .T s1.heap a).at λo e=>uY _ e;have B:IsEnum (Zp s1.heap a) (s1.heap.objs.size+1) s1.heap.objs.size 0 .none:=by have q:=Aj (Am s1.heap<|itO .T a) (o:=gy s1.heap.objs.size) rfl;rw[y1]at q;exact q
 refine⟨⟨_,B,rfl⟩,yU (s:={s1 with heap:=Zp s1.heap a}) B ?_⟩;have I2:Inv X pins σ H1 {s1 with heap:=Zp s1.heap a,toks:=s1.toks}:=z.kept keep;refine⟨_,[s1.heap.objs.size+1,s1.heap.objs.size],_,_,H1,rfl,I2,VJ<|Bk<|Cv _,⟨⟨_,B⟩,g0⟩,λc O=>?_,q⟩;have U:s1.heap.objs.size<=c:=by
  simp only[Ag,Aw,or_false]at O;rcases O with rfl | rfl
  ·exact AG _ _
  ·exact Ak _
 exact z.fpOk U<|z.hok.fresh U
end L2
namespace DL
open PySem PySem.Spec PyProof.Rows L2
theorem XO{K:uW}{H:Hp} : ∀{ds:List D} {xs:List V} {l:List Int},Reps K H ds xs->W5 ds=some l->xs=l.map V.int
 | [],xs,l,r,e=>by cases e;rw[show xs=[]from r];rfl
 | d::ds,xs,l,r,e=>by
  obtain⟨x,I,rfl,z,B⟩:=(show ∃x r,xs=x::r/\Rep K H d x/\Reps K H ds r from r);cases d with
  | int i=>
   obtain⟨M,e1,rfl⟩:=zy (show(W5 ds).map (λl=>i::l)=some l from e);rw[XO B e1,show x = .int i from z];rfl
  | _=>cases e
theorem XS : ∀l:List Int,(l.map V.int).all ZL=true
 | []=>rfl
 | i::l=>by simp only[Ba,FK,XS l,Bool.and_true];rfl
theorem W8(i:Int) : ∀l:List Int,inV (.int i) (l.map V.int)=decide (i∈l)
 | []=>rfl
 | j::l=>by
  have z:=W8 i l;unfold inV at z ⊢;rw[Ba,List.any_cons,z];have e:eqV (.int j) (.int i)=(j==i):=rfl;rw[e];by_cases h:i=j
  ·subst h
   rw[beq_self_eq_true,Bool.true_or];exact(decide_eq_true Ai).symm
  ·rw[beq_false_of_ne (AR h),Bool.false_or]
   exact decide_eq_decide.mpr ⟨λq=>Ah _ q,λq=>(Ag.mp q).resolve_left h⟩
theorem Vy{K:uW}{H0 Hs:Hp}{a:Addr}{xs:List V}{ds:List D}(h:SqT K Hs a xs)(r:Reps K H0 ds xs):Walk K H0 Hs (Ite K a) (kH ds):=by
 have O:=r.length;have R:(kH ds).length=ds.length:=by simp[kH]
 refine⟨λi H1 s hi=>?_,λH1 s=>?_,λi H1 x H1' s hi y=>?_⟩
 ·exact⟨xs,sameT s h,by omega⟩
 ·exact⟨xs,sameT s h,by omega⟩
 ·obtain⟨p,u,e1,z,e2,B⟩:=y
  obtain⟨d,hd,I⟩:=r.getV<|B xs<|sameT s h;refine⟨.tup [.int i,d],?_,λG0 s1 s2=>⟨upd G0 p<|.tup [.int i,u],?_,?_⟩⟩
  ·have M:i<ds.length:=by omega
   unfold kH;rw[AK,List.getElem?_range M,AS,hd];rfl
  ·rw[e2];exact Ext.alloc s2 z _
  ·rw[e1]
   exact qr (SqT.of zM)<|Reps.cons (show V.int i = .int i from rfl)<|Reps.cons ((I.mono s1).mono (zV (js s2 z) _)) Reps.nil
section
variable{X:Cx}{sc:Scope}{N L:List Str}{k:Nat}{a b c:Expr}{pos p:Pos}{f fa fb fc:CO D}
theorem lg(h:SX X sc N L k)(c:ki sc "enumerate" = true)(z:X.mg "enumerate" = none)(ha:PV X a f)(I:starEach [a] X.env=[(false,eval a X.env)]:=by rfl) :
 PIF X (.Tuple elts x1 tpos) (.Call (.Name "enumerate" p) [a] [] pos) (fA f):=
 w6 (fU (h.gl c).1 z (z9 ha j1 I) boot_enumerate I) λσ H R O=>by
  obtain⟨H0,γ,ds,rc,B,q⟩:=O;obtain⟨d,U,B⟩:=zc B;cases d with
  | tup es=>
   cases B;refine⟨H0,γ,_,rc,U,λv H' H0' x r=>?_⟩;obtain⟨W,xs,rfl,M,g2⟩:=xO r;exact⟨W,rfl,⟨xs,sameT x.sub M⟩,q _ H' H0' x<|Vy M g2⟩
  | _=>cases B
theorem Yr(ho:OpR X (compareOp op) r)(a1:OpR X (compareOp op') r')(s1:Snd X.K r F)(s2:Snd X.K r' G)(ha:PV X a fa)(hb:PV X b fb)(hc:PV X c fc)
 (hm:lastMarks [op,op'] [b,c]=false:=by with_unfolding_all rfl):PV X (.Compare a [op,op'] [b,c] pos) (yH F G fa fb fc):=
 jz (bX ho a1 ha hb hc hm) λσ H Q hZ=>by
  obtain⟨H0,γ,d,rc,B,q⟩:=hZ;obtain⟨x,e1,B⟩:=zc B;obtain⟨y,e2,B⟩:=zc B;obtain⟨k,e3,B⟩:=zc B;obtain⟨O,e4,R⟩:=zc e3;refine⟨H0,γ,x,rc,e1,λv1 H1 a8 x1 r1=>⟨a8,γ,y,rc.ext x1,e2,λU H2 ac I W=>s1 ac H2 v1 U x y O _ I.sub (r1.mono I.s0) W e4 λv3 H3 Y x3 r3=>?_⟩⟩;cases O with
  | bl k'=>
   cases R;refine⟨k,show v3 = .bl k from r3,?_⟩;cases k with
   | true=>
    rw[GY rfl];rw[GY rfl]at B;obtain⟨z,e6,e7⟩:=zc B;exact⟨Y,γ,z,((rc.ext x1).ext I).ext x3,e6,λv4 H4 aw M r4=>s2 aw H4 U v4 y z d _ M.sub ((W.mono x3.s0).mono M.s0) r4 e7 λv5 H5 b8 x5 r5=>q v5 H5 b8 (((x1.trans I).trans x3).trans (M.trans x5)) r5⟩
   | false=>
    rw[MQ ⋯];rw[MQ ⋯]at B;cases B;exact q _ H3 Y ((x1.trans I).trans x3) rfl
  | _=>cases R
theorem iT(ha:PV X a fa){g:CO (Sk×List D)}(M:PQ X b g)(hm:behindInMarks .In b=false:=by with_unfolding_all rfl):PV X (.Compare a [.In] [b] pos) (rZ fa g):=
 jz (JF Xw ha M hm) λσ H Q O=>by
  obtain⟨H0,γ,d,rc,z,q⟩:=O;obtain⟨x,e1,z⟩:=zc z;obtain⟨⟨kk,ds⟩,e2,z⟩:=zc z;obtain⟨i,R,z⟩:=zc z;obtain⟨l,U,rfl⟩:=zy z;refine⟨H0,γ,x,rc,e1,λI H1 W x1 B=>⟨W,γ,kk,ds,rc.ext x1,e2,λp xs H2 Y x2 h1 h2 r=>?_⟩⟩;rw[jY R]at B;have ex:=XO r U;subst ex;have hq:SqL X.K H2 p (l.map V.int)\/SqT X.K H2 p (l.map V.int):=by
   cases kk with
   | L=>exact .inl h1
   | T=>exact .inr h1
  refine⟨p,_,rfl,hq,by rw[show I = .int i from B];rfl,XS l,?_⟩;rw[show I = .int i from B,W8];exact q _ H2 Y (x1.trans x2) rfl
end
theorem yz : ∀{l:List Int} {us:List Value},Vals (l.map V.int) us->∀i,i<us.toArray.size->∃z u,us.toArray[i]? = some (.int z u)/\l[i]? = some z
 | [],us,r,i,hi=>by cases r;exact absurd hi<|Nat.not_lt_zero _
 | z::l,u::us,.cons r t,i,hi=>by
  cases i with
  | zero=>
   obtain⟨tk,rfl⟩:=r;exact⟨z,tk,by simp,by simp⟩
  | succ i=>
   obtain⟨B,I,e1,e2⟩:=yz t i (by simpa using hi);exact⟨B,I,by simpa using e1,by simpa using e2⟩
theorem y9(h:wz o=some rows):o=some (.nest rows):=by
 cases o with
 | none=>cases h
 | some c=>cases c<;>first | cases h;rfl | cases h
noncomputable def tN(K:uW)(f:CO (List<|List D)):TE:=λσ H Q=>∃H0 γ rows,RC K H0 H σ γ/\f γ=some rows/\
 ∀a bs H' H0',Ext H0 H H0' H'->(∀b∈a::bs,H b=none)->Nest K H0' H' rows a bs->Q (.ref a) H'
noncomputable def Rws(K:uW)(H0 H:Hp)(rows:List (List D))(bs:List Addr):Prop:=bs.length=rows.length/\∀(k:Nat) b row,bs[k]? = some b->rows[k]? = some row->H0 b=none/\∃xs,H b=some (.lst xs)/\Reps K H0 row xs
theorem Rws.at{K:uW}{H0 H:Hp}{rows:List (List D)}{bs:List Addr}(n:Rws K H0 H rows bs){b:Addr}(I:b∈bs):H0 b=none/\∃xs,H b=some (.lst xs):=by obtain⟨k,z⟩:=List.getElem?_of_mem I;have B:=(Af.mp z).1;rw[n.1]at B;obtain⟨h1,xs,h2,_⟩:=n.2 k b _ z<|Ae B;exact⟨h1,xs,h2⟩
theorem Rws.ext{K:uW}{H0 H H0' H':Hp}{rows:List (List D)}{bs:List Addr}(n:Rws K H0 H rows bs)(e:Ext H0 H H0' H'):Rws K H0' H' rows bs:=
 ⟨n.1,λk b row h1 h2=>by obtain⟨z,xs,g2,B⟩:=n.2 k b row h1 h2;exact⟨e.new b z (by rw[g2];simp),xs,e.s1 _ _ g2,B.mono e.s0⟩⟩
theorem Rws.add{K:uW}{H0 H:Hp}{rows:List (List D)}{bs:List Addr}{b:Addr}{row:List D}{xs:List V}(n:Rws K H0 H rows bs)(h1:H0 b=none)(h2:H b=some (.lst xs))(I:Reps K H0 row xs):Rws K H0 H (rows++[row]) (bs++[b]):=
 ⟨by simp[n.1],λk c r e1 e2=>by
  rcases Nat.lt_or_ge k bs.length with z | z
  ·rw[AD z]at e1
   rw[AD (by rw[<- n.1];exact z)]at e2;exact n.2 k c r e1 e2
  ·rw[AA z]at e1
   rw[AA (by rw[<- n.1];exact z)]at e2;have B:k - bs.length=0:=by have:=(Af.mp e1).1;simp at this;omega
   rw[B]at e1;rw[<- n.1,B]at e2;cases e1;cases e2;exact⟨h1,xs,h2,I⟩⟩
theorem Rws.hide{K:uW}{H0 H:Hp}{rows:List (List D)}{bs:List Addr}{z:Addr}{o:HO}(n:Rws K H0 H rows bs)(h:z∉bs):Rws K H0 (upd H z o) rows bs:=
 ⟨n.1,λk b row h1 h2=>by obtain⟨B,xs,g2,I⟩:=n.2 k b row h1 h2;exact⟨B,xs,by rw[zI (λq=>h<|by rw[<- q];exact AZ h1)];exact g2,I⟩⟩
section
variable{K:uW}{own:List Str}{fr:List (Str×Nat)}{src:CO (List D)}{T:Tg}{f:CO (List D)}
theorem Vl(hT : ∀i∈T.idx,i<own.length){tt:TT}(c3 : ∀σ H Q,tT K zQ σ H Q->tt σ H Q) : ∀σ H Q,tN K (Xd src T own.length (fr.map (·.2)) f) σ H Q->VQ (tIc K src) own fr (gOf K T) tt (tO K f) σ H Q:=λσ H Q hZ=>by
 obtain⟨H0,γ,rows,rc,U,q⟩:=hZ;obtain⟨B,e1,U⟩:=zc U;by_cases hl:B.length<=lim
 ·rw[GY hl]at U
  refine⟨H0,γ,B,rc,e1,λJ H1 a9 x1 wk D hD=>?_⟩;have ag : ∀(i:Nat) es,(jc own.length (fr.map (·.2)) γ)[i]? ≠ some (.own es):=λi es h=>by rcases j4 h with z | ⟨d',j,z,_⟩<;>cases z
  have am : ∀(i:Nat) es,(jc own.length (fr.map (·.2)) γ)[i]? ≠ some (.nest es):=λi es h=>by rcases j4 h with z | ⟨d',j,z,_⟩<;>cases z
  have b0:a9 D=none:=js x1.sub hD;have b7 : ∀c,H1 c=none->H c=none:=λc hc=>by
   cases z:H c with
   | none=>rfl
   | some o=>rw[x1.s1 c o z]at hc;cases hc
  refine⟨λi m ys σ' H'=>m=B.length - i/\i<=B.length/\ys.length<=i/\H' D=some (.lst ys)/\∃H0' bs r1 r2,ys=bs.map V.ref/\RC K H0' H' σ' (jc own.length (fr.map (·.2)) γ)/\H0' D=none/\Ext a9 H1 H0' H'/\Rws K H0' H' r1 bs/\(D::bs).Nodup/\(∀b∈bs,H1 b=none)/\yr T f (jc own.length (fr.map (·.2)) γ) (B.drop i)=some r2/\rows=r1++r2,
   ⟨_,rfl,Bt _,Ak _,zM,a9,[],[],rows,rfl,((rc.ext x1).pull).upd b0 ag am,b0,Ext.hide x1.sub hD _,⟨rfl,λk b row h=>by simp at h⟩,by simp,λb O=>by simp at O,U,rfl⟩,?_⟩
  rintro i m ys σ' H' ⟨rfl,hi,hy,a6,H0',bs,r1,r2,c5,ao,b8,W,a7,nd,b9,I,rfl⟩;subst c5;refine⟨a6,?_⟩;by_cases Y:i<B.length
  ·refine .inr ⟨wk.go i H' W.s1 Y,?_,λx ap y=>?_⟩
   ·have:=kF<|Ak lim;omega
   obtain⟨d,hd,hx⟩:=wk.yld i H' x ap W.s1 Y y;obtain⟨G0,M,rg⟩:=hx H0' W.s0 ao.sub;have c8:B.drop i=d::B.drop (i+1):=by
    have c9:d=B[i]:=by rw[Ae Y]at hd;exact(AU hd).symm
    rw[c9];exact BG Y
   rw[c8]at I;simp only[yr]at I;obtain⟨γ1,eb,I⟩:=zc I;obtain⟨e,ee,I⟩:=zc I;obtain⟨xk,er,I⟩:=zy I;have ce:G0 D=none:=M.new D b8 (by rw[a6];simp);have bd:ap D=some (.lst<|bs.map V.ref):=M.s1 _ _ a6;obtain⟨bl,bg⟩:=X4 eb;have ch : ∀{σ2:St} {G2 H2:Hp},RC K G2 H2 σ2 γ1->RC K G2 H2 σ2 (jc own.length (fr.map (·.2)) γ):=λr=>r.weak bl.symm (λj d' hj=>by
    by_cases hm:j∈T.idx
    ·rcases j4 hj with z | ⟨d2,j2,_,hn,_⟩
     ·cases z
     ·exact absurd (hT j hm) ⋯
    ·rw[bg j hm];exact hj) ag am
   refine Zu M.sub rg eb λσ1 bi _=>c3 σ1 ap _ ⟨G0,γ1,true,bi<|ao.ext M,rfl,λH3 bm x3=>?_⟩;have bn:=(bi<|ao.ext M).ext x3;have xa:=W.trans<|M.trans x3;have cl:bm D=none:=x3.new D ce (by rw[bd];simp);have as:H3 D=some (.lst<|bs.map V.ref):=x3.s1 _ _ bd;dsimp only;rw[GY rfl];refine⟨bm,γ1,e,bn,ee,λR d4 H4 bx x4 g1 g2 g3 g4=>?_⟩;have aw:bx D=none:=x4.new D cl (by rw[as];simp);have cq:H4 D=some (.lst<|bs.map V.ref):=x4.s1 _ _ as;have xb:=xa.trans x4;have cr:=((a7.ext M).ext x3).ext x4;have cs:=(a7.ext M).ext x3;have c0:D∉bs:=(Bn.mp nd).1;have c1:D≠R:=λz=>by rw[<- z,as]at g1;cases g1
   have ct:R∉bs:=λhm=>by obtain⟨_,d5,z⟩:=cs.at hm;rw[g1]at z;cases z
   have cv:H1 R=none:=by
    cases z:H1 R with
    | none=>rfl
    | some o=>rw[xa.s1 _ _ z]at g1;cases g1
   refine⟨cq,B.length - (i+1),by omega,rfl,Y,by rw[Bl,Eb];omega,zM,bx,bs++[R],r1++[e],xk,by simp,(ch<|bn.ext x4).upd aw ag am,aw,?_,?_,?_,?_,er,?_⟩
   ·exact⟨xb.s0,λc o z=>by rw[zI (λw=>by rw[w,hD]at z;cases z)];exact xb.s1 c o z,λc o z=>by rw[zI (λw=>by rw[w,aw]at z;cases z)];exact xb.sub c o z,xb.new⟩
   ·exact(cr.add g2 g3 g4).hide (by simp[c0,c1])
   ·refine Bn.mpr ⟨by simp[c0,c1],List.nodup_append.mpr ⟨(Bn.mp nd).2,by simp,λc hc c' cz=>?_⟩⟩
    have:c'=R:=by simpa using cz
    subst this;exact λz=>ct (by rw[<- z];exact hc)
   ·intro b O
    rcases Cd.mp O with z | z
    ·exact b9 b z
    ·have:b=R:=by simpa using z
     subst this;exact cv
   ·rw[<- I];simp
  ·have e:i=B.length:=by omega
   subst e;rw[Ee]at I;cases I;rw[Em]at q;refine .inl ⟨wk.stop H' W.s1,q D bs H' H0' (x1.trans W) (λb O=>?_) ⟨b8,a6,nd,a7.1,a7.2⟩⟩;rcases Ag.mp O with rfl | O
   ·exact b7 _ hD
   ·exact b7 b<|b9 b O
 ·rw[MQ hl]at U;cases U
end
section
variable{K:uW}{E0 E H0 H:Hp}{σ:St}{γ:Ctx}
theorem wC(h:γ.any Jg=false)(i:Nat)(rows:List (List D)):γ[i]? ≠ some (.nest rows):=λe=>by have hm:Cell.nest rows∈γ:=AZ e;have:=List.any_eq_false.mp h _ hm;exact this rfl
theorem RS.setNest(r:RS K E0 E G0 G σ γ)(e:Ext G0 G H0 H)(hf : ∀b∈a::bs,G b=none)(n:Nest K H0 H rows a bs)(R:γ.any Jg=false) :
 RS K E0 E H0 H (σ.set i<|some (.ref a)) (γ.set i<|.nest rows):=by
 have rc:=r.rc.ext e;have ef : ∀b∈a::bs,E b=none:=λb U=>by
  cases q:E b with
  | none=>rfl
  | some o=>have:=hf b U;rw[r.ext.s1 b o q]at this;cases this
 refine⟨⟨rc.sub,by simp[rc.len],λj d' g=>?_,λj ds g=>?_,λj k b ds fs e1 e2 e3 e4=>?_,⟨λj W g=>?_,λj k r1 r2 B g2=>?_⟩⟩,r.ext.trans e,λj ds b B g2=>?_,λj W b xs B g2 I=>?_⟩
 ·rcases zv g with⟨_,z,_⟩ | ⟨M,z⟩
  ·cases z
  ·obtain⟨v',B,g2⟩:=rc.val j d' z
   exact⟨v',by rw[Ac (AR M)];exact B,g2⟩
 ·rcases zv g with⟨_,z,_⟩ | ⟨M,z⟩
  ·cases z
  ·obtain⟨b,ys,B,g2⟩:=rc.own j ds z
   exact⟨b,ys,by rw[Ac (AR M)];exact B,g2⟩
 ·rcases zv e1 with⟨_,z,_⟩ | ⟨M,O⟩
  ·cases z
  ·rcases zv e2 with⟨_,z,_⟩ | ⟨Y,z2⟩
   ·cases z
   ·rw[Ac (AR M)]at e3
    rw[Ac (AR Y)]at e4;exact rc.ne j k b ds fs O z2 e3 e4
 ·rcases zv g with⟨rfl,z,hl⟩ | ⟨M,z⟩
  ·cases z
   refine⟨a,bs,Ar (by rw[rc.len];exact hl),n,λk ds c e1 e2=>?_⟩;rcases zv e1 with⟨_,z,_⟩ | ⟨Y,O⟩
   ·cases z
   ·rw[Ac (AR Y)]at e2
    obtain⟨c',ys,B,g2,I,_⟩:=r.rc.own k ds O;rw[e2]at B;cases B;intro hm;rw[hf c hm]at I;cases I
  ·exact absurd z<|wC R j W
 ·rcases zv B with⟨rfl,_,_⟩ | ⟨_,O⟩
  ·rcases zv g2 with⟨rfl,_,_⟩ | ⟨_,z2⟩
   ·rfl
   ·exact absurd z2<|wC R k r2
  ·exact absurd O<|wC R j r1
 ·rcases zv B with⟨_,z,_⟩ | ⟨M,z⟩
  ·cases z
  ·rw[Ac (AR M)]at g2;exact r.fresh j ds b z g2
 ·rcases zv B with⟨rfl,z,hl⟩ | ⟨M,z⟩
  ·rw[Ar (by rw[rc.len];exact hl)]at g2;cases g2
   rw[n.ha]at I;injection I with I;injection I with I;subst I;refine⟨ef a Ai,λb U=>?_⟩;obtain⟨c,hc,q⟩:=AY.mp U;cases q;exact ef b<|Ah _ hc
  ·exact absurd z<|wC R j W
theorem RS.forget(r:RS K E0 E H0 H σ γ):RS K E0 E H0 H (σ.set i v) (γ.set i .no):=by
 have O : ∀{j:Nat} {ds:List D} {b:Addr},(γ.set i .no)[j]? = some (.own ds)->γ[j]? = some (.own ds)/\(σ.set i v)[j]? = σ[j]? :=λ{j ds b} g=>by
  rcases zv g with⟨_,z,_⟩ | ⟨R,z⟩
  ·cases z
  ·exact⟨z,Ac<|AR R⟩
 have U : ∀{j:Nat} {rows:List (List D)},(γ.set i .no)[j]? = some (.nest rows)->γ[j]? = some (.nest rows)/\(σ.set i v)[j]? = σ[j]? :=λ{j rows} g=>by
  rcases zv g with⟨_,z,_⟩ | ⟨R,z⟩
  ·cases z
  ·exact⟨z,Ac<|AR R⟩
 refine⟨⟨r.rc.sub,by simp[r.rc.len],λj d' g=>?_,λj ds g=>?_,λj k b ds fs e1 e2 e3 e4=>?_,⟨λj rows g=>?_,λj k r1 r2 M g2=>r.rc.nst.2 j k r1 r2 (U M).1 (U g2).1⟩⟩,r.ext,λj ds b M g2=>?_,λj rows b xs M g2 g3=>?_⟩
 ·rcases zv g with⟨_,z,_⟩ | ⟨R,z⟩
  ·cases z
  ·obtain⟨v',M,g2⟩:=r.rc.val j d' z
   exact⟨v',by rw[Ac (AR R)];exact M,g2⟩
 ·obtain⟨B,I⟩:=O (b:=0) g
  rw[I];exact r.rc.own j ds B
 ·obtain⟨B,I⟩:=O (b:=0) e1
  obtain⟨W,Y⟩:=O (b:=0) e2;rw[I]at e3;rw[Y]at e4;exact r.rc.ne j k b ds fs B W e3 e4
 ·obtain⟨B,I⟩:=U g
  obtain⟨a,bs,h1,h2,h3⟩:=r.rc.nst.1 j rows B;refine⟨a,bs,by rw[I];exact h1,h2,λk ds c e1 e2=>?_⟩;obtain⟨W,Y⟩:=O (b:=0) e1;rw[Y]at e2;exact h3 k ds c W e2
 ·obtain⟨B,I⟩:=O (b:=0) M
  rw[I]at g2;exact r.fresh j ds b B g2
 ·obtain⟨B,I⟩:=U M
  rw[I]at g2;exact r.fr2 j rows b xs B g2 g3
theorem XE : ∀{l:List Addr} {m t:Nat} {b:Addr},l.Nodup->l[m]? = some b->l[t]? = some b->m=t
 | [],m,t,b,_,h,_=>by simp at h
 | c::l,m,t,b,nd,h1,h2=>by
  obtain⟨z,B⟩:=Bn.mp nd;cases m with
  | zero=>
   cases t with
   | zero=>rfl
   | succ t=>
    have e1:c=b:=by simpa using h1
    have e2:l[t]? = some b:=by simpa using h2
    exact absurd (AZ e2)<|e1 ▸ z
  | succ m=>
   cases t with
   | zero=>
    have e1:c=b:=by simpa using h2
    have e2:l[m]? = some b:=by simpa using h1
    exact absurd (AZ e2)<|e1 ▸ z
   | succ t=>exact congrArg (· + 1) (XE (b:=b) B (by simpa using h1)<|by simpa using h2)
theorem RC.row{j i t:Nat}{R:List (List D)}{a b:Addr}{bs:List Addr}{row:List D}(r:RC K H0 H σ γ)(hj:γ[j]? = some (.nest R))(hs:σ[j]? = some (some (.ref a)))(hn:Nest K H0 H R a bs)
 (Y : ∀(k:Nat) ds c,γ[k]? = some (.own ds)->σ[k]? = some (some (.ref c))->c∉a::bs) (hb:bs[t]? = some b) (hr:R[t]? = some row) (hi:i<γ.length) :
 RC K H0 H (σ.set i<|some (.ref b)) ((γ.set j .no).set i (.own row)):=by
 obtain⟨b0,xs,b1,b2⟩:=hn.row t b row hb hr;have a1:b∈a::bs:=Ah _<|AZ hb;have O : ∀{k:Nat} {c:Cell},c ≠ .no->(γ.set j .no)[k]? = some c->γ[k]? = some c/\k≠j:=λ{k c} hc g=>by
  rcases zv g with⟨_,z,_⟩ | ⟨I,z⟩
  ·exact absurd z hc
  ·exact⟨z,I⟩
 refine⟨r.sub,by simp[r.len],λk d g=>?_,λk ds g=>?_,λk m c ds es e1 e2 U W=>?_,NestOk.nil0 λk rows g=>?_⟩
 ·rcases zv g with⟨_,z,_⟩ | ⟨I,z⟩
  ·cases z
  ·obtain⟨B,_⟩:=O ⋯ z
   rw[Ac (AR I)];exact r.val k d B
 ·rcases zv g with⟨rfl,z,hl⟩ | ⟨I,z⟩
  ·cases z
   exact⟨b,xs,Ar (by rw[r.len];exact hi),b0,b1,b2⟩
  ·obtain⟨B,_⟩:=O ⋯ z
   rw[Ac (AR I)];exact r.own k ds B
 ·rcases zv e1 with⟨rfl,_,_⟩ | ⟨I,B⟩
  ·rcases zv e2 with⟨rfl,_,_⟩ | ⟨hm,M⟩
   ·rfl
   ·obtain⟨M,_⟩:=O ⋯ M
    rw[Ar (by rw[r.len];exact hi)]at U;rw[Ac (AR hm)]at W;cases U;exact absurd a1<|Y m es b M W
  ·obtain⟨B,_⟩:=O ⋯ B
   rcases zv e2 with⟨rfl,_,_⟩ | ⟨hm,M⟩
   ·rw[Ar (by rw[r.len];exact hi)]at W
    rw[Ac (AR I)]at U;cases W;exact absurd a1<|Y k ds b B U
   ·obtain⟨M,_⟩:=O ⋯ M
    rw[Ac (AR I)]at U;rw[Ac (AR hm)]at W;exact r.ne k m c ds es B M U W
 ·rcases zv g with⟨_,z,_⟩ | ⟨I,z⟩
  ·cases z
  ·obtain⟨B,M⟩:=O ⋯ z
   exact M<|r.nst.2 k j rows R B hj
theorem RS.nestSet(r:RS K E0 E H0 H σ γ)(I:γ[j]? = some (.nest R))(hs:σ[j]? = some (some (.ref a)))(hn:Nest K H0 H R a bs)
 (a6 : ∀(k:Nat) ds c,γ[k]? = some (.own ds)->σ[k]? = some (some (.ref c))->c∉a::bs) (W:bs[t]? = some b) (h4:Reps K H0 row' ys) :
 RS K E0 E H0 (upd H b<|.lst ys) σ (γ.set j<|.nest<|R.set t row'):=by
 have ac:j<γ.length:=(Af.mp I).1;have Y:b∈bs:=AZ W;have a7:b≠a:=λq=>(Bn.mp hn.nd).1 (by rw[<- q];exact Y);obtain⟨b0,_⟩:=hn.at<|Ah a Y;obtain⟨ea,er⟩:=r.fr2 j R a _ I hs hn.ha;have eb:E b=none:=er b<|AY.mpr ⟨b,Y,rfl⟩;have M : ∀{k:Nat} {c:Cell},(∀rows,c ≠ .nest rows)->(γ.set j<|.nest<|R.set t row')[k]? = some c->γ[k]? = some c:=λ{k c} O g=>by
  rcases zv g with⟨_,z,_⟩ | ⟨hk,z⟩
  ·exact absurd z<|O _
  ·exact z
 refine⟨⟨λc o q=>?_,by simp[r.rc.len],λk d g=>r.rc.val k d<|M ⋯ g,λk ds g=>?_,λk m c ds es e1 e2 e3 e4=>r.rc.ne k m c ds es (M ⋯ e1) (M ⋯ e2) e3 e4,⟨λk rows g=>?_,λk m r1 r2 B g2=>?_⟩⟩,⟨r.ext.s0,λc o q=>?_,λc o q=>?_,r.ext.new⟩,λk ds c B g2=>r.fresh k ds c (M ⋯ B) g2,λk rows c xs B g2 U=>?_⟩
 ·rw[zI (λz=>by rw[z,b0]at q;cases q)];exact r.rc.sub c o q
 ·have z:=M ⋯ g
  obtain⟨c,xs,h1,h2,h3,h5⟩:=r.rc.own k ds z;refine⟨c,xs,h1,h2,?_,h5⟩;rw[zI (λq=>a6 k ds c z h1<|by rw[q];exact Ah _ Y)];exact h3
 ·have hk:k=j:=by
   rcases zv g with⟨z,_,_⟩ | ⟨_,z⟩
   ·exact z
   ·exact r.rc.nst.2 k j rows R z I
  subst hk;rw[Ar ac]at g;cases g;refine⟨a,bs,hs,⟨hn.a0,by rw[zI (AR a7)];exact hn.ha,hn.nd,by simp[hn.len],λm c row O hr=>?_⟩,λm ds c B g2=>a6 m ds c (M ⋯ B) g2⟩;by_cases hm:m=t
  ·subst hm
   rw[W]at O;cases O;have:m<R.length:=by rw[<- hn.len];exact(Af.mp W).1
   rw[Ar this]at hr;cases hr;exact⟨b0,ys,zM,h4⟩
  ·rw[Ac (AR hm)]at hr
   obtain⟨h1,xs,h2,h3⟩:=hn.row m c row O hr;have aw:c≠b:=λq=>by subst q;have nd:=(Bn.mp hn.nd).2;exact hm<|XE nd O W
   exact⟨h1,xs,by rw[zI aw];exact h2,h3⟩
 ·have h1:k=j:=by
   rcases zv B with⟨z,_,_⟩ | ⟨_,z⟩
   ·exact z
   ·exact r.rc.nst.2 k j r1 R z I
  have h2:m=j:=by
   rcases zv g2 with⟨z,_,_⟩ | ⟨_,z⟩
   ·exact z
   ·exact r.rc.nst.2 m j r2 R z I
  rw[h1,h2]
 ·rw[zI (λz=>by rw[z,eb]at q;cases q)];exact r.ext.s1 c o q
 ·rw[zI (λz=>by rw[z,b0]at q;cases q)];exact r.ext.sub c o q
 ·have hk:k=j:=by
   rcases zv B with⟨z,_,_⟩ | ⟨_,z⟩
   ·exact z
   ·exact r.rc.nst.2 k j rows R z I
  subst hk;rw[hs]at g2;cases g2;rw[zI (AR a7),hn.ha]at U;injection U with U;injection U with U;subst U;exact⟨ea,er⟩
end
section
variable{K:uW}{E0 E H0 H:Hp}{σ:St}{γ:Ctx}
theorem RS.freeze(r:RS K E0 E H0 H σ γ)(e:γ[i]? = some (.own ds)) : ∃H0',RS K E0 E H0' H σ (γ.set i<|.val<|.lst ds):=by
 obtain⟨a,xs,h1,h2,O,R⟩:=r.rc.own i ds e;have U:=r.fresh i ds a e h1;obtain⟨H0',s0,M⟩ : ∃H0',H0'=upd H0 a (.lst xs)/\RC K H0' H σ (γ.set i<|.val<|.lst ds):=by refine⟨_,rfl,?_⟩;exact RC.lendAt r.rc e h1 h2 O R
 subst s0;refine⟨_,M,⟨r.ext.s0.trans<|zV h2 _,r.ext.s1,M.sub,λc W B=>?_⟩,λj es b I g2=>?_,λj rows b ys I g2 Y=>?_⟩
 ·rw[zI (λz=>by rw[z,U]at B;exact B rfl)];exact r.ext.new c W B
 ·rcases zv I with⟨_,z,_⟩ | ⟨_,z⟩
  ·cases z
  ·exact r.fresh j es b z g2
 ·rcases zv I with⟨_,z,_⟩ | ⟨_,z⟩
  ·cases z
  ·exact r.fr2 j rows b ys z g2 Y
open Classical in
noncomputable def KS(H0 H:Hp)(L:List Addr):Hp:=λc=>if c∈L then H c else H0 c
theorem JP(h:c∈L):KS H0 H L c=H c:=by unfold KS;rw[GY h]
theorem yT(h:c∉L):KS H0 H L c=H0 c:=by unfold KS;rw[MQ h]
theorem Xk : ∀{rows:List (List D)} {bs:List Addr},bs.length=rows.length->(∀(k:Nat) b row,bs[k]? = some b->rows[k]? = some row->∃xs,G b=some (.lst xs)/\Reps K G row xs)->Reps K G (rows.map D.lst) (bs.map V.ref)
 | [],[],_,_=>Reps.nil
 | [],_::_,h,_=>by simp at h
 | _::_,[],h,_=>by simp at h
 | row::rows,b::bs,h,f=>by obtain⟨xs,z,g2⟩:=f 0 b row rfl rfl;exact Reps.cons (wX (SqL.of z) g2) (Xk (by simpa using h) λk c r e1 e2=>f (k+1) c r (by simpa using e1)<|by simpa using e2)
theorem RS.freezeN(r:RS K E0 E H0 H σ γ)(e:γ[i]? = some (.nest rows)) : ∃H0',RS K E0 E H0' H σ (γ.set i<|.val<|.lst<|rows.map D.lst):=by
 obtain⟨a,bs,h1,hn,a0⟩:=r.rc.nst.1 i rows e;obtain⟨ea,er⟩:=r.fr2 i rows a _ e h1 hn.ha;have ef : ∀b∈a::bs,E b=none:=λb R=>by
  rcases Ag.mp R with rfl | R
  ·exact ea
  ·exact er b<|AY.mpr ⟨b,R,rfl⟩
 have s0:Same H0 (KS H0 H (a::bs)):=λc o q=>by rw[yT (λhm=>by rw[(hn.at hm).1]at q;cases q)];exact q
 have sub:Same (KS H0 H (a::bs)) H:=λc o q=>by
  by_cases hm:c∈a::bs
  ·rw[JP hm]at q;exact q
  ·rw[yT hm]at q;exact r.rc.sub c o q
 have rp:Rep K (KS H0 H (a::bs)) (.lst<|rows.map D.lst) (.ref a):=wX (SqL.of<|by rw[JP Ai];exact hn.ha) (Xk hn.len λk b row B g2=>by obtain⟨_,xs,U,O⟩:=hn.row k b row B g2;exact⟨xs,by rw[JP (Ah _<|AZ B)];exact U,O.mono s0⟩)
 have Y : ∀{j:Nat} {I:List (List D)},(γ.set i<|.val<|.lst<|rows.map D.lst)[j]? ≠ some (.nest I):=λ{j I} g=>by
  rcases zv g with⟨_,z,_⟩ | ⟨W,z⟩
  ·cases z
  ·exact W<|r.rc.nst.2 j i I rows z e
 have M : ∀{j:Nat} {ds:List D},(γ.set i<|.val<|.lst<|rows.map D.lst)[j]? = some (.own ds)->γ[j]? = some (.own ds):=λ{j ds} g=>by
  rcases zv g with⟨_,z,_⟩ | ⟨W,z⟩
  ·cases z
  ·exact z
 refine⟨_,⟨sub,by simp[r.rc.len],λj d g=>?_,λj ds g=>?_,λj k c ds es e1 e2 e3 e4=>r.rc.ne j k c ds es (M e1) (M e2) e3 e4,NestOk.nil0 λj I=>Y⟩,⟨r.ext.s0.trans s0,r.ext.s1,sub,λc U O=>?_⟩,λj ds b B g2=>r.fresh j ds b (M B) g2,λj I b ys B=>absurd B Y⟩
 ·rcases zv g with⟨rfl,z,hl⟩ | ⟨W,z⟩
  ·cases z;exact⟨_,h1,rp⟩
  ·obtain⟨v,B,g2⟩:=r.rc.val j d z
   exact⟨v,B,g2.mono s0⟩
 ·obtain⟨b,ys,B,g2,g3,g4⟩:=r.rc.own j ds (M g)
  exact⟨b,ys,B,by rw[yT (a0 j ds b (M g) B)];exact g2,g3,g4.mono s0⟩
 ·rw[yT (λhm=>O<|ef c hm)];exact r.ext.new c U O
end
section
variable{X:Cx}{st:Stmt}{F:CO Fl}
theorem fI(i:Nat)(h:PSD X st F):PSD X st (oQ i F):=kA h λD σ H B=>by obtain⟨E0,E,H0,γ,I,M,z,O⟩:=B;obtain⟨ds,e1,z⟩:=zc z;obtain⟨H0',R⟩:=M.freeze<|kJ e1;exact⟨E0,E,H0',_,I,R,z,O⟩
theorem bO(i:Nat)(h:PSD X st F):PSD X st (fz i F):=kA h λD σ H B=>by obtain⟨E0,E,H0,γ,I,M,z,O⟩:=B;obtain⟨rows,e1,z⟩:=zc z;obtain⟨H0',R⟩:=M.freezeN<|y9 e1;exact⟨E0,E,H0',_,I,R,z,O⟩
end
section
variable{X:Cx}{sc:Scope}{N L:List Str}{k:Nat}
theorem bN(i:Nat)(h:SX X sc N L k)(c:k7 sc N L i y=true)
 (O:X.calm=true) (ok:CompOk X scope fr) (R : ∀i∈T.idx,i<own.length) (hi:PIC X tg iter src) (U : ∀fp s2 H2,PG (jr X scope (own++fr.map (·.1)) fp s2 H2) tg<|gOf X.K T)
 (W : ∀fp s2 H2,PO (jr X scope (own++fr.map (·.1)) fp s2 H2) elt f) (Y : ∀x,foldedSetIterable iter X.env x=pure x:=by intro _;rfl) :
 PSD X (.Assign [.Name y py] (.ListComp elt [⟨tg,iter,[],0⟩] scope cpos) spos) (V0 i<|Xd src T own.length (fr.map (·.2)) f):=by
 obtain⟨h1,h2,h3⟩:=h.loc c;refine kA (ZZ (te:=tO X.K f) h.ndX h1 h2 h3 O ok hi U (λ_ _ _=>JE) W Y) λD σ H B=>?_;obtain⟨E0,E,H0,γ,fl,M,z,a1⟩:=B;obtain⟨rows,e1,z⟩:=zc z;by_cases I:γ.any Jg=false
 ·rw[GY I]at z;cases z
  exact Vl R (λσ H Q B=>by obtain⟨H0,γ,b,rc,z,q⟩:=B;cases z;exact q H H0<|Ext.refl rc.sub) σ H _ ⟨H0,γ,rows,M.rc,e1,λa bs H' H0' x hf n=>a1 _ _ H0'<|M.setNest x hf n I⟩
 ·rw[MQ I]at z;cases z
theorem Wg(z:i≠j)(c:Cell)(r:List D):((((γ.set j c).set i .no).set j .no).set i (.own r))=kg γ j i r:=by
 unfold kg;apply BR;intro m;simp only[Ck,List.length_set];by_cases h1:i=m
 ·subst h1;simp
 ·by_cases h2:j=m
  ·subst h2;simp[h1]
  ·simp[h1,h2]
theorem KO{γ:Ctx}{j i:Nat}(z:i≠j)(c B:Cell):(((γ.set j c).set i .no).set j B)=(γ.set j B).set i .no:=by rw[List.set_comm _ _ (AR z),List.set_set,List.set_comm _ _ z]
theorem ZY(j i:Nat){x y:Str}{bb W bd:Pos}{O e:Expr}{g f:CO D}{p pos c5:Pos}(hp:PassesOwn (model X.prog X.w) X.A X.env X.xe)(hc:X.calm=true)(h:SX X sc N L k)(cj:QR sc N j x=true)(ci:QR sc N i y=true)
 (hg:PG X (.Name y bb) (yX i)) (hi:PV X O g) (he:PV X e f)
 (ha : ∀v,assign (.Subscript (.Name y W) O p) X.env v=(do
   let ov <- holding [v] (eval (.Name y W) X.env);let iv <- holding [v,ov] (eval O X.env)
   standAt p
   holding [v,ov,iv] (setItem ov iv v)
   release [v,ov,iv] []):=by intro _;rfl)
 (hs:swapsWithSole [.Subscript (.Name y W) O p] e pos.line X.env=pure false:=by rfl) (hw:swappedStores [.Subscript (.Name y W) O p] e X.env=pure none:=by rfl)
 (h1:(assignEach [.Subscript (.Name y W) O p] X.env).map (·.2)=[assign (.Subscript (.Name y W) O p) X.env]:=by rfl)
 (hf : ∀z,foldedSetIterable (.Name x bd) X.env z=pure z:=by intro _;rfl) :
 PSD X (.For (.Name y bb) (.Name x bd) [.Assign [.Subscript (.Name y W) O p] e pos] [] c5) (wW j i g f):=
 kA (dA hp hc (WB<|h.var cj) hg (Ws<|Ww he (dE (h.var ci) hi Yj ha) hs hw h1) hf) λD σ H hZ=>by
  obtain⟨E0,E,H0,γ,fl,rs,R,be⟩:=hZ;obtain⟨rows,e1,R⟩:=zc R;have e1:=y9 e1;by_cases ag:i=j\/γ.length<=i
  ·rw[GY ag]at R;cases R
  rw[MQ ag]at R;have Y:i≠j:=λz=>ag<|.inl z;have a4:i<γ.length:=by
   rcases Nat.lt_or_ge i γ.length with z | z
   ·exact z
   ·exact absurd (.inr z) ag
  have bf:j<γ.length:=(Af.mp e1).1;obtain⟨ap,e2,R⟩:=zy R;subst R;obtain⟨a,bs,g1,hn,e4⟩:=rs.rc.nst.1 j rows e1;refine⟨_,g1,a,.L,rfl,⟨_,SqL.of hn.ha⟩,?_⟩;refine⟨λt m σ' H'=>m=rows.length - t/\t<=rows.length/\∃(H0':Hp) (B xk:List (List DL.D)) (M:L2.St),B.length=t/\M[j]? = some (some (V.ref a))/\(∃v,σ'=M.set i v)/\H' a=some (.lst<|bs.map V.ref)/\RS X.K E0 E H0' H' σ' ((γ.set j<|.nest<|B++rows.drop t).set i .no)/\qR j i g f γ (rows.drop t)=some xk/\ap=B++xk,
   ⟨_,rfl,Bt _,H0,[],ap,σ,rfl,g1,⟨σ[i]?.getD none,?_⟩,hn.ha,?_,e2,rfl⟩,?_⟩
  ·apply BR
   intro m;rw[Ck];by_cases z:i=m
   ·subst z
    have:i<σ.length:=by rw[rs.rc.len];exact a4
    simp[this]
   ·simp[z]
  ·have:=rs.forget (i:=i) (v:=σ[i]?.getD none)
   have es:σ.set i (σ[i]?.getD none)=σ:=by
    apply BR;intro m;rw[Ck];by_cases z:i=m
    ·subst z
     have:i<σ.length:=by rw[rs.rc.len];exact a4
     simp[this]
    ·simp[z]
   rw[es]at this;have ec:γ.set j (.nest rows)=γ:=by
    apply BR;intro m;rw[Ck];by_cases z:j=m
    ·subst z;rw[GY rfl,GY bf,e1]
    ·simp[z]
   simpa[ec]using this
  rintro t m σ' H' ⟨rfl,ht,H0',B,xk,M,bi,a5,⟨v0,rfl⟩,a6,a7,I,er⟩;have am:((γ.set j<|.nest<|B++rows.drop t).set i .no)[j]? = some (.nest<|B++rows.drop t):=by rw[Ac Y,Ar bf]
  obtain⟨a',U,q1,ar,cp⟩:=a7.rc.nst.1 j _ am;rw[Ac Y,a5]at q1;cases q1;have cq:U=bs:=by have:=ar.ha;rw[a6]at this;injection this with this;injection this with this;exact(xT this).symm
  subst cq;have cr:U.length=rows.length:=by rw[ar.len];simp;omega
  by_cases bn:t<rows.length
  ·have hb:U[t]? = some (U[t]'⋯):=Ae ⋯
   generalize U[t]'⋯=b at hb;have as:rows.drop t=rows[t]::rows.drop (t+1):=BG bn;refine .inr ⟨⟨_,.ref b,SqL.of a6,by rw[AK,hb];rfl⟩,λσ2 H2=>t+1<=rows.length/\∃(H0':Hp) (B xk:List (List DL.D)) (M:L2.St),B.length=t+1/\M[j]? = some (some (V.ref a))/\(∃v,σ2=M.set i v)/\H2 a=some (.lst<|U.map V.ref)/\RS X.K E0 E H0' H2 σ2 ((γ.set j<|.nest<|B++rows.drop (t+1)).set i .no)/\qR j i g f γ (rows.drop<|t+1)=some xk/\ap=B++xk,λσ2 H2 n=>⟨rows.length - (t+1),by omega,rfl,n.1,n.2⟩,λxv H2 yl=>?_⟩;obtain⟨rfl,yl⟩:=yl;have ct:xv = .ref b:=by have:=yl _<|SqL.of a6;rw[AK,hb]at this;exact(AU this).symm
   subst ct;rw[as]at I;simp only[qR]at I;obtain⟨d,f1,I⟩:=zc I;obtain⟨kk,f2,I⟩:=zc I;obtain⟨dk,f3,f2⟩:=zc f2;obtain⟨mm,f4,I⟩:=zc I;obtain⟨d1,f5,I⟩:=zy I;have d3:(B++rows.drop t)[t]? = some rows[t]:=by rw[as,AA ⋯,bi];simp
   have a1:(M.set i v0).set i (some (.ref b))=M.set i (some (.ref b)):=List.set_set ..;have an:=a7.rc.row (i:=i) am (by rw[Ac Y];exact a5) ar cp hb d3 (by simp;exact a4);rw[Wg Y,a1]at an;show ∃_,_;refine⟨H0',kg γ j i rows[t],d,?_,f1,λv H3 d4 x3 r3=>?_⟩
   ·rw[a1];exact an
   have bv:=an.ext x3;obtain⟨b',xs,p1,p2,p3,p4⟩:=bv.own i rows[t] (by unfold kg;rw[Ar (by simpa using a4)]);have d7:b'=b:=by
    rw[Ar (by
     have:=an.len;simp[kg]at this;rw[this];exact a4)]at p1
    cases p1;rfl
   subst d7;refine⟨_,by rw[a1];exact p1,d4,kg γ j i rows[t],dk,by rw[a1];exact bv,f3,λv2 H4 d9 x4 r4=>?_⟩;rw[jY f2]at r4;refine⟨b',xs,kk,mm,rfl,jw r4,x4.s1 _ _ p3,by rw[p4.length];exact YC f4,?_⟩;have db:=(a7.step x3).step x4;have b8:=db.forget (i:=i) (v:=some (.ref b'));have dd:(((γ.set j<|.nest<|B++rows.drop t).set i .no).set i .no)=((γ.set j<|.nest<|B++rows.drop t).set i .no):=List.set_set ..;rw[dd,a1]at b8;obtain⟨a2,di,w1,b9,dl⟩:=b8.rc.nst.1 j _ am;rw[Ac Y,a5]at w1;cases w1;have c3:H4 a=some (.lst<|U.map V.ref):=x4.s1 _ _<|x3.s1 _ _ a6;have dp:di=U:=by have:=b9.ha;rw[c3]at this;injection this with this;injection this with this;exact(xT this).symm
   subst dp;have c4:=b8.nestSet (t:=t) (row':=rows[t].set mm d) (ys:=xs.set mm v) am (by rw[Ac Y];exact a5) b9 dl hb<|(p4.mono x4.s0).set mm (r3.mono x4.s0);have dt:a≠b':=λq=>(Bn.mp b9.nd).1 (by rw[q];exact AZ hb);refine⟨bn,d9,B++[rows[t].set mm d],d1,M,by simp[bi],a5,⟨some (.ref b'),a1⟩,by rw[zI dt];exact c3,?_,f5,by rw[er,<- I];simp⟩;rw[a1];have eR:(B++rows.drop t).set t (rows[t].set mm d)=(B++[rows[t].set mm d])++rows.drop (t+1):=by rw[as,List.set_append_right _ _ ⋯,show t - B.length=0 by omega,List.append_assoc];rfl
   rw[eR,KO Y]at c4;exact c4
  ·have et:t=rows.length:=by omega
   subst et;rw[Ee]at I;cases I;rw[Ee]at a7;refine .inl ⟨⟨_,SqL.of a6,by simp[cr]⟩,?_⟩;rw[er]at be;exact be _ _ H0' a7
end
end DL
namespace L2
open PySem PySem.Spec PyProof.Rows
noncomputable def oW(K:uW):V->List V->Hp->VK->Prop:=λx vs H Q=>∃sep p zs,x = .str sep/\vs=[.ref p]/\SqL K H p (zs.map V.str)/\Builtin.Str.tooLong (zs.toArray.foldl (λa p=>a+p.length+sep.length) 0)=false/\Q (.str<|Cb sep zs) H
theorem QS : ∀{zs:List Str} {us:List Value},Vals (zs.map V.str) us->∃l:List (Str×Tok),strValues l=us/\l.map (·.1)=zs
 | [],us,r=>by cases r;exact⟨[],rfl,rfl⟩
 | z::zs,u::us,.cons r t=>by obtain⟨tk,rfl⟩:=r;obtain⟨l,rfl,h⟩:=QS t;exact⟨(z,tk)::l,rfl,by simp[h]⟩
theorem gp{X:Cx}:MtR X "str.join" (oW X.K):=by intro pins s σ H x vs v us Q I B M h;obtain⟨sep,p,zs,rfl,rfl,O,z,q⟩:=h;obtain⟨t,rfl⟩:=B;obtain⟨U,rfl,rw⟩:=k6 M;cases rw;obtain⟨W,r,R,Y⟩:=I.list O;obtain⟨l,rfl,e⟩:=QS r;subst e;refine CP F.slot_str_join (Ff _ _ _) F.entry_str_join (F.args_str_join_2 _ _) (meets_str_join_list sep t p l z) ⟨R.isList,post_join l ⟨joinFit_length z,λt' k=>?_⟩⟩;refine⟨.str (Cb sep (l.map (·.1))),H,(I.kept (h':=s.heap) (t':=k) λb o e=>e),⟨t',?_⟩,q⟩;show FB (Builtin.Str.glued sep (l.map (·.1))) t'=_;rw[StrLaws.glued_eq_join]
end L2
namespace DL
open PySem PySem.Spec PyProof.Rows L2
theorem yB{K:uW}{H:Hp} : ∀{ds:List D} {xs:List V} {l:List Str},Reps K H ds xs->vZ ds=some l->xs=l.map V.str
 | [],xs,l,r,e=>by cases e;rw[show xs=[]from r];rfl
 | d::ds,xs,l,r,e=>by
  obtain⟨x,I,rfl,z,B⟩:=(show ∃x r,xs=x::r/\Rep K H d x/\Reps K H ds r from r);cases d with
  | str i=>
   obtain⟨M,e1,rfl⟩:=zy (show(vZ ds).map (λl=>i::l)=some l from e);rw[yB B e1,show x = .str i from z];rfl
  | _=>cases e
section
variable{X:Cx}{sc:Scope}{N L:List Str}{k:Nat}{o e a b:Expr}{apos cpos pos p:Pos}{f g:CO D}{q:CO (Sk×List D)}
theorem kU(h:zA x=true):x.length<=1000:=of_decide_eq_true h
theorem kT(h:zA x=true):x.length<=sizeLine:=AE (kU h) ⋯
theorem wY(O:PV X o f)(R:PQ X e q)(U:attributeBase o "join" X.env (eval o X.env)=eval o X.env:=by rfl)
 (W:((backTo cpos<|starEach [e] X.env).all (λx=> !x.1) && (backToKw cpos<|keywordEach [] X.env).all (λx=>x.1.isSome) && decide ([e].length+([]:List Keyword).length+(if ([]:List Keyword).isEmpty then 0 else 1)<30))=true:=by rfl)
 (Y:(apos.endLine==cpos.line)=true:=by rfl) (M:starEach [e] X.env=[(false,eval e X.env)]:=by rfl):PV X (.Call (.Attribute o "join" apos) [e] [] cpos) (ZG f q):=
 jz (bY ES PySem.F.slot_str_join PySem.F.type_str_join gp O (z9 R j1 M) U W Y M rfl) λσ H Q hZ=>by
  obtain⟨H0,γ,d,rc,z,qq⟩:=hZ;obtain⟨d1,e1,z⟩:=zc z;obtain⟨⟨kk,ds⟩,e2,z⟩:=zc z;cases d1 with
  | str sep=>
   cases kk with
   | L=>
    obtain⟨l,e3,z⟩:=zc z;by_cases I:l.length<=lim/\l.all zA=true/\zA sep=true
    ·rw[GY I]at z;cases z
     refine⟨H0,γ,_,rc,e1,λv H' H0' x r=>?_⟩;rw[show v = .str sep from r];refine⟨rfl,H0',γ,.L,ds,rc.ext x,e2,λa xs H2 a3 x2 h1 h2 r2=>?_⟩;have ex:=yB r2 e3;subst ex;refine⟨sep,a,l,rfl,rfl,h1,StrLaws.joinFits (B:=1000) (λy hy=>kU<|Bp.mp I.2.1 y hy) ?_,qq _ H2 a3 (x.trans x2) rfl⟩;have hl:=I.1;have:lim=2500:=rfl;have h3:=kU I.2.2;have:l.length*sep.length<=2500*1000:=Nat.mul_le_mul ⋯ h3;omega
    ·rw[MQ I]at z;cases z
   | T=>cases z
  | _=>cases z
theorem Jw(ha:PV X a f)(O:PV X b g)(R:K9 b:=by intro _ _;rfl):PV X (.Subscript a b pos) (ya f g):=
 jz (lD mh ha O R) λσ H Q U=>by
  obtain⟨H0,γ,d,rc,B,q⟩:=U;obtain⟨d1,e1,B⟩:=zc B;obtain⟨i,e2,B⟩:=zc B;obtain⟨W,Y,e2⟩:=zc e2;cases d1 with
  | str z=>
   by_cases I:zA z=true
   ·have B:(if zA z=true then (ixD z.cps.toList.length i).bind λk=>z.cps.toList[k]?.map λc=>D.str ⟨#[c]⟩else none)=some d:=B
    rw[GY I]at B;obtain⟨j,e4,B⟩:=zc B;obtain⟨c,e5,rfl⟩:=zy B;refine⟨H0,γ,_,rc,e1,λv H' H0' x r=>⟨H0',γ,W,rc.ext x,Y,λv2 H2 a2 x2 M=>?_⟩⟩;rw[jY e2]at M;refine⟨z,i,c,r,jw M,kT I,?_,q _ H2 a2 (x.trans x2) rfl⟩;unfold atI;rw[YC e4];exact e5
   ·have B:(if zA z=true then (ixD z.cps.toList.length i).bind λk=>z.cps.toList[k]?.map λc=>D.str ⟨#[c]⟩else none)=some d:=B
    rw[MQ I]at B;cases B
  | _=>cases B
theorem vo(h:SX X sc N L k)(c:ki sc "len" = true)(z:X.mg "len" = none)(ha:PV X e f)(M:starEach [e] X.env=[(false,eval e X.env)]:=by rfl):PV X (.Call (.Name "len" p) [e] [] pos) (vm f):=
 jz (yP X0 (h.gl c).1 z PySem.boot_len (z9 ha j1 M) ⋯ ⋯ M rfl) λσ H Q O=>by
  obtain⟨H0,γ,d,rc,B,q⟩:=O;obtain⟨d1,e1,B⟩:=zc B;cases d1 with
  | str z=>
   by_cases I:zA z=true
   ·have B:(if zA z=true then some (D.int z.length)else none)=some d:=B
    rw[GY I]at B;cases B;refine⟨H0,γ,_,rc,e1,λv H' H0' x r=>⟨z,by rw[show v = .str z from r],kT I,q _ H' H0' x rfl⟩⟩
   ·have B:(if zA z=true then some (D.int z.length)else none)=some d:=B
    rw[MQ I]at B;cases B
  | _=>cases B
theorem Wn{p2:Pos}(h:SX X sc N L k)(c:ki sc "isinstance" = true)(z:X.mg "isinstance" = none)(B:ki sc "str" = true)(I:X.mg "str" = none)(ha:PV X a f)
 (M:starEach [a,.Name "str" p2] X.env=[(false,eval a X.env),(false,eval (.Name "str" p2) X.env)]:=by rfl):PV X (.Call (.Name "isinstance" p) [a,.Name "str" p2] [] pos) (sIs .str f):=bI .str h c z B I ⋯ ha M
end
section
variable{X:Cx}{sc:Scope}{N L:List Str}{k:Nat}{st:Stmt}{xk:List Stmt}{G G':CO Xn}{F:CO Fl}
theorem SX.wish(h:SX X sc N L k)(E:GQ):SX (X.wish E) sc N L k:=⟨h.esc,h.eN,h.nd,h.calm,h.room,h.fn⟩
end
section ap
variable(γ:Ctx)
@[simp] noncomputable def YL:=@zT.eq_1
@[simp] noncomputable def vS:=@qE.eq_1
@[simp] noncomputable def kK:=@zX.eq_1
@[simp] noncomputable def kj:=@zd.eq_1
@[simp] noncomputable def xY:=@zg.eq_1
@[simp] theorem vc(d):zm d γ=some d:=rfl
@[simp] noncomputable def aQ:=@zu.eq_1
@[simp] noncomputable def mY:=@sB.eq_1
@[simp] noncomputable def rQ:=@V4.eq_1
@[simp] noncomputable def mR:=@yb.eq_1
@[simp] noncomputable def aM:=@ji.eq_1
@[simp] noncomputable def tq:=@Vq.eq_1
@[simp] noncomputable def uC:=@sOr.eq_1
@[simp] noncomputable def sQ:=@nq.eq_1
@[simp] noncomputable def sX:=@fw.eq_1
@[simp] theorem vR:zz γ=some []:=rfl
@[simp] noncomputable def xh:=@zb.eq_1
@[simp] noncomputable def dY:=@xj.eq_1
@[simp] noncomputable def gR:=@yn.eq_1
@[simp] noncomputable def rz:=@jo.eq_1
@[simp] noncomputable def vQ:=@jH.eq_1
@[simp] noncomputable def aL:=@Xb.eq_1
@[simp] noncomputable def rn:=@V1.eq_1
@[simp] noncomputable def td:=@uM.eq_1
@[simp] noncomputable def rM:=@ue.eq_1
@[simp] noncomputable def Vn:=@sIf.eq_1
@[simp] noncomputable def yi:=@jM.eq_1
@[simp] noncomputable def rl:=@v9.eq_1
@[simp] noncomputable def aP:=@Ko.eq_1
@[simp] noncomputable def mW:=@j8.eq_1
@[simp] noncomputable def kL:=@zt.eq_1
@[simp] noncomputable def cW:=@kf.eq_1
@[simp] noncomputable def J8:=@zP.eq_1
@[simp] noncomputable def vb:=@zK.eq_1
@[simp] noncomputable def mQ:=@Jt.eq_1
@[simp] noncomputable def dX:=@QK.eq_1
@[simp] noncomputable def aO:=@Ke.eq_1
@[simp] noncomputable def j3:=@zC.eq_1
@[simp] theorem sN:zQ γ=some true:=rfl
@[simp] noncomputable def rO:=@fB.eq_1
@[simp] noncomputable def rq:=@tX.eq_1
@[simp] noncomputable def J7:=@sIx.eq_1
@[simp] noncomputable def nZ:=@Xa.eq_1
@[simp] theorem sR:wV γ=some none:=rfl
@[simp] noncomputable def uE:=@sBd.eq_1
@[simp] noncomputable def sP:=@fu.eq_1
@[simp] noncomputable def sT:=@vI.eq_1
@[simp] noncomputable def uD:=@sIs.eq_1
@[simp] noncomputable def sU:=@uK.eq_1
@[simp] noncomputable def Jh:=@zG.eq_1
@[simp] noncomputable def mS:=@oP.eq_1
@[simp] noncomputable def sO:=@gW.eq_1
@[simp] noncomputable def mX:=@Kp.eq_1
@[simp] noncomputable def tj:=@uO.eq_1
@[simp] noncomputable def rF:=@ky.eq_1
@[simp] noncomputable def rC:=@fv.eq_1
@[simp] noncomputable def rj:=@tU.eq_1
theorem zW(F G):zN F G γ=(F γ).bind λz=>match z with
 | .next γ'=>G γ'
 | f=>some f:=rfl
end ap
@[simp] theorem mM(ds):jf (.tup ds)=some (.T,ds):=rfl
@[simp] theorem sJ(ds):jf (.lst ds)=some (.L,ds):=rfl
@[simp] theorem jx(d):av (some (.val d))=some d:=rfl
@[simp] theorem jW(d):vC (some (.val d))=jf d:=rfl
@[simp] theorem gF(d):vC (some (.own d))=some (.L,d):=rfl
@[simp] theorem gI(d):xA (some (.own d))=some d:=rfl
@[simp] theorem gG(d):K4 (some (.val d))=some (.ret<|.val d):=rfl
@[simp] theorem gH(d):K4 (some (.own d))=some (.ret<|.own d):=rfl
@[simp] theorem sM(b):asB (.bl b)=some b:=rfl
@[simp] theorem xB(b):asI (.int b)=some b:=rfl
@[simp] theorem ny(d):iL (.val d)=d:=rfl
@[simp] theorem nz(d):iL (.own d) = .lst d:=rfl
@[simp] theorem nv(d):oS (.own d)=some d:=rfl
@[simp] theorem nQ(i j):Vj (.int i) (.int j)=some (.int<|i - j):=rfl
@[simp] theorem cP(i j):jO (.int i) (.int j)=some (.int<|i+j):=rfl
@[simp] theorem nT(i j):qm (.int i) (.int j)=if 0<j then some (.int<|i%j)else none:=by show(if nV i j=true then _ else _)=_;simp[nV]
@[simp] theorem nU(i j):JX (.int i) (.int j)=if 0<j/\j<1073741824 then some (.int<|i/j)else none:=by
 show(if mK i j=true then _ else _)=_;have e:(mK i j=true)=(0<j/\j<1073741824):=by unfold mK;rw[Au,decide_eq_true_eq,decide_eq_true_eq];apply propext;constructor<;>intro h<;>exact⟨h.1,by omega⟩
 simp only[e]
@[simp] theorem nS(i j):qT (.int i) (.int j)=if J0 i j=true then some (.int<|i*j)else none:=rfl
@[simp] theorem nR(i j):gA (.int i) (.int j)=if mJ i j=true then some (.int<|i ^ j.toNat)else none:=rfl
@[simp] theorem pW(i j):dLt (.int i) (.int j)=some (.bl<|decide<|i<j):=rfl
@[simp] theorem pX(i j):dLe (.int i) (.int j)=some (.bl<|decide<|i<=j):=rfl
@[simp] theorem pY(i j):dGt (.int i) (.int j)=some (.bl<|decide<|j<i):=rfl
@[simp] theorem pZ(i j):dGe (.int i) (.int j)=some (.bl<|decide<|j<=i):=rfl
@[simp] theorem rd(i j):dEq (.int i) (.int j)=some (.bl<|decide<|i=j):=by unfold dEq;rw[GY ⟨rfl,rfl⟩];exact congrArg (λb=>some (D.bl b)) (by rw[En];simp[eqD])
@[simp] theorem pV(i j):dNe (.int i) (.int j)=some (.bl<|!decide (i=j)):=by unfold dNe;rw[GY ⟨rfl,rfl⟩];exact congrArg (λb=>some (D.bl !b)) (by rw[En];simp[eqD])
@[simp] theorem iB(i is d ds γ):qd (i::is) (d::ds) γ=qd is ds (γ.set i<|.val d):=rfl
@[simp] theorem iA(ds γ):qd [] ds γ=γ:=by cases ds<;>rfl
@[simp] theorem J2(i d γ):xl (.nm i) d γ=some (γ.set i<|.val d):=rfl
@[simp] theorem aE(i j a b γ):xl (.tp [i,j]) (.tup [a,b]) γ=some ((γ.set i<|.val a).set j (.val b)):=rfl
@[simp] theorem bB(γ:Ctx)(G:CO Fl):(some (Fl.next γ)).bind (λz=>match z with
 | .next γ'=>G γ'
 | f=>some f)=G γ:=rfl
theorem YK(i j:Int)(h1 : -(2 ^ 64)<j)(h2:j<2 ^ 64):J0 i j=true:=by unfold J0;rw[Bo];right;exact decide_eq_true ⋯
theorem va(i j:Int)(h1 : -(2 ^ 64)<i)(h2:i<2 ^ 64):J0 i j=true:=by unfold J0;rw[Bo];left;exact decide_eq_true ⋯
theorem yV(h1 : -(2 ^ 62)<i)(h2:i<2 ^ 62):inR i=true:=by unfold inR;exact decide_eq_true ⋯
@[simp] theorem qL(n k:Nat):ixD n (k:Int)=if k<n then some k else none:=by
 unfold ixD;by_cases h:k<n
 ·rw[GY ⟨Int.natCast_nonneg k,by omega⟩,GY h];simp
 ·rw[MQ ⋯,MQ ⋯,MQ h]
theorem jq:lim=2500:=rfl
@[simp] theorem nM:0<=lim:=Bt _
@[simp] theorem nL:1<=lim:=by decide
@[simp] theorem nK:2<=lim:=by decide
@[simp] theorem nJ:3<=lim:=by decide
@[simp] theorem nI:4<=lim:=by decide
@[simp] theorem nH:5<=lim:=by decide
@[simp] theorem nG:6<=lim:=by decide
@[simp] theorem nF:7<=lim:=by decide
@[simp] theorem nE:8<=lim:=by decide
@[simp] theorem nD:0<lim:=by decide
@[simp] theorem KY(h:n<=lim):inR (n:Int)=true:=yV ⋯ (by have:=jq;omega)
@[simp] theorem ix0(n:Nat):ixD (n+1) 0=some 0:=qL (n+1) 0 ▸ rfl
@[simp] theorem ix1(n:Nat):ixD (n+2) 1=some 1:=by have:=qL (n+2) 1;simpa using this
@[simp] theorem ix2(n:Nat):ixD (n+3) 2=some 2:=by have:=qL (n+3) 2;simpa using this
theorem zo(r:α->D) : ∀(l:List α),(∀x∈l,zD T k f γ [g x]=some [r x])->zD T k f γ (l.map g)=some (l.map r)
 | [],_=>rfl
 | x::l,h=>by
  have h1:=h x Ai;have h2:=zo r l λy B=>h y<|Ah _ B;simp only[Ba,zD]at h1 ⊢;cases e1:xl T (g x) γ with
  | none=>rw[e1]at h1;simp at h1
  | some z=>
   rw[e1]at h1;simp only[Ab]at h1 ⊢;cases e2:k z with
   | none=>rw[e2]at h1;simp at h1
   | some b=>
    rw[e2]at h1;simp only[Ab]at h1 ⊢;cases b with
    | false=>simp at h1
    | true=>
     simp only[GY]at h1 ⊢;cases e3:f z with
     | none=>rw[e3]at h1;simp at h1
     | some e=>
      rw[e3]at h1;simp at h1;rw[h2];simp[h1]
theorem zq(h1:xl T d γ=some γ1)(h2:k γ1=some true)(z:f γ1=some e):zD T k f γ [d]=some [e]:=by simp[zD,h1,h2,z]
theorem kZ(T F d ds γ):vA T F (d::ds) γ=(xl T d γ).bind λB=>(F B).bind λI=>match I with
 | .next z=>vA T F ds z
 | .cont z=>vA T F ds z
 | .brk z=>some (.next z)
 | .ret r=>some (.ret r):=rfl
theorem qG(P:Nat->Ctx->Prop) : ∀(ds:List D) (k:Nat) (γ:Ctx),P k γ->(∀i d γ,ds[i]? = some d->P (k+i) γ->∃γ',((xl T d γ).bind F=some (.next γ')\/(xl T d γ).bind F=some (.cont γ'))/\P (k+i+1) γ')->
 ∃γ',vA T F ds γ=some (.next γ')/\P (k+ds.length) γ'
 | [],k,γ,h,_=>⟨γ,rfl,h⟩
 | d::ds,k,γ,h,step=>by
  obtain⟨z,e,h1⟩:=step 0 d γ rfl h;obtain⟨γ',e2,h2⟩:=qG P ds (k+1) z (by simpa using h1) (λi d' B hd I=>by have:=step (i+1) d' B (by simpa using hd) (by rw[show k+(i+1)=k+1+i by omega];exact I);rw[show k+(i+1)+1=k+1+i+1 by omega]at this;exact this)
  refine⟨γ',?_,by rw[show k+(d::ds).length=k+1+ds.length by simp;omega];exact h2⟩;rw[kZ];cases eb:xl T d γ with
  | none=>rw[eb]at e;simp at e
  | some M=>
   rw[eb]at e;simp only[Ab]at e ⊢;rcases e with e | e<;>rw[e]<;>exact e2
noncomputable def zO(n:Nat)(f:Nat->Int):List D:=(uZ n).map λi=>D.int<|f i
theorem zE(n f):zO n f=(uZ n).map λi=>D.int (f i):=rfl
noncomputable def jB(h w:Nat)(f:GK):List D:=(uZ h).map λi=>D.tup<|zO w<|f i
noncomputable def jm(h w:Nat)(f:GK):D:= .tup [.int h,.int w,.tup (jB h w f)]
@[simp] theorem nO(n f):(zO n f).length=n:=by simp[zO]
@[simp] theorem nP(h w f):(jB h w f).length=h:=by simp[jB]
@[simp] theorem pQ(f)(h:i<(zO n f).length):(zO n f)[i] = .int (f i):=by simp[zO]
theorem cG(f)(h:i<n):(zO n f)[i]? = some (.int<|f i):=by simp[zO,h]
@[simp] theorem pR(f)(hi:i<(jB h w f).length):(jB h w f)[i] = .tup (zO w<|f i):=by simp[jB]
theorem cJ{h w i:Nat}(f)(hi:i<h):(jB h w f)[i]? = some (.tup<|zO w<|f i):=by simp[jB,hi]
theorem xq(h : ∀i,i<n->f i=g i):zO n f=zO n g:=by unfold zO;apply AL;intro i hi;rw[h i (Aq.mp hi)]
theorem cK(e : ∀i j,i<h->j<w->f i j=g i j):jB h w f=jB h w g:=by unfold jB;apply AL;intro i hi;rw[xq λj z=>e i j (Aq.mp hi) z]
theorem cI{h w:Nat}{f g:GK}(e : ∀i j,i<h->j<w->f i j=g i j):jm h w f=jm h w g:=by unfold jm;rw[cK e]
theorem jk(n:Nat):xH 0 n=zO n λi=>(i:Int):=by simp[xH,zO]
theorem Jj(n:Nat)(f g:Nat->Int):Jk (zO n f) (zO n g)=(uZ n).map λi=>D.tup [.int (f i),.int (g i)]:=by unfold Jk zO;rw[CF];simp
noncomputable def zS(f:Nat->Int):Nat->Int
 | 0=>0
 | n+1=>zS f n+f n
theorem wI : ∀(xs:List Int) (y:Int),VR (xs.map D.int++[.int y])=(VR<|xs.map D.int).map λs=>s+y
 | [],y=>by simp[VR]
 | x::xs,y=>by simp only[Ba,List.cons_append,VR];rw[wI xs y];cases e:VR (xs.map D.int)<;>simp[Int.add_assoc]
theorem kx(f:Nat->Int) : ∀n,VR (zO n f)=some (zS f n)
 | 0=>rfl
 | n+1=>by
  have z:=kx f n;have e : ∀m,zO m f=((uZ m).map f).map D.int:=λm=>by simp[zO]
  rw[e]at z ⊢;rw[Ek,CH,CH,List.map_singleton,List.map_singleton,wI,z];simp[zS]
noncomputable def yv:=zY 2<|jH<|zG<|zX<|zC (zP<|zg 1) (.nm 0) 1 [0] zQ (zu qm (zd 0)<|zd 1)
noncomputable def da:=zY 3<|jH<|zt yv<|zb (zd 0)<|zb (qE<|zC (zP<|zT<|sIx (zg 1)<|zm<|.int 2) (.nm 0) 1 [2] zQ (gW<|zX<|zC (QK (zd 0)<|zd 1) (.tp [0,1]) 2 [] zQ (zu qT (zd 0)<|zd 1))) zz
noncomputable def jZ:=zY 2<|zN (jM 1<|qE<|zC (zK<|sIx (zg 0)<|zm<|.int 1) (.nm 0) 1 [0] zQ (zG<|zX<|zC (zP<|zT<|sIx (zg 1)<|zm<|.int 2) (.nm 0) 1 [0] zQ (sIx (zg 0)<|zd 1)))<|jH<|xj<|zb (sIx (zg 0)<|zm<|.int 1)<|zb (sIx (zg 0)<|zm<|.int 0)<|zb (zG<|zg 1) zz
noncomputable def kN:=zY 4<|zN (jM 3<|zt jZ<|zb (zd 2) zz)<|jH<|xj<|zb (sIx (zg 1)<|zm<|.int 0)<|zb (sIx (zg 2)<|zm<|.int 1)<|zb (zG<|zX<|zC (zP<|zT<|sIx (zg 1)<|zm<|.int 2) (.nm 0) 1 [0,3] zQ (zt da<|zb (zd 1)<|zb (zd 2)<|zb (zd 0) zz)) zz
noncomputable def qA:=zY 2<|jH<|xj<|zb (zd 0)<|zb (zd 1)<|zb (zu qT (xj<|zb (zu qT (xj<|zb (zm<|.int 0) zz)<|zd 1) zz)<|zd 0) zz
noncomputable def zR:=zY 5<|zN (sIf (sB<|zu dEq (vI<|zg 0)<|zm<|.int 0) (jH<|zu qm (zu qT (zu qm (zu qT (zu jO (zu qT (zu qT (zd 1)<|zd 1)<|zm<|.int 7919)<|zm<|.int 11)<|zm<|.int 48271)<|zm<|.int 2147483647)<|zm<|.int 69621)<|zm<|.int 1000000007) jo)<|zN (jM 2<|sIx (zg 0)<|zu qm (zd 1)<|vI<|zg 0)<|zN (sIf (V4 (sB<|zu dGt (vI<|zg 0)<|zm<|.int 1)<|sB<|zu dEq (zu qm (sIx (zg 0)<|zm<|.int 0)<|zm<|.int 2)<|zm<|.int 1) (zN (jM 3<|sIx (zg 0)<|zu jO (zm<|.int 1)<|zu qm (zd 1)<|zu Vj (vI<|zg 0)<|zm<|.int 1)<|zN (Ke (zK<|zu JX (zd 1)<|zu Vj (vI<|zg 0)<|zm<|.int 1) (.nm 4)<|jM 3<|zu JX (zd 3)<|zu gA (zm<|.int 10)<|zm<|.int 9)<|jH<|zu qm (zd 3)<|zu gA (zm<|.int 10)<|zm<|.int 9) jo)<|jH<|zu qm (zu qT (zu qm (zu jO (zu jO (zu qT (zu qm (zd 2)<|zu gA (zm<|.int 10)<|zm<|.int 30)<|zm<|.int 48271)<|zu qT (zu qT (zd 1)<|zd 1)<|zm<|.int 7919)<|zm<|.int 11)<|zm<|.int 2147483647)<|zm<|.int 69621)<|zm<|.int 1000000007
noncomputable def jK:=zY 1<|jH<|Vq (sIs .int<|zd 0)<|nq<|sIs .bool<|zd 0
noncomputable def qw:=zY 2<|zN (sIf (yb (ji<|sB<|sIs .tuple<|zd 0)<|sB<|zu dNe (vI<|zg 0)<|vI<|zg 1) (jH<|zm<|.bl false) jo)<|jH<|Vq (Kp<|zX<|zC (zP<|zg 0) (.nm 0) 1 [] zQ (zt jK<|zb (zd 0) zz))<|zu dEq (zd 0)<|zd 1
noncomputable def j5:=zY 2<|zN (sIf (yb (ji<|sB<|sIs .tuple<|zd 0)<|yb (sB<|zu dNe (vI<|zg 0)<|zm<|.int 3)<|yb (ji<|sB<|zt jK<|zb (sIx (zg 0)<|zm<|.int 0) zz)<|ji<|sB<|zt jK<|zb (sIx (zg 0)<|zm<|.int 1) zz) (jH<|zm<|.bl false) jo)<|zN (sIf (yb (sB<|zu dNe (fu (zd 0) wV<|sBd<|zm<|.int 2)<|fu (zd 1) wV<|sBd<|zm<|.int 2)<|yb (ji<|sB<|sIs .tuple<|sIx (zg 0)<|zm<|.int 2)<|sB<|zu dNe (vI<|zT<|sIx (zg 0)<|zm<|.int 2)<|sIx (zg 1)<|zm<|.int 0) (jH<|zm<|.bl false) jo)<|jH<|Kp<|zX<|zC (zK<|sIx (zg 1)<|zm<|.int 0) (.nm 0) 1 [0,1] zQ (zt qw<|zb (sIx (zT<|sIx (zg 1)<|zm<|.int 2)<|zd 0)<|zb (sIx (zT<|sIx (zg 2)<|zm<|.int 2)<|zd 0) zz)
noncomputable def qv:=zY 10<|zN (v9 5<|yn zz)<|zN (Ke (zK<|zd 3) (.nm 6)<|zN (v9 7<|yn zz)<|zN (Ke (zK<|zd 4) (.nm 8)<|zN (jM 9<|zt zR<|zb (zd 0)<|zb (zu jO (zu jO (zd 1)<|zu qT (zd 6)<|zd 4)<|zd 8) zz)<|j8 7<|zu qT (zu qm (zd 9)<|zd 2)<|ky<|zu dGt (zu qm (zu JX (zd 9)<|zm<|.int 7)<|zm<|.int 3)<|zm<|.int 0)<|j8 5<|zG<|zg 7)<|jH<|xj<|zb (zd 3)<|zb (zd 4)<|zb (zG<|zg 5) zz
section
variable(γ:Ctx)
@[simp] noncomputable def tf:=@uN.eq_1
@[simp] noncomputable def rP:=@uf.eq_1
@[simp] noncomputable def oo:=@sf.eq_1
end
section
variable(γ:Ctx)
@[simp] noncomputable def rJ:=@fA.eq_1
@[simp] noncomputable def sW:=@rZ.eq_1
@[simp] noncomputable def sY:=@uL.eq_1
@[simp] theorem oq(F G a b c):yH F G a b c γ=(a γ).bind λx=>(b γ).bind λy=>((F x y).bind asB).bind λk=>if k=true then (c γ).bind λz=>G y z else some (.bl false):=rfl
@[simp] noncomputable def rk:=@tW.eq_1
end
noncomputable def qu:=zY 13<|zN (v9 4<|zC (zK<|zd 3) (.nm 0) 1 [3] zQ (qE<|zC (zK<|zd 1) (.nm 0) 1 [0] zQ (ky<|zu dEq (zd 1)<|zd 0)))<|zN (V0 5<|Xd (zK<|zd 3) (.nm 0) 1 [3] (zC (zK<|zd 1) (.nm 0) 1 [0] zQ (ky<|zu dEq (zd 1)<|zd 0)))<|zN (Ke (zK<|zu qT (zm<|.int 3)<|zd 3) (.nm 6)<|zN (jM 7<|zt zR<|zb (zd 0)<|zb (zu jO (zd 1)<|zd 6) zz)<|zN (jM 8<|zu qm (zd 7)<|zd 3)<|zN (jM 9<|zu qm (zu jO (zu jO (zd 8)<|zm<|.int 1)<|zu qm (zu JX (zd 7)<|zm<|.int 7)<|fv (zm<|.int 1)<|zu Vj (zd 3)<|zm<|.int 1)<|zd 3)<|zN (jM 10<|zu jO (zm<|.int 1)<|zu qm (zu JX (zd 7)<|zm<|.int 49)<|zu Vj (zd 2)<|zm<|.int 1)<|zN (jM 11<|sIx (zX<|zC (Jt (zm<|.int 1)<|zd 2) (.nm 0) 1 [2,10] (sB<|zu dEq (zu qm (zu qT (zd 0)<|zd 2)<|zd 1)<|zm<|.int 1) (zd 0))<|zm<|.int 0)<|sIf (sB<|zu dEq (zu qm (zu JX (zd 7)<|zm<|.int 343)<|zm<|.int 4)<|zm<|.int 0) (zN (Xa 4 (zd 8)<|qE<|zC (zP<|zT<|sIx (zg 4)<|zd 8) (.nm 0) 1 [2,10] zQ (zu qm (zu qT (zd 2)<|zd 0)<|zd 1))<|wW 5 12 (zd 8)<|zu qm (zu qT (zd 11)<|sIx (zg 12)<|zd 8)<|zd 2)<|sIf (sB<|zu dNe (zd 8)<|zd 9) (zN (Xa 4 (zd 8)<|qE<|zC (QK (sIx (zg 4)<|zd 8)<|sIx (zg 4)<|zd 9) (.tp [0,1]) 2 [2,10] zQ (zu qm (zu jO (zd 0)<|zu qT (zd 3)<|zd 1)<|zd 2))<|wW 5 12 (zd 9)<|zu qm (zu Vj (sIx (zg 12)<|zd 9)<|zu qT (zd 10)<|sIx (zg 12)<|zd 8)<|zd 2) jo)<|fz 5<|oQ 4<|Xb<|zC (zP<|zT<|xj<|zb (zd 4)<|zb (zd 5) zz) (.nm 0) 1 [3] zQ (xj<|zb (zd 1)<|zb (zd 1)<|zb (zG<|zX<|zC (zP<|zg 0) (.nm 0) 1 [] zQ (zG<|zg 0)) zz)
section
variable(γ:Ctx)
@[simp] theorem rm(i f):V0 i f γ=(f γ).bind λrows=>if γ.any Jg=false then some (.next<|γ.set i<|.nest rows)else none:=rfl
@[simp] noncomputable def om:=@Xd.eq_1
@[simp] noncomputable def mT:=@wW.eq_1
@[simp] noncomputable def sZ:=@oQ.eq_1
@[simp] noncomputable def rH:=@fz.eq_1
@[simp] noncomputable def nY:=@rX.eq_1
end
@[simp] theorem cS(r):wz (some (.nest r))=some r:=rfl
noncomputable def k5:=zY 2 (zN (jM 1 (zu qm (zd 0) (zm (.int 6)))) (jH (ZG (zm (.str "")) (zX (zC (zK (zd 1)) (.nm 0) 1 [0] zQ (ya (zm (.str "rl")) (zu qm (zu JX (zd 1) (sIx (zX (yn (zb (zm (.int 6)) (zb (zm (.int 12)) (zb (zm (.int 24)) (zb (zm (.int 48)) (zb (zm (.int 96)) zz))))))) (zd 0))) (zm (.int 2)))))))))
noncomputable def kO:=zY 9 (zN (jM 5 (zG (zX (zC (zK (zu jO (vm (zd 3)) (zm (.int 1)))) (.nm 0) 1 [0,1,4] zQ (zu qm (zt zR (zb (zd 1) (zb (zu jO (zd 2) (zd 0)) zz))) (zd 3)))))) (zN (v9 6 (yn zz)) (zN (Ke (zK (vm (zd 3))) (.nm 7) (zN (jM 8 (xj (zb (sIx (zg 5) (zu jO (zd 7) (zm (.int 1)))) (zb (sIx (zg 5) (zd 7)) zz)))) (zN (sIf (sB (zu dEq (ya (zd 3) (zd 7)) (zm (.str "l")))) (jM 8 (xj (zb (sIx (zg 5) (zd 7)) (zb (sIx (zg 5) (zu jO (zd 7) (zm (.int 1)))) zz)))) jo) (j8 6 (xj (zb (ya (zd 3) (zd 7)) (zb (zt qv (zb (zd 0) (zb (zu jO (zu jO (zd 1) (zm (.int 10))) (zu qT (zm (.int 17)) (zd 7))) (zb (zd 2) (zb (sIx (zg 8) (zm (.int 0))) (zb (sIx (zg 8) (zm (.int 1))) zz)))))) zz))))))) (jH (xj (zb (zd 2) (zb (zd 5) (zb (zG (zg 6)) zz))))))))
noncomputable def qc:=zY 4<|zN (sIf (yb (ji<|sB<|sIs .tuple<|zd 0)<|yb (sB<|zu dNe (vI<|zg 0)<|zm<|.int 3)<|yb (ji<|sB<|zt jK<|zb (sIx (zg 0)<|zm<|.int 0) zz)<|sB<|zu dNe (sIx (zg 0)<|zm<|.int 0)<|sIx (zg 1)<|zm<|.int 0) (jH<|zm<|.bl false) jo)<|zN (sIf (yb (ji<|sB<|zt qw<|zb (sIx (zg 0)<|zm<|.int 1)<|zb (sIx (zg 1)<|zm<|.int 1) zz)<|yb (ji<|sB<|sIs .tuple<|sIx (zg 0)<|zm<|.int 2)<|sB<|zu dNe (vI<|zT<|sIx (zg 0)<|zm<|.int 2)<|vI<|zT<|sIx (zg 1)<|zm<|.int 2) (jH<|zm<|.bl false) jo)<|zN (Ke (QK (sIx (zg 0)<|zm<|.int 2)<|sIx (zg 1)<|zm<|.int 2) (.tp [2,3])<|zN (sIf (yb (ji<|sB<|sIs .tuple<|zd 2)<|yb (sB<|zu dNe (vI<|zg 2)<|zm<|.int 2)<|sB<|zu dNe (sIx (zg 2)<|zm<|.int 0)<|sIx (zg 3)<|zm<|.int 0) (jH<|zm<|.bl false) jo)<|sIf (yb (ji<|sB<|sIs .str<|sIx (zg 2)<|zm<|.int 0)<|ji<|sB<|zt j5<|zb (sIx (zg 2)<|zm<|.int 1)<|zb (sIx (zg 3)<|zm<|.int 1) zz) (jH<|zm<|.bl false) jo)<|jH<|zm<|.bl true
section
variable(γ:Ctx)
@[simp] noncomputable def xZ:=@ya.eq_1
@[simp] noncomputable def gS:=@vm.eq_1
@[simp] noncomputable def rL:=@uc.eq_1
@[simp] noncomputable def aN:=@ZG.eq_1
end
noncomputable def j7:=zY 2 (jH (fw (sB (zu dEq (zd 1) (zm (.str "r")))) (zd 0) (zu jO (zd 0) (zm (.int 1)))))
noncomputable def xu:=zY 2 (jH (fw (sB (zu dEq (zd 1) (zm (.str "r")))) (zu jO (zd 0) (zm (.int 1))) (zd 0)))
noncomputable def jP:=zY 7<|zN (jM 5<|sIx (zg 2)<|zm<|.int 0)<|zN (jM 6<|zt kN<|zb (zd 0)<|zb (sIx (zg 3)<|zt xu<|zb (zd 1)<|zb (zd 5) zz)<|zb (sIx (zg 2)<|zm<|.int 1) zz)<|jH<|xj<|zb (zd 5)<|zb (zt kN<|zb (zd 0)<|zb (zd 6)<|zb (sIx (zg 4)<|zt j7<|zb (zd 1)<|zb (zd 5) zz) zz) zz
noncomputable def xM:=zY 4<|zN (jM 3<|qE<|zC (fA<|sIx (zg 0)<|zm<|.int 2) (.tp [0,1]) 2 [0,1,2] zQ (zt jP<|zb (sIx (zg 2)<|zm<|.int 0)<|zb (zd 0)<|zb (zd 1)<|zb (zd 3)<|zb (zd 4) zz))<|jH<|xj<|zb (sIx (zg 0)<|zm<|.int 0)<|zb (sIx (zg 0)<|zm<|.int 1)<|zb (zG<|zg 3) zz
noncomputable def qb:=zY 1 (jH (fw (sB (zu dEq (zd 0) (zm (.str "r")))) (zm (.str "l")) (zm (.str "r"))))
noncomputable def qY:=zY 2<|zN (jM 1<|qE<|zC (nk<|sIx (zg 0)<|zm<|.int 2) (.nm 0) 1 [] zQ (xj<|zb (zt qb<|zb (sIx (zg 0)<|zm<|.int 0) zz)<|zb (sIx (zg 0)<|zm<|.int 1) zz))<|jH<|xj<|zb (sIx (zg 0)<|zm<|.int 0)<|zb (Js<|sIx (zg 0)<|zm<|.int 1)<|zb (zG<|zg 1) zz
noncomputable def qW:=zY 2<|zN (jM 1<|qE<|zC (zP<|zT<|sIx (zg 0)<|zm<|.int 2) (.nm 0) 1 [] zQ (xj<|zb (zt qb<|zb (sIx (zg 0)<|zm<|.int 0) zz)<|zb (zt jZ<|zb (sIx (zg 0)<|zm<|.int 1) zz) zz))<|jH<|xj<|zb (sIx (zg 0)<|zm<|.int 0)<|zb (sIx (zg 0)<|zm<|.int 1)<|zb (zG<|zg 1) zz
noncomputable def V2(f:CO D):CO D:=λγ=>(f γ).map λd=> .bl (QL .list d || QL .tuple d)
noncomputable def jQ:=zY 1<|jH<|Vq (sIs .int<|zd 0)<|nq<|sIs .bool<|zd 0
noncomputable def j6:=zY 2<|jH<|Vq (zt jQ<|zb (zd 1) zz)<|yH dLe dLt (zm<|.int 0) (zd 1)<|zd 0
noncomputable def kc:=zY 4<|zN (jM 3<|vI<|zT<|sIx (zg 0)<|zm<|.int 1)<|zN (sIf (ji<|sB<|zt j6<|zb (zd 3)<|zb (zd 1) zz) qD jo)<|sIf (yb (ji<|sB<|zt j6<|zb (zd 3)<|zb (zd 2) zz)<|sB<|zu dLt (zd 2)<|zd 1) qD jo
noncomputable def yt:List D->Option Xn:=Kr 4 (eh xNo (jM 3 (vI (zT (sIx (zg 0) (zm (.int 1)))))) (eh (xIf (ji (sB (zt j6 (zb (zd 3) (zb (zd 1) zz))))) (ia "NoRoom" (zd 1)) xNo) (sIf (ji (sB (zt j6 (zb (zd 3) (zb (zd 1) zz))))) qD jo) (xIf (yb (ji (sB (zt j6 (zb (zd 3) (zb (zd 2) zz))))) (sB (zu dLt (zd 2) (zd 1)))) (ia "NoRoom" (zd 2)) xNo)))
noncomputable def Kd:=zY 3<|zN (Ko<|zt kc<|zb (zd 0)<|zb (zd 1)<|zb (zd 2) zz)<|jH<|xj<|zb (sIx (zg 0)<|zm<|.int 0)<|zb (fu (sIx (zg 0)<|zm<|.int 1) (sBd<|zd 1)<|sBd<|zu jO (zd 2)<|zm<|.int 1)<|zb (fu (sIx (zg 0)<|zm<|.int 2) (sBd<|zd 1)<|sBd<|zd 2) zz
noncomputable def mZ:List D->Option Xn:=Kr 3<|yx yt<|zb (zd 0)<|zb (zd 1)<|zb (zd 2) zz
noncomputable def vF:=zY 1<|jH<|Vq (zt jQ<|zb (zd 0) zz)<|rZ (zd 0)<|zT<|zm<|.tup [.int 2,.int 3,.int 5,.int 7]
noncomputable def kP:=zY 1<|jH<|Vq (zt jQ<|zb (zd 0) zz)<|yH dLe dLe (zm<|.int 0) (zd 0)<|zm<|.int 30
noncomputable def jL:=zY 2<|jH<|Vq (V2<|zd 0)<|zu dEq (vI<|zg 0)<|zd 1
noncomputable def kQ:=zY 2<|jH<|Vq (zt jL<|zb (zd 1)<|zb (zd 0) zz)<|Kp<|zX<|zC (zP<|zg 1) (.nm 0) 1 [] zQ (zt jQ<|zb (zd 0) zz)
noncomputable def k4:=zY 4<|zN (sIf (ji<|sB<|zt vF<|zb (zd 0) zz) qD jo)<|zN (sIf (yb (ji<|sB<|zt kP<|zb (zd 1) zz)<|ji<|sB<|zt kP<|zb (zd 2) zz) qD jo)<|zN (sIf (yb (ji<|sB<|zt jL<|zb (zd 3)<|zb (zd 1) zz)<|ji<|sB<|Kp<|zX<|zC (zP<|zg 3) (.nm 0) 1 [2] zQ (zt kQ<|zb (zd 1)<|zb (zd 0) zz)) qD jo)<|jH<|xj<|zb (zd 1)<|zb (zd 2)<|zb (zG<|zX<|zC (zP<|zg 3) (.nm 0) 1 [0] zQ (zt yv<|zb (zd 1)<|zb (zd 0) zz)) zz
noncomputable def kM:=zY 1 (jH (ZG (zm (.str "")) (zX (zC (zP (zT (sIx (zg 0) (zm (.int 2))))) (.nm 0) 1 [] zQ (sIx (zg 0) (zm (.int 0)))))))
noncomputable def qX:=zY 2<|jH<|Vq (zu dEq (sIx (zg 0)<|zm<|.int 0)<|sIx (zg 1)<|zm<|.int 0)<|zu dEq (zt kM<|zb (zd 0) zz)<|zt kM<|zb (zd 1) zz
noncomputable def jR:=zY 2<|sIf (ji<|sB<|zt qX<|zb (zd 0)<|zb (zd 1) zz) qD jo
noncomputable def qz:List D->Option Xn:=Kr 2 (xIf (ji (sB (zt qX (zb (zd 0) (zb (zd 1) zz))))) (ey "Unlike") xNo)
section
variable{X:Cx}{sc:Scope}{N L:List Str}{k:Nat}{a e:Expr}{es:List Expr}{f:CO D}{g:CO (List D)}{pos p p2:Pos}
theorem wx(I:PV X e f)(M:swapsWith e none pos.line X.env=pure false:=by rfl):PSD X (.Expr e pos) (Ko f):=kA (Wv I M) λD σ H O=>by obtain⟨E0,E,H0,γ,U,B,z,R⟩:=O;obtain⟨d,e1,z⟩:=zy z;subst z;exact⟨H0,γ,d,B.rc,e1,λv H' H0' x r=>R σ H' H0'<|B.step x⟩
structure GL(K:uW)(mg:GJ)(x:Str)(d:D):Prop where
 ex : ∃u v,mg x=some u/\RelV v u/\∀H,Rep K H d v
theorem Jz{x:Str}{d:D}(h:SX X sc N L k)(c:ki sc x=true)(z:GL X.K X.mg x d):PV X (.Name x pos) (zm d):=by intro pins s σ H Q I ⟨H0,γ,d',rc,B,q⟩;cases B;obtain⟨u,v,h1,h2,M⟩:=z.ex;exact WW I (h.gl c).1 h1 ⟨v,H,I,h2,q v H H0 (Ext.refl rc.sub)<|M H0⟩ (h.gl c).2.2
theorem Wo{M Y:Pos}{j:Nat}(h:SX X sc N L k)(c:ki sc "isinstance" = true)(z:X.mg "isinstance" = none)(c2:ki sc "list" = true)(z2:X.mg "list" = none)(c3:ki sc "tuple" = true)(z3:X.mg "tuple" = none)(ha:PV X a f)
 (hs:starEach [a,.Tuple [.Name "list" p2,.Name "tuple" M] j Y] X.env=[(false,eval a X.env),(false,eval (.Tuple [.Name "list" p2,.Name "tuple" M] j Y) X.env)]:=by rfl)
 (ac:starEach [.Name "list" p2,.Name "tuple" M] X.env=[(false,eval (.Name "list" p2) X.env),(false,eval (.Name "tuple" M) X.env)]:=by rfl) :
 PV X (.Call (.Name "isinstance" p) [a,.Tuple [.Name "list" p2,.Name "tuple" M] j Y] [] pos) (V2 f):=by
 intro pins s σ H Q I ⟨H0,γ,d,rc,ef,q⟩;obtain⟨d1,e1,e2⟩:=zy ef;subst e2;refine BK (qN I (h.gl c).1 z Fq ?_ ⋯ ⋯);refine Cz ?_ (by rw[hs];rfl) rfl;rw[hs];show wpAny _ _ (spliced ((false,eval a X.env)::backTo pos [(false,eval (.Tuple [.Name "list" p2,.Name "tuple" M] j Y) X.env)])) _ _ s;refine Bv (thn (ha pins s σ H (λv H'=>∃H0',Ext H0 H H0' H'/\Rep X.K H0' d1 v) I ⟨H0,γ,d1,rc,e1,λv H' H0' x r=>⟨H0',x,r⟩⟩) λu s1 hZ=>?_);obtain⟨x,H1,I1,O,a0,x1,R⟩:=hZ;show wpAny _ _ (spliced ((false,eval (.Tuple [.Name "list" p2,.Name "tuple" M] j Y) X.env)::[])) _ _ s1;refine Bv (wpAny_Tuple_spliced ?_);rw[ac];show wpAny _ _ (spliced ((false,eval (.Name "list" p2) X.env)::backTo Y [(false,eval (.Name "tuple" M) X.env)])) _ _ s1;refine Bv (qN I1 (h.gl c2).1 z2 PyProof.Rows.boot_list ?_ (h.gl c2).2.1 (h.gl c2).2.2);show wpAny _ _ (spliced ((false,eval (.Name "tuple" M) X.env)::[])) _ _ s1;refine Bv (qN I1 (h.gl c3).1 z3 Cr ?_ (h.gl c3).2.1 (h.gl c3).2.2);refine CV ⟨by decide,?_⟩;refine CV ?_;have B:L2.Inv X pins σ H1 {s1 with heap:=s1.heap.push {cls:= .type "tuple",data:= .seq #[.type "list",.type "tuple"]},toks:=s1.toks}:=I1.kept λb u e=>uY _ e;have tp:(s1.heap.push {cls:= .type "tuple",data:= .seq #[.type "list",.type "tuple"]}).get? s1.heap.objs.size=some ⟨.type "tuple",none,.seq [Fg "list",.type "tuple"].toArray 0,#[]⟩:=Aj _ rfl;have U : ∀tk,EP X pins σ Q (.bool (QL .list d1 || QL .tuple d1)) {s1 with heap:=s1.heap.push {cls:= .type "tuple",data:= .seq #[.type "list",.type "tuple"]},toks:=tk}:=λtk=>⟨.bl _,H1,B.tok tk,rfl,q _ H1 a0 x1 rfl⟩;have any : ∀{t:Value} {b1 b2:Bool},BD X.K t (.type "list")=some b1->BD X.K t (.type "tuple")=some b2->PySem.W.kitAny X.K t [.type "list",.type "tuple"]=some (b1 || b2):=λ{t b1 b2} g1 g2=>by
  unfold PySem.W.kitAny;rw[g1];cases b1 with
  | true=>rfl
  | false=>
   dsimp only;unfold PySem.W.kitAny;rw[g2];cases b2<;>rfl
 cases d1 with
 | non=>cases (show x = .non from R);cases (show u=BM from O);exact BH FE B.kIn BN tp (any (qQ .list .non)<|qQ .tuple .non) (λz=>nomatch z) U
 | bl y=>cases (show x = .bl y from R);cases (show u=FM y from O);exact BH FF B.kIn BN tp (any (qQ .list<|.bl y)<|qQ .tuple<|.bl y) (λz=>nomatch z) U
 | int i=>cases (show x = .int i from R);obtain⟨t,qq⟩:=(show ∃t,u=FC i t from O);cases qq;exact BH FO B.kIn BN tp (any (qQ .list<|.int i)<|qQ .tuple<|.int i) (λz=>nomatch z) U
 | str y=>cases (show x = .str y from R);obtain⟨t,qq⟩:=(show ∃t,u=FB y t from O);cases qq;exact BH FN B.kIn BN tp (any (qQ .list<|.str y)<|qQ .tuple<|.str y) (λz=>nomatch z) U
 | tup ds=>
  obtain⟨a,xs,rfl,h1,h2⟩:=xO R;cases (show u=Bi a from O);obtain⟨ao,rv,⟨o,ho,hc,_⟩,hz⟩:=B.tuple<|sameT x1.sub h1;exact BH Fp B.kIn ⟨o,ho,hc⟩ tp (any (qQ .list<|.tup ds)<|qQ .tuple<|.tup ds) (λz=>nomatch z) U
 | lst ds=>
  obtain⟨a,xs,rfl,h1,h2⟩:=KP R;cases (show u=Bi a from O);obtain⟨ao,rv,p,hz⟩:=B.list<|x1.sub.seq h1;obtain⟨o,ho,hc,_⟩:=p.isList;exact BH Eu B.kIn ⟨o,ho,hc⟩ tp (any (qQ .list<|.lst ds)<|qQ .tuple<|.lst ds) (λz=>nomatch z) U
 | dic ks vs=>
  obtain⟨a,xs,rfl,⟨kk,_,_,h1⟩,_⟩:=(show ∃a xs,x = .ref a/\DRp a0 a ks xs/\Reps X.K a0 vs xs from R);cases (show u=Bi a from O);obtain⟨_,_,aw,_,dd⟩:=pT B.hok<|x1.sub _ _ h1;exact BH CM B.kIn dd.typeIs tp (any (qQ .list<|.dic ks vs)<|qQ .tuple<|.dic ks vs) (λz=>nomatch z) U
 | dct ks vs=>
  obtain⟨a,xs,rfl,⟨_,o,zs,h1,h2,_⟩,_⟩:=(show ∃a xs,x = .ref a/\DRt X.K a0 a ks xs/\Reps X.K a0 vs xs from R);cases (show u=Bi a from O);obtain⟨ho,_⟩:=(show ObjOk X.prog X.w H1 _ a (atO a o)from B.hok a _<|x1.sub _ _ h1);exact BH CM B.kIn ⟨o,ho,h2.1.1⟩ tp (any (qQ .list<|.dct ks vs)<|qQ .tuple<|.dct ks vs) (λz=>nomatch z) U
end
section
variable{K:uW}{mg:GJ}{h:Heap}
theorem sC{x:Str}{n:Int}{t:Tok}(z:K.In h)(G:h.Ns mainGlobals mg)(a:Ej K mainGlobals x=some (some (.int n t))):GL K mg x (.int n):=
 ⟨_,.int n,EJ z G a,⟨t,rfl⟩,λ_=>(show V.int n = .int n from rfl)⟩
noncomputable def KW:List Value->Option (List Int)
 | []=>some []
 | .int i _::r=>(KW r).map λl=>i::l
 | _::_=>none
theorem vO : ∀{us:List Value} {ns:List Int},KW us=some ns->Vals (ns.map V.int) us
 | [],ns,e=>by cases e;exact .nil
 | u::us,ns,e=>by
  cases u with
  | int i t=>
   obtain⟨l,e1,e2⟩:=zy e;subst e2;exact .cons ⟨t,rfl⟩<|vO e1
  | _=>cases e
theorem vK{H:Hp} : ∀ns:List Int,Reps K H (ns.map D.int) (ns.map V.int)
 | []=>Reps.nil
 | n::ns=>Reps.cons (show V.int n = .int n from rfl)<|vK ns
theorem pK{x:Str}{ad:Addr}{B:Array Value}{m:Nat}{sl:Array (Option Value)}(ns:List Int)(I:K.In h)(G:h.Ns mainGlobals mg)(a:Ej K mainGlobals x=some (some (.ref ad)))
 (l:K.lookup ad=some ⟨.type "tuple",none,.seq B m,sl⟩) (v:KW B.toList=some ns) (z:B.size<=sizeLine):GL K mg x (.tup (ns.map D.int)):=
 ⟨_,.ref ad,EJ I G a,rfl,λH=>(show ∃b xs,V.ref ad = .ref b/\SqT K H b xs/\Reps K H (ns.map D.int) xs from⟨ad,ns.map V.int,rfl,.inr ⟨_,B,m,l,rfl,rfl,z,vO v⟩,vK ns⟩)⟩
end
end DL
namespace L2
open PySem PySem.Spec PyProof.Rows
theorem V5:Manifest.owners.lookup (String.ofList ['d','e','s','r','e','v','e','r'].reverse)=some Manifest.sig_reversed:=by kernel_rfl
theorem rv_next:Slot "reversed" "__next__" "reversed.__next__":= .of (owner:="reversed") (n:="__next__") (by rw[CZ,BL];kernel_rfl) ⋯ ⋯ ⋯ (by first | exact .inl ⋯ | exact .inr ⋯) (by rw[CA];kernel_rfl)
theorem V8:Slot "reversed" "__iter__" "reversed.__iter__":= .of (owner:="reversed") (n:="__iter__") (by rw[CZ,BL];kernel_rfl) ⋯ ⋯ ⋯ (by first | exact .inl ⋯ | exact .inr ⋯) (by rw[CA];kernel_rfl)
theorem rv_hint:Slot "reversed" "__length_hint__" "reversed.__length_hint__":= .of (owner:="reversed") (n:="__length_hint__") (by rw[CZ,BL];kernel_rfl) ⋯ ⋯ ⋯ (by first | exact .inl ⋯ | exact .inr ⋯) (by rw[CA];kernel_rfl)
theorem Xf:entryFor table "reversed.__next__" = some Builtin.«reversed.__next__» :=entryFor_of_tree (by kernel_rfl)
theorem Wb:entryFor table "reversed.__length_hint__" = some Builtin.«reversed.__length_hint__» :=entryFor_of_tree (by kernel_rfl)
theorem V6:entryFor table "reversed.__iter__" = some Builtin.«dict_keyiterator.__iter__» :=entryFor_alias (id':="dict_keyiterator.__iter__") (by kernel_rfl) (by first | rfl | decide +kernel | (unfold String.splitOn;simp +decide [String.splitOnAux])) ⋯ (by kernel_rfl)
theorem Xg(a:Value):argsOk "reversed.__next__" ⟨[a],[]⟩:=by unfold argsOk;rw[FY (id:="reversed.__next__") (n:=['_','_','t','x','e','n','_','_']) (o:=['d','e','s','r','e','v','e','r']) (by kernel_rfl) V5];kernel_rfl
theorem V7(a:Value):argsOk "reversed.__iter__" ⟨[a],[]⟩:=by unfold argsOk;rw[FY (id:="reversed.__iter__") (n:=['_','_','r','e','t','i','_','_']) (o:=['d','e','s','r','e','v','e','r']) (by kernel_rfl) V5];kernel_rfl
theorem Wc(a:Value):argsOk "reversed.__length_hint__" ⟨[a],[]⟩:=by unfold argsOk;rw[FY (id:="reversed.__length_hint__") (n:=['_','_','t','n','i','h','_','h','t','g','n','e','l','_','_']) (o:=['d','e','s','r','e','v','e','r']) (by kernel_rfl) V5];kernel_rfl
theorem bF:typeLookup (.type "reversed") "__len__" = pure none:=by rw[CZ,BL];kernel_rfl
theorem VL:typeLookup (.type "tuple") "__reversed__" = pure none:=by rw[CZ,BL];kernel_rfl
theorem YV:isSubtype (.type "tuple") (.type "dict")=pure false:=by rw[CA];kernel_rfl
abbrev X9(h:Heap)(z t:Addr)(i:Int):Prop:=h.get? z=some {cls:= .type "reversed",dict:=none,data:= .fields #[.ref t,rawInt i],slots:=#[]}
section
variable{prog:Program}{w:World}{A:Around}{E:GQ}{s:Shared}
theorem iG{l:Addr}{xs:Array Value}{Q₁:GQ}(z:IsTup s.heap l xs)(B:(xs.size:Int)<2 ^ 63)
 (h:Q₁ (.ref s.heap.objs.size) {s with heap:=s.heap.push {cls:= .type "reversed",data:= .fields #[.ref l,rawInt ((xs.size:Int) - 1)]},toks:=s.toks+1+1}) :
 codeAny (model prog w) A (.call (.builtin "reversed.__new__") ⟨[.type "reversed",.ref l],[]⟩) (wants Q₁ E) s:=by
 refine codeAny_of_tree ?_;refine uX (m:=checkBuiltinCall "reversed.__new__" ⟨[.type "reversed",.ref l],[]⟩) (BZ (F.newCall_reversed_1 _) (Ad ⟨Fm F.plain_reversed_new _,FA F.entry_reversed_new ?_⟩));rw[Ed F.plain_reversed_new _];unfold Builtin.«reversed.__new__»;refine uX (BZ (newClass_reversed _) ?_)
 try dsimp only
 refine uX<|BZ (a:=()) (by first | rfl | kernel_rfl)<|uX<|BZ (a:=()) (by first | rfl | kernel_rfl) ?_
 try dsimp only
 refine uX<|EF z.typeIs VL ?_
 try dsimp only
 refine uX ?_;show wpAny _ _ (isInstance (.ref l) (.type "dict") >>= _) _ _ _;refine uX (CC (b:=false) z.typeIs YV ?_);rw[MQ ⋯];refine uX (EF z.typeIs F.slot_tuple_getitem.lookup ?_);dsimp only;rw[GY ⋯];refine Ad ?_;rw[MQ ⋯];refine uX (len_tuple z B ?_);refine uX (m:=asInt? _) (Ad ?_);dsimp only;refine uX (m:=Fe _ _) ?_;unfold Fe;exact AW (Ad h)
theorem fC:Slot "reversed" "__init__" "object.__init__":= .of (owner:="object") (n:="__init__") (by rw[CZ,BL];kernel_rfl) ⋯ ⋯ ⋯ (by first | exact .inl ⋯ | exact .inr ⋯) (by rw[CA];kernel_rfl)
theorem rv_called:TypeCalled "reversed" "reversed.__new__" "object.__init__":=⟨by decide +kernel,by decide +kernel,⟨_,_,F.mro_reversed⟩,F.made_reversed,by decide +kernel,by rw[CA];kernel_rfl,fC⟩
theorem We{l:Addr}{xs:Array Value}{Q:GQ}(I:IsTup s.heap l xs)(M:(xs.size:Int)<2 ^ 63)
 (h:Q (.ref s.heap.objs.size) {s with heap:=s.heap.push {cls:= .type "reversed",data:= .fields #[.ref l,rawInt ((xs.size:Int) - 1)]},toks:=s.toks+1+1}):wpAny (model prog w) A (call (.type "reversed") [.ref l]) Q E s:=by
 refine callType_codes (Q₁:=λobj z=>z.TypeIs obj "reversed"/\Q obj z) rv_called (F.typeCall_reversed_1 _) F.entry_object_init (iG I M ⟨⟨_,Aj _ rfl,rfl⟩,h⟩) λobj z B=>?_;exact⟨B.1,FI obj _,object_init_meets rv_called.init.lookup rv_called.made ⋯ prog w A.in1 _ z ⟨B.1,rfl,B.2⟩⟩
theorem Kq{z t:Addr}{i:Int}{Q:GQ}(M:X9 s.heap z t i)(h:Q (.ref z) s):wpAny (model prog w) A (pyIter (.ref z)) Q E s:=by have B:s.TypeIs (.ref z) "reversed":=⟨_,M,rfl⟩;refine wpAny_pyIter_slot B V8 (AX V8 B V6 ?_ (V7 _));have I:wpAny (model prog w) A.in1 (ret (.ref z)) (λI s'=>∃v,I = .done (.ret v)/\∃T m,s'.TypeIs v T/\typeLookup (.type T) "__next__" = pure (some m)/\Q v s') E s:=Ad ⟨_,rfl,"reversed",_,B,rv_next.lookup,h⟩;exact I
theorem V9{z t:Addr}{i:Nat}{xs:Array Value}{x:Value}{Q:Option Value->Shared->Prop}(B:X9 s.heap z t i)(I:IsTup s.heap t xs)(M:xs[i]? = some x)(a1:(xs.size:Int)<2 ^ 63)
 (U : ∀g,X9 g z t ((i:Int) - 1)->BS z s.heap g->Q (some x) {s with heap:=g,toks:=s.toks+1}):wpAny (model prog w) A (pyNext<|.ref z) Q E s:=by
 have O:s.TypeIs (.ref z) "reversed":=⟨_,B,rfl⟩;unfold pyNext;refine uX (BJ (AI (name:=As "__next__") O rv_next (AX rv_next O Xf ?_ (Xg _))));unfold Builtin.«reversed.__next__»;refine uX (BZ (a:=(Bi z,[])) rfl ?_)
 try dsimp only
 refine uX<|Ax B rfl (x:= .ref t) rfl<|uX<|Ax B rfl (x:=rawInt (i:Int)) rfl ?_;show wpAny _ _ (if (i:Int)<0 then _ else _) _ _ s;rw[MQ ⋯];refine uX<|EF I.typeIs F.slot_tuple_getitem.lookup ?_;rw[MQ ⋯];refine uX<|wpAny_mkInt ?_;have hi:i<xs.size:=(Array.getElem?_eq_some_iff.mp M).1;have W:IsTup ({s with toks:=s.toks+1}:Shared).heap t xs:=I;have Y:seqIndex? (i:Int) xs.size=some i:=by unfold seqIndex?;simp;omega
 refine uX<|BJ<|getItem_tuple (j:=i) (x:=x) W ⋯ ⋯ Y M ?_;have R:X9 ({s with toks:=s.toks+1}:Shared).heap z t i:=B;refine uX<|Ax R rfl (x:=rawInt (i:Int)) rfl ?_;refine uX (m:=setField (.ref z) 1<|rawInt<|(i:Int) - 1)<|AC R ⋯ λg hz2 a0=>?_;exact Ad ⟨x,rfl,Ad<|U g hz2 a0⟩
theorem dm{z t:Addr}{i:Int}{Q:Option Value->Shared->Prop}(O:A.handled=none)(hi:i<0)(B:X9 s.heap z t i)(R : ∀g,Heap.ExtBut z s.heap g->Q none {s with heap:=g}):wpAny (model prog w) A (pyNext<|.ref z) Q E s:=by
 have I:s.TypeIs (.ref z) "reversed":=⟨_,B,rfl⟩;unfold pyNext;refine uX (BJ (AI (name:=As "__next__") I rv_next (AX rv_next I Xf ?_ (Xg _))));unfold Builtin.«reversed.__next__»;refine uX (BZ (a:=(Bi z,[])) rfl ?_)
 try dsimp only
 refine uX (Ax B rfl (x:= .ref t) rfl (uX (Ax B rfl (x:=rawInt i) rfl ?_)));show wpAny _ _ (if i<0 then _ else _) _ _ s;rw[GY hi];refine uX (Cs ?_);refine uX ?_;show wpAny _ _ (setField (.ref z) 1 (rawInt (-1)) >>= λ_=>setField (.ref z) 0 .none) _ _ _;refine uX (AC B ⋯ λg1 U W=>?_);refine AC U ⋯ λg2 hz2 Y=>?_;have he:Heap.ExtBut z s.heap g2:=λb o M e=>Y.extBut b o M (W.extBut b o M e);refine uX (m:=Builtin.SmallTypes.stopIteration) ?_;show wpAny _ _ (newExc (.type "StopIteration") [] >>= _) _ _ _;refine uX ?_;simp only[newExc,newTuple];refine uX (AW ?_ (by size_fits));refine uX (m:=firstArgMember _ _) (BZ (a:=BM) (by first | rfl | (simp only[firstArgMember];rfl)) ?_);refine AW ?_ (by size_fits);simp only[raiseNew];refine uX (wpAny_handled ?_);rw[show A.in1.handled=none from O];refine uX (Ad (wpAny_throw ?_));refine uX (CC (T:="StopIteration") (b:=true) ⟨_,Aj _ rfl,rfl⟩ FP ?_);exact Ad (R _ ((he.push _).push _))
theorem bD(Y:A.handled=none)(z t:Addr)(a0:t≠z)(xs:Array Value)(a1:(xs.size:Int)<2 ^ 63) :
 Walks prog w A z [z,t] [z] xs.size (λi v=>xs[xs.size - 1 - i]? = some v) (λi h=>i<=xs.size/\X9 h z t ((xs.size:Int) - 1 - (i:Int))/\IsTup h t xs) where
 sub:=λb B=>by simp at B;simp[B]
 frame:=λ_ _ _ x R=>⟨x.1,R z ⋯ _ x.2.1,let ⟨o,ho,r⟩:=x.2.2;⟨o,R t ⋯ o ho,r⟩⟩
 item:=λi s Q E hi x I=>by
  have e:(xs.size:Int) - 1 - (i:Int)=((xs.size - 1 - i:Nat):Int):=by omega
  have M:=x.2.1;rw[e]at M;have U:xs[xs.size - 1 - i]? = some (xs[xs.size - 1 - i]'⋯):=Ez ⋯;refine V9 M x.2.2 U a1 λg hz2 W=>?_;have e2:((xs.size - 1 - i:Nat):Int) - 1=(xs.size:Int) - 1 - ((i+1:Nat):Int):=by omega
  rw[e2]at hz2;exact I _ g _ U ⟨hi,hz2,x.2.2.extBut W.extBut a0⟩ λb o B O=>W.extBut b o (λh=>B<|by simp[h]) O
 done:=λs Q E x I=>by have M:=x.2.1;exact dm Y ⋯ M λg he=>I g s.toks λb o B O=>he b o (λh=>B<|by simp[h]) O
 self:=λ_ _ _ _ x I=>Kq x.2.1 I
theorem Wa{z t:Addr}{xs:Array Value}{Q:GQ}(B:X9 s.heap z t ((xs.size:Int) - 1))(I:IsTup s.heap t xs)(M:(xs.size:Int)<2 ^ 63)
 (h : ∀u tk,s.toks<=tk->Q (.int xs.size u) {s with toks:=tk}):wpAny (model prog w) A (call (.builtin "reversed.__length_hint__") [.ref z]) Q E s:=by
 have O:s.TypeIs (.ref z) "reversed":=⟨_,B,rfl⟩;refine AX rv_hint O Wb ?_ (Wc _);unfold Builtin.«reversed.__length_hint__»;refine uX (BZ (a:=Bi z) (by first | rfl | kernel_rfl) ?_);refine uX (Ax B rfl (x:= .ref t) rfl ?_);rw[MQ ⋯];refine uX (len_tuple I M ?_);refine uX (m:=asInt? _) (Ad ?_);have R:X9 ({s with toks:=s.toks+1+1}:Shared).heap z t ((xs.size:Int) - 1):=B;refine uX (Ax R rfl (x:=rawInt ((xs.size:Int) - 1)) rfl ?_);show wpAny _ _ (if (xs.size:Int)<(xs.size:Int) - 1+1 then _ else _) _ _ _;rw[MQ ⋯];refine uX (m:=mkInt _) (wpAny_mkInt (Ad ⟨_,rfl,?_⟩));rw[show(xs.size:Int) - 1+1=xs.size by omega];exact h _ _ (by show s.toks<=s.toks+1+1+1;omega)
end
section
variable{prog:Program}{w:World}{A:Around}{E:GQ}{s:Shared}
theorem Y1{z t:Addr}{xs:Array Value}{Q:List Value->Shared->Prop}(hh:A.handled=none)(an:t≠z)(hz:X9 s.heap z t ((xs.size:Int) - 1))(ht:IsTup s.heap t xs)(hn:xs.size<=sizeLine)
 (hQ : ∀s' acc,Moved [z] (λa b=>b=a) s s'->ItemsOf (λi v=>xs[xs.size - 1 - i]? = some v) acc xs.size->Q acc.toList s'):wpAny (model prog w) A (collect<|.ref z) Q E s:=by
 have a5:(xs.size:Int)<2 ^ 63:=by
  have:sizeLine<2 ^ 63:=by decide
  omega
 have W:=(bD (prog:=prog) (w:=w) (A:=A.in1) hh z t an xs a5).toS;have lz:=Ao hz;have lt:=ht.lt;have a6:z<s.heap.objs.size:=lz;have ap:t<s.heap.objs.size:=lt;have ar:(λi (s:Shared)=>i<=xs.size/\X9 s.heap z t ((xs.size:Int) - 1 - ((i:Nat):Int))/\IsTup s.heap t xs) 0 s:=⟨Bt _,by simpa using hz,ht⟩;have O:s.heap.objs.size ∉ [z,t]:=λhm=>by
  simp only[Ag,Aw,or_false]at hm;rcases hm with e | e
  ·exact Bk a6 e
  ·exact Bk ap e
 have as:s.heap.objs.size≠z:=Bk a6;unfold collect;refine uX (wpAny_runValue (FA F.entry_proto_collect ?_));rw[Ed F.plain_proto_collect _];show wpAny _ A.in1 (newList [] >>= λl=>again (.builtin "list.__iadd__" ⟨[l,.ref z],[]⟩)) _ _ s;refine uX (AW (Ad ⟨Fm F.plain_list_iadd _,FA F.entry_list_iadd ?_⟩));rw[Ed F.plain_list_iadd _];have I:=W.frame 0 s (s.heap.push {cls:= .type "list",data:= .seq ([]:List Value).toArray}) s.toks ar (Ak _) λb _ o e=>uY _ e;obtain⟨_,aw,ax⟩:=id I;have a7:X9 (s.heap.push {cls:= .type "list",data:= .seq ([]:List Value).toArray}) z t ((xs.size:Int) - 1):=by simpa using aw
 have M:Shared.TypeIs {s with heap:=s.heap.push {cls:= .type "list",data:= .seq ([]:List Value).toArray}} (.ref z) "reversed":=⟨_,a7,rfl⟩;have R:(s.heap.push {cls:= .type "list",data:= .seq ([]:List Value).toArray}).get? s.heap.objs.size=some {cls:= .type "list",data:= .seq ([]:List Value).toArray}:=Aj _ rfl;have h1:Builtin.List.listSameRef (.ref s.heap.objs.size) (.ref z)=false:=by simp[Builtin.List.listSameRef,as]
 show wpAny _ A.in1 (Builtin.List.listExtendWith (.ref s.heap.objs.size) (.ref z) (.ref s.heap.objs.size)) _ _ _;unfold Builtin.List.listExtendWith;refine uX (EV M ?_);rw[MQ (by rw[h1];decide)];refine uX (W.self 0 _ _ _ I (uX (Es ?_)));unfold Builtin.List.listLengthHint;refine uX (EF M bF ?_);show wpAny _ A.in1 (specialOf (Bi z) (As "__length_hint__") >>= _) _ _ _;refine uX (EF M rv_hint.lookup ?_);generalize a8:("reversed.__length_hint__" : String)=b0;wp_delta;rw[show splitId b0=some ("reversed","__length_hint__")from by subst a8;decide +kernel];subst a8;refine uX (CC (b:=true) M (by rw[CA];kernel_rfl) ?_);rw[MQ ⋯,MQ ⋯];refine uX (Cs (uX (BZ (rv_hint.bind _) ?_)));dsimp only;refine uX (BJ (Wa a7 ax a5 λu tk htk=>?_));dsimp only;have ea:asInt? (FC (xs.size:Int) u)=pure (some (xs.size:Int)):=rfl;rw[ea,pure_bind];dsimp only;have hk:Builtin.List.listTooLong (Int.toNat (xs.size:Int))=false:=by simp[Builtin.List.listTooLong];omega
 have b9:Builtin.List.listFitsIndex (xs.size:Int)=true:=by simp[Builtin.List.listFitsIndex];omega
 rw[MQ (by rw[b9];decide),MQ ⋯,MQ (by rw[hk];decide)];refine Ad ?_;have bb:=W.frame 0 _ _ tk I htk λb _ o e=>e;by_cases h0:xs.size=0
 ·have U:((xs.size:Int) != 0)=false:=by simp[h0]
  rw[U,MQ ⋯];refine Ad ⟨Fm F.plain_extend_loop _,codeAny_extend_loopS W hn _ O _ xs.size 0 _ _ _ rfl (Bt _) bb R (ItemsOf.nil _) λs' Y c' hm a0 a1=>?_⟩;show wpAny _ A (load s.heap.objs.size >>= _) _ _ s';exact uX (wpAny_load a0 (Ad (hQ s' Y (Moved.drop_new (o:={cls:= .type "list",data:= .seq ([]:List Value).toArray}) (tk:=tk) hm htk) a1)))
 ·have U:((xs.size:Int) != 0)=true:=bne_iff_ne.mpr ⋯
  rw[U,Bool.true_or,GY rfl];refine uX (Cs (uX ?_));show wpAny _ A.in1 (updateSeq s.heap.objs.size (·.push .none) >>= λ_=>updateSeq s.heap.objs.size (·.pop)) _ _ _;refine uX (wpAny_updateSeq R rfl ?_ ⋯ ⋯);have a9:=Ce (Cm (·.push BM)) R rfl;refine wpAny_updateSeq a9 rfl ?_ (by simp;decide) ⋯;have ac:=Ce (Cm (·.pop)) a9 rfl;generalize hg:((s.heap.push {cls:= .type "list",data:= .seq ([]:List Value).toArray}).update s.heap.objs.size (Cm (·.push BM))).update s.heap.objs.size (Cm (·.pop))=g at ac ⊢;have ag : ∀b o,b≠s.heap.objs.size->(s.heap.push {cls:= .type "list",data:= .seq ([]:List Value).toArray}).get? b=some o->g.get? b=some o:=λb o B e=>by rw[<- hg];exact(CU _ _ (AR B)).trans ((CU _ _ (AR B)).trans e)
  refine Ad ⟨Fm F.plain_extend_loop _,codeAny_extend_loopS W hn _ O _ xs.size 0 _ _ _ rfl (Bt _)
   (W.frame 0 ({s with heap:=s.heap.push {cls:= .type "list",data:= .seq ([]:List Value).toArray}}:Shared) g tk I htk λb B o e=>ag b o (λh=>O (h ▸ B)) e) ac (ItemsOf.nil _) λs' Y c' hm a0 a1=>?_⟩
  show wpAny _ A (load s.heap.objs.size >>= _) _ _ s';have mv:Moved [s.heap.objs.size,z] (λa b=>b=a) ({s with heap:=s.heap.push {cls:= .type "list",data:= .seq ([]:List Value).toArray},toks:=tk}:Shared) ({s with heap:=g,toks:=tk}:Shared):=
   ⟨λb o B e=>ag b o (λh=>B<|h ▸ Ai) e,rfl,rfl,rfl,Ak _⟩
  exact uX (wpAny_load a0 (Ad (hQ s' Y (Moved.drop_new (o:={cls:= .type "list",data:= .seq ([]:List Value).toArray}) (tk:=tk) (Moved.trans W.gtrans mv hm) htk) a1)))
theorem Xe{z t:Addr}{xs:Array Value}{Q₁:GQ}(M:A.handled=none)(O:t≠z)(B:X9 s.heap z t ((xs.size:Int) - 1))(R:IsTup s.heap t xs)(hn:xs.size<=sizeLine)
 (h : ∀s' acc,Moved [z] (λa b=>b=a) s s'->ItemsOf (λi v=>xs[xs.size - 1 - i]? = some v) acc xs.size->Q₁ (.ref s'.heap.objs.size) {s' with heap:=s'.heap.push {cls:= .type "tuple",data:= .seq acc}}) :
 codeAny (model prog w) A (.call (.builtin "tuple.__new__") ⟨[.type "tuple",.ref z],[]⟩) (wants Q₁ E) s:=by
 refine codeAny_of_tree ?_;refine uX (m:=checkBuiltinCall "tuple.__new__" ⟨[.type "tuple",.ref z],[]⟩) (BZ (F.newCall_tuple_1 _) (Ad ⟨Fm F.plain_tuple_new _,FA F.entry_tuple_new ?_⟩));rw[Ed F.plain_tuple_new _];have W:=sub_tuple_self;have Y:=init_tuple_lookup;have a0:=madeHere_tuple;have U:s.TypeIs (.ref z) "reversed":=⟨_,B,rfl⟩
 wp_walk using EV U,Y1 (A:=A.in1) M O B R hn
 intro s' acc hm I;show wpAny _ _ (Bf acc.toList.toArray >>= λv=>ret v) _ _ _;unfold Bf;refine uX (AW (Ad ?_)<|by show acc.toList.toArray.size<=sizeLine;simp only[Fn];rw[I.1];exact hn);rw[show acc.toList.toArray=acc by simp];exact h s' acc hm I
theorem bE{z t:Addr}{xs:Array Value}{Q:GQ}(M:A.handled=none)(O:t≠z)(R:X9 s.heap z t ((xs.size:Int) - 1))(U:IsTup s.heap t xs)(hn:xs.size<=sizeLine)
 (W : ∀s' acc,Moved [z] (λa b=>b=a) s s'->ItemsOf (λi v=>xs[xs.size - 1 - i]? = some v) acc xs.size->Q (.ref s'.heap.objs.size) {s' with heap:=s'.heap.push {cls:= .type "tuple",data:= .seq acc}}) :
 wpAny (model prog w) A (call (.type "tuple") [.ref z]) Q E s:=by
 refine callType_codes (Q₁:=λobj B=>B.TypeIs obj "tuple"/\Q obj B) F.called_tuple (F.typeCall_tuple_1 _) F.entry_object_init
  (Xe M O R U hn λs' acc hm Y=>⟨⟨_,Aj _ rfl,rfl⟩,W s' acc hm Y⟩) λobj B I=>?_
 exact⟨I.1,FI obj _,object_init_meets F.called_tuple.init.lookup F.called_tuple.made ⋯ prog w A.in1 _ B ⟨I.1,rfl,I.2⟩⟩
end
noncomputable def Itv(K:uW)(a:Addr)(n:Nat):It:=
 ⟨λi H=>i<n/\∃xs,SqT K H a xs/\xs.length=n,λi H x H'=>H'=H/\∀xs,SqT K H a xs->xs[n - 1 - i]? = some x,λi H=>n<=i⟩
theorem JO{n:Nat}(h:n<=sizeLine):(n:Int)<2 ^ 63:=by
 have:sizeLine<2 ^ 63:=by decide
 omega
theorem bu{P:Program}{w:World}{K:uW}{tg:Expr}(a z:Addr)(n:Nat):Turn P w K tg (Itv K a n) [z] z (λi h=>X9 h z a<|(n:Int) - 1 - (i:Nat)) where
 mem:=by simp
 obj:=λi h st b B=>by
  have e:b=z:=by simpa using B
  subst e;exact⟨_,st,λv q=>by cases q⟩
 keep:=λi h h' st k=>k z ⋯ _ st
 item:=by
  intro X R hw U hc i pins s σ H E I M st O;subst R hw U;obtain⟨hi,xs,hq,hn⟩:=O;obtain⟨a7,rv,p,hz⟩:=I.tuple hq;have hl:=rv.length;have hx:xs[n - 1 - i]? = some (xs[n - 1 - i]'⋯):=Ae ⋯;obtain⟨u,hu,ru⟩:=rv.get hx;obtain⟨W,Y,f2,f3,f4,f5⟩:=M z ⋯;have ag:X9 s.heap z a ((n - 1 - i:Nat):Int):=by rwa [show((n - 1 - i:Nat):Int)=(n:Int) - 1 - (i:Nat)by omega]
  refine V9 ag (show IsTup s.heap a a7.toArray from p) (x:=u) (by simpa using hu) (JO<|by simp;omega) λg hz2 sb=>?_;have I1:Inv X pins σ H {s with heap:=g,toks:=s.toks+1}:=I.turned (λb o B e=>(sb.2 b B).trans e) W Y f3 f4 f5;rw[show((n - 1 - i:Nat):Int) - 1=(n:Int) - 1 - ((i+1:Nat))by omega]at hz2;exact⟨u,rfl,af (s:={s with heap:=g,toks:=s.toks+1}) hz2 rfl rfl ⋯ ⟨_,H,I1,ru,⟨rfl,λys hy=>by rw[I.tuple_inj hy hq];exact hx⟩,hz2,λb B=>(M b B).1⟩⟩
 done:=by intro X R hw U hc i pins s σ H E I M st O;subst R hw U;obtain⟨W,Y,f2,f3,f4,f5⟩:=M z ⋯;have O:n<=i:=O;exact dm (I.ok.hd hc) ⋯ st λg eb=>⟨rfl,I.turned (t':=s.toks) (λb o B e=>eb b o B e) W Y f3 f4 f5⟩
 self:=λ_ _ _ _ _ st h=>Kq st h
noncomputable def ux(K:uW)(ta:TA):TI:=λσ H R=>ta σ H λvs H1=>∃a xs,vs=[.ref a]/\SqT K H1 a xs/\R (Itv K a xs.length) H1
theorem ll{X:Cx}{e1 tg:Expr}{ta:TA}{p pos:Pos}(W:Gl X "reversed")(hm:X.mg "reversed" = none)(ha:PA X [e1] ta)
 (Y:starEach [e1] X.env=[(false,eval e1 X.env)]:=by rfl):PI X tg (.Call (.Name "reversed" p) [e1] [] pos) (ux X.K ta):=by
 intro pins s σ H R I h;refine Call_ (qN I W hm PyProof.Rows.boot_reversed (AF (thn (ha pos pins s σ H _ I h) λus s1 hZ=>?_) (by rw[Y];rfl) rfl));obtain⟨vs,H1,z,r1,q1⟩:=hZ;obtain⟨a,xs,e,a3,q⟩:=q1;subst e;obtain⟨w1,eu,a5⟩:=k6 r1;subst eu;cases a5;obtain⟨B,a6,p1,z1⟩:=z.tuple a3;have hl:=a6.length;refine We (show IsTup s1.heap a B.toArray from p1) (JO (by simp;omega)) ?_;generalize M:s1.heap.push {cls:= .type "reversed",data:= .fields #[.ref a,rawInt ((B.toArray.size:Int) - 1)]}=g;have O:X9 g s1.heap.objs.size a ((xs.length:Int) - 1 - (0:Nat)):=by rw[<- M,show((xs.length:Int) - 1 - (0:Nat))=(B.toArray.size:Int) - 1 by simp[hl]];exact Aj _ rfl
 refine Kq (s:={s1 with heap:=g,toks:=s1.toks+1+1}) O ?_;have I2:Inv X pins σ H1 {s1 with heap:=g,toks:=s1.toks+1+1}:=z.kept λc o e=>by rw[<- M];exact uY _ e
 refine⟨_,[s1.heap.objs.size],_,_,H1,rfl,I2,bu a _ xs.length,O,λc hc=>?_,q⟩;have U:s1.heap.objs.size<=c:=by
  have e:c=s1.heap.objs.size:=by simpa using hc
  rw[e];exact Ak _
 exact z.fpOk U<|z.hok.fresh U
noncomputable def eS(K:uW)(ta:TA):TE:=λσ H Q=>ta σ H λvs H1=>∃a xs,vs=[.ref a]/\SqT K H1 a xs/\∀l,H1 l=none->Q (.ref l) (upd H1 l<|.tup xs.reverse)
theorem WH{X:Cx}{e1:Expr}{ta:TA}{p pos p2 pos2:Pos}(hc:X.calm=true)(hg:Gl X "tuple")(hm:X.mg "tuple" = none)(a6:Gl X "reversed")(a7:X.mg "reversed" = none)(ha:PA X [e1] ta)
 (hs:starEach [e1] X.env=[(false,eval e1 X.env)]:=by rfl) (U:starEach [.Call (.Name "reversed" p2) [e1] [] pos2] X.env=[(false,eval (.Call (.Name "reversed" p2) [e1] [] pos2) X.env)]:=by rfl) :
 PE X (.Call (.Name "tuple" p) [.Call (.Name "reversed" p2) [e1] [] pos2] [] pos) (eS X.K ta):=by
 intro pins s σ H Q I h;refine BK (qN I hg hm Cr (AF ?_ (by rw[U];rfl) rfl) ⋯ ⋯);rw[U];show wpAny _ _ (spliced ((false,eval (.Call (.Name "reversed" p2) [e1] [] pos2) X.env)::backTo pos [])) _ _ s;refine Bv (BK (qN I a6 a7 PyProof.Rows.boot_reversed (AF (thn (ha pos2 pins s σ H _ I h) λus s1 hZ=>?_) (by rw[hs];rfl) rfl) ⋯ ⋯));obtain⟨vs,H1,M,r1,q1⟩:=hZ;obtain⟨a,xs,e,am,q⟩:=q1;subst e;obtain⟨w1,eu,ao⟩:=k6 r1;subst eu;cases ao;obtain⟨z,W,R,z1⟩:=M.tuple am;have hl:=W.length;have Y:z.toArray.size<=sizeLine:=by simp;omega
 refine We (show IsTup s1.heap a z.toArray from R) (JO Y) ?_;generalize a0:s1.heap.push {cls:= .type "reversed",data:= .fields #[.ref a,rawInt ((z.toArray.size:Int) - 1)]}=g;have kp : ∀c o,s1.heap.get? c=some o->g.get? c=some o:=λc o e=>by rw[<- a0];exact uY _ e
 have g4:X9 g s1.heap.objs.size a ((z.toArray.size:Int) - 1):=by rw[<- a0];exact Aj _ rfl
 have I2:Inv X pins σ H1 {s1 with heap:=g,toks:=s1.toks+1+1}:=M.kept kp;refine CV ?_;have pt:IsTup g a z.toArray:=IsTup.keeps R kp;refine bE (s:={s1 with heap:=g,toks:=s1.toks+1+1}) (I2.ok.hd hc) (AJ<|IsTup.lt R) g4 pt Y λs' acc O ar=>?_;obtain⟨f0,f1,f2,f3,f4,f5⟩:=(M.fpOk (H':=H1) (Ak _) (M.hok.fresh<|Ak _):YM X pins H1 s1.heap.objs.size);have B:=I2.turned (h':=s'.heap) (it:=s1.heap.objs.size) (t':=s'.toks) (λb o hb e=>O.heap b o (by simpa using hb) e) f0 f1 f3 f4 f5;have B:Inv X pins σ H1 {s1 with heap:=s'.heap,toks:=s'.toks}:=B;have es:({s1 with heap:=s'.heap,toks:=s'.toks}:Shared)=s':=by obtain⟨h1,h2,h3,h4,h5⟩:=s';have e1:=O.gens;have e2:=O.drawn;have e3:=O.os;simp only at e1 e2 e3;simp only[e1,e2,e3]
 rw[es]at B;have ea:acc=z.reverse.toArray:=by
  apply Array.ext';apply BR;intro j;obtain⟨n1,n2⟩:=ar;simp only[An]at n1;by_cases hj:j<z.length
  ·have a3:j<acc.size:=by omega
   have:=n2 j acc[j] (Ez a3);simp only[An,List.getElem?_toArray]at this;simp only[Array.getElem?_toList,List.toList_toArray];rw[Ez a3,List.getElem?_reverse hj,this]
  ·simp only[Array.getElem?_toList,List.toList_toArray]
   rw[Array.getElem?_eq_none ⋯,BE (by simp;omega)]
 subst ea;have I4:Inv X pins σ (upd H1 s'.heap.objs.size (.tup xs.reverse)) {s' with heap:=s'.heap.push {cls:= .type "tuple",data:= .seq z.reverse.toArray}}:=
  B.laid (t':=s'.toks) (λb o e=>uY _ e) (Ak _) (show ObjOk X.prog X.w _ _ _ (.tup xs.reverse)from⟨by simp;omega,z.reverse,W.reverse,IsTupD.new _ _⟩)
 exact⟨.ref s'.heap.objs.size,_,I4,rfl,q _<|B.hok.fresh<|Ak _⟩
end L2
namespace DL
open PySem PySem.Spec PyProof.Rows L2
theorem kh(h:PAn X es n g):PAD X es g:=h.1
theorem Reps.rev{K:uW}{H:Hp}{ds:List D}{xs:List V}(r:Reps K H ds xs):Reps K H ds.reverse xs.reverse:=by
 induction ds generalizing xs with
 | nil=>rw[r.inv_nil];exact Reps.nil
 | cons d ds z=>
  obtain⟨x,M,e,B,I⟩:=r.inv_cons;rw[e,EM,EM];exact(z I).append (Reps.cons B Reps.nil)
theorem bo{K:uW}{H0 Hs:Hp}{a:Addr}{xs:List V}{ds:List D}(h1:SqT K Hs a xs)(r:Reps K H0 ds xs):Walk K H0 Hs (Itv K a xs.length) ds.reverse:=by
 have l1:=r.length;refine⟨λi H1 s hi=>?_,λH1 s=>?_,λi H1 x H1' s hi y=>?_⟩
 ·rw[Fv]at hi;exact⟨by omega,xs,sameT s h1,rfl⟩
 ·rw[Fv];exact(by omega:xs.length<=ds.length)
 ·obtain⟨e1,e2⟩:=y
  subst e1;rw[Fv]at hi;obtain⟨d,hd,z⟩:=r.getV<|e2 xs<|sameT s h1;exact⟨d,by rw[List.getElem?_reverse hi,<- l1];exact hd,λG0 s1 s2=>⟨G0,Ext.refl s2,z.mono s1⟩⟩
section
variable{X:Cx}{sc:Scope}{N L:List Str}{k:Nat}{a tg:Expr}{pos p pos2 p2:Pos}{f:CO D}
theorem fS(h:SX X sc N L k)(c:ki sc "reversed" = true)(z:X.mg "reversed" = none)(ha:PV X a f)(I:starEach [a] X.env=[(false,eval a X.env)]:=by rfl):PIF X tg (.Call (.Name "reversed" p) [a] [] pos) (nk f):=
 w6 (ll (h.gl c).1 z (z9 ha j1 I) I) λσ H R O=>by
  obtain⟨H0,γ,ds,rc,B,q⟩:=O;obtain⟨d,U,B⟩:=zc B;cases d with
  | tup es=>
   cases B;refine⟨H0,γ,_,rc,U,λv H' H0' x r=>?_⟩;obtain⟨W,xs,rfl,M,g2⟩:=xO r;exact⟨W,xs,rfl,sameT x.sub M,q _ H' H0' x<|bo M g2⟩
  | _=>cases B
theorem Wj(h:SX X sc N L k)(c:ki sc "tuple" = true)(z:X.mg "tuple" = none)(O:ki sc "reversed" = true)(R:X.mg "reversed" = none)(ha:PV X a f)(I:starEach [a] X.env=[(false,eval a X.env)]:=by rfl)
 (U:starEach [.Call (.Name "reversed" p2) [a] [] pos2] X.env=[(false,eval (.Call (.Name "reversed" p2) [a] [] pos2) X.env)]:=by rfl):PV X (.Call (.Name "tuple" p) [.Call (.Name "reversed" p2) [a] [] pos2] [] pos) (Js f):=
 jz (WH h.calm (h.gl c).1 z (h.gl O).1 R (z9 ha j1 I) I U) λσ H Q W=>by
  obtain⟨H0,γ,d,rc,B,q⟩:=W;obtain⟨d1,Y,B⟩:=zc B;cases d1 with
  | tup es=>
   cases B;refine⟨H0,γ,_,rc,Y,λv H' H0' x r=>?_⟩;obtain⟨a1,xs,rfl,g1,g2⟩:=xO r;exact⟨a1,xs,rfl,sameT x.sub g1,λl M=>q _ _ _ (x.trans<|Ext.alloc x.sub M _)<|qr (SqT.of zM)<|g2.rev.mono<|zV (js x.sub M) _⟩
  | _=>cases B
end
section
variable{K:uW}{E0 E H0 H:Hp}{σ:St}{γ:Ctx}
theorem Reps.dropLast : ∀{ds:List D} {xs:List V},Reps K H ds xs->Reps K H ds.dropLast xs.dropLast
 | [],xs,r=>by rw[r.inv_nil];exact Reps.nil
 | [d],xs,r=>by obtain⟨x,B,e,_,z⟩:=r.inv_cons;rw[e,z.inv_nil];exact Reps.nil
 | d::d2::ds,xs,r=>by obtain⟨x,B,e,I,z⟩:=r.inv_cons;obtain⟨M,O,e2,_,_⟩:=z.inv_cons;subst e e2;exact Reps.cons I<|Reps.dropLast z
end
end DL
namespace L2
open PySem PySem.Spec PyProof.Rows
noncomputable def Its(z:Str):It:=⟨λi _=>i<z.cps.size,λi H x H'=>H'=H/\∃c,z.cps[i]? = some c/\x = .str ⟨#[c]⟩,λi _=>z.cps.size<=i⟩
theorem cx(z:Str):strIterType z = "str_ascii_iterator"\/strIterType z = "str_iterator":=by unfold strIterType;split<;>simp
theorem bt{P:Program}{w:World}{K:uW}{tg:Expr}(z:Str)(t:Tok)(it:Addr):Turn P w K tg (Its z) [it] it (λi h=>h.IsStrIter it (strIterType z) z t i) where
 mem:=by simp
 obj:=λi h st b B=>by
  have e:b=it:=by simpa using B
  subst e;obtain⟨o,e,c,d⟩:=st;exact⟨o,e,λv q=>by rw[d]at q;cases q⟩
 keep:=λi h h' st k=>by obtain⟨o,e,r⟩:=st;exact⟨o,k it ⋯ o e,r⟩
 item:=by
  rintro X rfl rfl rfl hc i pins s σ H E I U st hg;obtain⟨W,Y,f2,f3,f4,f5⟩:=U it ⋯;have hi:i<z.cps.size:=hg;have M:z.cps[i]? = some z.cps[i]:=by simp[hi]
  have a6 : ∀h',h'.IsStrIter it (strIterType z) z t (i+1)->BS it s.heap h'->wpAny (model X.prog X.w) X.A (letOwnedTupleGo tg (.ref it)<|.str ⟨#[z.cps[i]]⟩ s.toks)
   (λ_ s2=>∃x H',Inv X pins σ H' s2/\RelV x (.str ⟨#[z.cps[i]]⟩ s.toks)/\(Its z).yld i H x H'/\s2.heap.IsStrIter it (strIterType z) z t (i+1)/\∀b ∈ [it],H' b=none) E {s with heap:=h',toks:=s.toks+1}:=λh' O R=>by
   have I1:Inv X pins σ H {s with heap:=h',toks:=s.toks+1}:=I.turned (λb o B e=>(R.2 b B).trans e) W Y f3 f4 f5;obtain⟨o,e,c,d⟩:=id O;refine af (s:={s with heap:=h',toks:=s.toks+1}) e c d ?_ ⟨.str ⟨#[z.cps[i]]⟩,H,I1,⟨_,rfl⟩,⟨rfl,_,M,rfl⟩,O,λb B=>(U b B).1⟩;rcases cx z with q | q<;>rw[q]<;>decide
  rcases cx z with q | q
  ·rw[q]at st
   exact wpAny_pyNext_ascii_item st M λh' O R=>⟨_,rfl,a6 h' (by rw[q];exact O) R⟩
  ·rw[q]at st
   exact wpAny_pyNext_wide_item st M λh' O R=>⟨_,rfl,a6 h' (by rw[q];exact O) R⟩
 done:=by
  rintro X rfl rfl rfl hc i pins s σ H E I U st hg;obtain⟨W,Y,f2,f3,f4,f5⟩:=U it ⋯;have hi:z.cps.size<=i:=hg;have M:z.cps[i]? = none:=by simp[hi]
  have hh:=I.ok.hd hc;rcases cx z with q | q
  ·rw[q]at st
   exact wpAny_pyNext_ascii_end hh st M λh' eb=>⟨rfl,I.turned (t':=s.toks) (λb o B e=>eb b o B e) W Y f3 f4 f5⟩
  ·rw[q]at st
   exact wpAny_pyNext_wide_end hh st M λh' eb=>⟨rfl,I.turned (t':=s.toks) (λb o B e=>eb b o B e) W Y f3 f4 f5⟩
 self:=λA i s Q E st h=>by
  rcases cx z with q | q
  ·rw[q]at st;exact wpAny_pyIter_striter_ascii st h
  ·rw[q]at st;exact wpAny_pyIter_striter_wide st h
noncomputable def uv(tl:TE):TI:=λσ H R=>tl σ H λx H1=>∃z,x = .str z/\R (Its z) H1
theorem lj{X:Cx}{tg l:Expr}{tl:TE}(M:PE X l tl):PI X tg l (uv tl):=by
 intro pins s σ H R I h;refine thn (M pins s σ H _ I h) λv s1 O=>?_;obtain⟨x,H1,B,U,W⟩:=O;obtain⟨z,rfl,q⟩:=W;obtain⟨t,rfl⟩:=U;refine wpAny_pyIter_strU ?_;refine⟨s1.heap.objs.size,[s1.heap.objs.size],_,_,H1,rfl,B.kept (t':=s1.toks) λb o e=>uY _ e,bt z t _,⟨_,Aj _ rfl,rfl,rfl⟩,λb Y=>?_,q⟩;have e:b=s1.heap.objs.size:=by simpa using Y
 subst e;exact B.fpOk (Ak _)<|B.hok.fresh<|Ak _
theorem cF{X:Cx}{pins:GW}{σ:St}{H:Hp}{s:Shared}{E:GQ}{z it:Addr}{i tk:Nat}{x:Value}{v:V}{g:Heap}{elts:List Expr}{x1:Nat}{tpos:Pos}{Q:Unit->Shared->Prop}
 (I:Inv X pins σ H s) (R : ∀b ∈ [z,it],YM X pins H b) (U:z<s.heap.objs.size) (hi:it<s.heap.objs.size) (W:IsEnumOut g z it ((i:Int)+1) x s.heap.objs.size)
 (Y:IsPair g s.heap.objs.size (.int i tk) x) (a5 : ∀b o,b≠z->b≠it->s.heap.get? b=some o->g.get? b=some o) (rx:RelV v x)
 (a4 : ∀g2,IsEnum g2 z it ((i+1:Nat):Int) x->BS z g g2->Inv X pins σ (upd H s.heap.objs.size<|.tup [.int i,v]) {s with heap:=g2,toks:=tk+1}->H s.heap.objs.size=none->
   (∀b ∈ [z,it],upd H s.heap.objs.size (.tup [.int i,v]) b=none)->Q () {s with heap:=g2,toks:=tk+1}) :
 wpAny (model X.prog X.w) X.A (letOwnedTupleGo (.Tuple elts x1 tpos) (.ref z)<|.ref s.heap.objs.size) Q E {s with heap:=g,toks:=tk+1}:=by
 refine wpAny_letOwnedTupleGo_enum W λg2 hz2 O=>?_;have a6:IsPair g2 s.heap.objs.size (.int i tk) x:=O.extBut _ _ (Bk U) Y;have kk : ∀B u,B ∉ [z,it]->s.heap.get? B=some u->g2.get? B=some u:=λB u M e=>by simp only[Ag,Aw,or_false,not_or]at M;exact O.extBut _ _ M.1<|a5 B u M.1 M.2 e
 refine a4 g2 (by have:=hz2;rwa [show((i:Int)+1)=((i+1:Nat):Int)by omega]at this) O (I.turnLaid (fp:=[z,it]) kk R (Ak _) ⟨by show 2<=sizeLine;decide,[.int i tk,x],.cons ⟨_,rfl⟩<|.cons rx .nil,⟨_,a6,rfl,_,rfl⟩⟩) I.fresh λB M=>?_;have a7:B≠s.heap.objs.size:=by
  simp only[Ag,Aw,or_false]at M;rcases M with rfl | rfl
  ·exact AJ U
  ·exact AJ hi
 rw[zI a7];exact(R B M).1
noncomputable def rT(K:uW)(a:Addr):It:=
 ⟨λi H=>∃xs,SqL K H a xs/\i<xs.length,
  λi H x H'=>∃p u,x = .ref p/\H p=none/\H'=upd H p (.tup [.int i,u])/\(∀xs,SqL K H a xs->xs[i]? = some u),
  λi H=>∃xs,SqL K H a xs/\xs.length=i⟩
theorem YU{P:Program}{w:World}{K:uW}{elts:List Expr}{x1:Nat}{tpos:Pos}{z it a:Addr}(a6:z≠it) :
 Turn P w K (.Tuple elts x1 tpos) (rT K a) [z,it] z (λi h=>(∃O,IsEnum h z it i O)/\h.IsListIter it a i) where
 mem:=by simp
 obj:=λi h ⟨⟨O,B⟩,h1⟩ y hy=>by
  simp only[Ag,Aw,or_false]at hy;rcases hy with rfl | rfl
  ·exact⟨_,B,λv q=>by cases q⟩
  ·obtain⟨o,e,c,d⟩:=h1
   exact⟨o,e,λv q=>by rw[d]at q;cases q⟩
 keep:=λi h h' ⟨⟨O,B⟩,h1⟩ k=>⟨⟨O,k z ⋯ _ B⟩,h1.at λo e=>k it ⋯ o e⟩
 item:=by
  rintro X rfl rfl rfl hc i pins s σ H E I hf ⟨⟨O,B⟩,h1⟩ ⟨xs,U,as⟩;obtain⟨W,Y,p1,z1⟩:=I.list U;have R:=p1.isList;have hx:xs[i]? = some xs[i]:=Ae as;have l1:=Y.length;have ac:a≠it:=λe=>by obtain⟨o,e1,M,_⟩:=R;obtain⟨o2,e2,c2,_⟩:=h1;rw[e,e2]at e1;cases e1;rw[c2]at M;exact absurd M ⋯
  have ax:z≠a:=λe=>by obtain⟨o,e1,M,_⟩:=R;have ap:s.heap.get? z=some _:=B;rw[e,e1]at ap;cases ap;exact absurd M ⋯
  have b0:it<s.heap.objs.size:=by obtain⟨o2,e2,_⟩:=h1;exact Ao e2
  have Dr:=Draws.list (prog:=X.prog) (w:=X.w) (A:=X.A.in1) (show X.A.in1.handled=none from I.ok.hd hc) it a ac W.toArray;refine wpAny_pyNext_enum_itemD Dr B ⟨h1,R⟩ (by simp;omega) a6 (by simp;exact⟨a6,ax⟩) λx g tk hP a1 a2 a3 a4 a5=>⟨_,rfl,?_⟩;obtain⟨u1,bf,bg⟩:=Y.get hx;obtain rfl:u1=x:=by have:=hP;simp[bf]at this;exact this
  refine cF I hf (Ao B) b0 a1 a3 a5 bg λg2 b1 b2 I1 bl hn=>⟨.ref s.heap.objs.size,_,I1,rfl,⟨_,_,rfl,bl,rfl,λc3 bm=>by rw[I.list_inj bm U];exact hx⟩,⟨⟨_,b1⟩,a2.1.at λo e=>b2.extBut _ _ a6.symm e⟩,hn⟩
 done:=by
  rintro X rfl rfl rfl hc i pins s σ H E I hf ⟨⟨O,B⟩,h1⟩ ⟨xs,U,hi⟩;obtain⟨W,Y,p1,z1⟩:=I.list U;have R:=p1.isList;have l1:=Y.length;have ac:a≠it:=λe=>by obtain⟨o,e1,M,_⟩:=R;obtain⟨o2,e2,c2,_⟩:=h1;rw[e,e2]at e1;cases e1;rw[c2]at M;exact absurd M ⋯
  have Dr:=Draws.list (prog:=X.prog) (w:=X.w) (A:=X.A.in1) (show X.A.in1.handled=none from I.ok.hd hc) it a ac W.toArray;have en:W.toArray.size=i:=by simp;omega
  rw[en]at Dr;refine wpAny_pyNext_enum_endD Dr B ⟨h1,R⟩ λg hk=>⟨rfl,?_⟩;refine I.turnedL (t':=s.toks) (fp:=[z,it]) (λb' u hb e=>?_) hf;simp only[Ag,Aw,or_false,not_or]at hb;exact hk b' u hb.2 e
 self:=λ_ _ _ _ _ st h=>yU st.1.choose_spec h
noncomputable def mn(K:uW)(ta:TA):TI:=λσ H R=>ta σ H λvs H1=>∃a,vs=[.ref a]/\(∃xs,SqL K H1 a xs)/\R (rT K a) H1
section
variable{X:Cx}{e1:Expr}{ta:TA}{p pos:Pos}{elts:List Expr}{x1:Nat}{tpos:Pos}
theorem bV(O:Gl X "enumerate")(hm:X.mg "enumerate" = none)(ha:PA X [e1] ta)
 (U:bootBuiltins "enumerate" = some (.type "enumerate")) (W:starEach [e1] X.env=[(false,eval e1 X.env)]:=by rfl) :
 PI X (.Tuple elts x1 tpos) (.Call (.Name "enumerate" p) [e1] [] pos) (mn X.K ta):=by
 intro pins s σ H R I h;refine Call_<|qN I O hm U<|AF (thn (ha pos pins s σ H _ I h) λus s1 Y=>?_) (by rw[W];rfl) rfl;obtain⟨vs,H1,z,r1,q1⟩:=Y;obtain⟨a,rfl,⟨xs,a2⟩,q⟩:=q1;obtain⟨w1,rfl,a3⟩:=k6 r1;cases a3;obtain⟨a6,a7,p1,z1⟩:=z.list a2;refine call_enumerate_list p1.isList λg b1 b2 b3 b4=>yU (s:={s1 with heap:=g}) b1 ?_;refine⟨_,[s1.heap.objs.size+1,s1.heap.objs.size],_,_,H1,rfl,z.kept (t':=s1.toks) b4,YU<|Bk<|Cv _,⟨⟨_,b1⟩,b2⟩,λc B=>?_,q⟩;have M:s1.heap.objs.size<=c:=by
  simp only[Ag,Aw,or_false]at B;rcases B with rfl | rfl
  ·exact AG _ _
  ·exact Ak _
 exact z.fpOk M<|z.hok.fresh M
end
theorem iz{X:Cx}:SlR X (λx lo hi H Q=>∃z,x = .str z/\z.length<=sizeLine/\Q (.str<|Cg z lo hi) H):=by
 rintro pins s σ H x v vl vu lo hi sl Q I U ⟨o,B,M,hd⟩ W Y ⟨z,rfl,O,q⟩;obtain⟨t,rfl⟩:=U;have R : ∀t' k,EP X pins σ Q (.str (Cg z lo hi) t') {s with toks:=k}:=λt' k=>⟨.str _,H,I.tok k,⟨_,rfl⟩,q⟩;refine⟨"str",_,F.slot_str_getitem.lookup,Ff _ _ _,?_⟩;cases W<;>cases Y
 ·exact CY (l:=none) (u:=none) (st:=none) ⟨o,B,M,hd⟩ rfl<|Fz ⟨AE (FV z _ _) O,R⟩
 ·exact CY (l:=none) (u:=some (_,_)) (st:=none) ⟨o,B,M,hd⟩ rfl<|Fz ⟨AE (FV z _ _) O,R⟩
 ·exact CY (l:=some (_,_)) (u:=none) (st:=none) ⟨o,B,M,hd⟩ rfl<|Fz ⟨AE (FV z _ _) O,R⟩
 ·exact CY (l:=some (_,_)) (u:=some (_,_)) (st:=none) ⟨o,B,M,hd⟩ rfl<|Fz ⟨AE (FV z _ _) O,R⟩
end L2
namespace DL
open PySem PySem.Spec PyProof.Rows L2
theorem QY(z:Str):(ke z).length=z.cps.size:=by simp[ke]
theorem bA(z:Str){i c:Nat}(h:z.cps[i]? = some c):(ke z)[i]? = some (.str ⟨#[c]⟩):=by simp[ke,h]
theorem bj{K:uW}{H0 Hs:Hp}(z:Str):Walk K H0 Hs (Its z) (ke z):=by
 refine⟨λi H1 s hi=>?_,λH1 s=>?_,λi H1 x H1' s hi y=>?_⟩
 ·rw[QY]at hi;exact hi
 ·rw[QY];exact Ak _
 ·obtain⟨rfl,c,B,rfl⟩:=y
  exact⟨_,bA z B,λG0 s1 s2=>⟨G0,Ext.refl s2,rfl⟩⟩
theorem YQ{K:uW}{H0 Hs:Hp}{a:Addr}{xs:List V}{ds:List D}(h:SqL K Hs a xs)(r:Reps K H0 ds xs):Walk K H0 Hs (rT K a) (kH ds):=by
 have M:=r.length;have O:(kH ds).length=ds.length:=by simp[kH]
 refine⟨λi H1 s hi=>?_,λH1 s=>?_,λi H1 x H1' s hi y=>?_⟩
 ·exact⟨xs,s.seq h,by omega⟩
 ·exact⟨xs,s.seq h,by omega⟩
 ·obtain⟨p,u,rfl,z,rfl,B⟩:=y
  obtain⟨d,hd,I⟩:=r.getV<|B xs<|s.seq h;refine⟨.tup [.int i,d],?_,λG0 s1 s2=>⟨upd G0 p<|.tup [.int i,u],Ext.alloc s2 z _,?_⟩⟩
  ·unfold kH
   rw[AK,List.getElem?_range ⋯,AS,hd];rfl
  ·exact qr (SqT.of zM)<|Reps.cons (show V.int i = .int i from rfl)<|Reps.cons ((I.mono s1).mono (zV (js s2 z) _)) Reps.nil
theorem wJ : ∀l:List Str,(l.map V.str).all ZL=true
 | []=>rfl
 | i::l=>by simp only[Ba,FK,wJ l,Bool.and_true];rfl
section
variable{X:Cx}{sc:Scope}{N L:List Str}{k:Nat}{a b e:Expr}{pos p p2:Pos}{f fa fb:CO D}
theorem Wz{tg:Expr}(ha:PV X a f):PIF X tg a (wR f):=
 w6 (lj ha) λσ H R M=>by
  obtain⟨H0,γ,ds,rc,B,q⟩:=M;obtain⟨d,O,B⟩:=zc B;cases d with
  | str z=>
   by_cases I:zA z=true
   ·have B:(if zA z=true then some (ke z)else none)=some ds:=B
    rw[GY I]at B;cases B;exact⟨H0,γ,_,rc,O,λv H' H0' x r=>⟨z,r,q _ H' H0' x<|bj z⟩⟩
   ·have B:(if zA z=true then some (ke z)else none)=some ds:=B
    rw[MQ I]at B;cases B
  | _=>cases B
theorem WA(h:SX X sc N L k)(c:ki sc "enumerate" = true)(z:X.mg "enumerate" = none)(ha:PV X a f)(I:starEach [a] X.env=[(false,eval a X.env)]:=by rfl) :
 PIF X (.Tuple elts x1 tpos) (.Call (.Name "enumerate" p) [a] [] pos) (vJ f):=
 w6 (bV (h.gl c).1 z (z9 ha j1 I) boot_enumerate I) λσ H R O=>by
  obtain⟨H0,γ,ds,rc,B,q⟩:=O;obtain⟨d,U,B⟩:=zc B;cases d with
  | lst es=>
   cases B;refine⟨H0,γ,_,rc,U,λv H' H0' x r=>?_⟩;obtain⟨W,xs,rfl,M,g2⟩:=KP r;exact⟨W,rfl,⟨xs,x.sub.seq M⟩,q _ H' H0' x<|YQ M g2⟩
  | _=>cases B
theorem du(ha:PV X a fa){g:CO (Sk×List D)}(I:PQ X b g)(hm:behindInMarks .In b=false:=by with_unfolding_all rfl):PV X (.Compare a [.In] [b] pos) (iE fa g):=
 jz (JF Xw ha I hm) λσ H Q M=>by
  obtain⟨H0,γ,d,rc,z,q⟩:=M;obtain⟨x,e1,z⟩:=zc z;obtain⟨⟨kk,ds⟩,e2,z⟩:=zc z;cases x with
  | str w=>
   obtain⟨l,O,rfl⟩:=zy z;refine⟨H0,γ,_,rc,e1,λR H1 U x1 B=>⟨U,γ,kk,ds,rc.ext x1,e2,λp xs H2 W Y h1 h2 r=>?_⟩⟩;have ex:=yB r O;subst ex;have hq:SqL X.K H2 p (l.map V.str)\/SqT X.K H2 p (l.map V.str):=by
    cases kk with
    | L=>exact .inl h1
    | T=>exact .inr h1
   have B:R = .str w:=B;subst B;refine⟨p,_,rfl,hq,rfl,wJ l,?_⟩;have:inV (.str w) (l.map V.str)=l.any λy=>y==w:=by unfold inV;rw[List.any_map];rfl
   rw[MQ Ay,this];exact q _ H2 W (x1.trans Y) rfl
  | _=>cases z
theorem fF(ha:PV X a fa)(I:PV X b fb):PV X (.BinOp a .Add b pos) (Y0 fa fb):=
 jz (fV Y9 ha I) λσ H Q M=>by
  obtain⟨H0,γ,d,rc,z,q⟩:=M;obtain⟨x,e1,z⟩:=zc z;obtain⟨y,e2,z⟩:=zc z;cases x with
  | str u=>
   cases y with
   | str w=>
    by_cases B:zA u=true/\zA w=true
    ·have z:(if zA u=true/\zA w=true then some (D.str<|u++w)else none)=some d:=z
     rw[GY B]at z;cases z;refine⟨H0,γ,_,rc,e1,λv1 H1 O x1 R=>⟨O,γ,_,rc.ext x1,e2,λv2 H2 U W Y=>⟨u,w,R,Y,?_,q _ H2 U (x1.trans W) rfl⟩⟩⟩;have h1:=kU B.1;have h2:=kU B.2;have:2000<=sizeLine:=by decide
     omega
    ·have z:(if zA u=true/\zA w=true then some (D.str<|u++w)else none)=some d:=z
     rw[MQ B]at z;cases z
   | _=>cases z
  | _=>cases z
theorem Xp{lo hi:Option Expr}{M O:CO (Option Int)}(ha:PV X a f)(U:L2.PO X lo (tB X.K M))(W:L2.PO X hi (tB X.K O)):PV X (.Subscript a (.Slice lo hi none p2) pos) (Ym f M O):=
 jz (Yw iz ha U W) λσ H Q Y=>by
  obtain⟨H0,γ,d,rc,B,q⟩:=Y;obtain⟨d1,e1,B⟩:=zc B;obtain⟨l,e2,B⟩:=zc B;obtain⟨u,e3,B⟩:=zc B;refine⟨H0,γ,d1,rc,e1,λv H' H0' x r=>⟨H0',γ,l,rc.ext x,e2,λH2 a1 R=>⟨a1,γ,u,(rc.ext x).ext R,e3,λH3 a3 x3=>?_⟩⟩⟩;have xa:=x.trans<|R.trans x3;cases d1 with
  | str z=>
   by_cases I:zA z=true
   ·have B:(if zA z=true then some (D.str<|Cg z l u)else none)=some d:=B
    rw[GY I]at B;cases B;exact⟨z,r,kT I,q _ H3 a3 xa rfl⟩
   ·have B:(if zA z=true then some (D.str<|Cg z l u)else none)=some d:=B
    rw[MQ I]at B;cases B
  | _=>cases B
end
section
variable{K:uW}{mg:GJ}{h:Heap}
noncomputable def Kk:List Value->Option (List Str)
 | []=>some []
 | .str i _::r=>(Kk r).map λl=>i::l
 | _::_=>none
theorem vG : ∀{us:List Value} {ns:List Str},Kk us=some ns->Vals (ns.map V.str) us
 | [],ns,e=>by cases e;exact .nil
 | u::us,ns,e=>by
  cases u with
  | str i t=>
   obtain⟨l,e1,e2⟩:=zy e;subst e2;exact .cons ⟨t,rfl⟩<|vG e1
  | _=>cases e
theorem kz{H:Hp} : ∀ns:List Str,Reps K H (ns.map D.str) (ns.map V.str)
 | []=>Reps.nil
 | n::ns=>Reps.cons (show V.str n = .str n from rfl)<|kz ns
theorem pJ{x:Str}{ad:Addr}{B:Array Value}{m:Nat}{sl:Array (Option Value)}(ns:List Str)(I:K.In h)(G:h.Ns mainGlobals mg)(a:Ej K mainGlobals x=some (some (.ref ad)))
 (l:K.lookup ad=some ⟨.type "tuple",none,.seq B m,sl⟩) (v:Kk B.toList=some ns) (z:B.size<=sizeLine):GL K mg x (.tup (ns.map D.str)):=
 ⟨_,.ref ad,EJ I G a,rfl,λH=>(show ∃b xs,V.ref ad = .ref b/\SqT K H b xs/\Reps K H (ns.map D.str) xs from⟨ad,ns.map V.str,rfl,.inr ⟨_,B,m,l,rfl,rfl,z,vG v⟩,kz ns⟩)⟩
end
end DL
namespace DL
open PySem PySem.Spec PyProof.Rows L2
open PySem.W (KasT kas_sort kas_ask kat_run kat_snds kat_lt kat_cons kat_no kat_yes kat_nil kat_go kat_one kat_kind KatTups KatGo)
section
variable{X:Cx}{a b c:Expr}{pos:Pos}{fa fb fc:CO D}
theorem Wp{M O:CmpOp}{r U:R2}{F G:D->D->Option D}(ho:OpR X (compareOp M) r)(a5:OpR X (compareOp O) U)(s1:Snd X.K r F)(s2:Snd X.K U G)(ha:PV X a fa)(hb:PV X b fb)(hc:PV X c fc)
 (hm:lastMarks [M,O] [b,c]=false:=by with_unfolding_all rfl):PTD X (.Compare a [M,O] [b,c] pos) (sB<|yH F G fa fb fc):=
 Wr (bK ho a5 ha hb hc hm) λσ H Q hZ=>by
  obtain⟨H0,γ,kq,rc,ac,q0⟩:=hZ;obtain⟨d,B,e9⟩:=zc ac;have q : ∀v H' H0',Ext H0 H H0' H'->Rep X.K H0' d v->∃k,v = .bl k/\Q k H':=λv H' H0' x W=>by rw[wB e9]at W;exact⟨kq,W,q0 H' H0' x⟩
  obtain⟨x,e1,B⟩:=zc B;obtain⟨y,e2,B⟩:=zc B;obtain⟨k,e3,B⟩:=zc B;obtain⟨Y,e4,e5⟩:=zc e3;refine⟨H0,γ,x,rc,e1,λv1 H1 ar x1 r1=>⟨ar,γ,y,rc.ext x1,e2,λv2 H2 aw I r2=>s1 aw H2 v1 v2 x y Y _ I.sub (r1.mono I.s0) r2 e4 λv3 H3 a3 x3 r3=>?_⟩⟩;cases Y with
  | bl k'=>
   cases e5;refine⟨k,show v3 = .bl k from r3,?_⟩;cases k with
   | true=>
    rw[GY rfl];rw[GY rfl]at B;obtain⟨z,e6,e7⟩:=zc B;exact⟨a3,γ,z,((rc.ext x1).ext I).ext x3,e6,λv4 H4 bf R r4=>s2 bf H4 v2 v4 y z d _ R.sub ((r2.mono x3.s0).mono R.s0) r4 e7 λv5 H5 bn x5 r5=>q v5 H5 bn (((x1.trans I).trans x3).trans (R.trans x5)) r5⟩
   | false=>
    rw[MQ ⋯];rw[MQ ⋯]at B;cases B;exact q _ H3 a3 ((x1.trans I).trans x3) rfl
  | _=>cases e5
end
end DL
namespace DL
open PySem L2
noncomputable def nr(f:CO D)(γ:Ctx):Option (List D):=((f γ).bind asI).bind λn=>if inR n=true/\n.toNat<=lim then some (xH 0 n.toNat)else none
@[simp] noncomputable def hG:=@nr.eq_1
end DL
namespace L2
open PySem PySem.Spec PyProof.Rows
theorem Jn(a b c:Value):checkTypeCall "zip" ⟨[a,b,c],[]⟩=pure ():=by kernel_rfl
theorem XF(a b c:Value):checkBuiltinCall "zip.__new__" ⟨[.type "zip",a,b,c],[]⟩=pure ():=by kernel_rfl
abbrev xm(h:Heap)(T:Addr)(a b c:Value):Prop:=h.get? T=some {cls:= .type "tuple",data:= .seq #[a,b,c]}
structure Zip3A(z TI TO i1 i2 i3 l1 l2 l3:Addr):Prop where
 TIz:TI≠z
 TOz:TO≠z
 i1z:i1≠z
 i2z:i2≠z
 i3z:i3≠z
 TITO:TI≠TO
 TIi1:TI≠i1
 TIi2:TI≠i2
 TIi3:TI≠i3
 TOi1:TO≠i1
 TOi2:TO≠i2
 TOi3:TO≠i3
 i12:i1≠i2
 i13:i1≠i3
 i23:i2≠i3
 l1z:l1≠z
 l2z:l2≠z
 l2TO:l2≠TO
 l2i1:l2≠i1
 l3z:l3≠z
 l3TO:l3≠TO
 l3i1:l3≠i1
 l3i2:l3≠i2
section
variable{prog:Program}{w:World}{A:Around}{E:GQ}{s:Shared}
theorem QT{T:Addr}{a b c x:Value}{k:Nat}{Q:Unit->Shared->Prop}(z:xm s.heap T a b c)
 (h : ∀h',h'.get? T=some {cls:= .type "tuple",data:= .seq ((#[a,b,c]:Array Value).setIfInBounds k x)}->BS T s.heap h'->Q () {s with heap:=h'}) :
 wpAny (model prog w) A (updateSeq T (·.setIfInBounds k x)) Q E s:=by
 have q:=Ce (Cm λ(t:Array Value)=>t.setIfInBounds k x) z rfl;exact wpAny_updateSeq z rfl<|h _ (by rw[q];simp[Cm])<|EX ..
theorem Vs{k1 k2 k3:Sk}{z TI TO i1 i2 i3 l1 l2 l3:Addr}{n1 n2 n3:Nat}{xs ys zs:Array Value}{x y v a b c:Value}{Q:GQ}(D:Zip3A z TI TO i1 i2 i3 l1 l2 l3)
 (O:IsZip s.heap z TI TO .none) (bx:xm s.heap TI (.ref i1) (.ref i2) (.ref i3)) (c0:xm s.heap TO a b c)
 (h1:ItAt k1 s.heap i1 l1 n1) (h2:ItAt k2 s.heap i2 l2 n2) (h3:ItAt k3 s.heap i3 l3 n3) (c7:SqAt k1 s.heap l1 xs) (c8:SqAt k2 s.heap l2 ys) (c9:SqAt k3 s.heap l3 zs) (hx:xs[n1]? = some x) (hy:ys[n2]? = some y) (hv:zs[n3]? = some v)
 (hQ : ∀h',IsZip h' z TI TO (rawInt s.heap.objs.size)->xm h' TO x y v->ItAt k1 h' i1 l1 (n1+1)->ItAt k2 h' i2 l2 (n2+1)->ItAt k3 h' i3 l3 (n3+1)->xm h' s.heap.objs.size x y v->h'.objs.size=s.heap.objs.size+1->
   (∀c o,c≠z->c≠TO->c≠i1->c≠i2->c≠i3->s.heap.get? c=some o->h'.get? c=some o)->Q (.ref s.heap.objs.size) {s with heap:=h'}) :
 wpAny (model prog w) A (Builtin.«zip.__next__» ⟨[.ref z],[]⟩) (λci s'=>∃v,ci = .done (.ret v)/\Q v s') E s:=by
 refine uX (m:=field (.ref z) 2)<|Ax O rfl (x:= .bool false) rfl ?_;refine uX (m:=field (.ref z) 3)<|Ax O rfl (x:= .ref TI) rfl ?_;refine uX<|Bd bx rfl ?_;refine uX (m:=Av<|.ref z) ?_;unfold Av;refine uX<|Ax O rfl (x:= .none) rfl<|Ad ?_;simp only[if_true];refine uX<|Cs<|uX<|Ax O rfl (x:= .ref TO) rfl ?_;refine uX<|AC O ⋯ λg1 an R=>?_;replace an:IsZip g1 z TI TO .ellipsis:=an;refine uX ?_;simp only[EY,Fi,El,ED];refine uX<|uX<|BI ?_;refine uX (m:=Al<|.ref i1)<|qg (h1.at λo e=>R.extBut _ _ D.i1z e) (c7.at λo e=>R.extBut _ _ D.l1z e) hx λg2 cl a8=>Ad ?_;have be:xm g2 TO a b c:=a8.extBut _ _ D.TOi1<|R.extBut _ _ D.TOz c0;refine uX<|Bd be rfl<|uX<|QT be λg3 ap a9=>?_;replace ap:xm g3 TO x b c:=ap;have U : ∀c o,c≠z->c≠i1->c≠TO->s.heap.get? c=some o->g3.get? c=some o:=λc o I M W e=>a9.extBut _ _ W<|a8.extBut _ _ M<|R.extBut _ _ I e;refine uX<|CJ<|Ad<|uX<|uX<|BI ?_;refine uX (m:=Al<|.ref i2)<|qg (h2.at λo e=>U _ o D.i2z D.i12.symm D.TOi2.symm e) (c8.at λo e=>U _ o D.l2z D.l2i1 D.l2TO e) hy λg4 co ar=>Ad ?_;have bf:xm g4 TO x b c:=ar.extBut _ _ D.TOi2 ap;refine uX<|Bd bf rfl<|uX<|QT bf λg5 aw ax=>?_;replace aw:xm g5 TO x y c:=aw;have Y : ∀c o,c≠i2->c≠TO->g3.get? c=some o->g5.get? c=some o:=λc o I M e=>ax.extBut _ _ M<|ar.extBut _ _ I e;refine uX<|CJ<|Ad<|uX<|uX<|BI ?_;refine uX (m:=Al<|.ref i3)<|qg (h3.at λo e=>Y _ o D.i23.symm D.TOi3.symm<|U _ o D.i3z D.i13.symm D.TOi3.symm e) (c9.at λo e=>Y _ o D.l3i2 D.l3TO<|U _ o D.l3z D.l3i1 D.l3TO e) hv λg6 cp b0=>Ad ?_;have bg:xm g6 TO x y c:=b0.extBut _ _ D.TOi3 aw;refine uX<|Bd bg rfl<|uX<|QT bg λB ac b7=>?_;replace ac:xm B TO x y v:=ac;have ag : ∀c o,c≠i3->c≠TO->g5.get? c=some o->B.get? c=some o:=λc o I M e=>b7.extBut _ _ M<|b0.extBut _ _ I e;refine uX<|CJ<|Ad<|Ad<|uX<|Bd ac rfl<|uX<|wpAny_newTuple ?_;have bi:B.objs.size=s.heap.objs.size:=by rw[b7.1,b0.1,ax.1,ar.1,a9.1,a8.1,R.1]
 have bl:IsZip B z TI TO .ellipsis:=ag _ _ D.i3z.symm D.TOz.symm (Y _ _ D.i2z.symm D.TOz.symm (a9.extBut _ _ D.TOz.symm (a8.extBut _ _ D.i1z.symm an)));have cq : ∀c o,c≠z->c≠TO->c≠i1->c≠i2->c≠i3->s.heap.get? c=some o->B.get? c=some o:=λc o I M W c4 c5 e=>ag c o c5 M (Y c o c4 M (U c o I W M e));have cr:ItAt k1 B i1 l1 (n1+1):=cl.at λo e=>ag _ o D.i13 D.TOi1.symm (Y _ o D.i12 D.TOi1.symm (a9.extBut _ _ D.TOi1.symm e));have cs:ItAt k2 B i2 l2 (n2+1):=co.at λo e=>ag _ o D.i23 D.TOi2.symm (ax.extBut _ _ D.TOi2.symm e);have ct:ItAt k3 B i3 l3 (n3+1):=cp.at λo e=>b7.extBut _ _ D.TOi3.symm e;have bm:z<B.objs.size:=Ao bl;refine uX (m:=AV (.ref z) (.ref B.objs.size)) ?_;unfold AV;have cv:IsZip (B.push {cls:= .type "tuple",data:= .seq #[x,y,v]}) z TI TO .ellipsis:=uY _ bl;refine uX (AC cv ⋯ λg9 b9 bb=>?_);replace b9:IsZip g9 z TI TO (rawInt B.objs.size):=b9;refine AC b9 ⋯ λa0 am bd=>?_;replace am:IsZip a0 z TI TO (rawInt B.objs.size):=am;have up : ∀c o,c≠z->B.get? c=some o->a0.get? c=some o:=λc o I e=>bd.extBut _ _ I (bb.extBut _ _ I (uY _ e));have bn:xm a0 B.objs.size x y v:=bd.extBut _ _ (Bk bm) (bb.extBut _ _ (Bk bm) (Aj _ rfl));have bv:a0.objs.size=B.objs.size+1:=by rw[bd.1,bb.1,AB]
 rw[bi]at am bn bv;refine Ad ⟨_,rfl,?_⟩;show Q (.ref B.objs.size) _;rw[bi];exact hQ a0 am (up _ _ D.TOz ac) (cr.at λo e=>up _ o D.i1z e) (cs.at λo e=>up _ o D.i2z e) (ct.at λo e=>up _ o D.i3z e) bn bv λc o I M W c4 c5 e=>up c o I<|cq c o I M W c4 c5 e
theorem ba{k1 k2 k3:Sk}{z TI TO i1 i2 i3 l1 l2 l3:Addr}{n1 n2 n3:Nat}{xs ys zs:Array Value}{a b c:Value}{Q:Fin->Shared->Prop}(hh:A.handled=none)(D:Zip3A z TI TO i1 i2 i3 l1 l2 l3)
 (hz:IsZip s.heap z TI TO .none) (bd:xm s.heap TI (.ref i1) (.ref i2) (.ref i3)) (be:xm s.heap TO a b c)
 (h1:ItAt k1 s.heap i1 l1 n1) (h2:ItAt k2 s.heap i2 l2 n2) (h3:ItAt k3 s.heap i3 l3 n3) (aw:SqAt k1 s.heap l1 xs) (ax:SqAt k2 s.heap l2 ys) (bg:SqAt k3 s.heap l3 zs) (bi:xs[n1]? = none\/ys[n2]? = none\/zs[n3]? = none)
 (hE : ∀h' e,(∀c o,c≠z->c≠TO->c≠i1->c≠i2->c≠i3->s.heap.get? c=some o->h'.get? c=some o)->(∃o,h'.get? e=some o/\o.cls = .type "StopIteration")->E (.ref e) {s with heap:=h'}) :
 wpAny (model prog w) A (Builtin.«zip.__next__» ⟨[.ref z],[]⟩) Q E s:=by
 refine uX (m:=field (.ref z) 2) (Ax hz rfl (x:= .bool false) rfl ?_);refine uX (m:=field (.ref z) 3) (Ax hz rfl (x:= .ref TI) rfl ?_);refine uX (Bd bd rfl ?_);refine uX (m:=Av (.ref z)) ?_;unfold Av;refine uX (Ax hz rfl (x:= .none) rfl (Ad ?_));simp only[if_true];refine uX (Cs (uX (Ax hz rfl (x:= .ref TO) rfl ?_)));refine uX (AC hz ⋯ λg1 a7 W=>?_);replace a7:IsZip g1 z TI TO .ellipsis:=a7;refine uX ?_;simp only[EY,Fi,El,ED];refine uX (uX (BI ?_));have an : ∀{g e:_} {Y:Obj},IsZip g z TI TO .ellipsis->(∀c o,c≠z->c≠TO->c≠i1->c≠i2->c≠i3->s.heap.get? c=some o->g.get? c=some o)->g.get? e=some Y->Y.cls = .type "StopIteration"->
  wpAny (model prog w) A (setField (.ref z) 0 .none) (λ_ s'=>E (.ref e) s') E {s with heap:=g}:=λ{g e Y} hz2 hk M R=>by
  have bv:e≠z:=λq=>by subst q;rw[hz2]at M;cases M;simp at R
  exact AC hz2 ⋯ λg3 _ a3=>hE g3 e (λc o B I O c4 c5 q=>a3.extBut _ _ B<|hk c o B I O c4 c5 q) ⟨Y,a3.extBut _ _ bv M,R⟩
 cases hx:xs[n1]? with
 | none=>
  refine uX (m:=Al<|.ref i1)<|kW hh (h1.at λo e=>W.extBut _ _ D.i1z e) (aw.at λo e=>W.extBut _ _ D.l1z e) hx λg2 e a1 he=>?_;obtain⟨Y,M,R⟩:=he;exact an (a1 _ _ D.i1z.symm a7) (λc o B _ O _ _ q=>a1 _ _ O<|W.extBut _ _ B q) M R
 | some x=>
  refine uX (m:=Al<|.ref i1)<|qg (h1.at λo e=>W.extBut _ _ D.i1z e) (aw.at λo e=>W.extBut _ _ D.l1z e) hx λg2 c7 a1=>Ad ?_;have b0:xm g2 TO a b c:=a1.extBut _ _ D.TOi1<|W.extBut _ _ D.TOz be;refine uX<|Bd b0 rfl<|uX<|QT b0 λg3 ao a3=>?_;replace ao:xm g3 TO x b c:=ao;have U : ∀c o,c≠z->c≠i1->c≠TO->s.heap.get? c=some o->g3.get? c=some o:=λc o B I O e=>a3.extBut _ _ O<|a1.extBut _ _ I<|W.extBut _ _ B e;have b7:IsZip g3 z TI TO .ellipsis:=a3.extBut _ _ D.TOz.symm<|a1.extBut _ _ D.i1z.symm a7;refine uX<|CJ<|Ad<|uX<|uX<|BI ?_;cases hy:ys[n2]? with
  | none=>
   refine uX (m:=Al<|.ref i2)<|kW hh (h2.at λo e=>U _ o D.i2z D.i12.symm D.TOi2.symm e) (ax.at λo e=>U _ o D.l2z D.l2i1 D.l2TO e) hy λg4 e a6 he=>?_;obtain⟨Y,M,R⟩:=he;exact an (a6 _ _ D.i2z.symm b7) (λc o B I O c4 _ q=>a6 _ _ c4<|U c o B O I q) M R
  | some y=>
   have hv:zs[n3]? = none:=by
    rcases bi with h | h | h
    ·rw[hx]at h;cases h
    ·rw[hy]at h;cases h
    ·exact h
   refine uX (m:=Al<|.ref i2)<|qg (h2.at λo e=>U _ o D.i2z D.i12.symm D.TOi2.symm e) (ax.at λo e=>U _ o D.l2z D.l2i1 D.l2TO e) hy λg4 c8 a6=>Ad ?_;have b9:xm g4 TO x b c:=a6.extBut _ _ D.TOi2 ao;refine uX<|Bd b9 rfl<|uX<|QT b9 λg5 c9 c6=>?_;have a8 : ∀c o,c≠i2->c≠TO->g3.get? c=some o->g5.get? c=some o:=λc o B I e=>c6.extBut _ _ I<|a6.extBut _ _ B e;refine uX<|CJ<|Ad<|uX<|uX<|BI ?_;refine uX (m:=Al<|.ref i3)<|kW hh (h3.at λo e=>a8 _ o D.i23.symm D.TOi3.symm<|U _ o D.i3z D.i13.symm D.TOi3.symm e) (bg.at λo e=>a8 _ o D.l3i2 D.l3TO<|U _ o D.l3z D.l3i1 D.l3TO e) hv λg6 e bb he=>?_;obtain⟨Y,M,R⟩:=he;exact an (bb _ _ D.i3z.symm<|a8 _ _ D.i2z.symm D.TOz.symm b7) (λc o B I O c4 c5 q=>bb _ _ c5<|a8 c o c4 I<|U c o B O I q) M R
end
noncomputable def YW(a b c:Value):Obj:={cls:= .type "tuple",data:= .seq #[a,b,c]}
noncomputable def km(z B I:Sk)(h:Heap)(l1 l2 l3:Addr):Heap:=
 Am (Am (Am (Am (Am (Am h<|itO z l1)<|itO B l2)<|itO I l3)<|YW (.ref h.objs.size) (.ref<|h.objs.size+1)<|.ref<|h.objs.size+2)<|YW .none .none .none) (gU (h.objs.size+3)<|h.objs.size+4)
theorem aZ(z B I:Sk)(l1 l2 l3:Addr)(xs ys zs:Array Value) :
 Meets (Builtin.«zip.__new__» ⟨[.type "zip",.ref l1,.ref l2,.ref l3],[]⟩) (λ_ R s=>SqAt z s.heap l1 xs/\SqAt B s.heap l2 ys/\SqAt I s.heap l3 zs/\
  R (.ok<|.ret<|.ref<|s.heap.objs.size+5) {s with heap:=km z B I s.heap l1 l2 l3}):=
 .of_wp λprog w A R s h=>by
  obtain⟨M,g,d,tk,os⟩:=s;obtain⟨O,U,W,h⟩:=h;have a2:=sub_zip;have Y:SqAt z (EL ⟨M,g,d,tk,os⟩) l1 xs:=O;have a0:SqAt B (EL ⟨M.push<|itO z l1,g,d,tk,os⟩) l2 ys:=U.at λo e=>uY _ e;have a1:SqAt I (EL ⟨(M.push<|itO z l1).push (itO B l2),g,d,tk,os⟩) l3 zs:=W.at λo e=>uY _<|uY _ e
  wp_walk using Zn Y,Zn a0,Zn a1
  refine⟨_,rfl,?_⟩;simp only[km,YW,gU,AB]at h ⊢;exact h
theorem W7(a b c d:Value):argsOk "object.__init__" ⟨[a,b,c,d],[]⟩:=by
 unfold argsOk;have e:=FY (id:="object.__init__") (n:=['_','_','t','i','n','i','_','_']) (o:=['t','c','e','j','b','o']) (by kernel_rfl) F.owner_object;rw[e]
 kernel_rfl
noncomputable def rS(z B I:Sk)(K:uW)(a b c:Addr):It:=
 ⟨λi H=>∃xs ys zs,SqK z K H a xs/\SqK B K H b ys/\SqK I K H c zs/\i<xs.length/\i<ys.length/\i<zs.length,
  λi H x H'=>∃p u v t,x = .ref p/\H p=none/\H'=upd H p (.tup [u,v,t])/\(∀xs,SqK z K H a xs->xs[i]? = some u)/\(∀ys,SqK B K H b ys->ys[i]? = some v)/\(∀zs,SqK I K H c zs->zs[i]? = some t),
  λi H=>∃xs ys zs,SqK z K H a xs/\SqK B K H b ys/\SqK I K H c zs/\(xs.length<=i\/ys.length<=i\/zs.length<=i)⟩
theorem VH{P:Program}{w:World}{K:uW}{elts:List Expr}{x1:Nat}{tpos:Pos}(k1 k2 k3:Sk){z TI TO i1 i2 i3 a b c:Addr}(D:Zip3A z TI TO i1 i2 i3 a b c) :
 Turn P w K (.Tuple elts x1 tpos) (rS k1 k2 k3 K a b c) [z,TI,TO,i1,i2,i3] z (λi h=>IsZip h z TI TO .none/\xm h TI (.ref i1) (.ref i2) (.ref i3)/\(∃c d e,xm h TO c d e)/\ItAt k1 h i1 a i/\ItAt k2 h i2 b i/\ItAt k3 h i3 c i) where
 mem:=by simp
 obj:=λi h ap y hy=>by
  obtain⟨M,R,⟨c,d,e,U⟩,h1,h2,W⟩:=ap;simp only[Ag,Aw,or_false]at hy;rcases hy with rfl | rfl | rfl | rfl | rfl | rfl
  ·exact⟨_,M,λv q=>by cases q⟩
  ·exact⟨_,R,λv q=>by cases q⟩
  ·exact⟨_,U,λv q=>by cases q⟩
  ·exact h1.obj
  ·exact h2.obj
  ·exact W.obj
 keep:=λi h h' ap k=>by obtain⟨M,R,⟨c,d,e,U⟩,h1,h2,W⟩:=ap;exact⟨k z ⋯ _ M,k TI ⋯ _ R,⟨c,d,e,k TO ⋯ _ U⟩,h1.at λo e=>k i1 ⋯ o e,h2.at λo e=>k i2 ⋯ o e,W.at λo e=>k i3 ⋯ o e⟩
 item:=by
  rintro X hP hw hK hc i pins s σ H E I hf ⟨M,R,⟨c,d,e,U⟩,h1,h2,W⟩ ⟨xs,ys,zs,am,an,ao,bv,bx,c0⟩;subst hP hw hK;obtain⟨c1,aw,p1,z1⟩:=I.sq am;obtain⟨c3,b0,p2,z2⟩:=I.sq an;obtain⟨c5,b7,p3,z3⟩:=I.sq ao;have hx:xs[i]? = some xs[i]:=Ae bv;have hy:ys[i]? = some ys[i]:=Ae bx;have hv:zs[i]? = some zs[i]:=Ae c0;obtain⟨u1,c7,c8⟩:=aw.get hx;obtain⟨u2,c9,ca⟩:=b0.get hy;obtain⟨u3,cd,ce⟩:=b7.get hv;have hT:s.TypeIs (.ref z) "zip":=⟨_,M,rfl⟩;unfold pyNext;refine uX (BJ (AI (name:=As "__next__") hT BU (AX BU hT Fj
   (Vs D M R U h1 h2 W p1 p2 p3 (x:=u1) (y:=u2) (v:=u3) (by simpa using c7) (by simpa using c9) (by simpa using cd) λg a1 a2 a3 a4 a9 a5 a6 a7=>Ad ⟨_,rfl,?_⟩) (Fd _))))
  refine wpAny_letOwnedTupleGo_zip a1 λg2 hz2 Y=>?_;have lt : ∀{c o},s.heap.get? c=some o->s.heap.objs.size≠c:=λe=>Bk<|Ao e;have cp:xm g2 s.heap.objs.size u1 u2 u3:=Y.extBut _ _ (lt M) a5;have kk : ∀O u,O ∉ [z,TI,TO,i1,i2,i3]->s.heap.get? O=some u->g2.get? O=some u:=λO u B e=>by simp only[Ag,Aw,or_false,not_or]at B;exact Y.extBut _ _ B.1<|a7 O u B.1 B.2.2.1 B.2.2.2.1 B.2.2.2.2.1 B.2.2.2.2.2 e
  have I1:Inv X pins σ (upd H s.heap.objs.size<|.tup [xs[i],ys[i],zs[i]]) {s with heap:=g2,toks:=s.toks}:=
   I.turnLaid (fp:=[z,TI,TO,i1,i2,i3]) kk hf (Ak _) ⟨by show 3<=sizeLine;decide,[u1,u2,u3],.cons c8<|.cons ca<|.cons ce .nil,⟨_,cp,rfl,_,rfl⟩⟩
  have cr:H s.heap.objs.size=none:=I.fresh;refine⟨.ref s.heap.objs.size,_,I1,rfl,⟨_,_,_,_,rfl,cr,rfl,λd1 ac=>by rw[I.sq_inj ac am];exact hx,λd2 ac=>by rw[I.sq_inj ac an];exact hy,λd3 ac=>by rw[I.sq_inj ac ao];exact hv⟩,?_,λO B=>?_⟩
  ·exact⟨hz2,Y.extBut _ _ D.TIz<|a7 _ _ D.TIz D.TITO D.TIi1 D.TIi2 D.TIi3 R,⟨_,_,_,Y.extBut _ _ D.TOz a2⟩,a3.at λo e=>Y.extBut _ _ D.i1z e,a4.at λo e=>Y.extBut _ _ D.i2z e,a9.at λo e=>Y.extBut _ _ D.i3z e⟩
  ·have cs:O≠s.heap.objs.size:=by
    simp only[Ag,Aw,or_false]at B;rcases B with rfl | rfl | rfl | rfl | rfl | rfl
    ·exact(lt M).symm
    ·exact(lt R).symm
    ·exact(lt U).symm
    ·obtain⟨o,e,_⟩:=h1.obj;exact(lt e).symm
    ·obtain⟨o,e,_⟩:=h2.obj;exact(lt e).symm
    ·obtain⟨o,e,_⟩:=W.obj;exact(lt e).symm
   rw[zI cs];exact(hf O B).1
 done:=by
  rintro X hP hw hK hc i pins s σ H E I hf ⟨M,R,⟨c,d,e,U⟩,h1,h2,W⟩ ⟨xs,ys,zs,am,an,ao,hi⟩;subst hP hw hK;obtain⟨c1,aw,p1,z1⟩:=I.sq am;obtain⟨c3,b0,p2,z2⟩:=I.sq an;obtain⟨c5,b7,p3,z3⟩:=I.sq ao;have hT:s.TypeIs (.ref z) "zip":=⟨_,M,rfl⟩;have l1:=aw.length;have l2:=b0.length;have l3:=b7.length;unfold pyNext;refine uX (BJ (AI (name:=As "__next__") hT BU (AX BU hT Fj
   (ba (show X.A.handled=none from I.ok.hd hc) D M R U h1 h2 W p1 p2 p3 (by
     rcases hi with q | q | q
     ·left;simp;omega
     ·right;left;simp;omega
     ·right;right;simp;omega) λg e hk he=>?_) (Fd _))))
  obtain⟨o,ho,cz⟩:=he;refine uX (CC (T:="StopIteration") (b:=true) ⟨o,ho,cz⟩ FP (Ad ⟨rfl,?_⟩));refine I.turnedL (t':=s.toks) (fp:=[z,TI,TO,i1,i2,i3]) (λO u B e=>?_) hf;simp only[Ag,Aw,or_false,not_or]at B;exact hk O u B.1 B.2.2.1 B.2.2.2.1 B.2.2.2.2.1 B.2.2.2.2.2 e
 self:=λ_ _ _ _ _ st h=>Fo st.1 h
theorem oA{x y z:V}{us:List Value}(r:Vals [x,y,z] us) : ∃u w' t,us=[u,w',t]/\RelV x u/\RelV y w'/\RelV z t:=by
 cases r with
 | cons B I=>
  cases I with
  | cons M O=>
   cases O with
   | cons R U=>cases U;exact⟨_,_,_,rfl,B,M,R⟩
noncomputable def pF(K:uW)(ta:TA):TI:=λσ H R=>ta σ H λvs H1=>∃z B I a b c,vs=[.ref a,.ref b,.ref c]/\(∃xs,SqK z K H1 a xs)/\(∃ys,SqK B K H1 b ys)/\(∃zs,SqK I K H1 c zs)/\R (rS z B I K a b c) H1
theorem fT{X:Cx}{e1 e2 O:Expr}{ta:TA}{p pos:Pos}{elts:List Expr}{x1:Nat}{tpos:Pos}(hg:Gl X "zip")(hm:X.mg "zip" = none)(ha:PA X [e1,e2,O] ta)
 (hv:bootBuiltins "zip" = some (.type "zip")) (hs:starEach [e1,e2,O] X.env=[(false,eval e1 X.env),(false,eval e2 X.env),(false,eval O X.env)]:=by rfl) (a2:starEach [e2,O] X.env=[(false,eval e2 X.env),(false,eval O X.env)]:=by rfl) :
 PI X (.Tuple elts x1 tpos) (.Call (.Name "zip" p) [e1,e2,O] [] pos) (pF X.K ta):=by
 intro pins s σ H R I h;refine Call_ (qN I hg hm hv<|AF (thn (ha pos pins s σ H _ I h) λus s1 hZ=>?_) (by rw[hs,a2])<|by rw[a2];rfl);obtain⟨vs,H1,U,r1,q1⟩:=hZ;obtain⟨z,B,M,a,b,c,e,⟨xs,as⟩,⟨ys,aw⟩,⟨zs,ax⟩,q⟩:=q1;subst e;obtain⟨w1,w2,w3,eu,b7,b8,b9⟩:=oA r1;subst eu;cases b7;cases b8;cases b9;obtain⟨bb,c3,p1,z1⟩:=U.sq as;obtain⟨bd,c5,p2,z2⟩:=U.sq aw;obtain⟨be,c7,p3,z3⟩:=U.sq ax;have la:=p1.lt;have lb:=p2.lt;have lc:=p3.lt;refine callType_new F.called_zip ⋯ (Jn _ _ _) (XF _ _ _) (λobj=>W7 obj _ _ _) F.entry_zip_new (aZ z B M a b c bb.toArray bd.toArray be.toArray) ⟨p1,p2,p3,?_⟩;have ps : ∀(h:Heap) (o:Obj) (c:Addr) (u:Obj),h.get? c=some u->(h.push o).get? c=some u:=λh o c u e=>uY _ e;have keep : ∀W o,s1.heap.get? W=some o->(km z B M s1.heap a b c).get? W=some o:=λW o e=>ps _ _ _ _<|ps _ _ _ _<|ps _ _ _ _<|ps _ _ _ _<|ps _ _ _ _<|ps _ _ _ _ e;have y1:(Am s1.heap<|itO z a).objs.size=s1.heap.objs.size+1:=AB ..;have y2:(Am (Am s1.heap<|itO z a)<|itO B b).objs.size=s1.heap.objs.size+2:=by rw[AB,y1]
 have y3:(Am (Am (Am s1.heap<|itO z a)<|itO B b)<|itO M c).objs.size=s1.heap.objs.size+3:=by rw[AB,y2]
 have y4:(Am (Am (Am (Am s1.heap<|itO z a)<|itO B b)<|itO M c)<|YW (.ref s1.heap.objs.size) (.ref<|s1.heap.objs.size+1)<|.ref<|s1.heap.objs.size+2).objs.size=s1.heap.objs.size+4:=by rw[AB,y3]
 have y5:(Am (Am (Am (Am (Am s1.heap<|itO z a)<|itO B b)<|itO M c)<|YW (.ref s1.heap.objs.size) (.ref<|s1.heap.objs.size+1)<|.ref<|s1.heap.objs.size+2)<|YW .none .none .none).objs.size=s1.heap.objs.size+5:=by rw[AB,y4]
 have g0:ItAt z (km z B M s1.heap a b c) s1.heap.objs.size a 0:=(vN z s1.heap a).at λo e=>ps _ _ _ _<|ps _ _ _ _<|ps _ _ _ _<|ps _ _ _ _<|ps _ _ _ _ e;have g1:ItAt B (km z B M s1.heap a b c) (s1.heap.objs.size+1) b 0:=by have q:=vN B (Am s1.heap<|itO z a) b;rw[y1]at q;exact q.at λo e=>ps _ _ _ _<|ps _ _ _ _<|ps _ _ _ _<|ps _ _ _ _ e
 have bm:ItAt M (km z B M s1.heap a b c) (s1.heap.objs.size+2) c 0:=by have q:=vN M (Am (Am s1.heap<|itO z a)<|itO B b) c;rw[y2]at q;exact q.at λo e=>ps _ _ _ _<|ps _ _ _ _<|ps _ _ _ _ e
 have g2:xm (km z B M s1.heap a b c) (s1.heap.objs.size+3) (.ref s1.heap.objs.size) (.ref<|s1.heap.objs.size+1) (.ref<|s1.heap.objs.size+2):=by have q:_=some (YW (.ref s1.heap.objs.size) (.ref<|s1.heap.objs.size+1)<|.ref<|s1.heap.objs.size+2):=Aj (Am (Am (Am s1.heap<|itO z a)<|itO B b)<|itO M c) (o:=YW (.ref s1.heap.objs.size) (.ref<|s1.heap.objs.size+1)<|.ref<|s1.heap.objs.size+2) rfl;rw[y3]at q;exact ps _ _ _ _<|ps _ _ _ _ q
 have g3:xm (km z B M s1.heap a b c) (s1.heap.objs.size+4) .none .none .none:=by have q:_=some (YW .none .none .none):=Aj (Am (Am (Am (Am s1.heap<|itO z a)<|itO B b)<|itO M c)<|YW (.ref s1.heap.objs.size) (.ref<|s1.heap.objs.size+1)<|.ref<|s1.heap.objs.size+2) (o:=YW .none .none .none) rfl;rw[y4]at q;exact ps _ _ _ _ q
 have g4:IsZip (km z B M s1.heap a b c) (s1.heap.objs.size+5) (s1.heap.objs.size+3) (s1.heap.objs.size+4) .none:=by have q:=Aj (Am (Am (Am (Am (Am s1.heap<|itO z a)<|itO B b)<|itO M c)<|YW (.ref s1.heap.objs.size) (.ref<|s1.heap.objs.size+1)<|.ref<|s1.heap.objs.size+2)<|YW .none .none .none) (o:=gU (s1.heap.objs.size+3)<|s1.heap.objs.size+4) rfl;rw[y5]at q;exact q
 refine⟨⟨_,g4,rfl⟩,Fo (s:={s1 with heap:=km z B M s1.heap a b c}) g4 ?_⟩;have I2:Inv X pins σ H1 {s1 with heap:=km z B M s1.heap a b c,toks:=s1.toks}:=U.kept keep;have bx : ∀m:Nat,a≠s1.heap.objs.size+m:=λm=>AJ<|Ap la<|AG _ m;have a1 : ∀m:Nat,b≠s1.heap.objs.size+m:=λm=>AJ<|Ap lb<|AG _ m;have Y : ∀m:Nat,c≠s1.heap.objs.size+m:=λm=>AJ<|Ap lc<|AG _ m;have ne : ∀m n:Nat,m≠n->(s1.heap.objs.size+m:Nat)≠s1.heap.objs.size+n:=λm n h=>by omega
 have D:Zip3A (s1.heap.objs.size+5) (s1.heap.objs.size+3) (s1.heap.objs.size+4) s1.heap.objs.size (s1.heap.objs.size+1) (s1.heap.objs.size+2) a b c:=
  ⟨ne 3 5 ⋯,ne 4 5 ⋯,ne 0 5 ⋯,ne 1 5 ⋯,ne 2 5 ⋯,ne 3 4 ⋯,ne 3 0 ⋯,ne 3 1 ⋯,ne 3 2 ⋯,ne 4 0 ⋯,ne 4 1 ⋯,ne 4 2 ⋯,ne 0 1 ⋯,ne 0 2 ⋯,ne 1 2 ⋯,
   bx 5,a1 5,a1 4,a1 0,Y 5,Y 4,Y 0,Y 1⟩
 refine⟨_,[s1.heap.objs.size+5,s1.heap.objs.size+3,s1.heap.objs.size+4,s1.heap.objs.size,s1.heap.objs.size+1,s1.heap.objs.size+2],_,_,H1,rfl,I2,VH z B M D,⟨g4,g2,⟨_,_,_,g3⟩,g0,g1,bm⟩,λW hc=>?_,q⟩;have ac:s1.heap.objs.size<=W:=by
  simp only[Ag,Aw,or_false]at hc;rcases hc with rfl | rfl | rfl | rfl | rfl | rfl
  ·exact AG _ _
  ·exact AG _ _
  ·exact AG _ _
  ·exact Ak _
  ·exact AG _ _
  ·exact AG _ _
 exact U.fpOk ac<|U.hok.fresh ac
end L2
namespace DL
open PySem L2
noncomputable def Kg(ds es fs:List D):List D:=(ds.zip<|es.zip fs).map λp=>D.tup [p.1,p.2.1,p.2.2]
noncomputable def bC(f g h:CO D)(γ:Ctx):Option (List D):=((f γ).bind jf).bind λm=>((g γ).bind jf).bind λn=>((h γ).bind jf).map λo=>Kg m.2 n.2 o.2
@[simp] noncomputable def gQ:=@bC.eq_1
open PySem.Spec PyProof.Rows
theorem Vx{M O R:Sk}{K:uW}{H0 Hs:Hp}{a b c:Addr}{xs ys zs:List V}{ds es fs:List D}(h1:SqK M K Hs a xs)(U:Reps K H0 ds xs)(h2:SqK O K Hs b ys)(W:Reps K H0 es ys)(z:SqK R K Hs c zs)(Y:Reps K H0 fs zs) :
 Walk K H0 Hs (rS M O R K a b c) (Kg ds es fs):=by
 have l1:=U.length;have l2:=W.length;have l3:=Y.length;have hz:(Kg ds es fs).length=min ds.length (min es.length fs.length):=by simp[Kg]
 refine⟨λi H1 s hi=>?_,λH1 s=>?_,λi H1 x H1' s hi y=>?_⟩
 ·exact⟨xs,ys,zs,xF s h1,xF s h2,xF s z,by omega,by omega,by omega⟩
 ·refine⟨xs,ys,zs,xF s h1,xF s h2,xF s z,?_⟩
  rw[hz];omega
 ·obtain⟨p,u,v,t,e1,hp,e2,g1,g2,g3⟩:=y
  obtain⟨d,hd,hr⟩:=U.getV<|g1 xs<|xF s h1;obtain⟨B,hc,a8⟩:=W.getV<|g2 ys<|xF s h2;obtain⟨f,hf,ac⟩:=Y.getV<|g3 zs<|xF s z;refine⟨.tup [d,B,f],?_,λG0 s1 s2=>⟨upd G0 p<|.tup [u,v,t],?_,?_⟩⟩
  ·have ag:(ds.zip<|es.zip fs)[i]? = some (d,(B,f)):=EC.mpr ⟨hd,EC.mpr ⟨hc,hf⟩⟩
   simp[Kg,ag]
  ·rw[e2];exact Ext.alloc s2 hp _
  ·rw[e1]
   have I:=λ{q:D} {y:V} (r:Rep K H0 q y)=>(r.mono s1).mono (zV (js s2 hp)<|.tup [u,v,t]);exact(show ∃a' a2,V.ref p = .ref a'/\SqT K _ a' a2/\Reps K _ [d,B,f] a2 from⟨p,[u,v,t],rfl,SqT.of zM,Reps.cons (I hr)<|Reps.cons (I a8)<|Reps.cons (I ac) Reps.nil⟩)
section
variable{X:Cx}{sc:Scope}{N L:List Str}{k:Nat}{a b c:Expr}{p pos:Pos}{f g h:CO D}
theorem fP{elts:List Expr}{x1:Nat}{tpos:Pos}(hS:SX X sc N L k)(cz:ki sc "zip" = true)(z:X.mg "zip" = none)(ha:PV X a f)(hb:PV X b g)(hc:PV X c h)
 (W:starEach [a,b,c] X.env=[(false,eval a X.env),(false,eval b X.env),(false,eval c X.env)]:=by rfl) (I:starEach [b,c] X.env=[(false,eval b X.env),(false,eval c X.env)]:=by rfl) (Y:starEach [c] X.env=[(false,eval c X.env)]:=by rfl) :
 PIF X (.Tuple elts x1 tpos) (.Call (.Name "zip" p) [a,b,c] [] pos) (bC f g h):=
 w6 (fT (hS.gl cz).1 z (z9 ha (z9 hb (z9 hc j1 Y)<|by rw[I,Y])<|by rw[W,I]) PyProof.Rows.boot_zip W I) λσ H R hZ=>by obtain⟨H0,γ,ds,rc,B,q⟩:=hZ;obtain⟨⟨k1,m⟩,e1,B⟩:=zc B;obtain⟨d,e0,e1⟩:=zc e1;obtain⟨⟨k2,n⟩,M,B⟩:=zc B;obtain⟨c',e2,M⟩:=zc M;obtain⟨⟨k3,o⟩,O,B⟩:=zy B;obtain⟨t,e4,O⟩:=zc O;subst B;refine⟨H0,γ,d,rc,e0,λv H' H0' x r=>⟨H0',γ,c',rc.ext x,e2,λv2 H2 as U r2=>⟨as,γ,t,(rc.ext x).ext U,e4,λv3 H3 b0 x3 r3=>?_⟩⟩⟩;obtain⟨a1,xs,rfl,g1,g2⟩:=wQ ((r.mono U.s0).mono x3.s0) e1;obtain⟨a2,ys,rfl,g3,g4⟩:=wQ (r2.mono x3.s0) M;obtain⟨a3,zs,rfl,g5,g6⟩:=wQ r3 O;exact⟨k1,k2,k3,a1,a2,a3,rfl,⟨xs,xF x3.sub g1⟩,⟨ys,xF x3.sub g3⟩,⟨zs,xF x3.sub g5⟩,q _ H3 b0 ((x.trans U).trans x3)<|Vx g1 g2 g3 g4 g5 g6⟩
end
noncomputable def rY(f g:CO D)(γ:Ctx):Option (List D):=((f γ).bind jf).bind λm=>((g γ).bind jf).bind λn=>if m.2.length<=lim then some (Jk m.2 n.2)else none
@[simp] noncomputable def oa:=@rY.eq_1
noncomputable def VF:List D->Option (List D×List D)
 | []=>some ([],[])
 | d::r=>match d with
  | .tup ds=>match ds with
   | [k,v]=>(VF r).map λp=>(k::p.1,v::p.2)
   | _=>none
  | _=>none
noncomputable def se(f:CO (List D))(γ:Ctx):Option D:=(f γ).bind λps=>(VF ps).bind λp=>pU p.1 p.2
@[simp] noncomputable def oj:=@se.eq_1
noncomputable def pC:D->Option (List Int)
 | .tup ds=>W6 ds
 | _=>none
noncomputable def lW:List D->Option (List<|List Int)
 | []=>some []
 | d::ds=>(pC d).bind λk=>(lW ds).map λr=>k::r
noncomputable def sd(f:CO (List D))(γ:Ctx):Option D:=(f γ).bind λps=>(VF ps).bind λp=>(lW p.1).bind λks=>if ks.Nodup/\ks.length<=lim then some (.dct ks p.2)else none
noncomputable def pM:List (List Int)->List D->List Int->Option D
 | k::ks,v::vs,i=>if k=i then some v else pM ks vs i
 | _,_,_=>none
noncomputable def ud(fd z:CO D)(γ:Ctx):Option D:=(fd γ).bind λd=>(z γ).bind λk=>match d with
 | .dct ks vs=>(pC k).bind λi=>pM ks vs i
 | _=>none
noncomputable def pL(d k x:D):Option D:=match d with
 | .dct ks vs=>(pC k).map λi=>(pM ks vs i).getD x
 | _=>none
noncomputable def ub(fd z B:CO D)(γ:Ctx):Option D:=(fd γ).bind λd=>(z γ).bind λk=>(B γ).bind λx=>pL d k x
noncomputable def ua(f:CO D)(γ:Ctx):Option (List D):=(f γ).bind λd=>match d with
 | .dct ks _=>some (ks.map λk=> .tup (k.map .int))
 | _=>none
section
variable(γ:Ctx)
@[simp] noncomputable def oi:=@sd.eq_1
@[simp] noncomputable def rK:=@ud.eq_1
@[simp] noncomputable def rG:=@ub.eq_1
@[simp] noncomputable def rE:=@ua.eq_1
end
noncomputable def sD:List (List Int)->List Int->List Int->Option Int
 | k::ks,n::ns,i=>if k=i then some n else sD ks ns i
 | _,_,_=>none
noncomputable def eqT(ks:List (List Int))(ns:List Int)(z:List (List Int))(B:List Int):Bool:=decide (ks.length=z.length) && (ks.zip ns).all λx=>decide<|sD z B x.1=some x.2
noncomputable def sG(d e:D):Option Bool:=match d with
 | .dct ks vs=>match e with
  | .dct z B=>(W6 vs).bind λns=>(W6 B).map λI=>eqT ks ns z I
  | _=>none
 | _=>none
@[simp] noncomputable def uV(d e:D):Option D:=(sG d e).map D.bl
@[simp] noncomputable def uU(d e:D):Option D:=(sG d e).map λb=>D.bl<|!b
noncomputable def tZ(f:CO D)(γ:Ctx):Option D:=(f γ).bind λd=>match d with
 | .dct ks _=>some (.int ks.length)
 | _=>none
@[simp] noncomputable def rD:=@tZ.eq_1
abbrev TT:=List (List (List Int))
inductive Pl where
 | out | tab (k:Nat) | row (k m:Nat)
deriving DecidableEq
section
variable{K:uW}{al:List (Nat×Pl)}{E0 E H0 H H0' H':Hp}{σ σ':St}{γ γ':Ctx}{Z:TT}{ad:Pl->Addr}
open Classical in
end
open Classical in
section
variable{H:Hp}{Z:TT}{ad:Pl->Addr}
end
section
variable{X:Cx}{sc:Scope}{N L:List Str}{k j i n w:Nat}{st:Stmt}{xk:List Stmt}{e e2:Expr}{es:List Expr}{f:CO D}{g:CO (List D)}{pos p:Pos}{x:Str}{al:List (Nat×Pl)}
theorem lO{E H:Hp}{c:Addr}(s:Same E H)(h:H c=none):E c=none:=by
 cases q:E c with
 | none=>rfl
 | some o=>rw[s c o q]at h;cases h
end
section
variable{X:Cx}{sc:Scope}{N L:List Str}{k j n i:Nat}{a b c e:Expr}{es:List Expr}{f:CO D}{g:CO (List D)}{p pos:Pos}{x:Str}{st st3 st4:Stmt}{xk:List Stmt}{F:List D->Option Res}
open Classical in
noncomputable def lessA(H:Hp)(p:Addr):Hp:=λc=>if c=p then none else H c
theorem lessA_ne{H:Hp}{p c:Addr}(h:c≠p):lessA H p c=H c:=MQ h
end
mutual
def noX:D->Bool
 | .tup xs=>noXs xs
 | .lst xs=>noXs xs
 | .dic _ _=>false
 | .dct _ _=>false
 | _=>true
def noXs:List D->Bool
 | []=>true
 | x::xs=>noX x && noXs xs
end
mutual
theorem Rep.less{K:uW}{H:Hp}{p:Addr}{φ:Heap->Prop}(B:H p=some (.ext φ)) : ∀{d:D} {v:V},noX d=true->Rep K H d v->Rep K (lessA H p) d v
 | .non,_,_,h=>h
 | .bl _,_,_,h=>h
 | .int _,_,_,h=>h
 | .str _,_,_,h=>h
 | .tup ds,v,n,h=>by
  obtain⟨a,xs,e1,h1,h2⟩:=(show ∃a xs,v = .ref a/\SqT K H a xs/\Reps K H ds xs from h);refine(show ∃a xs,v = .ref a/\SqT K (lessA H p) a xs/\Reps K (lessA H p) ds xs from⟨a,xs,e1,?_,Reps.less B n h2⟩);have z : ∀{u:HO},(∀φ,u ≠ .ext φ)->H a=some u->a≠p:=λI q e=>by rw[e,B]at q;exact I _ (AU q).symm
  rcases h1 with(hq | ⟨o',hq⟩) | hq
  ·exact .inl (.inl<|by rw[lessA_ne (z (λ_=>by simp) hq)];exact hq)
  ·exact .inl<|.inr ⟨o',by rw[lessA_ne (z (λ_=>by simp) hq)];exact hq⟩
  ·exact .inr hq
 | .lst ds,v,n,h=>by
  obtain⟨a,xs,e1,h1,h2⟩:=(show ∃a xs,v = .ref a/\SqL K H a xs/\Reps K H ds xs from h);refine(show ∃a xs,v = .ref a/\SqL K (lessA H p) a xs/\Reps K (lessA H p) ds xs from⟨a,xs,e1,?_,Reps.less B n h2⟩);have z : ∀{u:HO},(∀φ,u ≠ .ext φ)->H a=some u->a≠p:=λI q e=>by rw[e,B]at q;exact I _ (AU q).symm
  rcases h1 with(hq | ⟨o',hq⟩) | hq
  ·exact .inl (.inl<|by rw[lessA_ne (z (λ_=>by simp) hq)];exact hq)
  ·exact .inl<|.inr ⟨o',by rw[lessA_ne (z (λ_=>by simp) hq)];exact hq⟩
  ·exact .inr hq
 | .dic _ _,_,n,_=>nomatch n
 | .dct _ _,_,n,_=>nomatch n
theorem Reps.less{K:uW}{H:Hp}{p:Addr}{φ:Heap->Prop}(z:H p=some (.ext φ)) : ∀{ds:List D} {xs:List V},noXs ds=true->Reps K H ds xs->Reps K (lessA H p) ds xs
 | [],_,_,h=>h
 | d::ds,xs,n,h=>by obtain⟨x,r,e1,h1,h2⟩:=(show ∃x r,xs=x::r/\Rep K H d x/\Reps K H ds r from h);have n:(noX d && noXs ds)=true:=n;rw[Au]at n;exact(show ∃x r,xs=x::r/\Rep K (lessA H p) d x/\Reps K (lessA H p) ds r from⟨x,r,e1,Rep.less z n.1 h1,Reps.less z n.2 h2⟩)
end
section
variable{X:Cx}{sc:Scope}{N L:List Str}{k j n i:Nat}{a b c e:Expr}{es:List Expr}{g:CO (List D)}{p pos:Pos}{x y:Str}{st:Stmt}{body xk:List Stmt}{F:List D->Option Res}
open Classical in
end
noncomputable def wU(f:CO D)(g:CO (Sk×List D)):CO D:=λγ=>(f γ).bind λd=>(g γ).bind λa=>match d with
 | .str x=>(vZ a.2).map λl=> .bl (!l.any λy=>y==x)
 | _=>none
structure W2(K:uW)(E H0:Hp)(d:D)(t b:Addr):Prop where
 nb:E b=none
 ex : ∃d1 rows v ys,d = .tup [d1,.lst rows]/\SqT K H0 t [v,.ref b]/\Rep K H0 d1 v/\H0 b=some (.lst ys)/\Reps K H0 rows ys
section
variable{X:Cx}{sc:Scope}{N L:List Str}{k j n i:Nat}{a b c e:Expr}{es:List Expr}{g:CO (List D)}{p pos:Pos}{x:Str}{st:Stmt}{body xk:List Stmt}{F:List D->Option Res}
theorem bM{hd:ExceptHandler}{M:List ExceptHandler}{tpos:Pos}{F:CO Fl}(h:PSD X.nox st F):PSD X (.Try [st] (hd::M) [] [] tpos) F:=by
 intro pins s σ H D I ⟨O,R,H0,γ,B,U,W,Y⟩;refine wpAny_Try_except ?_;refine CN (zk h pins s σ H D (I.wish _) ⟨O,R,H0,γ,_,U,W,Y⟩) (λB s1 z=>?_) λ_ _ z=>z.elim;have z:=z.unwish;cases B with
 | next=>exact Fy z
 | ret v=>exact z
 | brk=>exact z
 | cont=>exact z
end
section
variable{X:Cx}{sc:Scope}{N L:List Str}{k j n i:Nat}{a b c e:Expr}{es:List Expr}{g:CO (List D)}{p pos:Pos}{x:Str}{st:Stmt}{body xk:List Stmt}{F:List D->Option Res}
theorem ZX{c:Expr}{fa:CO D}(ha:PV X a fa){I:CO (Sk×List D)}(M:PQ X c I)(hm:behindInMarks .NotIn c=false:=by with_unfolding_all rfl):PTD X (.Compare a [.NotIn] [c] pos) (sB<|wU fa I):=
 Wr (Wq Xv ha M hm) λσ H Q O=>by
  obtain⟨H0,γ,d,rc,z,q⟩:=O;obtain⟨db,R,U⟩:=zc z;obtain⟨x,e1,z⟩:=zc R;obtain⟨⟨kk,ds⟩,e2,z⟩:=zc z;cases x with
  | str w=>
   obtain⟨l,W,rfl⟩:=zy z;cases U;refine⟨H0,γ,_,rc,e1,λY H1 a0 x1 B=>⟨a0,γ,kk,ds,rc.ext x1,e2,λp xs H2 a1 x2 h1 h2 r=>?_⟩⟩;have ex:=yB r W;subst ex;have hq:SqL X.K H2 p (l.map V.str)\/SqT X.K H2 p (l.map V.str):=by
    cases kk with
    | L=>exact .inl h1
    | T=>exact .inr h1
   have B:Y = .str w:=B;subst B;refine⟨p,_,rfl,hq,rfl,wJ l,?_⟩;have:inV (.str w) (l.map V.str)=l.any λy=>y==w:=by unfold inV;rw[List.any_map];rfl
   rw[this];exact⟨_,rfl,q H2 a1<|x1.trans x2⟩
  | _=>cases z
end
noncomputable def qM(i:Int):Str:=As<|toString i
noncomputable def vj(f:CO D):CO D:=λγ=>((f γ).bind asI).bind λi=>if inR i=true then some (.str<|qM i)else none
noncomputable def Km(f g:CO D):CO D:=λγ=>(f γ).bind λd=>(g γ).bind λe=>match d,e with
 | .str x,.str y=>some (.bl<|Fs x y)
 | _,_=>none
noncomputable def mz(d:D):Option Str:=match d with
 | .int i=>if inR i=true then some (qM i)else none
 | .str x=>if zA x=true then some x else none
 | _=>none
noncomputable def YZ(f:CO D):CO D:=λγ=>((f γ).bind mz).map .str
noncomputable def gZ(d:D):Option Str:=match d with
 | .str x=>if zA x=true then some x else none
 | _=>none
noncomputable def Xc(fs:List (CO D))(out:Str):CO D:=λγ=>match fs with
 | []=>some (.str out)
 | f::r=>((f γ).bind gZ).bind λx=>Xc r (out++x) γ
noncomputable def yG(fs:List (CO D)):CO D:=λγ=>if fs.length<=10 then Xc fs CK γ else none
noncomputable def Kz(n:Nat)(lo hi st:Option Int):List Nat:=sliceRange (sliceBounds lo hi st n).1 (sliceBounds lo hi st n).2.1 (sliceBounds lo hi st n).2.2
noncomputable def xI{α:Type}(xs:List α)(lo hi st:Option Int):List α:=(Kz xs.length lo hi st).filterMap λi=>xs[i]?
noncomputable def VZ(f:CO (Sk×List D))(l h s:CO (Option Int)):CO (List D):=λγ=>(f γ).bind λa=>(l γ).bind λlo=>(h γ).bind λhi=>(s γ).bind λst=>match a.1 with
 | .L=>if st=some 0 then none else if (xI a.2 lo hi st).length<=lim then some (xI a.2 lo hi st)else none
 | .T=>none
noncomputable def vH(f g:CO D):CO (List D):=λγ=>(f γ).bind λd=>(g γ).bind λe=>match d,e with
 | .str x,.str y=>if x.length<=20000/\(y.length==0)=false then some ((Cf x y).map D.str)else none
 | _,_=>none
noncomputable def ZH(f:CO D):CO D:=λγ=>(f γ).bind λd=>match d with
 | .str x=>if x.length<=640 then (Et x).map D.int else none
 | _=>none
noncomputable def V3(f g:CO D):CO D:=λγ=>(f γ).bind λd=>(g γ).bind λe=>match d,e with
 | .str x,.str y=>some (.bl<|!(Bh y x 0 y.length 1).isEmpty)
 | _,_=>none
end DL
namespace L2
open PySem PySem.Spec PyProof.Rows
theorem WS{X:Cx}:MtR X "str.startswith" (λx vs H Q=>∃z y,x = .str z/\vs=[.str y]/\Q (.bl (Fs z y)) H):=by intro pins s σ H x vs v us Q I B M h;obtain⟨z,y,rfl,rfl,q⟩:=h;obtain⟨t,rfl⟩:=B;obtain⟨u,rfl,O,rfl⟩:=k6 M;exact PySem.SC.startswith ⟨.bl _,H,I,rfl,q⟩
theorem ZO : ∀l:List (Str×Tok),Vals ((l.map (·.1)).map V.str) (strValues l)
 | []=> .nil
 | (z,t)::l=> .cons ⟨t,rfl⟩ (ZO l)
theorem cg{X:Cx}:MtR X "str.split" (λx vs H Q=>∃z y,x = .str z/\vs=[.str y]/\(y.length==0)=false/\z.length<=20000/\∀l,H l=none->Q (.ref l) (upd H l (.lst ((Cf z y).map V.str)))):=by
 intro pins s σ H x vs v us Q I U W h;obtain⟨z,y,rfl,rfl,O,hz,q⟩:=h;obtain⟨t,rfl⟩:=U;obtain⟨u,rfl,B,rfl⟩:=k6 W;have a1:30000<=sizeLine:=by decide
 have M : ∀(l:List (Str×Tok)) (k:Nat),l.map (·.1)=Cf z y->l.length<=sizeLine->EP X pins σ Q (.ref s.heap.objs.size) {s with heap:=s.heap.push {cls:= .type "list",data:= .seq (strValues l).toArray},toks:=k}:=λl k e Y=>by have R:=ZO l;rw[e]at R;exact⟨.ref s.heap.objs.size,_,I.lnew R (by rw[<- e];simpa using Y),rfl,q _ (I.hok.fresh (Ak _))⟩
 cases c1:(decide (z.length<y.length) || decide (Builtin.Str.strKind z<Builtin.Str.strKind y))with
 | true=>
  have sp:Cf z y=[z]:=GY c1;refine CP Gb (Ff _ _ _) Ga (FU _ _) (meets_str_split_cannot_occur z y t B c1) ?_;exact M [(z,t)] s.toks (by rw[sp];rfl) (by simp;omega)
 | false=>
  cases c2:(Bh z y 0 z.length<|z.length+1).isEmpty with
  | true=>
   have sp:Cf z y=[z]:=(MQ<|by rw[c1];simp).trans (GY c2);refine CP Gb (Ff _ _ _) Ga (FU _ _) (meets_str_split_not_found z y t B c1 O c2) ?_;exact M [(z,t)] s.toks (by rw[sp];rfl) (by simp;omega)
  | false=>
   have sp:Cf z y=Eh z (Bh z y 0 z.length<|z.length+1) y.length:=(MQ<|by rw[c1];simp).trans (MQ<|by rw[c2];simp);have hn:(Eh z (Bh z y 0 z.length<|z.length+1) y.length).length<=sizeLine:=by have e1:=StrLaws.occ_length_le z y 0 z.length<|z.length+1;rw[length_partsBetween];omega
   refine CP Gb (Ff _ _ _) Ga (FU _ _) (meets_str_split_sep z y t B c1 O c2 ⋯ hn) ?_;rw[strsFrom_eq];exact M (numbered s.toks _) _ ((numbered_texts _ _).trans sp.symm) (by
    have:=congrArg Fw<|numbered_texts s.toks<|Eh z (Bh z y 0 z.length<|z.length+1) y.length;rw[AO]at this;rw[this];exact hn)
end L2
namespace DL
open PySem PySem.Spec PyProof.Rows L2
theorem XH{i:Int}(h:inR i=true):i.natAbs.log2<1920:=by
 unfold inR at h;have h:=of_decide_eq_true h;by_cases z:i.natAbs=0
 ·rw[z];decide
 ·refine(Nat.log2_lt z).mpr (Ap h ?_)
  exact Nat.pow_le_pow_right ⋯ ⋯
section
variable{X:Cx}{sc:Scope}{N L:List Str}{k:Nat}{a b e o:Expr}{f g:CO D}{p pos:Pos}
theorem Jx(h:SX X sc N L k)(c:ki sc "str" = true)(z:X.mg "str" = none)(M:PV X e f)(I:starEach [e] X.env=[(false,eval e X.env)]:=by rfl):PV X (.Call (.Name "str" p) [e] [] pos) (vj f):=
 jz (yO XZ (h.gl c).1 z PyProof.Rows.boot_str (z9 M j1 I) ⋯ ⋯ I rfl) λσ H Q O=>by
  obtain⟨H0,γ,d,rc,B,q⟩:=O;obtain⟨i,e1,B⟩:=zc B;obtain⟨d1,R,e1⟩:=zc e1;by_cases hi:inR i=true
  ·rw[GY hi]at B;cases B
   refine⟨H0,γ,d1,rc,R,λv H' H0' x r=>?_⟩;rw[jY e1]at r;exact⟨i,by rw[jw r],XH hi,q _ H' H0' x rfl⟩
  ·rw[MQ hi]at B;cases B
theorem Wl{apos cpos:Pos}(M:PV X o f)(O:PV X e g)(R:attributeBase o "startswith" X.env (eval o X.env)=eval o X.env:=by rfl)
 (U:((backTo cpos<|starEach [e] X.env).all (λx=> !x.1) && (backToKw cpos<|keywordEach [] X.env).all (λx=>x.1.isSome) && decide ([e].length+([]:List Keyword).length+(if ([]:List Keyword).isEmpty then 0 else 1)<30))=true:=by rfl)
 (W:(apos.endLine==cpos.line)=true:=by rfl) (I:starEach [e] X.env=[(false,eval e X.env)]:=by rfl):PV X (.Call (.Attribute o "startswith" apos) [e] [] cpos) (Km f g):=
 jz (bY ES PySem.F.slot_str_startswith PySem.F.type_str_startswith WS M (z9 O j1 I) R U W I rfl) λσ H Q Y=>by
  obtain⟨H0,γ,d,rc,B,q⟩:=Y;obtain⟨d1,e1,B⟩:=zc B;obtain⟨d2,e2,B⟩:=zc B;cases d1 with
  | str z=>
   cases d2 with
   | str y=>
    cases B;refine⟨H0,γ,_,rc,e1,λv H' H0' x r=>?_⟩;rw[show v = .str z from r];refine⟨rfl,H0',γ,_,rc.ext x,e2,λv2 H2 a2 x2 r2=>?_⟩;rw[show v2 = .str y from r2];exact⟨z,y,rfl,rfl,q _ H2 a2 (x.trans x2) rfl⟩
   | _=>cases B
  | _=>cases B
theorem Yq{j:Int}(W:j = -1)(ha:PV X a f):PV X (.FormattedValue a j none pos) (YZ f):=by
 subst W;intro pins s σ H Q I M;obtain⟨H0,γ,d,rc,Y,q⟩:=M;obtain⟨y,e1,rfl⟩:=zy Y;obtain⟨d1,e0,e1⟩:=zc e1;refine FormattedValue_plain<|thn (ha pins s σ H (λv H'=>∃H0',Ext H0 H H0' H'/\Rep X.K H0' d1 v) I ⟨H0,γ,d1,rc,e0,λv H' H0' x r=>⟨H0',x,r⟩⟩) λv s1 M=>?_;obtain⟨x,H1,O,B,R,x1,U⟩:=M;cases d1 with
 | int i=>
  have e1:(if inR i=true then some (qM i)else none)=some y:=e1;by_cases hi:inR i=true
  ·rw[GY hi]at e1;cases e1
   rw[show x = .int i from U]at B;obtain⟨t,rfl⟩:=B;exact formatField_int_small (XH hi) ⟨.str _,H1,(O.tok _).tok _,⟨_,rfl⟩,q _ H1 R x1 rfl⟩
  ·rw[MQ hi]at e1;cases e1
 | str z=>
  have e1:(if zA z=true then some z else none)=some y:=e1;by_cases hi:zA z=true
  ·rw[GY hi]at e1;cases e1
   have e3:x = .str _:=U;rw[e3]at B;obtain⟨t,rfl⟩:=B;exact formatField_str (λt' tk=>⟨.str _,H1,(O.kept (h':=s1.heap) (t':=tk) λb o e=>e),⟨_,rfl⟩,q _ H1 R x1 rfl⟩)<|kT hi
  ·rw[MQ hi]at e1;cases e1
 | _=>cases e1
theorem gP(x y:Str):(x++y).length=x.length+y.length:=by
 show(x++y).cps.size=x.cps.size+y.cps.size;have:=congrArg Fw (show(x++y).cps.toList=x.cps.toList++y.cps.toList from by
  show(x.cps++y.cps).toList=_;simp)
 simpa using this
noncomputable def PJ(X:Cx)(es:List Expr)(fs:List (CO D)):Prop:=∀(out:Str) (m:Nat) pins s σ H Q,out.length<=1000*m->m+fs.length<=10->Inv X pins σ H s->(∃H0 γ d,RC X.K H0 H σ γ/\Xc fs out γ=some d/\∀v H' H0',Ext H0 H H0' H'->Rep X.K H0' d v->Q v H')->
 wpAny (model X.prog X.w) X.A (joinParts out<|evalEach es X.env) (EP X pins σ Q) X.xe s
theorem Yv:PJ X [] []:=λout m pins s σ H Q z hm I B=>by obtain⟨H0,γ,d,rc,M,q⟩:=B;cases M;exact joinParts_nilE<|joinParts_nil ⟨.str out,H,I.tok _,⟨_,rfl⟩,q _ H H0 (Ext.refl rc.sub) rfl⟩<|AE z<|AE (Nat.mul_le_mul_left 1000<|show m<=10 by simp at hm;omega) ⋯
theorem xy{es:List Expr}{fs:List (CO D)}(h1:PV X e f)(h2:PJ X es fs):PJ X (e::es) (f::fs):=λout m pins s σ H Q ho hm I M=>by
 obtain⟨H0,γ,d,rc,B,q⟩:=M;have B:((f γ).bind gZ).bind (λx=>Xc fs (out++x) γ)=some d:=B;obtain⟨y,e1,B⟩:=zc B;obtain⟨d1,U,e1⟩:=zc e1;have hd:d1 = .str y/\zA y=true:=by
  cases d1 with
  | str z=>
   have e1:(if zA z=true then some z else none)=some y:=e1;by_cases hi:zA z=true
   ·rw[GY hi]at e1;cases e1;exact⟨rfl,hi⟩
   ·rw[MQ hi]at e1;cases e1
  | _=>cases e1
 obtain⟨rfl,W⟩:=hd;have hl:=kU W;have Y:m+1+fs.length<=10:=by simp at hm;omega
 have O:(out++y).length<=1000*(m+1):=by rw[gP];omega
 refine joinParts_consE<|joinParts_cons<|thn (h1 pins s σ H (λv H'=>∃H0',Ext H0 H H0' H'/\Rep X.K H0' (.str y) v) I ⟨H0,γ,_,rc,U,λv H' H0' x r=>⟨H0',x,r⟩⟩) λv s1 M=>?_;obtain⟨x,H1,I1,R,a1,x1,rp⟩:=M;rw[show x = .str y from rp]at R;obtain⟨t,rfl⟩:=R;exact⟨AE O<|AE (Nat.mul_le_mul_left 1000<|show m+1<=10 by omega) ⋯,h2 (out++y) (m+1) pins s1 σ H1 Q O Y I1 ⟨a1,γ,d,rc.ext x1,B,λv H' H0' x2 r2=>q v H' H0' (x1.trans x2) r2⟩⟩
theorem JA{e1 e2:Expr}{es:List Expr}{fs:List (CO D)}(h:PJ X (e1::e2::es) fs):PV X (.JoinedStr (e1::e2::es) pos) (yG fs):=by
 intro pins s σ H Q I M;obtain⟨H0,γ,d,rc,z,q⟩:=M;unfold yG at z;by_cases B:fs.length<=10
 ·rw[GY B]at z
  exact JoinedStr_many<|h CK 0 pins s σ H Q (Ak _) ⋯ I ⟨H0,γ,d,rc,z,q⟩
 ·rw[MQ B]at z;cases z
theorem Yu{apos cpos:Pos}(U:PV X o f)(W:PV X e g)(Y:attributeBase o "split" X.env (eval o X.env)=eval o X.env:=by rfl)
 (a0:((backTo cpos<|starEach [e] X.env).all (λx=> !x.1) && (backToKw cpos<|keywordEach [] X.env).all (λx=>x.1.isSome) && decide ([e].length+([]:List Keyword).length+(if ([]:List Keyword).isEmpty then 0 else 1)<30))=true:=by rfl)
 (a1:(apos.endLine==cpos.line)=true:=by rfl) (R:starEach [e] X.env=[(false,eval e X.env)]:=by rfl):PO X (.Call (.Attribute o "split" apos) [e] [] cpos) (vH f g):=
 jz (bY ES PySem.F.slot_str_split PySem.F.type_str_split cg U (z9 W j1 R) Y a0 a1 R rfl) λσ H Q hZ=>by
  obtain⟨H0,γ,ds,rc,B,q⟩:=hZ;obtain⟨d1,e1,B⟩:=zc B;obtain⟨d2,e2,B⟩:=zc B;cases d1 with
  | str z=>
   cases d2 with
   | str y=>
    have B:(if z.length<=20000/\(y.length==0)=false then some ((Cf z y).map D.str)else none)=some ds:=B;by_cases I:z.length<=20000/\(y.length==0)=false
    ·rw[GY I]at B;cases B
     refine⟨H0,γ,_,rc,e1,λv H' H0' x r=>?_⟩;rw[show v = .str z from r];refine⟨rfl,H0',γ,_,rc.ext x,e2,λv2 H2 a5 M r2=>?_⟩;rw[show v2 = .str y from r2];refine⟨z,y,rfl,rfl,I.2,I.1,λl O=>?_⟩;exact q l _ _ a5 ((x.trans M).trans (Ext.hide M.sub O _)) (lO (x.trans M).s1 O) (js M.sub O) zM<|kz _
    ·rw[MQ I]at B;cases B
   | _=>cases B
  | _=>cases B
theorem aA{X:Cx}:Zy X (.type "int") (λxs H Q=>∃z n,xs=[.str z]/\Et z=some n/\z.length<=640/\Q (.int n) H):=by intro pins s σ H xs us Q I r h;obtain⟨z,n,rfl,hn,B,q⟩:=h;obtain⟨u,rfl,t,rfl⟩:=k6 r;exact PySem.W.KIN.call_text hn B ⟨.int n,H,I.tok _,⟨_,rfl⟩,q⟩
theorem Kw(h:SX X sc N L k)(c:ki sc "int" = true)(z:X.mg "int" = none)(O:PV X e f)(M:starEach [e] X.env=[(false,eval e X.env)]:=by rfl):PV X (.Call (.Name "int" p) [e] [] pos) (ZH f):=
 jz (yO aA (h.gl c).1 z EA (z9 O j1 M) ⋯ ⋯ M rfl) λσ H Q R=>by
  obtain⟨H0,γ,d,rc,B,q⟩:=R;obtain⟨d1,e1,B⟩:=zc B;refine⟨H0,γ,d1,rc,e1,λv H' H0' ext r=>?_⟩;cases d1 with
  | str w=>
   have B:(if w.length<=640 then (Et w).map D.int else none)=some d:=B;by_cases I:w.length<=640
   ·rw[GY I]at B
    obtain⟨n,hn,rfl⟩:=zy B;exact⟨w,n,by rw[show v = .str w from r],hn,I,q _ H' H0' ext rfl⟩
   ·rw[MQ I]at B;cases B
  | _=>cases B
theorem fE(ha:PV X a f)(I:PV X b g)(hm:behindInMarks .In b=false:=by with_unfolding_all rfl):PV X (.Compare a [.In] [b] pos) (V3 f g):=
 jz (JF WL ha I hm) λσ H Q M=>by
  obtain⟨H0,γ,d,rc,B,q⟩:=M;obtain⟨d1,e1,B⟩:=zc B;obtain⟨O,e2,B⟩:=zc B;cases d1 with
  | str z=>
   cases O with
   | str y=>
    cases B;exact⟨H0,γ,_,rc,e1,λv H' H0' x r=>⟨H0',γ,_,rc.ext x,e2,λY H2 R U W=>⟨z,y,r,W,q _ H2 R (x.trans U) rfl⟩⟩⟩
   | _=>cases B
  | _=>cases B
end
theorem Kh{xs:List V}{us:List Value}(h:Vals xs us) : ∀l:List Nat,Vals (l.filterMap λi=>xs[i]?) (l.filterMap λi=>us[i]?)
 | []=> .nil
 | i::l=>by
  by_cases hi:i<xs.length
  ·obtain⟨u,e,r⟩:=h.get (Ae hi)
   rw[Bw (Ae hi),Bw e];exact .cons r<|Kh h l
  ·have z : ¬i<us.length:=by rw[<- h.length];exact hi
   rw[BQ (BE ⋯),BQ (BE ⋯)];exact Kh h l
theorem Ku{K:uW}{H:Hp}{ds:List D}{xs:List V}(h:Reps K H ds xs) : ∀l:List Nat,Reps K H (l.filterMap λi=>ds[i]?) (l.filterMap λi=>xs[i]?)
 | []=>Reps.nil
 | i::l=>by
  by_cases hi:i<ds.length
  ·obtain⟨u,e,r⟩:=h.get (Ae hi)
   rw[Bw (Ae hi),Bw e];exact Reps.cons r<|Ku h l
  ·have z : ¬i<xs.length:=by rw[h.length];exact hi
   rw[BQ (BE ⋯),BQ (BE ⋯)];exact Ku h l
noncomputable def tH(K:uW)(te:TE)(tl th B:TO):TE:=λσ H Q=>te σ H λx H1=>tl σ H1 λl H2=>th σ H2 λu I=>B σ I λk z=>k≠some 0/\∃a xs,x = .ref a/\SqL K z a xs/\(xI xs l u k).length<=sizeLine/\∀p,z p=none->Q (.ref p) (upd z p<|.lst<|xI xs l u k)
section
variable{X:Cx}{a e:Expr}{p2 pos:Pos}
theorem WI{lo hi:Option Expr}{st:Expr}{te:TE}{tl th O:TO}(U:PE X e te)(W:L2.PO X lo tl)(Y:L2.PO X hi th)(hk:L2.PO X (some st) O):PE X (.Subscript e (.Slice lo hi (some st) p2) pos) (tH X.K te tl th O):=by
 intro pins s σ H Q I h;refine Subscript_ (thn (U pins s σ H _ I h) λv s1 hZ=>?_);obtain⟨x,H1,I1,r1,q1⟩:=hZ;refine wpAny_Slice (thn (W pins s1 σ H1 _ I1 q1) λvl s2 ⟨l,H2,I2,pl,q2⟩=>thn (Y pins s2 σ H2 _ I2 q2) λvu s3 ⟨u,H3,I3,pu,q3⟩=>thn (hk pins s3 σ H3 _ I3 q3) λvk z ⟨kk,H4,I4,pk,q4⟩=>?_);obtain⟨hz,b,xs,rfl,hx,b8,q⟩:=q4;cases r1;have B:Inv X pins σ H4 {z with heap:=z.heap.push {cls:= .type "slice",data:= .fields #[vl,vu,vk]}}:=I4.kept (t':=z.toks) λb ob q=>uY _ q;obtain⟨M,r,R,be⟩:=B.list hx;have hn:=r.length;refine tail_any (ops:=[.ref b,.ref z.heap.objs.size]) (T:="list") R.isList.typeIs slot_list_getitem.lookup ?_ (by with_unfolding_all rfl);refine wpAny_getItem_list_slice R.isList (Heap.IsSliceOf.new ..) pl pu pk hz ?_ (by rw[An];omega);have ep:slicePick M.toArray l u kk=(xI M l u kk).toArray:=by unfold slicePick xI Kz;simp
 rw[ep];have hv:Vals (xI xs l u kk) (xI M l u kk):=by unfold xI;rw[hn];exact Kh r _
 exact⟨.ref _,_,B.lnew (t':=z.toks) hv b8,rfl,q _<|B.hok.fresh<|Ak _⟩
theorem dB{lo hi:Option Expr}{st:Expr}{fq:CO (Sk×List D)}{R U fs:CO (Option Int)}(ha:PQ X a fq)(hl:L2.PO X lo (tB X.K R))(hh:L2.PO X hi (tB X.K U))(hk:L2.PO X (some st) (tB X.K fs)):PO X (.Subscript a (.Slice lo hi (some st) p2) pos) (VZ fq R U fs):=
 jz (WI ha hl hh hk) λσ H Q hZ=>by
  obtain⟨H0,γ,ds,rc,z,q⟩:=hZ;obtain⟨⟨kk,es⟩,e1,z⟩:=zc z;obtain⟨l,e2,z⟩:=zc z;obtain⟨u,e3,z⟩:=zc z;obtain⟨c,e4,z⟩:=zc z;cases kk with
  | T=>cases z
  | L=>
   have z:(if c=some 0 then none else if (xI es l u c).length<=lim then some (xI es l u c)else none)=some ds:=z;by_cases M:c=some 0
   ·rw[GY M]at z;cases z
   rw[MQ M]at z;by_cases hn:(xI es l u c).length<=lim
   ·rw[GY hn]at z;cases z
    refine⟨H0,γ,.L,es,rc,e1,λb xs H' H0' x h1 h2 r=>⟨H0',γ,l,rc.ext x,e2,λH2 a7 B=>⟨a7,γ,u,(rc.ext x).ext B,e3,λH3 a8 x3=>⟨a8,γ,c,((rc.ext x).ext B).ext x3,e4,λH4 W I=>?_⟩⟩⟩⟩;have Y:=x.trans<|B.trans<|x3.trans I;have rp:Reps X.K W (xI es l u c) (xI xs l u c):=by have r':=r.mono (B.trans<|x3.trans I).s0;unfold xI;rw[r.length];exact Ku r' _
    refine⟨M,b,xs,rfl,(B.trans<|x3.trans I).s1.seq h1,AE (by rw[rp.length];exact hn) ⋯,λpp O=>?_⟩;exact q pp _ _ W (Y.trans<|Ext.hide I.sub O _) (XD Y.s1 O) (js I.sub O) zM rp
   ·rw[MQ hn]at z;cases z
end
theorem sA{K:uW}{mg:GJ}{h:Heap}{x z:Str}{t:Tok}(B:K.In h)(G:h.Ns mainGlobals mg)(a:Ej K mainGlobals x=some (some (.str z t))):GL K mg x (.str z):=
 ⟨_,.str z,EJ B G a,⟨t,rfl⟩,λ_=>(show V.str z = .str z from rfl)⟩
noncomputable def nmE(e:Expr):Str:=match e with | .Name x _=>x | _=>""
noncomputable def tgN(e:Expr):List Str:=match e with | .Tuple es _ _=>es.map nmE | e=>[nmE e]
noncomputable def frN(N:List Str)(fs:List Nat):List (Str×Nat):=fs.map λi=>(N.getD i "",i)
theorem JU(N:List Str)(fs:List Nat):(frN N fs).map (·.2)=fs:=by unfold frN;rw[Bj];exact List.map_id fs
noncomputable def dN(e:Expr):Bool:=match e with | .Name _ _=>true | _=>false
theorem Vd{e:Expr}(h:dN e=true) : ∃p,e = .Name (nmE e) p:=by
 unfold dN at h;split at h
 ·exact⟨_,rfl⟩
 ·cases h
noncomputable def rV(sc:Scope)(N L:List Str)(is:List Nat)(es:List Expr):Bool:=match is with
 | [i,j]=>(match es with | [a,b]=>dN a && (k7 sc N L i (nmE a) && (dN b && k7 sc N L j (nmE b))) | _=>false)
 | [i,j,l]=>(match es with | [a,b,c]=>dN a && (k7 sc N L i (nmE a) && (dN b && (k7 sc N L j (nmE b) && (dN c && k7 sc N L l (nmE c))))) | _=>false)
 | _=>false
noncomputable def tgB(sc:Scope)(N L:List Str)(e:Expr)(T:Tg):Bool:=match T with
 | .nm i=>dN e && k7 sc N L i (nmE e)
 | .tp is=>(match e with | .Tuple es _ _=>rV sc N L is es | _=>false)
theorem ik{X:Cx}{sc:Scope}{N L:List Str}{k:Nat}(h:SX X sc N L k){e:Expr}{T:Tg}(c:tgB sc N L e T=true):PG X e (gOf X.K T):=by
 cases T with
 | nm i=>
  have c:=Bool.and_eq_true_iff.mp c;obtain⟨p,q⟩:=Vd c.1;rw[q];exact h.tgt _ c.2
 | tp is=>
  unfold tgB at c;dsimp only at c;split at c
  ·next es j pos=>
   unfold rV at c;split at c
   ·split at c
    ·simp only[Au]at c
     obtain⟨z,B,b1,b2⟩:=c;obtain⟨p,q⟩:=Vd z;obtain⟨p',I⟩:=Vd b1;rw[q,I];exact h.tgts<|yN (h.tgt _ B)<|yN (h.tgt _ b2) WE
    ·cases c
   ·split at c
    ·simp only[Au]at c
     obtain⟨z,B,b1,b2,M,O⟩:=c;obtain⟨p,q⟩:=Vd z;obtain⟨p',I⟩:=Vd b1;obtain⟨p2,R⟩:=Vd M;rw[q,I,R];exact h.tgts<|yN (h.tgt _ B)<|yN (h.tgt _ b2)<|yN (h.tgt _ O) WE
    ·cases c
   ·cases c
  ·cases c
noncomputable def cB(sc scope:Scope)(N:List Str)(tg:Expr)(T:Tg)(n:Nat)(fs:List Nat):Bool:=
 K3 sc scope N (frN N fs) && (oJ (tgN tg) scope (frN N fs) && (decide (∀i∈T.idx,i<(tgN tg).length) && (decide ((tgN tg).length=n) && tgB (xR scope sc) (tgN tg++(frN N fs).map (·.1)) (tgN tg) tg T)))
abbrev cxA(X:Cx)(scope:Scope)(N:List Str)(tg:Expr)(fs:List Nat):=jr X scope (tgN tg++(frN N fs).map (·.1))
abbrev SA(X:Cx)(sc scope:Scope)(N:List Str)(tg:Expr)(fs:List Nat)(k:Nat)(fp:List Addr)(s2:Shared)(H2:Hp):Prop:=SX (cxA X scope N tg fs fp s2 H2) (xR scope sc) (tgN tg++(frN N fs).map (·.1)) (tgN tg) k
section
variable{X:Cx}{sc scope:Scope}{N L:List Str}{k n i:Nat}{fs:List Nat}{T:Tg}{e elt tg iter cnd:Expr}{es:List Expr}{pos p py spos cpos:Pos}{x y:Str}{f g:CO D}{fo:CO (List D)}{src gl:CO (List D)}{kk:CO Bool}
theorem cA(h:SX X sc N L k)(c:cB sc scope N tg T n fs=true):CompOk X scope (frN N fs)/\(∀i∈T.idx,i<(tgN tg).length)/\(tgN tg).length=n/\(∀fp s2 H2,SA X sc scope N tg fs k fp s2 H2)/\∀fp s2 H2,PG (cxA X scope N tg fs fp s2 H2) tg (gOf X.K T):=by unfold cB at c;simp only[Au,decide_eq_true_eq]at c;obtain⟨z,B,I,M,c5⟩:=c;have s : ∀fp s2 H2,SA X sc scope N tg fs k fp s2 H2:=λfp s2 H2=>h.comp B;exact⟨h.compOk z,I,M,s,λfp s2 H2=>ik (s fp s2 H2) c5⟩
theorem jI(h:SX X sc N L k)(hi:PIC X tg iter src)(z : ∀fp s2 H2,SA X sc scope N tg fs k fp s2 H2->PV (cxA X scope N tg fs fp s2 H2) elt f)(c:cB sc scope N tg T n fs=true:=by decide +kernel)(B : ∀x,foldedSetIterable iter X.env x=pure x:=by intro _;rfl) :
 PO X (.ListComp elt [⟨tg,iter,[],0⟩] scope pos) (zC src T n fs zQ f):=by
 obtain⟨a,b,d,s,q⟩:=cA h c;have r:=fM (pos:=pos) h.calm a b hi q (λfp s2 H2=>z fp s2 H2<|s fp s2 H2) B;rw[d,JU]at r;exact r
theorem ph(h:SX X sc N L k)(hi:PIC X tg iter src)(z : ∀fp s2 H2,SA X sc scope N tg fs k fp s2 H2->PTD (cxA X scope N tg fs fp s2 H2) cnd kk)(B : ∀fp s2 H2,SA X sc scope N tg fs k fp s2 H2->PV (cxA X scope N tg fs fp s2 H2) elt f)(c:cB sc scope N tg T n fs=true:=by decide +kernel)(I : ∀x,foldedSetIterable iter X.env x=pure x:=by intro _;rfl) :
 PO X (.ListComp elt [⟨tg,iter,[cnd],0⟩] scope pos) (zC src T n fs kk f):=by
 obtain⟨a,b,d,s,q⟩:=cA h c;have r:=Wy (pos:=pos) h.calm a b hi q (λfp s2 H2=>z fp s2 H2<|s fp s2 H2) (λfp s2 H2=>B fp s2 H2<|s fp s2 H2) I;rw[d,JU]at r;exact r
theorem wa(h:SX X sc N L k)(hi:PIC X tg iter src)(z : ∀fp s2 H2,SA X sc scope N tg fs k fp s2 H2->PV (cxA X scope N tg fs fp s2 H2) elt f)(ct:k7 sc N L i y=true:=by decide +kernel)(c:cB sc scope N tg T n fs=true:=by decide +kernel)(B : ∀x,foldedSetIterable iter X.env x=pure x:=by intro _;rfl) :
 PS X (.Assign [.Name y py] (.ListComp elt [⟨tg,iter,[],0⟩] scope cpos) spos) (aW (tO X.K<|zC src T n fs zQ f)<|yX i):=by
 obtain⟨a,b,d,s,q⟩:=cA h c;have r:=psc (cpos:=cpos) (spos:=spos) (py:=py) i h ct h.calm a b hi q (λfp s2 H2=>z fp s2 H2<|s fp s2 H2) B;rw[d,JU]at r;exact r
theorem iW(h:SX X sc N L k)(hi:PIC X tg iter src)(z : ∀fp s2 H2,SA X sc scope N tg fs k fp s2 H2->PO (cxA X scope N tg fs fp s2 H2) elt fo)(ct:k7 sc N L i y=true:=by decide +kernel)(c:cB sc scope N tg T n fs=true:=by decide +kernel)(B : ∀x,foldedSetIterable iter X.env x=pure x:=by intro _;rfl) :
 PSD X (.Assign [.Name y py] (.ListComp elt [⟨tg,iter,[],0⟩] scope cpos) spos) (V0 i<|Xd src T n fs fo):=by
 obtain⟨a,b,d,s,q⟩:=cA h c;have r:=bN (cpos:=cpos) (spos:=spos) (py:=py) i h ct h.calm a b hi q (λfp s2 H2=>z fp s2 H2<|s fp s2 H2) B;rw[d,JU]at r;exact r
theorem zr(h:SX X sc N L k)(c:QR sc N i x=true:=by decide +kernel):PV X (.Name x pos) (zd i):=iR i<|h.var c
theorem zJ(h:SX X sc N L k)(c:QR sc N i x=true:=by decide +kernel):PQ X (.Name x pos) (zg i):=iY i<|h.var c
theorem jT(h:SX X sc N L k)(z:PV X e f)(c:k7 sc N L i x=true:=by decide +kernel)(B:swapsWith e (some (.Name x py)) pos.line X.env=pure false:=by rfl):PSD X (.Assign [.Name x py] e pos) (jM i f):=Wt i<|h.set i c z B
theorem Xt(h:SX X sc N L k)(z:PO X e fo)(c:k7 sc N L i x=true:=by decide +kernel)(B:swapsWith e (some (.Name x py)) pos.line X.env=pure false:=by rfl):PSD X (.Assign [.Name x py] e pos) (v9 i fo):=Ys i<|h.set i c z B
theorem yL{body:List Stmt}{F:CO Fl}(z:X.xe=λ_ _=>False)(h:SX X sc N L k)(hi:PIF X tg iter src)(B:aU X body F)(c:tgB sc N L tg T=true:=by decide +kernel)(I : ∀x,foldedSetIterable iter X.env x=pure x:=by intro _;rfl):PSD X (.For tg iter body [] pos) (Ke src T F):=fJ (WK z) h.calm hi (ik h c) B I
variable{j:Nat}{F:List D->Option Res}
theorem zF(z:FnD X.prog X.w X.K X.mg X.base j x n F)(h:SX X sc N L k)(ha:PAn X (e::es) n gl)(B:j<=k:=by decide)(c:ki sc x=true:=by decide +kernel)
 (I:starEach (e::es) X.env=(false,eval e X.env)::starEach es X.env:=by rfl) (M:(backTo pos<|starEach es X.env).any (·.1)=false:=by rfl):PV X (.Call (.Name x p) (e::es) [] pos) (zt F gl):=pe z B h c ha I M
theorem bR(z:FnD X.prog X.w X.K X.mg X.base j x n F)(h:SX X sc N L k)(ha:PAn X (e::es) n gl)(B:j<=k:=by decide)(c:ki sc x=true:=by decide +kernel)
 (I:starEach (e::es) X.env=(false,eval e X.env)::starEach es X.env:=by rfl) (M:(backTo pos<|starEach es X.env).any (·.1)=false:=by rfl):PO X (.Call (.Name x p) (e::es) [] pos) (kf F gl):=pj z B h c ha I M
end
noncomputable def xw:=zY 1<|zN (sIf (yb (ji<|sB<|V2<|zd 0)<|ji<|sB<|yH dLe dLe (zm<|.int 1) (vI<|zg 0)<|zm<|.int 6) (jH<|zm<|.bl false) jo)<|zN (sIf (ji<|sB<|Kp<|zX<|zC (zP<|zg 0) (.nm 0) 1 [] zQ (Vq (zt jQ<|zb (zd 0) zz)<|zu dGe (zd 0)<|zm<|.int 0)) (jH<|zm<|.bl false) jo)<|jH<|zu dLe (gW<|zg 0)<|zm<|.int 30
noncomputable def xi:=zY 1<|zN (sIf (ji<|sB<|zt xw<|zb (zd 0) zz) qD jo)<|jH<|zG<|zg 0
noncomputable def xN:=zY 6 (zN (sIf (yb (ji (sB (zt jL (zb (zd 3) (zb (zm (.int 2)) zz))))) (sB (wU (sIx (zg 3) (zm (.int 0))) (zT (zm (.tup [.str "r",.str "l"])))))) qD jo) (zN (jM 4 (sIx (zg 3) (zm (.int 0)))) (zN (jM 5 (zt k4 (zb (zd 0) (zb (sIx (zg 1) (zt xu (zb (zd 2) (zb (zd 4) zz)))) (zb (sIx (zg 1) (zt j7 (zb (zd 2) (zb (zd 4) zz)))) (zb (sIx (zg 3) (zm (.int 1))) zz)))))) (jH (xj (zb (zd 4) (zb (zd 5) zz)))))))
noncomputable def xr:=zY 1 (jH (ZG (zm (.str "/")) (zX (zC (zP (zT (sIx (zg 0) (zm (.int 2))))) (.nm 0) 1 [] zQ (ZG (zm (.str "")) (zX (zC (zP (zg 0)) (.nm 0) 1 [] zQ (vj (zd 0)))))))))
noncomputable def qJ:=zY 2 (zN (jM 1 (zt xr (zb (sIx (zg 0) (zm (.int 1))) zz))) (jH (fw (sB (zu dEq (sIx (zg 0) (zm (.int 0))) (zm (.str "r")))) (yG [zm (.str "-"),YZ (zd 1),zm (.str ">")]) (yG [zm (.str "<"),YZ (zd 1),zm (.str "-")]))))
noncomputable def qU:=zY 5 (zN (jM 1 (sIx (zg 0) (zm (.int 0)))) (zN (v9 2 (yn (zb (yG [YZ (zd 1),zm (.str ":")]) (zb (vj (sIx (zT (sIx (zg 0) (zm (.int 1)))) (zm (.int 0)))) zz)))) (zN (Ke (QK (sIx (zg 0) (zm (.int 2))) (fu (sIx (zg 0) (zm (.int 1))) (sBd (zm (.int 1))) wV)) (.tp [3,4]) (zN (j8 2 (zt qJ (zb (zd 3) zz))) (j8 2 (vj (zd 4))))) (jH (ZG (zm (.str " ")) (zg 2))))))
noncomputable def qj:=zY 1 (jH (iE (zd 0) (zX (zC (zP (zT (zm (.tup [.int 2,.int 3,.int 5,.int 7])))) (.nm 0) 1 [] zQ (yG [YZ (zd 0),zm (.str ":")])))))
noncomputable def qi:=zY 1<|jH<|iE (zd 0)<|zX<|zC (zK<|zu jO (zm<|.int 30)<|zm<|.int 1) (.nm 0) 1 [] zQ (vj<|zd 0)
noncomputable def qk:=zY 1 (zN (sIf (sB (wU (Y0 (Ym (zd 0) wV (sBd (zm (.int 1)))) (Ym (zd 0) (sBd (Kn (zm (.int 1)))) wV)) (zT (xj (zb (zm (.str "->")) (zb (zm (.str "<-")) zz)))))) (jH (zm (.bl false))) jo) (jH (Kp (zX (zC (wR (Ym (zd 0) (sBd (zm (.int 1))) (sBd (Kn (zm (.int 1)))))) (.nm 0) 1 [] zQ (V3 (zd 0) (zm (.str "0123456789/"))))))))
noncomputable def qx:=zY 2<|zN (sIf (sB<|zu dEq (zd 0)<|zm<|.int 0) (jH<|zt qj<|zb (zd 1) zz) jo)<|zN (sIf (sB<|zu dEq (zu qm (zd 0)<|zm<|.int 2)<|zm<|.int 1) (jH<|zt qi<|zb (zd 1) zz) jo)<|jH<|zt qk<|zb (zd 1) zz
noncomputable def ka:=zY 3<|zN (Ke (vJ<|zd 0) (.tp [1,2])<|sIf (ji<|sB<|zt qx<|zb (zd 1)<|zb (zd 2) zz) qD jo)<|sIf (sB<|zu dEq (zu qm (vI<|zg 0)<|zm<|.int 2)<|zm<|.int 1) qD jo
noncomputable def qI:=zY 1<|Xb<|zC (wR<|zd 0) (.nm 0) 1 [] zQ (ZH<|zd 0)
noncomputable def qa:=zY 2 (zN (sIf (V4 (sB (zu dEq (zd 0) (zm (.str "")))) (sB (zu dEq (zd 1) (zm (.int 0))))) (Xb (yn zz)) jo) (Xb (zC (zP (zX (vH (zd 0) (zm (.str "/"))))) (.nm 0) 1 [] zQ (qE (kf qI (zb (zd 0) zz))))))
noncomputable def qy:=zY 2<|jH<|Kp<|zX<|zC (zP<|zg 1) (.nm 0) 1 [0] zQ (zu dLt (zd 0)<|zd 1)
noncomputable def jX:=zY 6 (zN (jM 4 (fw (sB (Km (zd 3) (zm (.str "-")))) (zm (.str "r")) (zm (.str "l")))) (zN (jM 5 (qE (kf qa (zb (Ym (zd 3) (sBd (zm (.int 1))) (sBd (Kn (zm (.int 1))))) (zb (sIx (zg 1) (zt xu (zb (zd 2) (zb (zd 4) zz)))) zz))))) (zN (sIf (ji (sB (Kp (zX (zC (zP (zg 5)) (.nm 0) 1 [0] zQ (zt qy (zb (zd 1) (zb (zd 0) zz)))))))) qD jo) (jH (zt xN (zb (zd 0) (zb (zd 1) (zb (zd 2) (zb (xj (zb (zd 4) (zb (zd 5) zz))) zz)))))))))
noncomputable def qV:=zY 5 (zN (jM 1 (qE (vH (zd 0) (zm (.str " "))))) (zN (Ko (zt ka (zb (zd 1) zz))) (zN (jM 2 (ZH (Ym (sIx (zg 1) (zm (.int 0))) wV (sBd (Kn (zm (.int 1))))))) (zN (jM 3 (zt xi (zb (qE (zC (zP (zX (VZ (zg 1) (sBd (zm (.int 1))) wV (sBd (zm (.int 2)))))) (.nm 0) 1 [] zQ (ZH (zd 0)))) zz))) (zN (jM 4 (qE (zC (vJ (qE (VZ (zg 1) (sBd (zm (.int 2))) wV (sBd (zm (.int 2)))))) (.tp [0,1]) 2 [2,3] zQ (zt jX (zb (zd 2) (zb (zd 3) (zb (zd 0) (zb (zd 1) zz)))))))) (jH (xj (zb (zd 2) (zb (zd 3) (zb (zG (zg 4)) zz))))))))))
noncomputable def Ji:=zY 1 (zN (sIf (yb (ji (sB (sIs .str (zd 0)))) (sB (zu dGe (vm (zd 0)) (zm (.int 6))))) (jH (zm (.bl false))) jo) (jH (Kp (zX (zC (wR (zd 0)) (.nm 0) 1 [] zQ (iE (zd 0) (zT (zm (.tup [.str "r",.str "l"])))))))))
noncomputable def vW:=zY 2<|zN (sIf (yb (ji<|sB<|zt jL<|zb (zd 1)<|zb (zm<|.int 2) zz)<|yb (ji<|sB<|zt j6<|zb (zd 0)<|zb (sIx (zg 1)<|zm<|.int 0) zz)<|ji<|sB<|zt j6<|zb (zd 0)<|zb (sIx (zg 1)<|zm<|.int 1) zz) (jH<|zm<|.bl false) jo)<|jH<|zu dLe (sIx (zg 1)<|zm<|.int 0)<|sIx (zg 1)<|zm<|.int 1
noncomputable def aV:=zY 2<|Xb<|zC (vJ<|zd 0) (.tp [0,1]) 2 [1] (sB<|yH dLe dLe (sIx (zg 1)<|zm<|.int 0) (zd 2)<|sIx (zg 1)<|zm<|.int 1) (zd 0)
noncomputable def jG:=zY 5<|zN (jM 3<|qE<|zC (QK (sIx (zg 0)<|zm<|.int 2)<|sIx (zg 2)<|zm<|.int 2) (.tp [0,1]) 2 [] zQ (zu jO (zd 0)<|zd 1))<|zN (jM 4<|qE<|zC (zP<|zT<|sIx (zg 1)<|zm<|.int 2) (.nm 0) 1 [0] zQ (zu jO (zu qT (xj<|zb (zm<|.int 0) zz)<|sIx (zg 1)<|zm<|.int 1)<|zd 0))<|jH<|xj<|zb (zu jO (sIx (zg 0)<|zm<|.int 0)<|sIx (zg 1)<|zm<|.int 0)<|zb (zu jO (sIx (zg 0)<|zm<|.int 1)<|sIx (zg 1)<|zm<|.int 1)<|zb (zG<|zT<|qE<|fB (zg 3)<|zg 4) zz
noncomputable def qH:=zY 2<|jH<|zt qA<|zb (sIx (zg 0)<|zm<|.int 0)<|zb (sIx (zg 1)<|zm<|.int 1) zz
noncomputable def qC:=zY 1<|sIf (sB<|zu dGt (gW<|zg 0)<|zm<|.int 30) qD jo
noncomputable def jF:=zY 3<|zN (jM 2<|zG<|zX<|zC (QK (sIx (zg 0)<|zm<|.int 1)<|sIx (zg 1)<|zm<|.int 1) (.tp [0,1]) 2 [] zQ (zu jO (zd 0)<|zd 1))<|zN (Ko<|zt qC<|zb (zd 2) zz)<|V1 2
noncomputable def wF:=zY 5<|zN (jM 3<|zt jF<|zb (zd 0)<|zb (zd 1) zz)<|zN (jM 4<|qE<|zC (bC (sIx (zg 0)<|zm<|.int 2) (sIx (zg 1)<|zm<|.int 2)<|zd 2) (.tp [0,1,2]) 3 [] zQ (xj<|zb (sIx (zg 0)<|zm<|.int 0)<|zb (zt jG<|zb (sIx (zg 0)<|zm<|.int 1)<|zb (sIx (zg 1)<|zm<|.int 1)<|zb (zd 2) zz) zz))<|jH<|xj<|zb (sIx (zg 0)<|zm<|.int 0)<|zb (zd 3)<|zb (zG<|zg 4) zz
noncomputable def jy:List D->Option Xn:=Kr 1 (xIf (sB (zu dGt (gW (zg 0)) (zm (.int 30)))) (ey "TooMany") xNo)
noncomputable def ja:List D->Option Xn:=Kr 3<|eh xNo (jM 2<|zG<|zX<|zC (QK (sIx (zg 0)<|zm<|.int 1)<|sIx (zg 1)<|zm<|.int 1) (.tp [0,1]) 2 [] zQ (zu jO (zd 0)<|zd 1))<|yx jy<|zb (zd 2) zz
noncomputable def J9:List D->Option Xn:=Kr 5<|yx ja<|zb (zd 0)<|zb (zd 1) zz
noncomputable def jC:=zY 2<|zN (Ko<|zt jR<|zb (zd 0)<|zb (zd 1) zz)<|jH<|zt wF<|zb (zd 0)<|zb (zd 1)<|zb (qE<|zC (QK (sIx (zg 0)<|zm<|.int 2)<|sIx (zg 1)<|zm<|.int 2) (.tp [0,1]) 2 [] zQ (zt qH<|zb (sIx (zg 0)<|zm<|.int 1)<|zb (sIx (zg 1)<|zm<|.int 1) zz)) zz
noncomputable def wD:List D->Option Xn:=Kr 2<|eh (yx qz<|zb (zd 0)<|zb (zd 1) zz) (Ko<|zt jR<|zb (zd 0)<|zb (zd 1) zz)<|yx J9<|zb (zd 0)<|zb (zd 1)<|zb (qE<|zC (QK (sIx (zg 0)<|zm<|.int 2)<|sIx (zg 1)<|zm<|.int 2) (.tp [0,1]) 2 [] zQ (zt qH<|zb (sIx (zg 0)<|zm<|.int 1)<|zb (sIx (zg 1)<|zm<|.int 1) zz)) zz
noncomputable def QQ:=(jM 6<|qE<|zC (zP<|zg 5) (.nm 0) 1 [1] zQ (zu jO (zd 0)<|zG<|zX<|zC (zK<|zd 1) (.nm 0) 1 [] zQ (zm<|.int 0)))
noncomputable def QP:=(jM 6<|qE<|fB (zg 6)<|zX<|zC (zK<|zd 1) (.nm 0) 1 [1,3] zQ (zG<|zX<|zC (zK<|zu jO (zd 2)<|zd 1) (.nm 0) 1 [0,2] zQ (ky<|zu dEq (zd 0)<|zu jO (zd 2)<|zd 1)))
noncomputable def Yc:=(j8 2<|xj<|zb (zu jO (zd 3)<|zd 1)<|zb (zu jO (zd 3)<|zd 1)<|zb (zG<|zg 6) zz)
noncomputable def qh:=zY 7<|zN (v9 2<|yn zz)<|zN (Ke (zP<|zT<|zd 0) (.tp [3,4,5])<|zN QQ<|zN QP Yc)<|V1 2
noncomputable def eO:=(jM 1<|sIx (zX<|yn<|zb (zm<|.int 2)<|zb (zm<|.int 3)<|zb (zm<|.int 5)<|zb (zm<|.int 7) zz)<|zu qm (zt zR<|zb (zd 0)<|zb (zm<|.int 0) zz)<|zm<|.int 4)
noncomputable def eM:=(jM 2<|zt k5<|zb (zt zR<|zb (zd 0)<|zb (zm<|.int 1) zz) zz)
noncomputable def eL:=(jM 3<|zt kO<|zb (zd 0)<|zb (zm<|.int 2)<|zb (zd 1)<|zb (zd 2)<|zb (zm<|.int 3) zz)
noncomputable def eK:=(jM 4<|zt kO<|zb (zd 0)<|zb (zm<|.int 110)<|zb (zd 1)<|zb (zd 2)<|zb (zm<|.int 3) zz)
noncomputable def eJ:=(jM 5<|zt jC<|zb (zd 3)<|zb (zd 4) zz)
noncomputable def eI:=(jM 6<|zu qm (zt zR<|zb (zd 0)<|zb (zm<|.int 220) zz)<|zu jO (vm<|zd 2)<|zm<|.int 1)
noncomputable def eH:=(jM 7<|zu jO (zd 6)<|zu qm (zt zR<|zb (zd 0)<|zb (zm<|.int 221) zz)<|zu Vj (zu jO (vm<|zd 2)<|zm<|.int 1)<|zd 6)
noncomputable def eG:=(sIf (sB<|zu dNe (zt Kd<|zb (zd 5)<|zb (zd 6)<|zb (zd 7) zz)<|zt jC<|zb (zt Kd<|zb (zd 3)<|zb (zd 6)<|zb (zd 7) zz)<|zb (zt Kd<|zb (zd 4)<|zb (zd 6)<|zb (zd 7) zz) zz) (jH<|zm<|.bl false) jo)
noncomputable def eE:=(sIf (sB<|zu dNe (zt qY<|zb (zd 5) zz)<|zt jC<|zb (zt qY<|zb (zd 3) zz)<|zb (zt qY<|zb (zd 4) zz) zz) (jH<|zm<|.bl false) jo)
noncomputable def VE:=(sIf (sB<|zu dNe (zt qW<|zb (zd 5) zz)<|zt jC<|zb (zt qW<|zb (zd 3) zz)<|zb (zt qW<|zb (zd 4) zz) zz) (jH<|zm<|.bl false) jo)
noncomputable def Ye:=(sIf (V4 (sB<|zu dLt (vm<|zd 2)<|zm<|.int 4)<|sB<|zu dNe (zt jC<|zb (zd 5)<|zb (zd 3) zz)<|zt jC<|zb (zd 3)<|zb (zt jC<|zb (zd 4)<|zb (zd 3) zz) zz) (jH<|zm<|.bl false) jo)
noncomputable def VD:=(jM 8<|qE<|zC (zK<|zu jO (vm<|zd 2)<|zm<|.int 1) (.nm 0) 1 [0,1,3] zQ (qE<|kf qu<|zb (zd 1)<|zb (zu jO (zm<|.int 230)<|zu qT (zm<|.int 7)<|zd 0)<|zb (zd 2)<|zb (sIx (zT<|sIx (zg 3)<|zm<|.int 1)<|zd 0) zz))
noncomputable def VC:=(jM 9<|qE<|zC (zK<|vI<|zg 8) (.nm 0) 1 [4,8] zQ (qE<|kf qh<|zb (sIx (zg 2)<|zd 0)<|zb (sIx (zT<|sIx (zg 1)<|zm<|.int 1)<|zd 0) zz))
noncomputable def VB:=(jM 10<|zt xM<|zb (zd 3)<|zb (qE<|zC (zP<|zg 8) (.nm 0) 1 [] zQ (sIx (zg 0)<|zm<|.int 0))<|zb (qE<|zC (zP<|zg 8) (.nm 0) 1 [] zQ (sIx (zg 0)<|zm<|.int 1)) zz)
noncomputable def VA:=(sIf (sB<|zu dNe (zt jC<|zb (zd 10)<|zb (zd 4) zz)<|zt xM<|zb (zd 5)<|zb (qE<|zC (zP<|zg 9) (.nm 0) 1 [] zQ (sIx (zg 0)<|zm<|.int 0))<|zb (qE<|zC (zP<|zg 9) (.nm 0) 1 [] zQ (sIx (zg 0)<|zm<|.int 1)) zz) (jH<|zm<|.bl false) jo)
noncomputable def Vz:=(jH<|Kp<|zX<|zC (zP<|zX<|yn<|zb (zd 3)<|zb (zd 5)<|zb (zd 10)<|zb (zt Kd<|zb (zd 5)<|zb (zd 6)<|zb (zd 7) zz) zz) (.nm 0) 1 [] zQ (zt qc<|zb (zt qV<|zb (zt qU<|zb (zd 0) zz) zz)<|zb (zd 0) zz))
noncomputable def Zx:=zY 11<|zN eO<|zN eM<|zN eL<|zN eK<|zN eJ<|zN eI<|zN eH<|zN eG<|zN eE<|zN VE<|zN Ye<|zN VD<|zN VC<|zN VB<|zN VA Vz
abbrev dsq(k:Sk)(xs:List D):D:=match k with | .T=>D.tup xs | .L=>D.lst xs
@[simp] theorem sL(k xs):jf (dsq k xs)=some (k,xs):=by cases k<;>rfl
theorem Vp(k:Sk)(f:Nat->Int)(z:0<p)(hn:n<=lim) :
 yv [.int p,dsq k (zO n f)]=some (.val<|.tup<|zO n λi=>f i%p):=by
 simp[yv,zY,zU,jc,hn,xS];unfold zO;rw[zo (r:=λi=>D.int<|f i%p)]
 ·simp
 ·intro i hi
  refine zq rfl rfl ?_;simp[z]
theorem Ka(f:Nat->Int)(z:0<p)(hn:n<=lim) :
 yv [.int p,.lst (zO n f)]=some (.val<|.tup<|zO n λi=>f i%p):=Vp .L f z hn
theorem cZ(k:Sk)(f:GK)(g:Nat->Int)(B:0<p)(z:h<=lim)(hw:w<=lim)(I : ∀i j,i<h->j<w->0<=f i j/\f i j<100) :
 da [.int p,jm h w f,dsq k (zO w g)]=some (.val<|.tup<|zO h λi=>zS (λj=>f i j*g j) w%p):=by
 simp[da,zY,zU,jc,z,xS,jm,Aa];unfold jB;rw[zo (r:=λi=>D.int<|zS (λj=>f i j*g j) w)]
 ·simp
  rw[show(List.map (λi=>D.int<|zS (λj=>f i j*g j) w)<|uZ h)=zO h λi=>zS (λj=>f i j*g j) w from rfl,Ka _ B z];rfl
 ·intro i hi
  refine zq rfl rfl ?_;simp[jc,Jj,hw];rw[zo (r:=λj=>D.int<|f i j*g j)]
  ·simp
   rw[show(List.map (λj=>D.int<|f i j*g j)<|uZ w)=zO w λj=>f i j*g j from rfl,kx]
  ·intro j M
   refine zq rfl rfl ?_;have:=I i j (Aq.mp hi)<|Aq.mp M;simp[va (f i j) (g j) ⋯ ⋯]
theorem Kb(f:GK)(z:h<=lim)(hw:w<=lim):jZ [jm h w f]=some (.val<|jm w h λi j=>f j i):=by
 simp[jZ,zY,zU,jc,z,hw,xS,jm,Aa,zW,jk];rw[zE w λi=>(i:Int)];rw[zo (r:=λj=>D.tup<|zO h λi=>f i j)]
 ·simp
  rfl
 ·intro j B
  refine zq rfl rfl ?_;simp[jc,z,xS];unfold jB;rw[zo (r:=λi=>D.int<|f i j)]
  ·simp
   rfl
  ·intro i hi
   refine zq rfl rfl ?_;have h1:=Aq.mp B;simp[h1,cG _ h1]
theorem vU{p:Int}{h m w:Nat}(f g:GK)(z:0<p)(B:h<=lim)(hm:m<=lim)(hw:w<=lim)(I : ∀i j,i<m->j<w->0<=g i j/\g i j<100) :
 kN [.int p,jm h m f,jm m w g]=some (.val<|jm h w λi j=>zS (λk=>g k j*f i k) m%p):=by
 simp[kN,zY,zU,zW,Kb g hm hw];simp[jc,B,hm,hw,xS,jm];rw[show jB h m f=(uZ h).map λi=>D.tup (zO m<|f i)from rfl];rw[zo (r:=λi=>D.tup<|zO w λj=>zS (λk=>g k j*f i k) m%p)]
 ·simp
  rfl
 ·intro i hi
  refine zq rfl rfl ?_;have e:=cZ .T (λi j=>g j i) (f i) z hw hm<|λa b ha M=>I b a M ha;simp[jm]at e ⊢;rw[e];simp
theorem yI(d:D)(w:Nat):Aa w d=(uZ w).map λ_=>d:=by
 induction w with
 | zero=>rfl
 | succ n z=>rw[List.replicate_succ',z,Ek,CH];simp
theorem Ya(z:h<=lim)(hw:w<=lim):qA [.int h,.int w]=some (.val<|jm h w λ_ _=>0):=by simp[qA,zY,zU,zW,qT,z,hw];rw[yI,yI];rfl
noncomputable def vP(ns:List Int):D:= .lst (ns.map D.int)
mutual
theorem eqD_refl : ∀d:D,eqD d d=true
 | .non=>rfl
 | .bl b=>by simp[eqD]
 | .int i=>by simp[eqD]
 | .str x=>by simp[eqD]
 | .tup xs=>by simp only[eqD];exact eqDs_refl xs
 | .lst xs=>by simp only[eqD];exact eqDs_refl xs
 | .dic a b=>by simp only[eqD];rw[eqDs_refl a,eqDs_refl b];rfl
 | .dct a b=>by simp only[eqD];rw[eqDs_refl b];simp
theorem eqDs_refl : ∀ds:List D,eqDs ds ds=true
 | []=>rfl
 | d::ds=>by simp only[eqDs,eqD_refl d,eqDs_refl ds,Bool.and_self]
end
theorem yZ : ∀{l:List D} {n:Nat},(∀d∈l,deep d<=n)->deeps l<=n
 | [],n,_=>Bt n
 | d::ds,n,h=>by simp only[deeps];exact Nat.max_le.mpr ⟨h d Ai,yZ λe z=>h e<|Ah _ z⟩
theorem JW(n f):deep (.tup<|zO n f)<=1:=by
 simp only[deep];have:deeps (zO n f)<=0:=yZ λd hd=>by simp[zO]at hd;obtain⟨i,_,rfl⟩:=hd;exact Ak _
 omega
theorem cN(h w f):deep (.tup<|jB h w f)<=2:=by
 simp only[deep];have:deeps (jB h w f)<=1:=yZ λd hd=>by simp[jB]at hd;obtain⟨i,_,rfl⟩:=hd;exact JW _ _
 omega
theorem YF(h w f):deep (jm h w f)<=3:=by
 unfold jm;simp only[deep];have:deeps [D.int h,D.int w,D.tup (jB h w f)]<=2:=yZ λd hd=>by
  simp at hd;rcases hd with rfl | rfl | rfl
  ·exact Bt _
  ·exact Bt _
  ·exact cN _ _ _
 omega
theorem JM : ∀{l:List D},(∀d∈l,okS d=true)->okSs l=true
 | [],_=>rfl
 | d::ds,h=>by simp only[okSs,h d Ai,JM λe z=>h e<|Ah _ z,Bool.and_self]
theorem XC(h:deep d<=n)(hn:n<=20)(h2:okS d=true):okD d=true:=by unfold okD;rw[h2,Bool.and_true];exact decide_eq_true<|AE h hn
theorem KN(n f):okS (.tup<|zO n f)=true:=by
 simp only[okS];exact JM λd hd=>by simp[zO]at hd;obtain⟨i,_,rfl⟩:=hd;rfl
theorem gd(h w f):okS (.tup<|jB h w f)=true:=by
 simp only[okS];exact JM λd hd=>by simp[jB]at hd;obtain⟨i,_,rfl⟩:=hd;exact KN _ _
theorem gc(h w f):okS (jm h w f)=true:=by unfold jm;simp only[okS,okSs];have:=gd h w f;simp only[okS]at this;rw[this];rfl
theorem gh(n f):okD (.tup<|zO n f)=true:=XC (JW n f) ⋯<|KN n f
theorem gi(h w f):okD (jm h w f)=true:=XC (YF h w f) ⋯<|gc h w f
theorem YG(h:okD d=true):dEq d d=some (.bl true):=by unfold dEq;rw[GY ⟨h,h⟩,eqD_refl]
theorem xX{d:D}(h:okD d=true):dNe d d=some (.bl false):=by unfold dNe;rw[GY ⟨h,h⟩,eqD_refl];rfl
theorem ck(xs:List D)(n:Nat)(B:xs.length=n)(a2 : ∀i (h:i<n),∃z,xs[i]'(B ▸ h) = .int z)(be:n<=63)(k:Int)(hk:0<=k)(bf:k<100000) :
 ∃m,zR [.lst xs,.int k]=some (.val<|.int m)/\0<=m/\m<1000000007:=by
 have M:J0 k k=true:=va k k ⋯ ⋯;have O:J0 (k*k) 7919=true:=YK _ _ ⋯ ⋯;have R : ∀z,J0 z 48271=true:=λz=>YK _ _ ⋯ ⋯;have U : ∀z,J0 z 69621=true:=λz=>YK _ _ ⋯ ⋯;have I:mJ 10 9=true:=by decide
 have a3:mJ 10 30=true:=by decide
 by_cases h0:n=0
 ·subst h0
  simp[zR,zY,zU,zW,M,O,R,U,B];omega
 ·have hl:(0:Int)<n:=by omega
  have W:0<n:=by omega
  obtain⟨i,hi⟩:=Bz (BB k<|show(n:Int)≠0 by omega);have a5:i<n:=by have:=Br k hl;omega
  obtain⟨zi,ei⟩:=a2 i a5;have n0 : ¬((n:Int)=0):=by omega
  by_cases h1:n=1
  ·subst h1
   have Y:i=0:=by clear hi;omega
   subst Y;clear hi;simp[zR,zY,zU,zW,M,O,R,U,I,a3,B,ei];omega
  ·obtain⟨z0,e0⟩:=a2 0 W
   have Y:ixD n 0=some 0:=by have:=qL n 0;rw[GY W]at this;exact this
   have q1:(0:Int)<(n:Int) - 1:=by omega
   have q2:(1:Int)<(n:Int):=by omega
   have ao:1<n:=by omega
   have q3:(n:Int) - 1<1073741824:=by omega
   obtain⟨j,hj⟩:=Bz (BB k<|show(n:Int) - 1≠0 by omega);have a8:1+j<n:=by have:=Br k q1;omega
   obtain⟨zj,ej⟩:=a2 (1+j) a8;have ij:ixD n (1+(j:Int))=some (1+j):=by have:=qL n<|1+j;rw[GY a8]at this;rw[<- this];congr 1
   have hd:0<=k/((n:Int) - 1)/\k/((n:Int) - 1)<=k:=⟨Int.ediv_nonneg hk ⋯,Int.ediv_le_self _ hk⟩;obtain⟨t,ht⟩:=Bz hd.1;have b9:inR (t:Int)=true:=yV ⋯ ⋯;by_cases ha:z0%2=1
   ·simp[zR,zY,zU,zW,M,O,R,U,n0,q2,W,hi,a5,B,ei,e0,Y,q1,ao,q3,ha,hj,a8,ij,ej,ht,b9,I,a3,h0,jk]
    rw[zE t λi=>(i:Int)];have bb : ∀(m s:Nat) (v:Int) (c:Cell),∃v' c',vA (.nm 4) (jM 3<|zu JX (zd 3)<|zu gA (zm<|D.int 10)<|zm<|D.int 9) ((List.range' s m).map λ(i:Nat)=>D.int i) [.val (.lst xs),.val<|.int k,.val<|.int zi,.val<|.int v,c] =
     some (.next [.val (.lst xs),.val<|.int k,.val<|.int zi,.val<|.int v',c']):=by
     intro m
     induction m with
     | zero=>intro s v c;exact⟨v,c,rfl⟩
     | succ m ih=>
      intro s v c;rw[List.range'_succ,Ba,kZ];obtain⟨v',c',h⟩:=ih (s+1) (v/10 ^ 9)<|.val<|.int s;refine⟨v',c',?_⟩;rw[<- h];simp[I]
    obtain⟨v',c',h⟩:=bb t 0 zj .no;rw[<- List.range_eq_range']at h;rw[h];simp[I];omega
   ·simp[zR,zY,zU,zW,M,O,R,U,n0,q2,W,hi,a5,B,ei,e0,Y,q1,ao,q3,ha,I,a3,h0]
    omega
theorem lR(ns:List Int)(hn:ns.length<=63)(k:Int)(z:0<=k)(B:k<100000) : ∃m,zR [vP ns,.int k]=some (.val<|.int m)/\0<=m/\m<1000000007:=
 ck (ns.map D.int) ns.length ⋯ (λi hi=>⟨ns[i],by simp⟩) hn k z B
noncomputable def XG(ns:List Int)(k:Int):Int:=match zR [vP ns,.int k]with
 | some (.val<|.int m)=>m
 | _=>0
theorem Zk{ns:List Int}(hn:ns.length<=63){k:Int}(z:0<=k)(B:k<100000):zR [vP ns,.int k]=some (.val<|.int<|XG ns k)/\0<=XG ns k/\XG ns k<1000000007:=by
 obtain⟨m,h,h1,h2⟩:=lR ns hn k z B;have e:XG ns k=m:=by unfold XG;rw[h]
 rw[e];exact⟨h,h1,h2⟩
theorem yu(i:Int):jK [.int i]=some (.val<|.bl true):=by simp[jK,zY,zU,QL]
theorem qZ{α:Type}(l:List α):Jp (l.map λ_=>D.bl true)=some (l.map λ_=>true):=by
 induction l with
 | nil=>rfl
 | cons a l z=>simp[Jp,oB,z]
theorem vd{α:Type}(l:List α):((l.map λ_=>true).all id)=true:=by
 induction l with
 | nil=>rfl
 | cons a l z=>simp[z]
theorem yk{n:Nat}(f:Nat->Int)(hn:n<=lim):qw [.tup (zO n f),.tup (zO n f)]=some (.val<|.bl true):=by
 have e:=YG<|gh n f;simp[qw,zY,zU,zW,QL,hn,jc,Aa];rw[show zD (.nm 0) zQ (zt jK<|zb (zd 0) zz) [Cell.no] (zO n f)=some ((uZ n).map λ_=>D.bl true)from by
  rw[zE];refine zo _ _ λi hi=>zq rfl rfl ?_;simp[yu]]
 simp[qZ,e]
theorem uB(a b c:D):Vk [a,b,c] none (some 2)=[a,b]:=by simp[Vk,K2]
theorem QE{h w:Nat}(f:GK)(B:h<=lim)(hw:w<=lim):j5 [jm h w f,jm h w f]=some (.val<|.bl true):=by
 have e:=xX (d:= .tup [.int h,.int w]) rfl;simp[j5,zY,zU,zW,QL,jm,yu,uB,e,B,jk,jc,Aa,xS];rw[zE h λi=>(i:Int)];rw[zo (r:=λ_=>D.bl true)]
 ·simp[qZ]
 ·intro i hi
  have z:=Aq.mp hi;refine zq rfl rfl ?_;simp[z,cJ f z,yk _ hw]
noncomputable def QJ(ns:List Int)(p:Int)(k:Int):Int:=XG ns k%p*(if decide (0<XG ns k/7%3)=true then 1 else 0)
theorem eQ(z:0<p):0<=QJ ns p k/\QJ ns p k<p:=by unfold QJ;have h1:=BB (XG ns k) (show p≠0 by omega);have h2:=Br (XG ns k) z;split<;>simp<;>omega
theorem ZM{ns:List Int}(hn:ns.length<=63){p:Int}(I:0<p){a h w:Nat}(ha:a<=1000)(hh:h<=100)(hw:w<=100) :
 qv [vP ns,.int a,.int p,.int h,.int w]=some (.val<|jm h w λi j=>QJ ns p<|a+i*w+j):=by
 have M:h<=lim:=by have:=jq;omega
 have O:w<=lim:=by have:=jq;omega
 have R : ∀(i:Nat) (rows:List D) (c8 c9:Cell),i<h->∃γ',vA (.nm 8) (zN (jM 9<|zt zR<|zb (zd 0)<|zb (zu jO (zu jO (zd 1)<|zu qT (zd 6)<|zd 4)<|zd 8) zz)<|j8 7<|zu qT (zu qm (zd 9)<|zd 2)<|ky<|zu dGt (zu qm (zu JX (zd 9)<|zm<|.int 7)<|zm<|.int 3)<|zm<|.int 0)
  ((uZ w).map λ(j:Nat)=>D.int j) [.val (vP ns),.val<|.int a,.val<|.int p,.val<|.int h,.val<|.int w,.own rows,.val<|.int i,.own [],c8,c9]=some (.next γ')/\
  ∃c8 c9,γ'=[.val (vP ns),.val<|.int a,.val<|.int p,.val<|.int h,.val<|.int w,.own rows,.val<|.int i,.own<|zO w λj=>QJ ns p<|a+i*w+j,c8,c9]:=by
  intro i rows c8 c9 hi;have z:=qG (T:= .nm 8) (F:=(zN (jM 9<|zt zR<|zb (zd 0)<|zb (zu jO (zu jO (zd 1)<|zu qT (zd 6)<|zd 4)<|zd 8) zz)<|j8 7<|zu qT (zu qm (zd 9)<|zd 2)<|ky<|zu dGt (zu qm (zu JX (zd 9)<|zm<|.int 7)<|zm<|.int 3)<|zm<|.int 0))
   (λj γ=>∃c8 c9,γ=[.val (vP ns),.val<|.int a,.val<|.int p,.val<|.int h,.val<|.int w,.own rows,.val<|.int i,.own<|zO j λj=>QJ ns p<|a+i*w+j,c8,c9])
   ((uZ w).map λ(j:Nat)=>D.int j) 0 [.val (vP ns),.val<|.int a,.val<|.int p,.val<|.int h,.val<|.int w,.own rows,.val<|.int i,.own [],c8,c9] ⟨c8,c9,rfl⟩ ?_
  ·simpa using z
  ·rintro j d γ hd ⟨c8,c9,rfl⟩
   have U:j<w:=by have:=(Af.mp hd).1;simpa using this
   have B:d = .int j:=by simp[U]at hd;exact hd.symm
   subst B;have W:i*w<=100*100:=Nat.mul_le_mul ⋯ hw;have g0:(0:Int)<=(i:Int)*(w:Int):=by exact_mod_cast Bt _
   have g1:(i:Int)*(w:Int)<=100*100:=by exact_mod_cast W
   obtain⟨Y,a9,ac⟩:=Zk hn (k:=((a:Int)+(i:Int)*(w:Int)+(j:Int))) ⋯ ⋯;have cm:J0 (i:Int) (w:Int)=true:=va _ _ ⋯ ⋯;have ct : ∀(x y:Int),J0 x (if 0<y then 1 else 0)=true:=λx b=>YK _ _ (by split<;>omega) (by split<;>omega);have a1:j<lim:=by have:=jq;omega
   refine⟨_,.inl ?_,.val<|.int j,.val<|.int<|XG ns<|(a:Int)+(i:Int)*(w:Int)+(j:Int),rfl⟩;have a2:zO (0+j+1) (λj=>QJ ns p<|a+i*w+j)=zO j (λj=>QJ ns p<|a+i*w+j)++[.int (QJ ns p<|a+i*w+j)]:=by simp[zO,Ek]
   rw[a2];simp[zW,cm,Y,I,ct,a1,QJ]
 have z:=qG (T:= .nm 6) (F:=zN (v9 7<|yn zz)<|zN (Ke (zK<|zd 4) (.nm 8)<|zN (jM 9<|zt zR<|zb (zd 0)<|zb (zu jO (zu jO (zd 1)<|zu qT (zd 6)<|zd 4)<|zd 8) zz)<|j8 7<|zu qT (zu qm (zd 9)<|zd 2)<|ky<|zu dGt (zu qm (zu JX (zd 9)<|zm<|.int 7)<|zm<|.int 3)<|zm<|.int 0)<|j8 5<|zG<|zg 7)
  (λi γ=>∃c6 c7 c8 c9,γ=[.val (vP ns),.val<|.int a,.val<|.int p,.val<|.int h,.val<|.int w,.own<|jB i w λi j=>QJ ns p<|a+i*w+j,c6,c7,c8,c9])
  ((uZ h).map λ(j:Nat)=>D.int j) 0 [.val (vP ns),.val<|.int a,.val<|.int p,.val<|.int h,.val<|.int w,.own [],.no,.no,.no,.no] ⟨_,_,_,_,rfl⟩ (by
    rintro i d γ hd ⟨c6,c7,c8,c9,rfl⟩;have hi:i<h:=by have:=(Af.mp hd).1;simpa using this
    have B:d = .int i:=by simp[hi]at hd;exact hd.symm
    subst B;obtain⟨γ',e1,a3,a4,rfl⟩:=R i (jB (0+i) w λi j=>QJ ns p<|a+i*w+j) c8 c9 hi;have a5:i<lim:=by have:=jq;omega
    refine⟨_,.inl ?_,.val<|.int i,.own<|zO w λj=>QJ ns p<|a+i*w+j,a3,a4,rfl⟩;have a6:jB (0+i+1) w (λi j=>QJ ns p<|a+i*w+j)=jB (0+i) w (λi j=>QJ ns p<|a+i*w+j)++[.tup (zO w λj=>QJ ns p<|a+i*w+j)]:=by simp[jB,Ek]
    rw[a6];simp only[J2,Ab,Ey,Ex];rw[zW];simp[zW,O,jk];rw[zE w λi=>(i:Int)];rw[show(0+i)=i from by omega]at e1;rw[e1];simp[a5])
 obtain⟨γ',e1,c6,c7,c8,c9,rfl⟩:=z;simp[qv,zY,zU,zW,M,jk];rw[zE h λi=>(i:Int),e1];simp[jm]
theorem Ky{m:Int}(I:0<=m) : ∃p,([D.int 2,.int 3,.int 5,.int 7])[(m%4).toNat]? = some (.int p)/\ixD 4 (m%4)=some (m%4).toNat/\(p=2\/p=3\/p=5\/p=7):=by
 have h1:=BB m (show(4:Int)≠0 by omega);have h2:=Br m (show(0:Int)<4 by omega);obtain⟨k,B⟩:=Bz h1;rw[B];have z:k<4:=by omega
 have e:ixD 4 (k:Int)=some k:=by rw[qL,GY z]
 rw[e]
 match k,z with
 | 0,_=>exact⟨2,rfl,rfl,by simp⟩
 | 1,_=>exact⟨3,rfl,rfl,by simp⟩
 | 2,_=>exact⟨5,rfl,rfl,by simp⟩
 | 3,_=>exact⟨7,rfl,rfl,by simp⟩
theorem xJ(k:Int)(z:0<k) : ∃n:Nat,m%k=n/\(n:Int)<k:=by have h1:=BB m (show k≠0 by omega);have h2:=Br m z;obtain⟨n,hn⟩:=Bz h1;exact⟨n,hn,by omega⟩
noncomputable def wch(b:Bool):Nat:=if b then 108 else 114
noncomputable def jd(c:Nat):Str:=⟨#[c]⟩
theorem vx : ∀(l:List Nat),(Cb "" (l.map jd)).cps.toList=l
 | []=>rfl
 | [c]=>rfl
 | c::d::l=>by
  have z:=vx (d::l);show((jd c++("" : Str))++Cb "" ((d::l).map jd)).cps.toList=_;have e : ∀a b:Str,(a++b).cps.toList=a.cps.toList++b.cps.toList:=λa b=>by show(a.cps++b.cps).toList=_;simp
  rw[e,e,z];rfl
noncomputable def ZD(m:Nat)(w:GX):Str:=Cb "" ((uZ m).map λk=>jd (wch (w k)))
theorem xC(m w):(ZD m w).cps.toList=(uZ m).map λk=>wch (w k):=by have:=vx<|(uZ m).map λk=>wch<|w k;rw[Bj]at this;exact this
theorem xn(m w):(ZD m w).length=m:=by show(ZD m w).cps.size=m;rw[<- Ei,xC];simp
theorem kR{m:Nat}(w)(hm:m<=1000):zA (ZD m w)=true:=decide_eq_true (by rw[xn];exact hm)
theorem yC{α:Type}(g:α->Str) : ∀l:List α,vZ (l.map λx=>D.str<|g x)=some (l.map g)
 | []=>rfl
 | a::l=>by simp[vZ,yC g l]
theorem QC{cell:Int}(h0:0<=cell) : ∃m w,m<=5/\k5 [.int cell]=some (.val<|.str<|ZD m w):=by
 obtain⟨m,O,hm⟩ : ∃n:Nat,cell%6=n/\(n:Int)<6:=by have h1:=BB cell (show(6:Int)≠0 by omega);have h2:=Br cell (show(0:Int)<6 by omega);obtain⟨n,hn⟩:=Bz h1;exact⟨n,hn,by omega⟩
 have hl:=jq;have I:m<=lim:=by omega
 let z:Nat->Int:=λk=>[6,12,24,48,96].getD k 6;have R:zD (.nm 0) zQ (ya (zm (.str "rl")) (zu qm (zu JX (zd 1) (sIx (zX (yn (zb (zm (.int 6)) (zb (zm (.int 12)) (zb (zm (.int 24)) (zb (zm (.int 48)) (zb (zm (.int 96)) zz))))))) (zd 0))) (zm (.int 2)))) [Cell.no,Cell.val (.int cell)] ((uZ m).map λ(i:Nat)=>D.int i)=some ((uZ m).map λk=>D.str (jd (wch (decide (cell/z k%2=1))))):=by
  refine zo _ _ λk M=>zq rfl rfl ?_;have M:=Aq.mp M;have B:k<5:=by omega
  have e1:([D.int 6,.int 12,.int 24,.int 48,.int 96])[k]? = some (.int<|z k):=by
   match k,B with
   | 0,_=>rfl
   | 1,_=>rfl
   | 2,_=>rfl
   | 3,_=>rfl
   | 4,_=>rfl
  have U:0<z k/\z k<1073741824:=by
   match k,B with
   | 0,_=>exact⟨by decide,by decide⟩
   | 1,_=>exact⟨by decide,by decide⟩
   | 2,_=>exact⟨by decide,by decide⟩
   | 3,_=>exact⟨by decide,by decide⟩
   | 4,_=>exact⟨by decide,by decide⟩
  have W:zu qm (zu JX (zd 1)<|sIx (zX<|yn<|zb (zm<|.int 6)<|zb (zm<|.int 12)<|zb (zm<|.int 24)<|zb (zm<|.int 48)<|zb (zm<|.int 96) zz)<|zd 0) (zm<|.int 2) [Cell.val (.int k),Cell.val (.int cell)]=some (.int<|cell/z k%2):=by
   have e2:ixD 5 (k:Int)=some k:=by rw[qL,GY B]
   simp only[aQ,kj,J7,kK,gR,xh,vR,vc,AQ,AH,jx,Ab,AS,xB,Be,BA];rw[GY ⋯];simp only[Ab,AS];rw[show([D.int 6,D.int 12,D.int 24,D.int 48,D.int 96]:List D).length=5 from rfl,e2];simp only[Ab];rw[e1];simp[U]
  have q:cell/z k%2=0\/cell/z k%2=1:=by omega
  show ya _ _ [Cell.val (.int k),Cell.val (.int cell)]=_;rw[xZ,W];rcases q with q | q
  ·rw[q];rfl
  ·rw[q];rfl
 refine⟨m,λk=>decide<|cell/z k%2=1,by omega,?_⟩;have all1:((uZ m).map λk=>jd<|wch<|decide<|cell/z k%2=1).all zA=true:=by
  rw[List.all_map];exact Bp.mpr λk _=>by show zA (jd _)=true;rfl
 have Y:zA ("" : Str)=true:=rfl;simp[k5,zY,zU,zW,O,I,jk,jc,xS,Aa];rw[zE m λi=>(i:Int),R];simp only[AS,Ab,Function.comp];rw[yC];simp only[Ab];rw[GY ⟨by simpa using I,Bp.mp all1,Y⟩];rfl
noncomputable def hiW(w:GX)(wd:GZ)(k:Nat):Nat:=if w k then wd k else wd (k+1)
noncomputable def wiW(w:GX)(wd:GZ)(k:Nat):Nat:=if w k then wd (k+1)else wd k
noncomputable def jU(w:GX)(wd:GZ)(T:GV)(k:Nat):D:= .tup [.str (jd<|wch<|w k),jm (hiW w wd k) (wiW w wd k) (T k)]
noncomputable def jg(m:Nat)(w:GX)(wd:GZ)(T:GV):List D:=(uZ m).map (jU w wd T)
noncomputable def zL(p:Int)(m:Nat)(w:GX)(wd:GZ)(T:GV):D:= .tup [.int p,.tup<|zO (m+1) λk=>(wd k:Int),.tup (jg m w wd T)]
@[simp] theorem aK(m w wd T):(jg m w wd T).length=m:=by simp[jg]
noncomputable def K5:=(zN (jM 8 (xj (zb (sIx (zg 5) (zu jO (zd 7) (zm (.int 1)))) (zb (sIx (zg 5) (zd 7)) zz)))) (zN (sIf (sB (zu dEq (ya (zd 3) (zd 7)) (zm (.str "l")))) (jM 8 (xj (zb (sIx (zg 5) (zd 7)) (zb (sIx (zg 5) (zu jO (zd 7) (zm (.int 1)))) zz)))) jo) (j8 6 (xj (zb (ya (zd 3) (zd 7)) (zb (zt qv (zb (zd 0) (zb (zu jO (zu jO (zd 1) (zm (.int 10))) (zu qT (zm (.int 17)) (zd 7))) (zb (zd 2) (zb (sIx (zg 8) (zm (.int 0))) (zb (sIx (zg 8) (zm (.int 1))) zz)))))) zz))))))
theorem VS{m k:Nat}(w)(hm:m<=1000)(z:k<m)(γ:Ctx)(f g:CO D)(B:f γ=some (.str<|ZD m w))(I:g γ=some (.int k)):ya f g γ=some (.str<|jd<|wch<|w k):=by rw[xZ,B,I];simp only[Ab,xB];rw[GY (kR w hm),xC];simp[z,jd]
theorem mC(b:Bool):dEq (.str (jd (wch b))) (.str "l")=some (.bl b):=by
 have e : ∀b:Bool,(jd (wch b)==(As "l"))=b:=by decide +kernel
 have z : ∀b:Bool,okD (.str<|jd<|wch b)=true:=by decide +kernel
 have B:okD (.str (As "l"))=true:=by decide +kernel
 unfold dEq;rw[GY ⟨z b,B⟩];show some (D.bl (jd (wch b)==As "l"))=_;rw[e]
theorem vV{ns:List Int}(M:ns.length<=63){p:Int}(O:0<p){a0 m:Nat}{most:Int}(ha:a0<=500)(hm:m<=20)(w:GX)(R:0<most/\most<=40) :
 ∃wd T,kO [vP ns,.int a0,.int p,.str<|ZD m w,.int most]=some (.val<|zL p m w wd T)/\(∀k,(wd k:Int)<most)/\∀k i j,0<=T k i j/\T k i j<p:=by
 have hl:=jq;have a4:m<=lim:=by omega
 have U:m+1<=lim:=by omega
 have wb : ∀k:Nat,∃n:Nat,XG ns ((a0:Int)+(k:Int))%most=n/\(n:Int)<most:=λk=>xJ most R.1;let wd:Nat->Nat:=λk=>(XG ns ((a0:Int)+(k:Int))%most).toNat;have B : ∀k:Nat,XG ns ((a0:Int)+(k:Int))%most=(wd k:Int)/\(wd k:Int)<most:=λk=>by
  obtain⟨n,e1,e2⟩:=wb k;have:wd k=n:=by show(XG ns ((a0:Int)+(k:Int))%most).toNat=n;rw[e1];rfl
  rw[this];exact⟨e1,e2⟩
 let T:Nat->Nat->Nat->Int:=λk i j=>QJ ns p<|(((a0+10+17*k:Nat):Int))+(i:Int)*((wiW w wd k:Nat):Int)+(j:Int);refine⟨wd,T,?_,λk=>(B k).2,λk i j=>eQ O⟩;have a6:zD (.nm 0) zQ (zu qm (zt zR<|zb (zd 1)<|zb (zu jO (zd 2)<|zd 0) zz)<|zd 3) [Cell.no,Cell.val<|vP ns,Cell.val<|.int a0,Cell.val (.int most)] ((uZ<|m+1).map λ(i:Nat)=>D.int i)=some (zO (m+1) λk=>(wd k:Int)):=by rw[zE];refine zo _ _ λk z=>zq rfl rfl ?_;have z:=Aq.mp z;simp[(Zk M (k:=(a0:Int)+(k:Int)) ⋯ ⋯).1,R.1,(B k).1]
 have tab : ∀k,k<m->qv [vP ns,.int<|(a0:Int)+10+17*(k:Int),.int p,.int (hiW w wd k:Nat),.int (wiW w wd k:Nat)]=some (.val<|jm (hiW w wd k) (wiW w wd k)<|T k):=λk z=>by
  have b : ∀j,wd j<=100:=λj=>by have:=(B j).2;omega
  have h1:hiW w wd k<=100:=by unfold hiW;split<;>exact b _
  have h2:wiW w wd k<=100:=by unfold wiW;split<;>exact b _
  have:=ZM M O (a:=a0+10+17*k) (h:=hiW w wd k) (w:=wiW w wd k) ⋯ h1 h2;rw[show(((a0+10+17*k:Nat)):Int)=(a0:Int)+10+17*(k:Int)by omega]at this;rw[this];show _=some (Res.val<|jm _ _ λi j=>QJ ns p<|(((a0+10+17*k:Nat):Int))+(i:Int)*((wiW w wd k:Nat):Int)+(j:Int));rw[show(((a0+10+17*k:Nat)):Int)=(a0:Int)+10+17*(k:Int)by omega]
 have a7:=qG (T:= .nm 7) (F:=K5)
  (λk γ=>∃c7 c8,γ=[.val (vP ns),.val<|.int a0,.val<|.int p,.val<|.str<|ZD m w,.val<|.int most,.val<|.tup<|zO (m+1) λk=>(wd k:Int),.own<|jg k w wd T,c7,c8])
  ((uZ m).map λ(i:Nat)=>D.int i) 0 [.val (vP ns),.val<|.int a0,.val<|.int p,.val<|.str<|ZD m w,.val<|.int most,.val<|.tup<|zO (m+1) λk=>(wd k:Int),.own [],.no,.no] ⟨.no,.no,rfl⟩ (by
    rintro k d γ hd ⟨c7,c8,rfl⟩;have z:k<m:=by have:=(Af.mp hd).1;simpa using this
    have a8:d = .int k:=by simp[z]at hd;exact hd.symm
    subst a8;rw[BF];have W:k<lim:=by omega
    have Y:ixD (m+1) ((k:Int)+1)=some (k+1):=by have:=qL (m+1)<|k+1;rw[GY ⋯]at this;rw[<- this];congr 1
    have a1:k+1<m+1:=by omega
    have a2:k<m+1:=by omega
    have cm:J0 17 (k:Int)=true:=va _ _ ⋯ ⋯;have app:jg (k+1) w wd T=jg k w wd T++[jU w wd T k]:=by simp[jg,Ek]
    have tk:=tab k z;refine⟨_,.inl ?_,.val<|.int k,.val<|.tup [.int (hiW w wd k:Nat),.int (wiW w wd k:Nat)],rfl⟩;rw[app];have I : ∀γ:Ctx,γ[3]? = some (.val<|.str<|ZD m w)->γ[7]? = some (.val<|.int k)->ya (zd 3) (zd 7) γ=some (.str<|jd<|wch<|w k):=λγ h3 h7=>VS w ⋯ z γ _ _ (by rw[kj,h3];rfl) (by rw[kj,h7];rfl);simp only[J2,Ab,Ey,Ex,K5];rw[zW];simp[-xZ,Y,a1,a2];rw[zW];rw[Vn,mY,aQ,I _ rfl rfl];simp[-xZ,mC];cases hw:w k with
    | true=>
     simp[-xZ,hiW,wiW,hw]at tk ⊢;simp[-xZ,Y,a1,a2];rw[I _ rfl rfl];simp[cm,tk,W,hw,jU,hiW,wiW]
    | false=>
     simp[-xZ,hiW,wiW,hw]at tk ⊢;rw[I _ rfl rfl];simp[cm,tk,W,hw,jU,hiW,wiW])
 obtain⟨γ',e1,c7,c8,rfl⟩:=a7;have el:((uZ m).map λ(i:Nat)=>D.int i).length=m:=by simp
 rw[el,BF]at e1;have e0:kO=zY 9 (zN (jM 5<|zG<|zX<|zC (zK<|zu jO (vm<|zd 3)<|zm<|.int 1) (.nm 0) 1 [0,1,4] zQ (zu qm (zt zR<|zb (zd 1)<|zb (zu jO (zd 2)<|zd 0) zz)<|zd 3))<|zN (v9 6<|yn zz)<|zN (Ke (zK<|vm<|zd 3) (.nm 7) K5)<|jH<|xj<|zb (zd 2)<|zb (zd 5)<|zb (zG<|zg 6) zz):=rfl;have ln : ∀γ:Ctx,γ[3]? = some (.val<|.str<|ZD m w)->vm (zd 3) γ=some (.int m):=λγ h=>by rw[gS,kj,h];simp only[jx,Ab];rw[GY (kR w ⋯),xn]
 have c1:((m:Int)+1)=((m+1:Nat):Int):=by omega
 rw[e0];simp only[zY,zU];rw[zW];simp only[yi,Jh,kK,j3,vb,aQ,Ba,List.map_nil,Be,BA,Aa,List.cons_append,List.nil_append];rw[ln _ rfl];have ir:inR ((m:Int)+1)=true:=by rw[c1];exact KY U
 have tn:((m:Int)+1).toNat=m+1:=by omega
 simp only[Ab,xB,cP,vc];rw[GY ir,tn,jk];simp[U,jc,xS,Aa];rw[zE (m+1) λi=>(i:Int),a6];simp[zW,kR w (show m<=1000 by omega),xn,a4,jk];rw[zE m λi=>(i:Int),e1];simp[zL]
noncomputable def aD:=(zN (sIf (yb (ji<|sB<|sIs .tuple<|zd 2)<|yb (sB<|zu dNe (vI<|zg 2)<|zm<|.int 2)<|sB<|zu dNe (sIx (zg 2)<|zm<|.int 0)<|sIx (zg 3)<|zm<|.int 0) (jH<|zm<|.bl false) jo)<|sIf (yb (ji<|sB<|sIs .str<|sIx (zg 2)<|zm<|.int 0)<|ji<|sB<|zt j5<|zb (sIx (zg 2)<|zm<|.int 1)<|zb (sIx (zg 3)<|zm<|.int 1) zz) (jH<|zm<|.bl false) jo)
theorem WM(b:Bool):okD (.str<|jd<|wch b)=true:=by cases b<;>decide +kernel
theorem Yb{p:Int}{m:Nat}(w:GX)(wd:GZ)(T:GV)(hm:m<=900)(hw : ∀k,wd k<=lim):qc [zL p m w wd T,zL p m w wd T]=some (.val<|.bl true):=by
 have hl:=jq;have a5:m<=lim:=by omega
 have M:m+1<=lim:=by omega
 have O:Jk (jg m w wd T) (jg m w wd T)=(uZ m).map λk=>D.tup [jU w wd T k,jU w wd T k]:=by unfold Jk jg;rw[CF];simp
 have R:=qG (T:= .tp [2,3]) (F:=aD)
  (λk γ=>∃z B,γ=[.val (zL p m w wd T),.val<|zL p m w wd T,z,B])
  ((uZ m).map λk=>D.tup [jU w wd T k,jU w wd T k]) 0 [.val (zL p m w wd T),.val<|zL p m w wd T,.no,.no] ⟨.no,.no,rfl⟩ (by
    rintro k d γ hd ⟨z,B,rfl⟩;have U:k<m:=by have:=(Af.mp hd).1;simpa using this
    have W:d = .tup [jU w wd T k,jU w wd T k]:=by simp[U]at hd;exact hd.symm
    subst W;refine⟨_,.inl ?_,.val<|jU w wd T k,.val<|jU w wd T k,rfl⟩;have h1:hiW w wd k<=lim:=by unfold hiW;split<;>exact hw _
    have h2:wiW w wd k<=lim:=by unfold wiW;split<;>exact hw _
    have it:=QE (T k) h1 h2;have ne:=xX<|WM<|w k;have Y:jf (jU w wd T k)=some (.T,[.str (jd<|wch<|w k),jm (hiW w wd k) (wiW w wd k) (T k)]):=rfl;have I:QL .tuple (jU w wd T k)=true:=rfl;simp only[aE,Ab,Ey,Ex,aD];rw[zW];have xs:QL .str (.str<|jd<|wch<|w k)=true:=rfl;simp[Y,I,ne,it,xs])
 obtain⟨γ',e1,z,B,rfl⟩:=R;have x0:jf (zL p m w wd T)=some (.T,[.int p,.tup<|zO (m+1) λk=>(wd k:Int),.tup (jg m w wd T)]):=rfl;have I:QL .tuple (zL p m w wd T)=true:=rfl;have rs:=yk (λk=>(wd k:Int)) M;have e0:qc=zY 4 (zN (sIf (yb (ji<|sB<|sIs .tuple<|zd 0)<|yb (sB<|zu dNe (vI<|zg 0)<|zm<|.int 3)<|yb (ji<|sB<|zt jK<|zb (sIx (zg 0)<|zm<|.int 0) zz)<|sB<|zu dNe (sIx (zg 0)<|zm<|.int 0)<|sIx (zg 1)<|zm<|.int 0) (jH<|zm<|.bl false) jo)<|zN (sIf (yb (ji<|sB<|zt qw<|zb (sIx (zg 0)<|zm<|.int 1)<|zb (sIx (zg 1)<|zm<|.int 1) zz)<|yb (ji<|sB<|sIs .tuple<|sIx (zg 0)<|zm<|.int 2)<|sB<|zu dNe (vI<|zT<|sIx (zg 0)<|zm<|.int 2)<|vI<|zT<|sIx (zg 1)<|zm<|.int 2) (jH<|zm<|.bl false) jo)<|zN (Ke (QK (sIx (zg 0)<|zm<|.int 2)<|sIx (zg 1)<|zm<|.int 2) (.tp [2,3]) aD)<|jH<|zm<|.bl true):=rfl;rw[e0];have a3:QL .tuple (.tup<|jg m w wd T)=true:=rfl;simp[zY,zU,zW,x0,I,yu,rs,a3,O,Aa];rw[e1];simp
theorem K0(b:Bool):dEq (.str (jd (wch b))) (.str "r")=some (.bl (!b)):=by
 have e : ∀b:Bool,(jd (wch b)==(As "r")) = !b:=by decide +kernel
 have z:okD (.str (As "r"))=true:=by decide +kernel
 unfold dEq;rw[GY ⟨WM b,z⟩];show some (D.bl (jd (wch b)==As "r"))=_;rw[e]
theorem oy:As "r" = jd (wch false):=by decide +kernel
theorem oz:As "l" = jd (wch true):=by decide +kernel
theorem yj(b:Bool):qb [.str (jd<|wch b)]=some (.val<|.str<|jd<|wch !b):=by have e1:=oy;have e2:=oz;have q:=K0 b;rw[e1]at q;cases b<;>simp[qb,zY,zU,e1,e2]at q ⊢ <;> simp[q]
theorem cV{w w':GX}{wd wd':GZ}{T T':GV}{k:Nat}(h1:w k=w' k)(h2:wd k=wd' k)(z:wd (k+1)=wd' (k+1))(B : ∀i j,i<hiW w wd k->j<wiW w wd k->T k i j=T' k i j):jU w wd T k=jU w' wd' T' k:=by
 have e1:hiW w wd k=hiW w' wd' k:=by unfold hiW;rw[h1,h2,z]
 have e2:wiW w wd k=wiW w' wd' k:=by unfold wiW;rw[h1,h2,z]
 unfold jU;rw[h1,<- e1,<- e2,cI B]
theorem wt{p:Int}{m:Nat}{w w':GX}{wd wd':GZ}{T T':GV}(h1 : ∀k,k<m->w k=w' k)(h2 : ∀k,k<m+1->wd k=wd' k)(B : ∀k i j,k<m->i<hiW w wd k->j<wiW w wd k->T k i j=T' k i j):zL p m w wd T=zL p m w' wd' T':=by unfold zL jg;rw[xq (f:=λk=>((wd k:Nat):Int)) (g:=λk=>((wd' k:Nat):Int)) λk z=>by rw[h2 k z]];rw[AL λk z=>cV (h1 k<|Aq.mp z) (h2 k (by have:=Aq.mp z;omega)) (h2 (k+1) (by have:=Aq.mp z;omega)) λi j hi I=>B k i j (Aq.mp z) hi I]
theorem gg(w wd T k):okS (jU w wd T k)=true:=by have a:=gi (hiW w wd k) (wiW w wd k)<|T k;have b:=WM<|w k;simp only[okD,Au]at a b;show(okS _ && (okS _ && true))=true;rw[a.2,b.2];rfl
theorem cO(w wd T k):deep (jU w wd T k)<=4:=by have:=YF (hiW w wd k) (wiW w wd k)<|T k;simp[jU,deep,deeps];omega
theorem vw(p m w wd T):okD (zL p m w wd T)=true:=by
 have h1:deeps (jg m w wd T)<=4:=yZ λd hd=>by obtain⟨k,_,rfl⟩:=AY.mp hd;exact cO w wd T k
 have h2:okSs (jg m w wd T)=true:=JM λd hd=>by obtain⟨k,_,rfl⟩:=AY.mp hd;exact gg w wd T k
 have B:=JW (m+1) λk=>(wd k:Int);have z:=KN (m+1) λk=>(wd k:Int);refine XC (n:=10) ?_ ⋯ ?_
 ·simp only[zL,deep,deeps]at B ⊢
  omega
 ·simp only[zL,okS,okSs]at z ⊢
  simp[h2,z]
theorem qB(i:Int):jQ [.int i]=some (.val<|.bl true):=by simp[jQ,zY,zU,QL]
theorem vY(n k:Int):j6 [.int n,.int k]=some (.val<|.bl<|decide (0<=k) && decide (k<n)):=by by_cases h:0<=k<;>simp[j6,zY,zU,qB,yH,h]
theorem XX(f:Nat->D)(h1:i<=j)(h2:j<=n):Vk ((uZ n).map f) (some (i:Int)) (some (j:Int))=(uZ<|j - i).map λk=>f (i+k):=by
 have c : ∀(d k:Nat),k<=n->K2 n d (some (k:Int))=k:=λd k B=>by show(if (k:Int)<0 then ((k:Int)+n).toNat else min (k:Int).toNat n)=k;rw[MQ ⋯];simp only[ET];omega
 have z:((uZ n).map f).length=n:=by simp
 unfold Vk;rw[z,c 0 i ⋯,c n j h2];apply Fb
 ·simp;omega
 ·intro k I g2
  simp
section
variable{p:Int}{m:Nat}{w:GX}{wd:GZ}{T:GV}
noncomputable def gE(p:Int)(i j:Nat)(w:GX)(wd:GZ)(T:GV):D:=zL p (j - i) (λk=>w<|i+k) (λk=>wd<|i+k)<|λk=>T<|i+k
theorem mF{i j:Nat}(h1:i<=j)(h2:j<=m):Vk (zO (m+1) λk=>(wd k:Int)) (some (i:Int)) (some ((j:Int)+1))=zO (j - i+1) λk=>((wd (i+k):Nat):Int):=by have:=XX (n:=m+1) (i:=i) (j:=j+1) (λk=>D.int<|wd k) ⋯ ⋯;rw[show((j+1:Nat):Int)=(j:Int)+1 by omega,show j+1 - i=j - i+1 by omega]at this;exact this
theorem mG(h1:i<=j)(h2:j<=m):Vk (jg m w wd T) (some (i:Int)) (some (j:Int))=jg (j - i) (λk=>w<|i+k) (λk=>wd<|i+k) (λk=>T<|i+k):=by unfold jg;rw[XX _ h1 h2];apply AL;intro k z;unfold jU hiW wiW;rfl
theorem QH{i j:Nat}(hm:m<=900)(h1:i<=j)(h2:j<=m):Kd [zL p m w wd T,.int i,.int j]=some (.val<|gE p i j w wd T)/\mZ [zL p m w wd T,.int i,.int j]=none:=by
 have z:jf (zL p m w wd T)=some (.T,[.int p,.tup<|zO (m+1) λk=>(wd k:Int),.tup (jg m w wd T)]):=rfl;have B:=vY ((m:Int)+1) i;have I:=vY ((m:Int)+1) j;have b1:(0:Int)<=i:=by omega
 have b2:(i:Int)<(m:Int)+1:=by omega
 have b3:(0:Int)<=j:=by omega
 have b4:(j:Int)<(m:Int)+1:=by omega
 have b5 : ¬((j:Int)<(i:Int)):=by omega
 simp only[b1,b2,b3,b4,decide_true,Bool.and_self]at B I;have b6 : ¬(j<i):=by omega
 have M:kc [zL p m w wd T,.int i,.int j]=some (.val .non):=by simp[kc,zY,zU,zW,z,B,I,b5,b6,Aa]
 have O:yt [zL p m w wd T,.int i,.int j]=none:=by simp[yt,Kr,zU,eh,xNo,xIf,z,B,I,b5,b6,Aa]
 refine⟨?_,?_⟩
 ·simp[Kd,zY,zU,zW,z,M,Aa,mF h1 h2,mG h1 h2]
  simp[gE,zL]
 ·simp[mZ,Kr,zU,yx,O]
end
theorem kv : ∀{n:Nat},(∀k,k<n->f k=g k)->zS f n=zS g n
 | 0,_=>rfl
 | n+1,h=>by simp only[zS];rw[kv (n:=n) λk z=>h k ⋯,h n ⋯]
theorem ZQ(n:Nat):zS (λ_=>0) n=0:=by
 induction n with
 | zero=>rfl
 | succ n z=>simp[zS,z]
theorem kr(hi:i<n)(h : ∀k,k<n->k≠i->f k=0):zS f n=f i:=by
 induction n with
 | zero=>omega
 | succ n z=>
  simp only[zS];by_cases e:i=n
  ·subst e
   rw[kv (g:=λ_=>0) (λk B=>h k ⋯ ⋯),ZQ];omega
  ·rw[z ⋯ λk B=>h k ⋯,h n ⋯ ⋯]
   omega
theorem xD(f g:Nat->Int)(n:Nat):zS (λk=>f k+g k) n=zS f n+zS g n:=by
 induction n with
 | zero=>rfl
 | succ n z=>simp only[zS,z];omega
theorem kS(f:Nat->Int)(c:Int)(n:Nat):zS (λk=>c*f k) n=c*zS f n:=by
 induction n with
 | zero=>simp[zS]
 | succ n z=>simp only[zS,z,FH]
theorem ku : ∀{n:Nat},(∀k,k<n->f k%p=g k%p)->zS f n%p=zS g n%p
 | 0,_=>rfl
 | n+1,h=>by simp only[zS];rw[FX,ku (n:=n)<|λk z=>h k ⋯,h n ⋯,<- FX]
abbrev Vc:=Nat->Int
noncomputable def Pr(p:Int):Prop:=p=2\/p=3\/p=5\/p=7
theorem Pr.pos(h:Pr p):0<p:=by unfold Pr at h;omega
theorem Pr.two(h:Pr p):2<=p:=by unfold Pr at h;omega
theorem Pr.le(h:Pr p):p<=7:=by unfold Pr at h;omega
theorem Pr.one(h:Pr p):(1:Int)%p=1:=FS ⋯ (by have:=h.two;omega)
noncomputable def Fam(r:Nat)(B:Nat->Vc):Vc->Prop:=λv=>∃k,k<r/\v=B k
theorem y6(q:α->Bool)(r:α->D) : ∀(l:List α),(∀x∈l,∃z,xl T (g x) γ=some z/\k z=some (q x)/\(q x=true->f z=some (r x)))->
 zD T k f γ (l.map g)=some ((l.filter q).map r)
 | [],_=>rfl
 | x::l,h=>by
  obtain⟨z,h1,h2,I⟩:=h x Ai;have B:=y6 q r l λy M=>h y<|Ah _ M;simp only[Ba,zD,h1,h2,Ab];cases e:q x with
  | true=>simp[I e,B,e]
  | false=>simp[B,e]
theorem mj(z:Pr p)(B:0<x)(h1:x<p) : ∃y:Nat,1<=y/\(y:Int)<p/\(y:Int)*x%p=1:=by
 rcases z with rfl | rfl | rfl | rfl
 ·obtain rfl:x=1:=by omega
  exact⟨1,by decide,by decide,by decide⟩
 ·rcases (show x=1\/x=2 by omega)with rfl | rfl
  ·exact⟨1,by decide,by decide,by decide⟩
  ·exact⟨2,by decide,by decide,by decide⟩
 ·rcases (show x=1\/x=2\/x=3\/x=4 by omega)with rfl | rfl | rfl | rfl
  ·exact⟨1,by decide,by decide,by decide⟩
  ·exact⟨3,by decide,by decide,by decide⟩
  ·exact⟨2,by decide,by decide,by decide⟩
  ·exact⟨4,by decide,by decide,by decide⟩
 ·rcases (show x=1\/x=2\/x=3\/x=4\/x=5\/x=6 by omega)with rfl | rfl | rfl | rfl | rfl | rfl
  ·exact⟨1,by decide,by decide,by decide⟩
  ·exact⟨4,by decide,by decide,by decide⟩
  ·exact⟨5,by decide,by decide,by decide⟩
  ·exact⟨2,by decide,by decide,by decide⟩
  ·exact⟨3,by decide,by decide,by decide⟩
  ·exact⟨6,by decide,by decide,by decide⟩
theorem XT{q:GX}{n a:Nat}{xk:List Nat}(h:(uZ n).filter q=a::xk):a<n/\q a=true/\∀i,i<a->q i=false:=by
 have hm:a∈(uZ n).filter q:=by rw[h];exact Ai
 refine⟨Aq.mp (Cc.mp hm).1,(Cc.mp hm).2,λi hi=>?_⟩;apply Classical.byContradiction;intro z;have B:q i=true:=by simpa using z
 have I:i∈a::xk:=by rw[<- h];exact Cc.mpr ⟨Aq.mpr (by have:=Aq.mp (Cc.mp hm).1;omega),B⟩
 have M:(a::xk).Pairwise (· < ·):=by rw[<- h];exact List.Pairwise.filter _ List.pairwise_lt_range
 rcases Ag.mp I with e | e
 ·omega
 ·have:=(List.pairwise_cons.mp M).1 i e;omega
theorem WR(h:(uZ n).filter q=[]) : ∀i,i<n->q i=false:=λi hi=>by apply Classical.byContradiction;intro z;have:i∈(uZ n).filter q:=Cc.mpr ⟨Aq.mpr hi,by simpa using z⟩;rw[h]at this;simp at this
noncomputable def Un(r:Nat)(B:Nat->Vc)(m:Nat)(W:Nat->Vc):Vc->Prop:=λv=>Fam r B v\/Fam m W v
@[simp] noncomputable def mO:=@oO.eq_1
section
variable{p:Int}{n m r h w:Nat}
noncomputable def Zz(h:Nat)(u v:Vc):Vc:=λi=>if i<h then u i else v (i - h)
theorem mI(hi:i<h):Zz h u v i=u i:=GY hi
theorem mH(i:Nat):Zz h u v (h+i)=v i:=by unfold Zz;rw[MQ ⋯,Nat.add_sub_cancel_left]
theorem YE(h w:Nat)(u v:Vc):zO h u++zO w v=zO (h+w) (Zz h u v):=by
 unfold zO;rw[List.range_add,CH];congr 1
 ·exact AL λi hi=>by rw[mI (Aq.mp hi)]
 ·rw[Bj]
  exact AL λi _=>by simp only[Function.comp];rw[mH]
end
@[simp] noncomputable def rB:=@tY.eq_1
theorem eB{a b:Bool}(h:wch a=wch b):a=b:=by cases a<;>cases b<;>first | rfl | exact absurd h ⋯
noncomputable def cY(m m':Nat)(w w':GX):Prop:=m=m'/\∀k,k<m->w k=w' k
instance (m m':Nat) (w w':GX):Decidable (cY m m' w w'):=inferInstanceAs (Decidable (m=m'/\∀k,k<m->w k=w' k))
theorem eC{m m':Nat}{w w':GX}:ZD m w=ZD m' w'↔cY m m' w w':=by
 constructor
 ·intro h
  have h1:=xC m w;rw[h,xC]at h1;have B:m=m':=by have:=congrArg Fw h1;simpa using this.symm
  subst B;refine⟨rfl,λk z=>?_⟩;have:=congrArg (λl=>l[k]?) h1;simp[z]at this;exact(eB this).symm
 ·rintro⟨rfl,h⟩
  unfold ZD;rw[AL λk z=>by rw[h k (Aq.mp z)]]
theorem WO(m w):okD (.str<|ZD m w)=true:=by refine XC (n:=0) (by simp[deep]) ⋯ ?_;show(ZD m w).cps.all (· < 0x110000)=true;rw[<- Array.all_toList,xC];simp only[Bp];intro c z;obtain⟨k,_,rfl⟩:=AY.mp z;unfold wch;split<;>decide
section
variable{p p':Int}{m m':Nat}{w w':GX}{wd wd':GZ}{T T':GV}
theorem Ju:jf (zL p m w wd T)=some (.T,[.int p,.tup<|zO (m+1) λk=>(wd k:Int),.tup (jg m w wd T)]):=rfl
theorem J6(k):jf (jU w wd T k)=some (.T,[.str (jd<|wch<|w k),jm (hiW w wd k) (wiW w wd k) (T k)]):=rfl
theorem Vw:zD (.nm 0) zQ (sIx (zg 0)<|zm<|.int 0) [Cell.no] (jg m w wd T)=some ((uZ m).map λk=>D.str<|jd<|wch<|w k):=by unfold jg;refine zo _ _ λk z=>zq rfl rfl ?_;simp[J6]
theorem vT(hm:m<=900):kM [zL p m w wd T]=some (.val<|.str<|ZD m w):=by
 have M:=jq;have z:m<=lim:=by omega
 have st:vZ ((uZ m).map λk=>D.str<|jd<|wch<|w k)=some ((uZ m).map λk=>jd<|wch<|w k):=yC _ _;have B:((uZ m).map λk=>jd<|wch<|w k).all zA=true:=by simp only[Bp];intro x I;obtain⟨k,_,rfl⟩:=AY.mp I;unfold wch;split<;>decide
 have s0:zA "" = true:=by decide +kernel
 simp only[kM,zY,zU];simp only[vQ,aN,vc,kK,j3,J8,YL,J7,xY,Ba,List.map_nil,Be,BA,Aa,Em,AH,jW,Ju,Ab,AS,xB,ix2,AQ,mM,Nat.sub_self,BF];rw[aK,GY z,show jc 1 [] [Cell.val (zL p m w wd T)]=[Cell.no]from rfl,Vw];simp only[AS,Ab,st];rw[GY ⟨by simpa using z,B,s0⟩];rfl
theorem QB(hm:m<=900)(B:m'<=900):qX [zL p m w wd T,zL p' m' w' wd' T']=some (.val<|.bl<|decide<|p=p'/\cY m m' w w'):=by
 have z:=vT (p:=p) (wd:=wd) (T:=T) (w:=w) hm;have I:=vT (p:=p') (wd:=wd') (T:=T') (w:=w') B;have d:dEq (.str<|ZD m w) (.str<|ZD m' w')=some (.bl<|decide<|cY m m' w w'):=by unfold dEq;rw[GY ⟨WO m w,WO m' w'⟩];congr 2;rw[En];simp only[eqD,eqS,beq_iff_eq,decide_eq_true_eq];exact eC
 by_cases q:p=p'
 ·simp[qX,zY,zU,Ju,q,z,I,d]
  subst q;simp[z,d]
 ·simp[qX,zY,zU,Ju,q]
end
section
variable{p:Int}
theorem QF(z:p=2\/p=3\/p=5\/p=7):vF [.int p]=some (.val<|.bl true):=by rcases z with rfl | rfl | rfl | rfl<;>kernel_rfl
theorem vX{n:Nat}(h:n<=30):kP [.int n]=some (.val<|.bl true):=by
 have h1:(0:Int)<=n:=by omega
 have h2:(n:Int)<=30:=by omega
 simp[kP,zY,zU,qB,yH,h1,h2]
noncomputable def xV(h w:Nat)(f:GK):List D:=(uZ h).map λi=>D.lst<|zO w<|f i
@[simp] theorem mE(h w f):(xV h w f).length=h:=by simp[xV]
theorem ve{n:Nat}(l:List D)(h:l.length=n):jL [.lst l,.int n]=some (.val<|.bl true):=by simp[jL,zY,zU,V2,QL,h]
theorem Kc{w:Nat}(f:Nat->Int)(hw:w<=lim):kQ [.int w,.lst (zO w f)]=some (.val<|.bl true):=by
 have l1:=ve (n:=w) (zO w f) ⋯;have go:zD (.nm 0) zQ (zt jQ<|zb (zd 0) zz) [Cell.no] (zO w f)=some ((uZ w).map λ_=>D.bl true):=by rw[zE];refine zo _ _ λj z=>zq rfl rfl ?_;simp[qB]
 simp[kQ,zY,zU,l1,hw,jc,go,qZ,vd,Aa]
theorem QA{h w:Nat}(B:p=2\/p=3\/p=5\/p=7)(I:h<=30)(hw:w<=30)(f:GK):k4 [.int p,.int h,.int w,.lst (xV h w f)]=some (.val<|jm h w λi j=>f i j%p):=by
 have W:=jq;have M:h<=lim:=by omega
 have z:w<=lim:=by omega
 have O:=ve (n:=h) (xV h w f) ⋯;have R:zD (.nm 0) zQ (zt kQ<|zb (zd 1)<|zb (zd 0) zz) [Cell.no,Cell.val (.int w)] (xV h w f)=some ((uZ h).map λ_=>D.bl true):=by unfold xV;refine zo _ _ λj U=>zq rfl rfl ?_;simp[Kc (f j) z]
 have g2:zD (.nm 0) zQ (zt yv<|zb (zd 1)<|zb (zd 0) zz) [Cell.no,Cell.val (.int p)] (xV h w f)=some (jB h w λi j=>f i j%p):=by unfold xV jB;refine zo _ _ λj U=>zq rfl rfl ?_;simp[Ka (f j) (show 0<p by omega) z]
 simp[k4,zY,zU,zW,QF B,vX I,vX hw,O,M,jc,xS,R,g2,qZ,vd,Aa];rfl
end
noncomputable def dlt(i j:Nat):Int:=if i=j then 1 else 0
noncomputable def aS(p:Int)(n:Nat)(f g:GK):Prop:=∀i j,i<n->j<n->zS (λk=>f i k*g k j) n%p=dlt i j%p
theorem Zj{p x y X Y:Int}(h1:x%p=X%p)(h2:y%p=Y%p):(x*y)%p=(X*Y)%p:=by rw[EE,h1,h2,<- EE]
section
variable{p:Int}{n:Nat}{f g f' g':GK}
theorem YR{a b:Int}{u:Nat}(M:a*b%p=1%p)(h1:aS p n f g)(O : ∀i k,i<n->k<n->f' i k%p=((if i=u then a else 1)*f i k)%p)(R : ∀k j,k<n->j<n->g' k j%p=((if j=u then b else 1)*g k j)%p):aS p n f' g':=by
 intro i j hi z;rw[ku (g:=λk=>((if i=u then a else 1)*(if j=u then b else 1))*(f i k*g k j)) λk B=>by rw[Zj (O i k hi B) (R k j B z)];congr 1;rw[Co,Co];congr 1;rw[Ea],kS,EE,h1 i j hi z,<- EE]
 unfold dlt;by_cases e:i=j
 ·subst e
  by_cases I:i=u
  ·simp only[GY I,if_true,Int.mul_one];exact M
  ·simp only[MQ I,if_true];rfl
 ·simp only[MQ e,Int.mul_zero]
theorem Ki{a b:Int}{u:Nat}(M:b*a%p=1%p)(h1:aS p n g f)(O : ∀i k,i<n->k<n->f' i k%p=((if i=u then a else 1)*f i k)%p)(R : ∀k j,k<n->j<n->g' k j%p=((if j=u then b else 1)*g k j)%p):aS p n g' f':=by
 intro i j hi z;rw[<- h1 i j hi z];refine ku λk B=>?_;rw[Zj (R i k hi B) (O k j B z)];by_cases I:k=u
 ·simp only[GY I]
  rw[show b*g i k*(a*f k j)=(b*a)*(g i k*f k j)by rw[Co,Co];congr 1;rw[Ea],EE,M,<- EE,Fc]
 ·simp only[MQ I,Fc]
theorem bq{t:Int}{u o:Nat}(M:u<n)(O:o<n)(R:u≠o)(h1:aS p n f g)(U : ∀i k,i<n->k<n->f' i k%p=(f i k+(if i=u then t else 0)*f o k)%p)(hg : ∀k j,k<n->j<n->g' k j%p=(g k j+(if j=o then -t else 0)*g k u)%p):aS p n f' g':=by
 intro i j hi B;generalize ea:(if i=u then t else 0)=a at U;have a1 : ∀k,k<n->f' i k%p=(f i k+(if i=u then t else 0)*f o k)%p:=λk z=>by have:=U i k hi z;exact this
 rw[ku (g:=λk=>f i k*g k j+(if j=o then -t else 0)*(f i k*g k u)+((if i=u then t else 0)*(f o k*g k j)+((if i=u then t else 0)*(if j=o then -t else 0))*(f o k*g k u))) λk z=>by
  rw[Zj (a1 k z) (hg k j z B)];congr 1;generalize (if i=u then t else 0)=a;generalize (if j=o then -t else 0)=b;rw[Int.add_mul,FH,FH];congr 1
  ·congr 1;rw[Ea]
  ·congr 1
   ·rw[Co]
   ·rw[Co,Co];congr 1;rw[Ea]]
 rw[xD,xD,xD,kS,kS,kS];have q1:=h1 i j hi B;have q2:=h1 i u hi M;have q3:=h1 o j O B;have q4:=h1 o u O M;have I : ∀c S d:Int,S%p=d%p->(c*S)%p=(c*d)%p:=λc S d h=>Zj rfl h;have ad : ∀x y X Y:Int,x%p=X%p->y%p=Y%p->(x+y)%p=(X+Y)%p:=λx y X Y a b=>by rw[FX,a,b,<- FX]
 rw[ad _ _ _ _ (ad _ _ _ _ q1<|I _ _ _ q2) (ad _ _ _ _ (I _ _ _ q3)<|I _ _ _ q4)];congr 1;unfold dlt;have W : ¬o=u:=λe=>R e.symm;by_cases e1:i=u
 ·by_cases e2:j=o
  ·subst e1 e2;simp[R,W];omega
  ·have a6 : ¬o=j:=λe=>e2 e.symm
   simp[e1,e2,a6,W]
 ·simp[e1]
theorem VG{t:Int}{u o:Nat}(I:u<n)(M:o<n)(O:u≠o)(h1:aS p n g f)(R : ∀i k,i<n->k<n->f' i k%p=(f i k+(if i=u then t else 0)*f o k)%p)(U : ∀k j,k<n->j<n->g' k j%p=(g k j+(if j=o then -t else 0)*g k u)%p):aS p n g' f':=by
 intro i j hi B;rw[<- h1 i j hi B];rw[ku (g:=λk=>g i k*f k j+((if k=u then t*(g i u*f o j)else 0)+(if k=o then -t*(g i u*f o j)else 0))) λk z=>by
  rw[Zj (U i k hi z) (R k j z B)];congr 1;by_cases e1:k=u
  ·subst e1
   have e2 : ¬k=o:=O;simp only[MQ e2,if_true,Ci,Cj,FH];rw[Ea]
  ·by_cases e2:k=o
   ·subst e2
    simp only[MQ e1,if_true,Ci,Cj,Int.zero_add,Int.add_mul];rw[Co]
   ·simp only[MQ e1,MQ e2,Ci,Cj]]
 rw[xD,xD,kr (f:=λk=>if k=u then t*(g i u*f o j)else 0) I λk _ z=>MQ z,kr (f:=λk=>if k=o then -t*(g i u*f o j)else 0) M λk _ z=>MQ z];simp only[if_true];congr 1;rw[Int.neg_mul];omega
end
noncomputable def q8(n:Nat)(f:GK):List D:=(uZ n).map λi=>D.lst<|zO n<|f i
noncomputable def kl(n:Nat)(f:GK):List (List D):=(uZ n).map λi=>zO n<|f i
theorem Wf(n f):(kl n f).map D.lst=q8 n f:=by simp[kl,q8]
@[simp] theorem iJ(n f):(q8 n f).length=n:=by simp[q8]
@[simp] theorem nu(f)(hi:i<(q8 n f).length):(q8 n f)[i] = .lst (zO n<|f i):=by simp[q8]
@[simp] theorem gX(r):xS (.nest r) = .no:=rfl
@[simp] theorem lQ(r):xS (.own r) = .no:=rfl
@[simp] theorem lP(d):xS (.val d) = .val d:=rfl
@[simp] theorem nB:xS .no = .no:=rfl
theorem Zq(ha:a<n)(v z:Vc)(x:Int)(h1:z a=x)(h2 : ∀i,i<n->i≠a->z i=v i):(zO n v).set a (.int x)=zO n z:=by
 apply BR;intro i;rw[Ck];by_cases hi:i<n
 ·by_cases e:a=i
  ·subst e;simp[ha,zO,h1]
  ·have:=h2 i hi (AR e)
   simp[e,zO,hi,this]
 ·have l1:(zO n v)[i]? = none:=by simp[zO];omega
  have l2:(zO n z)[i]? = none:=by simp[zO];omega
  rw[l1,l2,MQ ⋯]
theorem Xi(B:u<n)(f f':GK)(v:Vc)(h1 : ∀j,j<n->f' u j=v j)(h2 : ∀i j,i<n->i≠u->j<n->f' i j=f i j):(q8 n f).set u (.lst<|zO n v)=q8 n f':=by
 apply BR;intro i;rw[Ck];by_cases hi:i<n
 ·by_cases e:u=i
  ·subst e;simp[B,q8];exact xq λj z=>(h1 j z).symm
  ·simp[e,q8,hi];exact xq λj z=>(h2 i j hi (AR e) z).symm
 ·have l1:(q8 n f)[i]? = none:=by simp[q8];omega
  have l2:(q8 n f')[i]? = none:=by simp[q8];omega
  rw[l1,l2,MQ ⋯]
theorem vz : ∀(l:List Nat),(∀k∈l,∃d kk m,fx (kg γ j i<|R k)=some d/\gx (kg γ j i<|R k)=some (.int kk)/\ixD (R k).length kk=some m/\(R k).set m d=R' k)->qR j i gx fx γ (l.map R)=some (l.map R')
 | [],_=>rfl
 | k::l,h=>by obtain⟨d,kk,m,h1,h2,z,B⟩:=h k Ai;have I:=vz l λx M=>h x<|Ah _ M;simp[qR,h1,h2,z,B,I]
theorem XY : ∀(l:List Nat),(∀k∈l,∃z,xl T (g k) γ=some z/\f z=some (R k))->yr T f γ (l.map g)=some (l.map R)
 | [],_=>rfl
 | k::l,h=>by obtain⟨z,h1,h2⟩:=h k Ai;have B:=XY l λx I=>h x<|Ah _ I;simp[yr,h1,h2,B]
noncomputable def yD:=(sIf (sB<|zu dEq (zu qm (zu JX (zd 7)<|zm<|.int 343)<|zm<|.int 4)<|zm<|.int 0) (zN (Xa 4 (zd 8)<|qE<|zC (zP<|zT<|sIx (zg 4)<|zd 8) (.nm 0) 1 [2,10] zQ (zu qm (zu qT (zd 2)<|zd 0)<|zd 1))<|wW 5 12 (zd 8)<|zu qm (zu qT (zd 11)<|sIx (zg 12)<|zd 8)<|zd 2)<|sIf (sB<|zu dNe (zd 8)<|zd 9) (zN (Xa 4 (zd 8)<|qE<|zC (QK (sIx (zg 4)<|zd 8)<|sIx (zg 4)<|zd 9) (.tp [0,1]) 2 [2,10] zQ (zu qm (zu jO (zd 0)<|zu qT (zd 3)<|zd 1)<|zd 2))<|wW 5 12 (zd 9)<|zu qm (zu Vj (sIx (zg 12)<|zd 9)<|zu qT (zd 10)<|sIx (zg 12)<|zd 8)<|zd 2) jo)
noncomputable def J1:=(zN (jM 7<|zt zR<|zb (zd 0)<|zb (zu jO (zd 1)<|zd 6) zz)<|zN (jM 8<|zu qm (zd 7)<|zd 3)<|zN (jM 9<|zu qm (zu jO (zu jO (zd 8)<|zm<|.int 1)<|zu qm (zu JX (zd 7)<|zm<|.int 7)<|fv (zm<|.int 1)<|zu Vj (zd 3)<|zm<|.int 1)<|zd 3)<|zN (jM 10<|zu jO (zm<|.int 1)<|zu qm (zu JX (zd 7)<|zm<|.int 49)<|zu Vj (zd 2)<|zm<|.int 1)<|zN (jM 11<|sIx (zX<|zC (Jt (zm<|.int 1)<|zd 2) (.nm 0) 1 [2,10] (sB<|zu dEq (zu qm (zu qT (zd 0)<|zd 2)<|zd 1)<|zm<|.int 1) (zd 0))<|zm<|.int 0) yD)
section
variable{p:Int}{n:Nat}
structure Pair(p:Int)(n:Nat)(f g:GK):Prop where
 bf : ∀i j,i<n->j<n->0<=f i j/\f i j<p
 bg : ∀i j,i<n->j<n->0<=g i j/\g i j<p
 fg:aS p n f g
 gf:aS p n g f
theorem eV(hp:Pr p)(a9:n<=lim){f g:GK}(h:Pair p n f g){u o:Nat}{tm ov cell:Int}(I:u<n)(O:o<n)(ht:1<=tm/\tm<p)(hv:1<=ov/\ov<p)(ac:ov*tm%p=1)(a0 W Y a2:Cell) :
 ∃f' g' ag,Pair p n f' g'/\yD [a0,W,.val<|.int p,.val<|.int n,.own<|q8 n f,.nest<|kl n g,Y,.val<|.int cell,.val<|.int u,.val<|.int o,.val<|.int tm,.val<|.int ov,a2]=some (.next [a0,W,.val<|.int p,.val<|.int n,.own<|q8 n f',.nest<|kl n g',Y,.val<|.int cell,.val<|.int u,.val<|.int o,.val<|.int tm,.val<|.int ov,ag]):=by
 have R:=hp.pos;have p7:=hp.le;have one:=hp.one;have mr : ∀z:Int,0<=z%p/\z%p<p:=λz=>⟨BB _ ⋯,Br _ R⟩;have ct : ∀x,J0 tm x=true:=λx=>va _ _ ⋯ ⋯;have cv : ∀x,J0 ov x=true:=λx=>va _ _ ⋯ ⋯;by_cases hc:cell/343%4=0
 ·refine⟨λi j=>if i=u then tm*f u j%p else f i j,λi j=>if j=u then ov*g i u%p else g i j,.no,⟨λi j hi M=>?_,λi j hi M=>?_,?_,?_⟩,?_⟩
  ·by_cases e:i=u
   ·simp only[GY e];exact mr _
   ·simp only[MQ e];exact h.bf i j hi M
  ·by_cases e:j=u
   ·simp only[GY e];exact mr _
   ·simp only[MQ e];exact h.bg i j hi M
  ·refine YR (a:=tm) (b:=ov) (u:=u) (by rw[Int.mul_comm,ac,one]) h.fg (λi k _ _=>?_) (λk j _ _=>?_)
   ·by_cases e:i=u
    ·simp only[GY e];rw[Cp,e]
    ·simp only[MQ e,Fc]
   ·by_cases e:j=u
    ·simp only[GY e];rw[Cp,e]
    ·simp only[MQ e,Fc]
  ·refine Ki (a:=tm) (b:=ov) (u:=u) (by rw[ac,one]) h.gf (λi k _ _=>?_) (λk j _ _=>?_)
   ·by_cases e:i=u
    ·simp only[GY e];rw[Cp,e]
    ·simp only[MQ e,Fc]
   ·by_cases e:j=u
    ·simp only[GY e];rw[Cp,e]
    ·simp only[MQ e,Fc]
  ·have c1:zD (.nm 0) zQ (zu qm (zu qT (zd 2)<|zd 0)<|zd 1) [Cell.no,Cell.val<|.int p,Cell.val (.int tm)] (zO n<|f u)=some (zO n λj=>tm*f u j%p):=by
    rw[zE,zE];refine zo _ _ λj M=>zq rfl rfl ?_;simp[ct,R]
   have s1:=Xi I f (λi j=>if i=u then tm*f u j%p else f i j) (λj=>tm*f u j%p) (λj _=>by simp) (λi j _ B _=>by simp[B]);have r1 : ∀U:Cell,qR 5 12 (zd 8) (zu qm (zu qT (zd 11)<|sIx (zg 12)<|zd 8)<|zd 2) [a0,W,.val<|.int p,.val<|.int n,U,.nest<|kl n g,Y,.val<|.int cell,.val<|.int u,.val<|.int o,.val<|.int tm,.val<|.int ov,a2] (kl n g)=some (kl n λi j=>if j=u then ov*g i u%p else g i j):=λU=>by
    unfold kl;refine vz _ λk hk=>⟨.int<|ov*g k u%p,u,u,?_,rfl,?_,Zq I _ _ _ ⋯ λi _ B=>by simp[B]⟩
    ·simp[kg,I,cv,R]
    ·simp[I]
   simp[yD,zW,hc,I,a9,jc,Aa,c1,s1,r1]
 ·by_cases B:u=o
  ·refine⟨f,g,a2,h,?_⟩
   subst B;simp[yD,hc]
  ·refine⟨λi j=>if i=u then (f u j+tm*f o j)%p else f i j,λi j=>if j=o then (g i o - tm*g i u)%p else g i j,.no,⟨λi j hi M=>?_,λi j hi M=>?_,?_,?_⟩,?_⟩
   ·by_cases e:i=u
    ·simp only[GY e];exact mr _
    ·simp only[MQ e];exact h.bf i j hi M
   ·by_cases e:j=o
    ·simp only[GY e];exact mr _
    ·simp only[MQ e];exact h.bg i j hi M
   ·refine bq (t:=tm) (u:=u) (o:=o) I O B h.fg (λi k _ _=>?_) (λk j _ _=>?_)
    ·by_cases e:i=u
     ·simp only[GY e];rw[Cp,e]
     ·simp only[MQ e,Ci,Cj]
    ·by_cases e:j=o
     ·simp only[GY e];rw[Cp,e,Int.neg_mul];rfl
     ·simp only[MQ e,Ci,Cj]
   ·refine VG (t:=tm) (u:=u) (o:=o) I O B h.gf (λi k _ _=>?_) (λk j _ _=>?_)
    ·by_cases e:i=u
     ·simp only[GY e];rw[Cp,e]
     ·simp only[MQ e,Ci,Cj]
    ·by_cases e:j=o
     ·simp only[GY e];rw[Cp,e,Int.neg_mul];rfl
     ·simp only[MQ e,Ci,Cj]
   ·have c1:zD (.tp [0,1]) zQ (zu qm (zu jO (zd 0)<|zu qT (zd 3)<|zd 1)<|zd 2) [Cell.no,Cell.no,Cell.val<|.int p,Cell.val (.int tm)] ((uZ n).map λj=>D.tup [.int (f u j),.int (f o j)])=some (zO n λj=>(f u j+tm*f o j)%p):=by
     rw[zE];refine zo _ _ λj M=>zq rfl rfl ?_;simp[ct,R]
    have s1:=Xi I f (λi j=>if i=u then (f u j+tm*f o j)%p else f i j) (λj=>(f u j+tm*f o j)%p) (λj _=>by simp) (λi j _ B _=>by simp[B]);have r1 : ∀U:Cell,qR 5 12 (zd 9) (zu qm (zu Vj (sIx (zg 12)<|zd 9)<|zu qT (zd 10)<|sIx (zg 12)<|zd 8)<|zd 2) [a0,W,.val<|.int p,.val<|.int n,U,.nest<|kl n g,Y,.val<|.int cell,.val<|.int u,.val<|.int o,.val<|.int tm,.val<|.int ov,a2] (kl n g)=some (kl n λi j=>if j=o then (g i o - tm*g i u)%p else g i j):=λU=>by
     unfold kl;refine vz _ λk hk=>⟨.int<|(g k o - tm*g k u)%p,o,o,?_,rfl,?_,Zq O _ _ _ ⋯ λi _ B=>by simp[B]⟩
     ·simp[kg,I,O,ct,R]
     ·simp[O]
    have ao : ¬((u:Int)=(o:Int)):=by omega
    simp[yD,zW,hc,B,ao,I,O,a9,jc,Aa,Jj,c1,s1,r1]
end
@[simp] theorem iI(n f):(kl n f).length=n:=by simp[kl]
section
variable{p:Int}{n:Nat}
theorem QD{ns:List Int}(a5:ns.length<=63)(B:Pr p)(hn:n<=20){z:Int}(h0:0<=z)(h1:z<=10000) :
 ∃f g,Pair p n f g/\qu [vP ns,.int z,.int p,.int n]=some (.own [jm n n f,jm n n g]):=by
 have hl:=jq;have I:n<=lim:=by omega
 have p0:=B.pos;have two:=B.two;have p7:=B.le;have one:=B.one;have a0 : ∀i:Nat,zD (.nm 0) zQ (ky<|zu dEq (zd 1)<|zd 0) [Cell.no,Cell.val (.int i)] ((uZ n).map λ(j:Nat)=>D.int j)=some (zO n<|dlt i):=λi=>by
  rw[zE];refine zo _ _ λj hj=>zq rfl rfl ?_;by_cases e:i=j
  ·subst e;simp[dlt]
  ·have e' : ¬((i:Int)=(j:Int)):=by omega
   simp[dlt,e,e']
 have a9:zD (.nm 0) zQ (qE<|zC (zK<|zd 1) (.nm 0) 1 [0] zQ (ky<|zu dEq (zd 1)<|zd 0)) [Cell.no,Cell.val (.int n)] ((uZ n).map λ(j:Nat)=>D.int j)=some (q8 n dlt):=by unfold q8;refine zo _ _ λi hi=>zq rfl rfl ?_;simp[I,jk,jc,Aa];rw[zE n λi=>(i:Int),a0]
 have ac:yr (.nm 0) (zC (zK<|zd 1) (.nm 0) 1 [0] zQ (ky<|zu dEq (zd 1)<|zd 0)) [Cell.no,Cell.val (.int n)] ((uZ n).map λ(j:Nat)=>D.int j)=some (kl n dlt):=by unfold kl;refine XY _ λi hi=>⟨_,rfl,?_⟩;simp[I,jk,jc,Aa];rw[zE n λi=>(i:Int),a0]
 have wK:Pair p n dlt dlt:=by
  have b : ∀i j:Nat,i<n->j<n->0<=dlt i j/\dlt i j<p:=λi j _ _=>by unfold dlt;split<;>omega
  have u:aS p n dlt dlt:=λi j hi hj=>by rw[kr (i:=i) hi λk _ ag=>by unfold dlt;rw[MQ (AR ag)];simp];simp[dlt]
  exact⟨b,b,u,u⟩
 obtain⟨m,hm⟩ : ∃m:Nat,m=3*n:=⟨_,rfl⟩;have am:=qG (T:= .nm 6) (F:=J1)
  (λt γ=>∃f g c6 c7 c8 c9 O R M,Pair p n f g/\γ=[.val (vP ns),.val<|.int z,.val<|.int p,.val<|.int n,.own<|q8 n f,.nest<|kl n g,c6,c7,c8,c9,O,R,M])
  ((uZ m).map λ(j:Nat)=>D.int j) 0 [.val (vP ns),.val<|.int z,.val<|.int p,.val<|.int n,.own<|q8 n dlt,.nest<|kl n dlt,.no,.no,.no,.no,.no,.no,.no]
  ⟨dlt,dlt,.no,.no,.no,.no,.no,.no,.no,wK,rfl⟩ (by
   rintro t d γ hd ⟨f,g,c6,c7,c8,c9,O,R,M,U,rfl⟩;have ht:t<m:=by have:=(Af.mp hd).1;simpa using this
   have ao:d = .int t:=by simp[ht]at hd;exact hd.symm
   subst ao;have ap:0<n:=by omega
   obtain⟨ec,a1,b1⟩:=Zk a5 (k:=z+(t:Int)) ⋯ ⋯;generalize XG ns (z+(t:Int))=cell at ec a1 b1;obtain⟨u,eu,hu⟩:=xJ (m:=cell) (n:Int) ⋯;have mx:(0:Int)<(if (n:Int) - 1>1 then (n:Int) - 1 else 1):=by split<;>omega
   obtain⟨o,eo,ho⟩:=xJ (m:=(u:Int)+1+cell/7%(if (n:Int) - 1>1 then (n:Int) - 1 else 1)) (n:Int) ⋯;have c5:=BB (cell/49) (show p - 1≠0 by omega);have ca:=Br (cell/49) (show 0<p - 1 by omega);generalize b0:1+cell/49%(p - 1)=tm;have a3:1<=tm/\tm<p:=by omega
   have W:zD (.nm 0) (sB<|zu dEq (zu qm (zu qT (zd 0)<|zd 2)<|zd 1)<|zm<|.int 1) (zd 0) [Cell.no,Cell.val<|.int p,Cell.val (.int tm)] (xH 1 (p - 1).toNat)=some (((uZ (p - 1).toNat).filter λ(i:Nat)=>decide<|(1+(i:Int))*tm%p=1).map λ(i:Nat)=>D.int<|1+(i:Int)):=by unfold xH;refine y6 _ _ _ λi hi=>⟨_,rfl,?_,λ_=>rfl⟩;have cd:=Aq.mp hi;simp[va (1+(i:Int)) tm ⋯ ⋯,p0]
   obtain⟨Y,ce,ch,b7⟩:=mj B (x:=tm) ⋯ a3.2;cases hg:(uZ (p - 1).toNat).filter λ(i:Nat)=>decide ((1+(i:Int))*tm%p=1)with
   | nil=>
    have:=WR hg (Y - 1) ⋯;rw[show(1:Int)+((Y - 1:Nat):Int)=Y by omega]at this;simp[b7]at this
   | cons b ci=>
    obtain⟨cj,b8,_⟩:=XT hg;rw[hg]at W;have b9:(1+(b:Int))*tm%p=1:=by simpa using b8
    obtain⟨f',g',bb,bd,es⟩:=eV B I U (u:=u) (o:=o) (tm:=tm) (ov:=1+(b:Int)) (cell:=cell) ⋯ ⋯ a3 ⟨by omega,by omega⟩ b9 (.val<|vP ns) (.val<|.int z) (.val<|.int t) M;refine⟨_,.inl ?_,f',g',.val<|.int t,.val<|.int cell,.val<|.int u,.val<|.int o,.val<|.int tm,.val<|.int<|1+(b:Int),bb,bd,rfl⟩;have be:inR p=true:=yV ⋯ ⋯;have i1:inR 1=true:=by decide
    have lp:(xH 1 (p - 1).toNat).length<=lim:=by simp[xH];omega
    have bf:(p - 1).toNat=p.toNat - 1:=by omega
    rw[bf]at W lp;have pm:0<p - 1:=by omega
    have bg:1<p:=by omega
    have bi:(0:Int)<(n:Int):=by omega
    simp only[J2,Ab,Ey,Ex,J1];simp[zW,ec,bi,ap,eu,mx,eo,pm,bg,b0,be,i1,lp,jc,Aa,W];exact es)
 obtain⟨γ',e1,f,g,c6,c7,c8,c9,O,R,M,U,rfl⟩:=am;refine⟨f,g,U,?_⟩;have e0:qu=zY 13 (zN (v9 4<|zC (zK<|zd 3) (.nm 0) 1 [3] zQ (qE<|zC (zK<|zd 1) (.nm 0) 1 [0] zQ (ky<|zu dEq (zd 1)<|zd 0)))<|zN (V0 5<|Xd (zK<|zd 3) (.nm 0) 1 [3] (zC (zK<|zd 1) (.nm 0) 1 [0] zQ (ky<|zu dEq (zd 1)<|zd 0)))<|zN (Ke (zK<|zu qT (zm<|.int 3)<|zd 3) (.nm 6) J1)<|fz 5<|oQ 4<|Xb<|zC (zP<|zT<|xj<|zb (zd 4)<|zb (zd 5) zz) (.nm 0) 1 [3] zQ (xj<|zb (zd 1)<|zb (zd 1)<|zb (zG<|zX<|zC (zP<|zg 0) (.nm 0) 1 [] zQ (zG<|zg 0)) zz)):=rfl;have bm : ∀h:GK,zD (.nm 0) zQ (zG<|zg 0) [Cell.no] (q8 n h)=some (jB n n h):=λh=>by unfold q8 jB;refine zo _ _ λi hi=>zq rfl rfl ?_;simp
 have cm:J0 3 (n:Int)=true:=va _ _ ⋯ ⋯;have e3:(3*(n:Int))=((m:Nat):Int):=by omega
 have bx:m<=lim:=by omega
 rw[e0];simp[zY,zU,zW,Aa,I,jk,jc];rw[zE n λi=>(i:Int),a9];simp[I,jc,Aa,jk];rw[zE n λi=>(i:Int),ac];simp[Jg,cm,e3,bx,jk];rw[zE m λi=>(i:Int),e1];simp[Wf,zD,bm,I,jc,Aa,jm]
end
noncomputable def xK(w:GX)(k:Nat):Nat:=if w k then k+1 else k
noncomputable def qO(w:GX)(k:Nat):Nat:=if w k then k else k+1
theorem yh(w:GX)(wd:GZ)(k):hiW w wd k=wd (qO w k):=by unfold hiW qO;split<;>rfl
theorem yy(w:GX)(wd:GZ)(k):wiW w wd k=wd (xK w k):=by unfold wiW xK;split<;>rfl
theorem gN(w:GX)(h:k<m):xK w k<m+1:=by unfold xK;split<;>omega
theorem gz(w:GX)(h:k<m):qO w k<m+1:=by unfold qO;split<;>omega
theorem ym(w:GX)(k:Nat):j7 [.int k,.str (jd<|wch<|w k)]=some (.val<|.int (xK w k:Nat)):=by have q:=K0<|w k;cases h:w k<;>rw[h]at q<;>simp[j7,zY,zU,xK,q,h]
theorem QG(w:GX)(k:Nat):xu [.int k,.str (jd<|wch<|w k)]=some (.val<|.int (qO w k:Nat)):=by have q:=K0<|w k;cases h:w k<;>rw[h]at q<;>simp[xu,zY,zU,qO,q,h]
noncomputable def xP(m:Nat)(wd:GZ)(f:GV):List D:=(uZ m).map λk=>jm (wd k) (wd k)<|f k
@[simp] theorem il(m wd f):(xP m wd f).length=m:=by simp[xP]
@[simp] theorem nh(wd f)(h:k<(xP m wd f).length):(xP m wd f)[k]=jm (wd k) (wd k) (f k):=by simp[xP]
noncomputable def vh(p:Int)(w:GX)(wd:GZ)(f g T:GV)(k i j:Nat):Int:=
 zS (λb=>g (xK w k) b j*(zS (λa=>T k a b*f (qO w k) i a) (wd<|qO w k)%p)) (wd<|xK w k)%p
section
variable{p:Int}{m:Nat}{w:GX}{wd:GZ}{f g T:GV}
theorem yw(I:0<p)(p7:p<=7)(hm:m<=900)(z : ∀k,wd k<=lim){k:Nat}(M:k<m)(U : ∀i j,i<hiW w wd k->j<wiW w wd k->0<=T k i j/\T k i j<p)(W : ∀k i j,k<m+1->i<wd k->j<wd k->0<=g k i j/\g k i j<p) :
 jP [.int p,.int k,jU w wd T k,.lst<|xP (m+1) wd f,.lst (xP (m+1) wd g)]=some (.val<|jU w wd (vh p w wd f g T) k):=by
 have e1:=ym w k;have e2:=QG w k;have O:=gN w M;have le:=gz w M;have Y:jf (jU w wd T k)=some (.T,[.str (jd<|wch<|w k),jm (wd<|qO w k) (wd<|xK w k) (T k)]):=by unfold jU;rw[yh,yy];rfl
 have a0:jU w wd (vh p w wd f g T) k = .tup [.str (jd<|wch<|w k),jm (wd<|qO w k) (wd<|xK w k) (vh p w wd f g T k)]:=by unfold jU;rw[yh,yy]
 have lt : ∀{x:Int},0<=x/\x<p->0<=x/\x<100:=λh=>by omega
 have a1:=vU (f<|qO w k) (T k) I (z<|qO w k) (z<|qO w k) (z<|xK w k) λi j hi B=>lt (U i j (by rw[yh];exact hi)<|by rw[yy];exact B);have a2:=vU (λi j=>zS (λR=>T k R j*f (qO w k) i R) (wd<|qO w k)%p) (g<|xK w k) I (z<|qO w k) (z<|xK w k) (z<|xK w k) λi j hi B=>lt<|W _ i j O hi B;simp[jP,zY,zU,zW,Y,e1,e2,O,le,a1,a2];rw[a0];rfl
theorem vB(m:Nat)(F:Nat->D):kH ((uZ m).map F)=(uZ m).map λ(k:Nat)=>D.tup [.int k,F k]:=by unfold kH;rw[AO,EN];apply AL;intro k z;have z:=Aq.mp z;simp[z]
theorem vf(I:0<p)(M:p<=7)(hm:m<=900)(O : ∀k,wd k<=lim)(R : ∀k i j,k<m->i<hiW w wd k->j<wiW w wd k->0<=T k i j/\T k i j<p)(U : ∀k i j,k<m+1->i<wd k->j<wd k->0<=g k i j/\g k i j<p) :
 xM [zL p m w wd T,.lst<|xP (m+1) wd f,.lst (xP (m+1) wd g)]=some (.val<|zL p m w wd<|vh p w wd f g T):=by
 have hl:=jq;have W:m<=lim:=by omega
 have B:jf (zL p m w wd T)=some (.T,[.int p,.tup<|zO (m+1) λk=>(wd k:Int),.tup (jg m w wd T)]):=rfl;have Y:kH (jg m w wd T)=(uZ m).map λ(k:Nat)=>D.tup [.int k,jU w wd T k]:=vB m _;have go:zD (.tp [0,1]) zQ (zt jP<|zb (sIx (zg 2)<|zm<|.int 0)<|zb (zd 0)<|zb (zd 1)<|zb (zd 3)<|zb (zd 4) zz) [Cell.no,Cell.no,Cell.val<|zL p m w wd T,Cell.val<|.lst<|xP (m+1) wd f,Cell.val (.lst<|xP (m+1) wd g)] ((uZ m).map λ(k:Nat)=>D.tup [.int k,jU w wd T k])=some (jg m w wd<|vh p w wd f g T):=by unfold jg;refine zo _ _ λk z=>zq rfl rfl ?_;have z:=Aq.mp z;have e:=yw (f:=f) (g:=g) I M hm O z (R k · · z) U;simp[B,e]
 simp only[xM,zY,zU];rw[zW];simp[B,fA,Y,W,jc,xS,Aa];rw[go];simp[B,zL]
end
theorem zB(h:F γ=some (.next γ'))(g:G γ'=r):zN F G γ=r:=by rw[zW,h];exact g
theorem j9(h:F (zU n ds)=some (.ret r)):zY n F ds=some r:=by show(F<|zU n ds).bind _=_;rw[h];rfl
noncomputable def X7(bs:List (Int×Int)):List D:=bs.map λb=>D.tup [.int b.1,.int b.2]
@[simp] theorem mL(bs):(X7 bs).length=bs.length:=by simp[X7]
noncomputable def eX(bs:List (Int×Int)):List (Int×Int):=(lr bs).map λi=>bs.getD i (0,0)
@[simp] noncomputable def nX:=@iC.eq_1
section ap
variable(γ:Ctx)
@[simp] noncomputable def nW:=@wR.eq_1
@[simp] noncomputable def og:=@iF.eq_1
@[simp] noncomputable def oh:=@vJ.eq_1
@[simp] noncomputable def sV:=@iE.eq_1
end ap
noncomputable def uy(b:Int×Int)(r:Int):Bool:=decide (b.1<=r) && decide (r<=b.2)
noncomputable def dD(bs:List (Int×Int))(r:Int):List Nat:=(uZ bs.length).filter λi=>uy (bs.getD i (0,0)) r
noncomputable def pA(l:List Nat):List D:=l.map λ(i:Nat)=>D.int i
@[simp] theorem nC(l):(pA l).length=l.length:=by simp[pA]
section
variable{p:Int}{m:Nat}{w:GX}{wd:GZ}{T S:GV}
noncomputable def JD(w:GX)(wd:GZ)(S:GV)(k:Nat):D:= .tup [.str (jd<|wch<|w k),.lst (xV (hiW w wd k) (wiW w wd k)<|S k)]
theorem Vf(a b:D):jL [.tup [a,b],.int 2]=some (.val<|.bl true):=by rfl
theorem cf(b:Bool)(γ:Ctx)(f:CO D)(z:f γ=some (.str (jd (wch b)))):wU f (zT (zm (.tup [.str "r",.str "l"]))) γ=some (.bl false):=by
 show(f γ).bind _=_;rw[z];have e : ∀b:Bool,((!([("r" : Str),"l"].any λy=>y==jd (wch b))):Bool)=false:=by decide +kernel
 show some (D.bl (!([("r" : Str),"l"].any λy=>y==jd (wch b))))=_;rw[e]
end
noncomputable def sgS(x:Str):List Nat:=x.cps.toList
theorem wM(a b:Str):sgS (a++b)=sgS a++sgS b:=by show(a.cps++b.cps).toList=_;simp[sgS]
theorem QZ{a b:Str}(h:sgS a=sgS b):a=b:=by obtain⟨a⟩:=a;obtain⟨b⟩:=b;have h:a.toList=b.toList:=h;rw[<- Fn (xs:=a),h,Fn]
theorem xE(a:Str):a.length=(sgS a).length:=by show a.cps.size=_;simp[sgS]
theorem yY(a:Str):CK++a=a:=QZ (by rw[wM];rfl)
noncomputable def yW(c:Nat):List (List Nat)->List Nat
 | []=>[]
 | [a]=>a
 | a::b::r=>a++c::yW c (b::r)
theorem kG(c:Nat) : ∀l:List Str,sgS (Cb (jd c) l)=yW c (l.map sgS)
 | []=>rfl
 | [a]=>rfl
 | a::b::l=>by have z:=kG c (b::l);show sgS ((a++jd c)++Cb (jd c) (b::l))=_;rw[wM,wM,z];show(sgS a++[c])++_=sgS a++c::_;simp
theorem YH{c:Nat} : ∀{a I x B:List Nat},c∉a->c∉I->a++c::x=I++c::B->a=I/\x=B
 | [],[],x,B,_,_,h=>by injection h with _ h;exact⟨rfl,h⟩
 | [],b::I,x,B,_,h2,h=>by injection h with h _;exact absurd (by rw[h];exact Ai) h2
 | b::a,[],x,B,h1,_,h=>by injection h with h _;exact absurd (by rw[<- h];exact Ai) h1
 | b::a,b'::I,x,B,h1,h2,h=>by injection h with e h;obtain⟨e1,e2⟩:=YH (λz=>h1<|Ah _ z) (λz=>h2<|Ah _ z) h;exact⟨by rw[e,e1],e2⟩
theorem XQ{c:Nat} : ∀{l z:List (List Nat)},l ≠ []->z ≠ []->(∀a∈l,c∉a)->(∀a∈z,c∉a)->yW c l=yW c z->l=z
 | [],_,h,_,_,_,_=>absurd rfl h
 | _,[],_,h,_,_,_=>absurd rfl h
 | [a],[a'],_,_,_,_,h=>by rw[show a=a' from h]
 | [a],a'::B::r',_,_,h1,_,h=>by have h:a=a'++c::yW c (B::r'):=h;exact absurd (by rw[h];simp)<|h1 a Ai
 | a::b::r,[a'],_,_,_,h2,h=>by have h:a++c::yW c (b::r)=a':=h;exact absurd (by rw[<- h];simp)<|h2 a' Ai
 | a::b::r,a'::B::r',_,_,h1,h2,h=>by obtain⟨e1,e2⟩:=YH (h1 a Ai) (h2 a' Ai) h;rw[e1,XQ (List.cons_ne_nil b r) (List.cons_ne_nil B r') (λx I=>h1 x<|Ah _ I) (λx I=>h2 x<|Ah _ I) e2]
theorem ZR{c:Nat}{l:List Str}(I:l ≠ [])(h : ∀a∈l,c∉sgS a):Cf (Cb (jd c) l) (jd c)=l:=by
 have e:=StrLaws.join_split (Cb (jd c) l)<|jd c;have e2:=congrArg sgS e;rw[kG,kG]at e2;have M:Cf (Cb (jd c) l) (jd c) ≠ []:=λz=>by have:=PyProof.Rows.split_pos (Cb (jd c) l)<|jd c;rw[z]at this;simp at this
 have:=XQ (by simpa using M) (by simpa using I) (λa ha=>by
  obtain⟨x,B,rfl⟩:=AY.mp ha;exact StrLaws.split_free _ c x B) (λa ha=>by
  obtain⟨x,B,rfl⟩:=AY.mp ha;exact h x B) e2
 exact List.map_inj_right (λ_ _ z=>QZ z) |>.mp this
theorem Kj{n:Int}(z:0<=n)(h:n<10):qM n=jd (48+n.toNat):=by
 have : ∀k:Fin 10,qM ((k:Nat):Int)=jd (48+k):=by decide +kernel
 have e:=this ⟨n.toNat,by omega⟩;rw[show(((⟨n.toNat,by omega⟩:Fin 10):Nat):Int)=n by show((n.toNat:Nat):Int)=n;omega]at e;exact e
theorem Wh{n:Int}(z:0<=n)(h1:n<10 ^ 10):Et (qM n)=some n:=PySem.W.KIN.num_reads z h1
theorem vq{α:Type}(xs:List α) : ∀(c a:Nat),((uZ c).map (a + ·)).filterMap (λi=>xs[i]?)=(xs.drop a).take c
 | 0,a=>by simp
 | c+1,a=>by
  rw[List.range_succ_eq_map,Ba,Bj];have e:(uZ c).map ((a + ·)∘Nat.succ)=(uZ c).map (a+1 + ·):=AL λk _=>by show a+(k+1)=a+1+k;omega
  rw[e];by_cases h:a<xs.length
  ·rw[Bw (b:=xs[a]) (by show xs[a+0]? = _;rw[Nat.add_zero,Ae h]),vq xs c<|a+1,BG h,List.take_succ_cons]
  ·rw[BQ (by show xs[a+0]? = _;rw[Nat.add_zero,BE ⋯]),vq xs c<|a+1,List.drop_eq_nil_of_le ⋯,List.drop_eq_nil_of_le ⋯]
   simp
theorem Jr{x:Str}{lo hi:Option Int}{a b:Nat}(h:BW lo hi 1 x.length=sliceRange a b 1)(I:b<=x.length):sgS (Cg x lo hi)=((sgS x).drop a).take (b - a):=by
 have e:=sliceRange_one a b;unfold Cg;split
 ·next B=>
  rw[h,e]at B;simp only[BEq.rfl,Bool.true_and,beq_iff_eq,AO,EN]at B;have:a=0\/x.length=0:=by omega
  have M:=xE x;rcases this with z | z
  ·subst z
   rw[List.drop_zero,BY ⋯]
  ·have:sgS x=[]:=AM ⋯
   rw[this];simp
 ·rw[h,e]
  show(List.filterMap _ _).toArray.toList=_;have:=vq (sgS x) (b - a) a;rw[<- this];simp[sgS]
section
variable{x:Str}{c d:Nat}{t:List Nat}
theorem Kl(h:sgS x=c::(t++[d])):Cg x none (some 1)=jd c:=by
 have z:=xE x;rw[h]at z;simp at z;refine QZ ?_;rw[Jr (a:=0) (b:=1) ?_ ⋯,h]
 ·rfl
 ·unfold BW
  simp;congr 1;omega
theorem YY(h:sgS x=c::(t++[d])):Cg x (some (-1)) none=jd d:=by
 have z:=xE x;rw[h]at z;simp at z;refine QZ ?_;rw[Jr (a:=t.length+1) (b:=t.length+2) ?_ ⋯,h]
 ·rw[List.drop_succ_cons,List.drop_left];rw[show t.length+2 - (t.length+1)=1 by omega];rfl
 ·unfold BW
  simp;congr 1<;>omega
theorem QX(h:sgS x=c::(t++[d])):sgS (Cg x (some 1)<|some (-1))=t:=by
 have z:=xE x;rw[h]at z;simp at z;rw[Jr (a:=1) (b:=t.length+1) ?_ ⋯,h]
 ·rw[List.drop_succ_cons,List.drop_zero,show t.length+1 - 1=t.length by omega,List.take_left]
 ·unfold BW
  simp;congr 1<;>omega
end
theorem XJ:("/" : Str)=jd 47:=by decide +kernel
theorem XI:(" " : Str)=jd 32:=by decide +kernel
theorem YB:("-" : Str)=jd 45:=by decide +kernel
theorem lT:(">" : Str)=jd 62:=by decide +kernel
theorem lS:("<" : Str)=jd 60:=by decide +kernel
theorem XM:(":" : Str)=jd 58:=by decide +kernel
theorem JQ{γ:Ctx}{f:CO D}{q:CO (Sk×List D)}{sep:Str}{l:List Str}(z:f γ=some (.str sep))(B:q γ=some (.L,l.map D.str))(I:l.length<=lim)(M : ∀x∈l,zA x=true)(O:zA sep=true):ZG f q γ=some (.str<|Cb sep l):=by
 rw[aN,z,B];have st:vZ (l.map D.str)=some l:=by
  have:=yC (λx:Str=>x) l
  rwa [List.map_id']at this
 simp only[Ab,st];rw[GY ⟨I,Bp.mpr M,O⟩]
section
variable{v h:Nat}{g:Nat->Int}{f:GK}
noncomputable def JV(v:Nat)(g:Nat->Int):Str:=Cb "" ((uZ v).map λj=>qM (g j))
noncomputable def ZP(h v:Nat)(f:GK):Str:=Cb (jd 47)<|(uZ h).map λi=>JV v<|f i
theorem XW(z : ∀j,0<=g j/\g j<10):sgS (JV v g)=(uZ v).map λj=>48+(g j).toNat:=by have:=vx<|(uZ v).map λj=>48+(g j).toNat;rw[Bj]at this;unfold JV;rw[show((uZ v).map λj=>qM<|g j)=(uZ v).map (jd∘λj=>48+(g j).toNat)from AL λj _=>Kj (z j).1 (z j).2];exact this
theorem XU(z : ∀j,0<=g j/\g j<10)(B:v<=1000):zA (JV v g)=true:=decide_eq_true (by rw[xE,XW z];simpa using B)
theorem dg:sgS (ZP h v f)=yW 47 ((uZ h).map λi=>sgS<|JV v<|f i):=by unfold ZP;rw[kG,Bj];rfl
theorem YD{c:Nat} : ∀{l:List (List Nat)} {x:Nat},x∈yW c l->x=c\/∃a∈l,x∈a
 | [],x,h=>by cases h
 | [a],x,h=> .inr ⟨a,Ai,h⟩
 | a::b::r,x,h=>by
  rcases Cd.mp (show x∈a++c::yW c (b::r)from h)with h | h
  ·exact .inr ⟨a,Ai,h⟩
  ·rcases Ag.mp h with h | h
   ·exact .inl h
   ·rcases YD h with h | ⟨y,h1,h2⟩
    ·exact .inl h
    ·exact .inr ⟨y,Ah _ h1,h2⟩
theorem JT{c n:Nat} : ∀{l:List (List Nat)},(∀a∈l,a.length<=n)->(yW c l).length<=l.length*(n+1)
 | [],_=>by simp[yW]
 | [a],h=>by have:=h a Ai;simp[yW];omega
 | a::b::r,h=>by have h1:=h a Ai;have h2:=JT (c:=c) (l:=b::r) λx z=>h x<|Ah _ z;simp only[yW,Bl,Be]at h2 ⊢;rw[Nat.succ_mul];omega
theorem wH(B : ∀i j,0<=f i j/\f i j<10){x:Nat}(z:x∈sgS (ZP h v f)):47<=x/\x<=57:=by
 rw[dg]at z;rcases YD z with e | ⟨a,ha,z⟩
 ·omega
 ·obtain⟨i,_,rfl⟩:=AY.mp ha
  rw[XW (B i)]at z;obtain⟨j,_,rfl⟩:=AY.mp z;have:=B i j;omega
theorem ko(z : ∀i j,0<=f i j/\f i j<10)(B:h<=20)(I:v<=20):(ZP h v f).length<=420:=by
 rw[xE,dg];have:=JT (c:=47) (n:=20) (l:=(uZ h).map λi=>sgS<|JV v<|f i) λa ha=>by obtain⟨i,_,rfl⟩:=AY.mp ha;rw[XW (z i)];simpa using I
 rw[AO,EN]at this;have:=Nat.mul_le_mul_right 21 B;omega
theorem Zw(z : ∀i j,0<=f i j/\f i j<10)(U:h<=20)(W:v<=20):xr [jm h v f]=some (.val<|.str<|ZP h v f):=by
 have Y:=jq;have I:v<=lim:=by omega
 have M:h<=lim:=by omega
 have O:zA "" = true:=by decide +kernel
 have e1:zA "/" = true:=by decide +kernel
 have i1 : ∀i,zD (.nm 0) zQ (vj<|zd 0) [.no] (zO v<|f i)=some (((uZ v).map λj=>qM<|f i j).map D.str):=λi=>by rw[zE,Bj];refine zo _ _ λj _=>zq rfl rfl ?_;have:=z i j;have r:inR (f i j)=true:=yV ⋯ ⋯;show(some (f i j)).bind _=_;rw[Ab,GY r];rfl
 have row : ∀i,ZG (zm (.str "")) (zX (zC (zP (zg 0)) (.nm 0) 1 [] zQ (vj (zd 0)))) [.val (.tup (zO v (f i)))]=some (.str (JV v (f i))):=λi=>by
  refine JQ rfl ?_ (by simpa using I) (λx B=>?_) O
  ·simp[I,jc,Aa,i1]
  ·obtain⟨j,_,rfl⟩:=AY.mp B
   rw[Kj (z i j).1 (z i j).2];rfl
 have go:zD (.nm 0) zQ (ZG (zm (.str "")) (zX (zC (zP (zg 0)) (.nm 0) 1 [] zQ (vj (zd 0))))) [.no] (jB h v f)=some (((uZ h).map λi=>JV v (f i)).map D.str):=by unfold jB;rw[Bj];exact zo _ _ λi _=>zq rfl rfl (row i)
 have R:jf (jm h v f)=some (.T,[.int h,.int v,.tup (jB h v f)]):=rfl;have dl:(jB h v f).length<=lim:=by simpa[jB]using M
 have j:=JQ (γ:=[.val (jm h v f)]) (f:=zm (.str "/")) (q:=zX (zC (zP (zT (sIx (zg 0) (zm (.int 2))))) (.nm 0) 1 [] zQ (ZG (zm (.str "")) (zX (zC (zP (zg 0)) (.nm 0) 1 [] zQ (vj (zd 0))))))) (sep:="/") (l:=(uZ h).map λi=>JV v (f i)) rfl
  (by
   simp only[kK,j3,J8,YL,J7,xY,AH,jW,R,Ab];show(BV _<|if (jB h v f).length<=lim then zD _ _ _ [.no] (jB h v f)else none)=_;rw[GY dl,go];rfl) (by simpa using M) (λx B=>by obtain⟨i,_,rfl⟩:=AY.mp B;exact XU (z i) ⋯) e1
 show(jH _ [.val (jm h v f)]).bind _=_;rw[vQ];refine(congrArg (λo=>(BV (λd=>Fl.ret<|.val d) o).bind _)<|show _=some (D.str<|ZP h v f)from ?_).trans rfl;exact j.trans (by unfold ZP;rw[XJ])
end
section
variable{p:Int}{m:Nat}{w:GX}{wd:GZ}{T:GV}
noncomputable def VP(w:GX)(wd:GZ)(T:GV)(k:Nat):Str:=ZP (hiW w wd k) (wiW w wd k)<|T k
noncomputable def vE(w:GX)(wd:GZ)(T:GV)(k:Nat):Str:=if w k=true then (jd 60++VP w wd T k)++jd 45 else (jd 45++VP w wd T k)++jd 62
theorem dR(h : ∀k,wd k<=20)(k:Nat):hiW w wd k<=20:=by rw[yh];exact h _
theorem de(h : ∀k,wd k<=20)(k:Nat):wiW w wd k<=20:=by rw[yy];exact h _
theorem uA(b:Bool):dEq (.str (jd (wch b))) (.str "r")=some (.bl (!b)):=by
 have e : ∀b:Bool,(jd (wch b)==(As "r")) = !b:=by decide +kernel
 have z : ∀b:Bool,okD (.str<|jd<|wch b)=true:=by decide +kernel
 have B:okD (.str (As "r"))=true:=by decide +kernel
 unfold dEq;rw[GY ⟨z b,B⟩];show some (D.bl (jd (wch b)==As "r"))=_;rw[e]
theorem YX(z : ∀k i j,0<=T k i j/\T k i j<10)(h : ∀k,wd k<=20)(k:Nat):zA (VP w wd T k)=true:=decide_eq_true<|AE (ko (z k) (dR h k)<|de h k) ⋯
theorem J4(B : ∀k i j,0<=T k i j/\T k i j<10)(h : ∀k,wd k<=20)(k:Nat):qJ [jU w wd T k]=some (.val<|.str<|vE w wd T k):=by
 have t:xr [jm (hiW w wd k) (wiW w wd k) (T k)]=some (.val (.str (VP w wd T k))):=Zw (B k) (dR h k) (de h k);have I:=YX (w:=w) B h k;have z:=uA (w k);have s1:zA (As "-")=true:=by decide +kernel
 have s2:zA (As ">")=true:=by decide +kernel
 have M:zA (As "<")=true:=by decide +kernel
 have e1:=yY (As "-");have e2:=yY (As "<");unfold vE;rw[<- YB,<- lT,<- lS];unfold qJ;refine j9 (zB (γ':=[.val (jU w wd T k),.val (.str (VP w wd T k))]) ?_ ?_)
 ·simp[zU,Aa,J6,t]
 ·cases hw:w k
  ·rw[hw]at z
   simp[J6,hw,z,yG,Xc,YZ,mz,gZ,I,s1,s2,e1]
  ·rw[hw]at z
   simp[J6,hw,z,yG,Xc,YZ,mz,gZ,I,s1,M,e2]
noncomputable def jV(p:Int)(w:GX)(wd:GZ)(T:GV):Nat->List Str
 | 0=>[qM p++jd 58,qM (wd 0:Int)]
 | s+1=>jV p w wd T s++[vE w wd T s,qM (wd (s+1):Int)]
theorem jA(s:Nat):(jV p w wd T s).length=2*s+2:=by
 induction s with
 | zero=>rfl
 | succ s z=>simp[jV,z];omega
theorem Jl : ∀(s k:Nat),k<=s->(jV p w wd T s)[2*k+1]? = some (qM (wd k:Int))
 | 0,k,h=>by
  obtain rfl:k=0:=by omega
  rfl
 | s+1,k,h=>by
  by_cases z:k<=s
  ·rw[jV,AD (by rw[jA];omega)]
   exact Jl s k z
  ·obtain rfl:k=s+1:=by omega
   rw[jV,AA (by rw[jA];omega),jA,show 2*(s+1)+1 - (2*s+2)=1 by omega];rfl
theorem wG : ∀(s k:Nat),k<s->(jV p w wd T s)[2*k+2]? = some (vE w wd T k)
 | 0,k,h=>by omega
 | s+1,k,h=>by
  by_cases z:k<s
  ·rw[jV,AD (by rw[jA];omega)]
   exact wG s k z
  ·obtain rfl:k=s:=by omega
   rw[jV,AA (by rw[jA];omega),jA,show 2*k+2 - (2*k+2)=0 by omega];rfl
end
section
variable{p:Int}{m:Nat}{w:GX}{wd:GZ}{T:GV}
noncomputable def q9(p:Int)(m:Nat)(w:GX)(wd:GZ)(T:GV):Str:=Cb (jd 32)<|jV p w wd T m
theorem gC(g:Nat->Int):Vk (zO (m+1) g) (some 1) none=zO m λk=>g (k+1):=by rw[zE,zE,List.range_succ_eq_map,Ba,Bj];unfold Vk K2;simp;exact BY ⋯
theorem dZ:Jk (jg m w wd T) (zO m λk=>(wd (k+1):Int))=(uZ m).map λk=>D.tup [jU w wd T k,.int (wd (k+1):Int)]:=by unfold Jk jg;rw[zE,CF,Bj];rfl
theorem kn{n:Int}(z:0<=n)(h:n<=30):zA (qM n)=true:=by
 have : ∀k:Fin 31,zA (qM ((k:Nat):Int))=true:=by decide +kernel
 have e:=this ⟨n.toNat,by omega⟩;rw[show(((⟨n.toNat,by omega⟩:Fin 31):Nat):Int)=n by show((n.toNat:Nat):Int)=n;omega]at e;exact e
theorem K7(z : ∀k i j,0<=T k i j/\T k i j<10)(h : ∀k,wd k<=20)(k:Nat):(vE w wd T k).length<=422:=by
 have:=ko (z k) (dR (w:=w) h k)<|de (w:=w) h k;have e:(vE w wd T k).length=(VP w wd T k).length+2:=by rw[xE,xE];unfold vE;split<;>rw[wM,wM]<;>simp[sgS,jd]<;>omega
 rw[e];unfold VP;omega
theorem vg(B:p=2\/p=3\/p=5\/p=7)(I : ∀k i j,0<=T k i j/\T k i j<10)(h : ∀k,wd k<=20) : ∀s,∀x∈jV p w wd T s,zA x=true
 | 0,x,z=>by
  rcases Ag.mp z with rfl | z
  ·rcases B with rfl | rfl | rfl | rfl<;>decide +kernel
  ·rw[CG.mp z]
   exact kn ⋯ (by have:=h 0;omega)
 | s+1,x,z=>by
  rcases Cd.mp z with z | z
  ·exact vg B I h s x z
  ·rcases Ag.mp z with rfl | z
   ·exact decide_eq_true<|AE (K7 I h s) ⋯
   ·rw[CG.mp z]
    exact kn ⋯ (by have:=h<|s+1;omega)
theorem Jq{γ:Ctx}{f:CO D}{n:Int}(z:f γ=some (.int n))(B:0<=n)(h:n<=30):vj f γ=some (.str<|qM n):=by have r:inR n=true:=yV ⋯ ⋯;show((f γ).bind asI).bind _=_;rw[z];show(some n).bind _=_;rw[Ab,GY r]
theorem Ks(U:p=2\/p=3\/p=5\/p=7)(hm:m<=5)(M : ∀k i j,0<=T k i j/\T k i j<10)(h : ∀k,wd k<=20):qU [zL p m w wd T]=some (.val<|.str<|q9 p m w wd T):=by
 have hl:=jq;let R:=zL p m w wd T;let O:CO Fl:=zN (j8 2<|zt qJ<|zb (zd 3) zz)<|j8 2<|vj<|zd 4;have src:QK (sIx (zg 0)<|zm<|.int 2) (fu (sIx (zg 0)<|zm<|.int 1) (sBd<|zm<|.int 1) wV) [.val R,.val<|.int p,.own<|(jV p w wd T 0).map D.str,.no,.no]=some ((uZ m).map λk=>D.tup [jU w wd T k,.int (wd (k+1):Int)]):=by rw[<- dZ,<- gC (λk=>(wd k:Int))];rfl
 obtain⟨γ',W,z⟩:=qG (T:= .tp [3,4]) (F:=O) (λs γ=>∃B I,γ=[.val R,.val<|.int p,.own<|(jV p w wd T s).map D.str,B,I]) ((uZ m).map λk=>D.tup [jU w wd T k,.int (wd (k+1):Int)]) 0 [.val R,.val<|.int p,.own<|(jV p w wd T 0).map D.str,.no,.no] ⟨_,_,rfl⟩ (by
  intro s d γ hd z;simp only[BF]at z ⊢;obtain⟨B,I,rfl⟩:=z;have Y:s<m:=by have:=(Af.mp hd).1;simpa using this
  have a0:d = .tup [jU w wd T s,.int (wd (s+1):Int)]:=by simp[Y]at hd;exact hd.symm
  subst a0;refine⟨[.val R,.val<|.int p,.own<|(jV p w wd T<|s+1).map D.str,.val<|jU w wd T s,.val (.int (wd (s+1):Int))],.inl ?_,_,_,rfl⟩;show O [.val R,.val<|.int p,.own<|(jV p w wd T s).map D.str,.val<|jU w wd T s,.val (.int (wd (s+1):Int))]=_;have a1:=J4 (w:=w) M h s;have st:=Jq (γ:=[.val R,.val<|.int p,.own<|(jV p w wd T s).map D.str++[.str (vE w wd T s)],.val<|jU w wd T s,.val (.int (wd (s+1):Int))]) (f:=zd 4) rfl ⋯ (show(wd (s+1):Int)<=30 by have:=h<|s+1;omega);have l1:((jV p w wd T s).map D.str).length<lim:=by rw[AO,jA];omega
  refine zB (γ':=[.val R,.val<|.int p,.own<|(jV p w wd T s).map D.str++[.str (vE w wd T s)],.val<|jU w wd T s,.val (.int (wd (s+1):Int))]) ?_ ?_
  ·simp[a1,jA]
   omega
  ·show(some _).bind _=_
   rw[Ab,st,Ab,GY (by rw[Bl,AO,jA];simp;omega)];simp[jV])
 simp only[BF,AO,EN]at z;obtain⟨B,I,rfl⟩:=z;have sp:zA " " = true:=by decide +kernel
 have jn:=JQ (γ:=[.val R,.val (.int p),.own ((jV p w wd T m).map D.str),B,I]) (f:=zm (.str " ")) (q:=zg 2) (sep:=" ") (l:=jV p w wd T m) rfl rfl (by rw[jA];omega) (vg U M h m) sp;unfold qU;refine j9 (zB (γ':=[.val R,.val (.int p),.no,.no,.no]) rfl (zB (γ':=[.val R,.val (.int p),.own ((jV p w wd T 0).map D.str),.no,.no]) ?_ (zB (γ':=[.val R,.val (.int p),.own ((jV p w wd T m).map D.str),B,I]) ?_ ?_)))
 ·have st:=Jq (γ:=[.val R,.val<|.int p,.no,.no,.no]) (f:=sIx (zT<|sIx (zg 0)<|zm<|.int 1)<|zm<|.int 0) (n:=(wd 0:Int)) (by simp[R,Ju]) ⋯ (by have:=h 0;omega)
  have ht:yG [YZ (zd 1),zm (.str ":")] [.val R,.val (.int p),.no,.no,.no]=some (.str (qM p++jd 58)):=by
   have s1:zA (As ":")=true:=by decide +kernel
   have s2:zA (qM p)=true:=kn ⋯ ⋯;have r:inR p=true:=yV ⋯ ⋯;rw[<- XM];simp[yG,Xc,YZ,mz,gZ,r,s1,s2,yY]
  have l2:2<=lim:=by omega
  simp[st,ht,l2,jV]
 ·rw[aO,src,Ab]
  exact W
 ·rw[vQ]
  refine(congrArg (BV _) jn).trans ?_;rw[XI];rfl
end
theorem gr{n k:Nat}{i:Int}(h:i=(k:Int))(z:k<n):ixD n i=some k:=by rw[h,qL,GY z]
section
variable{p:Int}{m:Nat}{w:GX}{wd:GZ}{T:GV}
theorem gJ{γ:Ctx}{f g:CO D}{x y:Str}(z:f γ=some (.str x))(B:g γ=some (.str y))(I:zA x=true)(M:zA y=true):Y0 f g γ=some (.str<|x++y):=by show(f γ).bind _=_;rw[z];show(g γ).bind _=_;rw[B];show(if zA x=true/\zA y=true then some (D.str<|x++y)else none)=_;rw[GY ⟨I,M⟩]
end
noncomputable def b1:=(sIf (ji<|sB<|zt Ji<|zb (zd 1) zz) qD jo)
noncomputable def b2:=(jM 3<|zu jO (vm<|zd 1)<|zm<|.int 1)
noncomputable def b3:=(sIf (ji<|sB<|Kp<|zX<|zC (zP<|zg 2) (.nm 0) 1 [3] zQ (zt vW<|zb (zd 1)<|zb (zd 0) zz)) qD jo)
noncomputable def b4:=(jM 4<|qE<|iC<|zg 2)
noncomputable def b5:=(jM 5<|qE<|zC (zK<|zd 3) (.nm 0) 1 [4] zQ (qE<|kf aV<|zb (zd 1)<|zb (zd 0) zz))
noncomputable def b6:=(jM 6<|zG<|zX<|zC (zP<|zg 5) (.nm 0) 1 [] zQ (vI<|zg 0))
noncomputable def x1:CO Xn:=(xIf (ji (sB (zt Ji (zb (zd 1) zz)))) (ey "NoRow") xNo)
noncomputable def x3:CO Xn:=(xIf (ji (sB (Kp (zX (zC (zP (zg 2)) (.nm 0) 1 [3] zQ (zt vW (zb (zd 1) (zb (zd 0) zz)))))))) (ey "NoRow") xNo)
noncomputable def x7:CO Xn:=(xIf (sB (zu dGt (gW (zg 6)) (zm (.int 30)))) (ey "TooMany") xNo)
noncomputable def iK(m:Nat)(bs:List (Int×Int)):List D:=(uZ<|m+1).map λ(r:Nat)=>D.lst<|pA<|dD bs r
noncomputable def Vt(m:Nat)(bs:List (Int×Int)):List D:=zO (m+1) λr=>((dD bs r).length:Int)
section
variable{p:Int}{m:Nat}{w:GX}{bs:List (Int×Int)}
abbrev g0(p:Int)(z:Str)(bs:List (Int×Int)):Ctx:=[.val (.int p),.val (.str z),.val (.lst (X7 bs)),.no,.no,.no,.no,.no]
abbrev g2(p:Int)(z:Str)(m:Nat)(bs:List (Int×Int)):Ctx:=[.val (.int p),.val (.str z),.val (.lst (X7 bs)),.val (.int ((m+1:Nat):Int)),.no,.no,.no,.no]
abbrev g6(p:Int)(z:Str)(m:Nat)(bs:List (Int×Int)):Ctx:=[.val (.int p),.val (.str z),.val (.lst (X7 bs)),.val (.int ((m+1:Nat):Int)),.val (.lst (X7 (eX bs))),.val (.lst (iK m (eX bs))),.val (.tup (Vt m (eX bs))),.no]
end
theorem K8(G F H)(γ:Ctx):eh G F H γ=match G γ with
 | some c=>some c
 | none=>(F γ).bind λz=>match z with
  | .next γ'=>H γ'
  | _=>none:=rfl
section
variable{p:Int}{m:Nat}{w:GX}{bs:List (Int×Int)}
abbrev lc(p:Int)(m:Nat)(w:GX)(bs:List (Int×Int))(acc:List D)(c5 c6 c7 c8 c9:Cell):Ctx:=[.val (.int p),.val (.str (ZD m w)),.val (.lst (X7 bs)),.val (.lst (Vt m bs)),.own acc,c5,c6,c7,c8,c9]
end
@[simp] theorem gY(h w f):(xV h w f).length=h:=by simp[xV]
section
variable{p:Int}{h w q r:Nat}
noncomputable def app(f:GK)(w:Nat)(v:Vc):Vc:=λi=>zS (λj=>f i j*v j) w
end
noncomputable def wA(h w:Nat)(f g:GK)(i:Nat):Vc:=if i<h then Zz w (f i) (λ_=>0)else Zz w (λ_=>0) (g<|i - h)
theorem cL(h h' w:Nat)(f g F:GK)(h1 : ∀i j,i<h->j<w->F i j=f i j)(h2 : ∀i j,i<h'->j<w->F (h+i) j=g i j):jB h w f++jB h' w g=jB (h+h') w F:=by
 unfold jB;rw[List.range_add,CH,Bj];congr 1
 ·exact AL λi hi=>by rw[xq λj z=>(h1 i j (Aq.mp hi) z).symm]
 ·exact AL λi hi=>by simp only[Function.comp];rw[xq λj z=>(h2 i j (Aq.mp hi) z).symm]
theorem gm(n:Nat):(Aa n [D.int 0]).flatten=zO n λ_=>0:=by
 induction n with
 | zero=>rfl
 | succ n z=>
  rw[Bs,BP,z];unfold zO;rw[<- yI,<- yI];rfl
section
variable{p p':Int}{m m':Nat}{w w':GX}{wd wd':GZ}{T T':GV}
noncomputable def Kf(p:Int)(m:Nat)(w:GX)(wd wd':GZ)(T T':GV):D:=zL p m w (λk=>wd k+wd' k) λk=>wA (hiW w wd k) (wiW w wd k) (T k)<|T' k
theorem dQ(k):hiW w (λk=>wd k+wd' k) k=hiW w wd k+hiW w wd' k:=by unfold hiW;split<;>rfl
theorem dc(k):wiW w (λk=>wd k+wd' k) k=wiW w wd k+wiW w wd' k:=by unfold wiW;split<;>rfl
theorem aG:zS (λk=>(wd k:Int)+(wd' k:Int)) (m+1)=zS (λk=>(wd k:Int)) (m+1)+zS (λk=>(wd' k:Int)) (m+1):=by rw[xD]
theorem aI(hm:m<=900):qz [zL p m w wd T,zL p m w wd' T']=none/\jR [zL p m w wd T,zL p m w wd' T']=some (.val .non):=by
 have z:=QB (p:=p) (p':=p) (w:=w) (w':=w) (wd:=wd) (wd':=wd') (T:=T) (T':=T') hm hm;rw[decide_eq_true ⟨rfl,rfl,λ_ _=>rfl⟩]at z;constructor
 ·simp[qz,Kr,zU,eh,xIf,ey,xNo,z,Aa]
 ·simp[jR,zY,zU,z,Aa]
end
@[simp] noncomputable def ou:=@sg.eq_1
section
variable{p:Int}{m:Nat}{w:GX}{wd:GZ}{T:GV}{a:Nat}
theorem yA(F:Nat->Int)(s:Nat) : ∀d,zS F (s+d)=zS F s+zS (λk=>F<|s+k) d
 | 0=>by simp[zS]
 | d+1=>by rw[<- Nat.add_assoc];simp only[zS];rw[yA F s d];omega
abbrev lk(p:Int)(m:Nat)(w:GX)(wd:GZ)(T:GV)(i j:Int)(a:Nat)(ds:List D)(c:Cell):Ctx:=[.val (zL p m w wd T),.val (.int i),.val (.int j),.val (jm a a λi j=>if i=j then 1 else 0),.own ds,c]
end
@[simp] noncomputable def mU:=@oR.eq_1
@[simp] theorem mV(γ:Ctx)(f):iF f γ=(f γ).bind λd=>match d with
 | .str z=>if zA z=true then some (kH<|ke z)else none
 | _=>none:=rfl
@[simp] theorem ot(γ:Ctx)(f g):Y0 f g γ=(f γ).bind λd=>(g γ).bind λe=>match d,e with
 | .str x,.str y=>if zA x=true/\zA y=true then some (.str<|x++y)else none
 | _,_=>none:=rfl
noncomputable def pr(a b:Nat):D:= .tup [.int a,.int b]
@[simp] theorem so(a b):jf (pr a b)=some (.T,[.int (a:Int),.int (b:Int)]):=rfl
noncomputable def mk(lo:Nat)(ch:List Int)(r:Nat):Int:=if lo<=r then ch.getD (r - lo) 0 else 0
theorem X8(ds:List D):jf (.lst ds)=some (.L,ds):=rfl
theorem vD(ds:List D):jf (.tup ds)=some (.T,ds):=rfl
theorem ab(w:GX)(wd:GZ)(k:Nat):wd (qO w k)=hiW w wd k:=by unfold qO hiW;split<;>rfl
theorem Vv(w:GX)(wd:GZ)(k:Nat):wd (xK w k)=wiW w wd k:=by unfold xK wiW;split<;>rfl
noncomputable def XN(m:Nat)(w:GX)(wd wd':GZ)(J:GV):List D:=(uZ m).map λk=>jm (hiW w wd k) (wiW w wd' k)<|J k
noncomputable def KU(h w:Nat)(f g j:GK)(i:Nat):Vc:=if i<h then Zz w (f i) (j i)else Zz w (λ_=>0) (g<|i - h)
theorem WZ{h w h' w':Nat}(f g j:GK):jB h (w+w') (λi=>Zz w (f i)<|j i)++jB h' (w+w') (λi=>Zz w (λ_=>0)<|g i)=jB (h+h') (w+w') (KU h w f g j):=
 cL h h' _ _ _ _ (λi j hi _=>by unfold KU;rw[GY hi]) λi j hi _=>by unfold KU;rw[MQ ⋯,Nat.add_sub_cancel_left]
theorem WY{h w h' w':Nat}(f g j:GK)(W:h<=400)(hw:w<=400)(Y:h'<=400)(a0:w'<=400) :
 jG [jm h w f,jm h' w' g,jm h w' j]=some (.val<|jm (h+h') (w+w')<|KU h w f g j):=by
 have hl:=jq;have l1:h<=lim:=by omega
 have l2:w<=lim:=by omega
 have l3:h'<=lim:=by omega
 have B:w+w'<=lim:=by omega
 have M:h+h'<=lim:=by omega
 have I : ∀(h w:Nat) (f:GK),jf (jm h w f)=some (.T,[.int h,.int w,.tup (jB h w f)]):=λ_ _ _=>rfl;have O:qT (.tup [.int 0]) (.int w)=some (.tup<|zO w λ_=>0):=by show(if ([D.int 0]).length*(w:Int).toNat<=lim/\inR (w:Int)=true then _ else _)=_;rw[GY ⟨by simpa using l2,KY l2⟩,ET,gm]
 have R:zD (.tp [0,1]) zQ (zu jO (zd 0)<|zd 1) [Cell.no,Cell.no] (Jk (jB h w f)<|jB h w' j)=some (jB h (w+w') λi=>Zz w (f i)<|j i):=by
  have z:Jk (jB h w f) (jB h w' j)=(uZ h).map λi=>D.tup [.tup (zO w<|f i),.tup (zO w'<|j i)]:=by unfold Jk jB;rw[CF];simp
  rw[z];unfold jB;refine zo _ _ λi hi=>zq rfl rfl ?_;have e:jO (.tup<|zO w<|f i) (.tup<|zO w'<|j i)=some (.tup<|zO (w+w')<|Zz w (f i)<|j i):=by show(if (zO w<|f i).length+(zO w'<|j i).length<=lim then _ else _)=_;rw[GY (by simpa using B),YE]
  show zu _ _ _ [Cell.val (.tup<|zO w<|f i),Cell.val (.tup<|zO w'<|j i)]=_;simp[e]
 have g2:zD (.nm 0) zQ (zu jO (zu qT (xj<|zb (zm<|.int 0) zz)<|sIx (zg 1)<|zm<|.int 1)<|zd 0) [Cell.no,Cell.val (jm h w f)] (jB h' w' g)=some (jB h' (w+w') λi=>Zz w (λ_=>0)<|g i):=by
  unfold jB;refine zo _ _ λi hi=>zq rfl rfl ?_;have e:jO (.tup<|zO w λ_=>0) (.tup<|zO w'<|g i)=some (.tup<|zO (w+w')<|Zz w (λ_=>0)<|g i):=by show(if (zO w λ_=>0).length+(zO w'<|g i).length<=lim then _ else _)=_;rw[GY (by simpa using B),YE]
  simp[I,O,e]
 have U:(Jk (jB h w f)<|jB h w' j).length<=lim:=by unfold Jk jB;simp;exact l1
 simp[jG,zY,zU,zW,I,l1,l3,M,U,jc,xS,Aa,R,g2];rw[WZ];simp[jm]
section
variable{p:Int}{m:Nat}{w:GX}{wd wd':GZ}{T T' J:GV}
theorem xG(p m w wd T):jf (zL p m w wd T)=some (.T,[.int p,.tup<|zO (m+1) λk=>(wd k:Int),.tup (jg m w wd T)]):=rfl
theorem gw(w:GX)(wd wd':GZ)(k:Nat):hiW w (λk=>wd k+wd' k) k=hiW w wd k+hiW w wd' k:=by unfold hiW;split<;>rfl
theorem eA(w:GX)(wd wd':GZ)(k:Nat):wiW w (λk=>wd k+wd' k) k=wiW w wd k+wiW w wd' k:=by unfold wiW;split<;>rfl
end
section
variable{p:Int}{m:Nat}{w:GX}{bs:List (Int×Int)}
abbrev hz2(p:Int)(z:Str)(m:Nat)(bs:List (Int×Int)):Ctx:=[.val (.int p),.val (.str z),.val (.lst (X7 bs)),.val (.int ((m+1:Nat):Int))]
end
section ap
variable(γ:Ctx)
@[simp] noncomputable def rN:=@Y0.eq_1
@[simp] noncomputable def mP:=@Ym.eq_1
@[simp] theorem rA(f):Kn f γ=((f γ).bind asI).map λi=> .int (-i):=rfl
@[simp] noncomputable def hJ:=@nt.eq_1
end ap
theorem aq{γ:Ctx}{f:CO D}{q:Int}(z:f γ=some (.int q))(B:0<=q)(h:q<=30):yG [YZ f,zm (.str ":")] γ=some (.str (qM q++jd 58)):=by
 have s1:zA (As ":")=true:=by decide +kernel
 have s2:zA (qM q)=true:=kn B h;have r:inR q=true:=yV ⋯ ⋯;rw[<- XM];simp[yG,Xc,YZ,mz,gZ,z,r,s1,s2,yY]
theorem W9{γ:Ctx}{f:CO D}{q:CO (Sk×List D)}{x:Str}{l:List Str}(z:f γ=some (.str x))(B:q γ=some (.L,l.map D.str))(I:x∈l):iE f q γ=some (.bl true):=by
 have st:vZ (l.map D.str)=some l:=by
  have:=yC (λx:Str=>x) l
  rwa [List.map_id']at this
 show(f γ).bind _=_;rw[z];show(q γ).bind _=_;rw[B];show(vZ<|l.map D.str).map _=_;rw[st];show some (D.bl<|l.any λy=>y==x)=_;rw[List.any_eq_true.mpr ⟨x,I,by simp⟩]
theorem Y4{p:Int}(I:p=2\/p=3\/p=5\/p=7):qj [.str (qM p++jd 58)]=some (.val<|.bl true):=by
 have M:=jq;have B:4<=lim:=by omega
 have go:zC (zP (zT (zm (.tup [.int 2,.int 3,.int 5,.int 7])))) (.nm 0) 1 [] zQ (yG [YZ (zd 0),zm (.str ":")]) [.val (.str (qM p++jd 58))]=some (([2,3,5,7].map λq:Int=>qM q++jd 58).map D.str):=by
  rw[j3];show(if 4<=lim then zD _ _ _ [.no] (([2,3,5,7]:List Int).map D.int)else none)=_;rw[GY B,Bj];refine zo _ _ λq z=>zq rfl rfl<|aq rfl ?_ ?_
  ·simp at z;omega
  ·simp at z;omega
 have:=W9 (γ:=[.val (.str (qM p++jd 58))]) (f:=zd 0) (q:=zX (zC (zP (zT (zm (.tup [.int 2,.int 3,.int 5,.int 7])))) (.nm 0) 1 [] zQ (yG [YZ (zd 0),zm (.str ":")]))) rfl (by rw[kK,go];rfl) (AY.mpr ⟨p,by simp;omega,rfl⟩);unfold qj;exact j9 (by rw[vQ];exact congrArg (BV _) this)
theorem YN{n:Int}(M:0<=n)(h:n<=30):qi [.str (qM n)]=some (.val<|.bl true):=by
 have O:=jq;have z:31<=lim:=by omega
 have r:inR 31=true:=by decide
 have go:zC (zK<|zu jO (zm<|.int 30)<|zm<|.int 1) (.nm 0) 1 [] zQ (vj<|zd 0) [.val (.str<|qM n)]=some (((uZ 31).map λ(q:Nat)=>qM (q:Int)).map D.str):=by
  have B:zK (zu jO (zm<|.int 30)<|zm<|.int 1) [.val (.str<|qM n)]=some ((uZ 31).map λ(i:Nat)=>D.int (i:Int)):=by rw[vb];simp[r,jk,zE]
  rw[j3,B,Ab,GY (by simpa using z),Bj];refine zo _ _ λq I=>zq rfl rfl<|Jq rfl ?_ ?_
  ·omega
  ·have:=Aq.mp I;omega
 have:=W9 (γ:=[.val (.str<|qM n)]) (f:=zd 0) (q:=zX<|zC (zK<|zu jO (zm<|.int 30)<|zm<|.int 1) (.nm 0) 1 [] zQ (vj<|zd 0)) rfl (by rw[kK,go];rfl)<|AY.mpr ⟨n.toNat,Aq.mpr ⋯,by rw[show((n.toNat:Nat):Int)=n by omega]⟩;unfold qi;exact j9 (by rw[vQ];exact congrArg (BV _) this)
theorem wL{γ:Ctx}{f:CO D}{l h:CO (Option Int)}{x:Str}{lo hi:Option Int}(z:f γ=some (.str x))(B:zA x=true)(h1:l γ=some lo)(h2:h γ=some hi):Ym f l h γ=some (.str<|Cg x lo hi):=by rw[mP,z,h1,h2];simp[B]
section
variable{p:Int}{m:Nat}{w:GX}{wd:GZ}{T:GV}
theorem aJ(k:Nat):sgS (vE w wd T k)=(if w k=true then 60 else 45)::(sgS (VP w wd T k)++[if w k=true then 45 else 62]):=by unfold vE;split<;>rw[wM,wM]<;>rfl
theorem Vm(z : ∀k i j,0<=T k i j/\T k i j<10)(h : ∀k,wd k<=20)(k:Nat):qk [.str (vE w wd T k)]=some (.val<|.bl true):=by
 have hl:=jq;have s0:zA (vE w wd T k)=true:=decide_eq_true<|AE (K7 z h k) ⋯;have I:=aJ (w:=w) (wd:=wd) (T:=T) k;let γ:Ctx:=[.val (.str<|vE w wd T k)];have M:=wL (γ:=γ) (f:=zd 0) (l:=wV) (h:=sBd<|zm<|.int 1) (lo:=none) (hi:=some 1) rfl s0 rfl rfl;have O:=wL (γ:=γ) (f:=zd 0) (l:=sBd<|Kn<|zm<|.int 1) (h:=wV) (lo:=some (-1)) (hi:=none) rfl s0 rfl rfl;have R:=wL (γ:=γ) (f:=zd 0) (l:=sBd<|zm<|.int 1) (h:=sBd<|Kn<|zm<|.int 1) (lo:=some 1) (hi:=some (-1)) rfl s0 rfl rfl;rw[Kl I]at M;rw[YY I]at O;have B:=QX I;generalize Cg (vE w wd T k) (some 1) (some (-1))=y at R B;have W:zA y=true:=decide_eq_true (by
  have:=ko (z k) (dR (w:=w) h k)<|de (w:=w) h k;rw[xE,B,<- xE];unfold VP;omega)
 have ct:=gJ M O rfl rfl;have Y:wU (Y0 (Ym (zd 0) wV (sBd (zm (.int 1)))) (Ym (zd 0) (sBd (Kn (zm (.int 1)))) wV)) (zT (xj (zb (zm (.str "->")) (zb (zm (.str "<-")) zz)))) γ=some (.bl false):=by
  show(Y0 _ _ γ).bind _=_;rw[ct,Ab];have l2:2<=lim:=by omega
  show(zT (xj (zb (zm (.str "->")) (zb (zm (.str "<-")) zz))) γ).bind _=_;simp[l2];exact⟨[("->" : Str),"<-"],rfl,by
   have e : ∀b:Bool,jd (if b=true then 60 else 45)++jd (if b=true then 45 else 62) ∈ [("->" : Str),"<-"]:=by decide +kernel
   exact e<|w k⟩
 have a0 : ∀c:Nat,47<=c->c<=57->V3 (zd 0) (zm (.str "0123456789/")) [.val (.str ⟨#[c]⟩)]=some (.bl true):=λc h1 h2=>by
  have e : ∀c:Fin 11,(!(Bh ("0123456789/" : Str) ⟨#[47+c]⟩ 0 ("0123456789/" : Str).length 1).isEmpty)=true:=by decide +kernel
  have:=e ⟨c - 47,by omega⟩;rw[show 47+((⟨c - 47,by omega⟩:Fin 11):Nat)=c by show 47+(c - 47)=c;omega]at this;show some (D.bl (!(Bh ("0123456789/" : Str) ⟨#[c]⟩ 0 ("0123456789/" : Str).length 1).isEmpty))=_;rw[this]
 have al:Kp (zX (zC (wR (Ym (zd 0) (sBd (zm (.int 1))) (sBd (Kn (zm (.int 1)))))) (.nm 0) 1 [] zQ (V3 (zd 0) (zm (.str "0123456789/"))))) γ=some (.bl true):=by
  have src:wR (Ym (zd 0) (sBd<|zm<|.int 1)<|sBd<|Kn<|zm<|.int 1) γ=some ((sgS y).map λc=>D.str ⟨#[c]⟩):=by show(Ym _ _ _ γ).bind _=_;rw[R,Ab];show(if zA y=true then some (ke y)else none)=_;rw[GY W];rfl
  have ty:=ko (z k) (dR (w:=w) h k) (de (w:=w) h k);have go:zD (.nm 0) zQ (V3 (zd 0) (zm (.str "0123456789/"))) [.no] ((sgS y).map λc=>D.str ⟨#[c]⟩)=some ((sgS y).map λ_=>D.bl true):=zo _ _ λc U=>zq rfl rfl (by
   rw[B]at U;obtain⟨a1,a2⟩:=wH (z k) U;exact a0 c a1 a2)
  rw[mX,kK,j3,src,Ab,GY (by
   rw[AO,B,<- xE];unfold VP;omega)]
  show((zD _ _ _ [.no] _).map _).bind _=_;rw[go];show(Jp<|(sgS y).map λ_=>D.bl true).map _=_;have tr : ∀l:List Nat,Jp (l.map λ_=>D.bl true)=some (l.map λ_=>true):=λl=>by
   induction l with
   | nil=>rfl
   | cons a l ih=>simp[Jp,ih];rfl
  rw[tr];simp
 unfold qk;refine j9<|zB (γ':=γ) ?_ ?_
 ·show sIf _ _ _ γ=_
  rw[Vn,mY,Y];rfl
 ·rw[vQ]
  exact congrArg (BV _) al
end
section
variable{p:Int}{m:Nat}{w:GX}{wd:GZ}{T:GV}
theorem KZ(I:p=2\/p=3\/p=5\/p=7)(M : ∀k i j,0<=T k i j/\T k i j<10)(h : ∀k,wd k<=20){i:Nat}{x:Str}(B:(jV p w wd T m)[i]? = some x):qx [.int i,.str x]=some (.val<|.bl true):=by
 have hi:i<2*m+2:=by have:=(Af.mp B).1;rw[jA]at this;exact this
 by_cases O:i=0
 ·subst O
  have e:(jV p w wd T m)[0]? = some (qM p++jd 58):=by
   have : ∀s,(jV p w wd T s)[0]? = some (qM p++jd 58):=λs=>by
    induction s with
    | zero=>rfl
    | succ s R=>rw[jV,AD (by rw[jA];omega)];exact R
   exact this m
  rw[e]at B;cases B;have:=Y4 I;simp[qx,zY,zU,zW,Aa,this]
 ·by_cases h1:i%2=1
  ·obtain⟨k,rfl⟩ : ∃k,i=2*k+1:=⟨i/2,by omega⟩
   rw[Jl m k ⋯]at B;cases B;have:=YN (n:=(wd k:Int)) ⋯ (by have:=h k;omega);have e1 : ¬(((2*k+1:Nat):Int)=0):=by omega
   have e2:((2*k+1:Nat):Int)%2=1:=by omega
   generalize ((2*k+1:Nat):Int)=z at e1 e2;simp[qx,zY,zU,zW,Aa,this,e1,e2]
  ·obtain⟨k,rfl⟩ : ∃k,i=2*k+2:=⟨i/2 - 1,by omega⟩
   rw[wG m k ⋯]at B;cases B;have:=Vm (w:=w) M h k;have e1 : ¬(((2*k+2:Nat):Int)=0):=by omega
   have e2 : ¬(((2*k+2:Nat):Int)%2=1):=by omega
   generalize ((2*k+2:Nat):Int)=z at e1 e2;simp[qx,zY,zU,zW,Aa,this,e1,e2]
theorem cR(U:p=2\/p=3\/p=5\/p=7)(hm:m<=5)(Y : ∀k i j,0<=T k i j/\T k i j<10)(h : ∀k,wd k<=20):ka [.lst ((jV p w wd T m).map D.str)]=some (.val .non):=by
 have hl:=jq;let W:=jV p w wd T m;have O:W.length=2*m+2:=jA m;have eW:W.map D.str=(uZ<|2*m+2).map λi=>D.str (W.getD i CK):=by
  refine Fb (by simp[O]) λi h1 h2=>?_;have:i<W.length:=by simpa using h1
  simp[Cn,this]
 have en:vJ (zd 0) [.val (.lst<|W.map D.str),.no,.no]=some ((uZ<|2*m+2).map λ(i:Nat)=>D.tup [.int i,.str (W.getD i CK)]):=by show some (kH<|W.map D.str)=_;rw[eW,vB]
 obtain⟨γ',lp,M⟩:=qG (T:= .tp [1,2]) (F:=sIf (ji<|sB<|zt qx<|zb (zd 1)<|zb (zd 2) zz) qD jo) (λ_ γ=>∃B I,γ=[.val (.lst<|W.map D.str),B,I]) ((uZ<|2*m+2).map λ(i:Nat)=>D.tup [.int i,.str (W.getD i CK)]) 0 [.val (.lst<|W.map D.str),.no,.no] ⟨_,_,rfl⟩ (by
  intro s d γ hd M;obtain⟨B,I,rfl⟩:=M;have hs:s<2*m+2:=by have:=(Af.mp hd).1;simpa using this
  have a4:d = .tup [.int s,.str (W.getD s CK)]:=by simp[hs]at hd;exact hd.symm
  subst a4;refine⟨[.val (.lst<|W.map D.str),.val<|.int s,.val (.str<|W.getD s CK)],.inl ?_,_,_,rfl⟩;have hx:W[s]? = some (W.getD s CK):=by rw[Cn,Ae ⋯];rfl
  have hf:=KZ (m:=m) (w:=w) U Y h hx;show sIf _ _ _ [.val (.lst<|W.map D.str),.val<|.int s,.val (.str<|W.getD s CK)]=_;simp only[Vn,aM,mY,kL,xh,vR,kj,AH,AQ,jx,Ab,AS,hf];rfl)
 obtain⟨B,I,rfl⟩:=M;have R : ¬((((2*m+2:Nat):Int))%2=1):=by omega
 show((zN _ _ [.val (.lst<|W.map D.str),.no,.no]).bind _)=_;rw[zW];refine(congrArg (λo=>(Option.bind o _).bind _)<|show _=some (Fl.next [.val (.lst<|W.map D.str),B,I])from ?_).trans ?_
 ·rw[aO,en,Ab];exact lp
 ·rw[Ab]
  show((sIf _ _ _ [.val (.lst<|W.map D.str),B,I]).bind _)=_;have a7:(W.map D.str).length=2*m+2:=by rw[AO,O]
  generalize hz:((2*m+2:Nat):Int)=z at R;simp[a7,hz,R]
end
section
variable{p:Int}{m h v:Nat}{w:GX}{wd:GZ}{T:GV}{g:Nat->Int}{f:GK}
theorem JR{γ:Ctx}{q:CO D}{n:Int}(B:q γ=some (.str<|qM n))(z:0<=n)(hn:n<=30):ZH q γ=some (.int n):=by
 show(q γ).bind _=_;rw[B,Ab];show(if (qM n).length<=640 then (Et<|qM n).map D.int else none)=_;have M:=of_decide_eq_true<|kn z hn;have I:(qM n).length<=640:=by
  have : ∀k:Fin 31,(qM ((k:Nat):Int)).length<=640:=by decide +kernel
  have e:=this ⟨n.toNat,by omega⟩;rw[show(((⟨n.toNat,by omega⟩:Fin 31):Nat):Int)=n by show((n.toNat:Nat):Int)=n;omega]at e;exact e
 rw[GY I,Wh z ⋯];rfl
theorem Vh(z : ∀j,0<=g j/\g j<10)(M:v<=20):qI [.str (JV v g)]=some (.own<|zO v g):=by
 have O:=jq;have B:v<=lim:=by omega
 have I:=XU (v:=v) z ⋯;have src:wR (zd 0) [.val (.str<|JV v g)]=some ((uZ v).map λj=>D.str<|qM<|g j):=by show(if zA (JV v g)=true then some (ke<|JV v g)else none)=_;rw[GY I];show some ((sgS<|JV v g).map λc=>D.str ⟨#[c]⟩)=_;rw[XW z,Bj];congr 1;exact AL λj _=>by rw[Kj (z j).1 (z j).2];rfl
 have go:zD (.nm 0) zQ (ZH<|zd 0) [.no] ((uZ v).map λj=>D.str<|qM<|g j)=some (zO v g):=by rw[zE];refine zo _ _ λj _=>zq rfl rfl ?_;have:=z j;exact JR rfl ⋯ ⋯
 unfold qI;refine j9 ?_;show Xb _ [.val (.str<|JV v g)]=_;rw[aL,j3,src,Ab,GY (by simpa using B)];show(zD _ _ _ [.no] _).map _=_;rw[go];rfl
theorem Xh(B : ∀i j,0<=f i j/\f i j<10)(U:h<=20)(M:v<=20):qa [.str (ZP h v f),.int h]=some (.own<|xV h v f):=by
 have hl:=jq;have ok : ∀x:Str,(∀c∈sgS x,c<0x110000)->okD (.str x)=true:=λx W=>XC (n:=0) (by simp[deep]) ⋯ (by
  show x.cps.all (· < 0x110000)=true;rw[<- Array.all_toList];exact Bp.mpr λc I=>decide_eq_true<|W c I)
 have Y:=ok (ZP h v f) λc I=>by have:=wH B I;omega
 have O:okD (.str (As ""))=true:=by decide +kernel
 have eq:dEq (.str (ZP h v f)) (.str "")=some (.bl (ZP h v f==As "")):=by unfold dEq;rw[GY ⟨Y,O⟩];rfl
 have hb:=ko B U M;by_cases R:h=0
 ·subst R
  have e:ZP 0 v f=As "":=rfl;have q:dEq (.str (As "")) (.str (As ""))=some (.bl true):=YG O;simp[qa,zY,zU,zW,Aa,e,q];rfl
 ·have I : ¬((h:Int)=0):=by omega
  have sp:Cf (ZP h v f) (jd 47)=(uZ h).map λi=>JV v (f i):=ZR (by simp;omega) λa ha=>by obtain⟨i,_,rfl⟩:=AY.mp ha;rw[XW (B i)];intro z;obtain⟨j,_,e⟩:=AY.mp z;omega
  let γ:Ctx:=[.val (.str (ZP h v f)),.val (.int h)];have sl:vH (zd 0) (zm (.str "/")) γ=some (((uZ h).map λi=>JV v (f i)).map D.str):=by show(if (ZP h v f).length<=20000/\(("/" : Str).length==0)=false then some ((Cf (ZP h v f) "/").map D.str)else none)=_;rw[GY ⟨by omega,by decide +kernel⟩,XJ,sp]
  have go:zD (.nm 0) zQ (qE<|kf qI<|zb (zd 0) zz) [.no] (((uZ h).map λi=>JV v<|f i).map D.str)=some (xV h v f):=by rw[Bj];unfold xV;refine zo _ _ λi _=>zq rfl rfl ?_;have:=Vh (v:=v) (B i) M;simp[this]
  unfold qa;refine j9<|zB (γ':=γ) ?_ ?_
  ·show sIf _ _ _ γ=_
   have tt:(V4 (sB (zu dEq (zd 0) (zm (.str "")))) (sB (zu dEq (zd 1) (zm (.int 0))))) γ=some false:=by
    have e1:sB (zu dEq (zd 0) (zm (.str ""))) γ=some (ZP h v f==As ""):=by show((dEq (.str (ZP h v f)) (.str "")).bind asB)=_;rw[eq];rfl
    have e2:sB (zu dEq (zd 1)<|zm<|.int 0) γ=some false:=by simp[γ];exact R
    show((sB _ γ).bind _)=_;rw[e1,Ab];cases ZP h v f==As ""
    ·rfl
    ·exact e2
   rw[Vn,tt];rfl
  ·have it:zP (zX (vH (zd 0) (zm (.str "/")))) γ=some (((uZ h).map λi=>JV v (f i)).map D.str):=by
    show((vH _ _ γ).map _).map _=_;rw[sl];rfl
   rw[aL,j3,it,Ab,GY (by simp;omega)];show(zD _ _ _ [.no] _).map _=_;rw[go];rfl
end
section
variable{p:Int}{m:Nat}{w:GX}{wd:GZ}{T:GV}
theorem ez(hm:m<=5)(B:zS (λk=>(wd k:Int)) (m+1)<=30):xi [.lst (zO (m+1) λk=>(wd k:Int))]=some (.val<|.tup<|zO (m+1) λk=>(wd k:Int)):=by
 have R:=jq;have z:m+1<=lim:=by omega
 have go:zD (.nm 0) zQ (Vq (zt jQ<|zb (zd 0) zz)<|zu dGe (zd 0)<|zm<|.int 0) [Cell.no] (zO (m+1) λk=>(wd k:Int))=some ((uZ<|m+1).map λ_=>D.bl true):=by rw[zE];refine zo _ _ λj U=>zq rfl rfl ?_;simp[qB]
 have I:(m:Int)+1<=6:=by omega
 have M:(1:Int)<=(m:Int)+1:=by omega
 have O:xw [.lst (zO (m+1) λk=>(wd k:Int))]=some (.val<|.bl true):=by simp[xw,zY,zU,zW,jc,Aa,z,go,qZ,vd,kx,B,V2,QL,I,M]
 simp[xi,zY,zU,zW,Aa,O,z]
theorem mN(B:p=2\/p=3\/p=5\/p=7)(h : ∀k,wd k<=20){k:Nat}(R:k<m)(z : ∀k i j,0<=T k i j/\T k i j<p) :
 xN [.int p,.tup<|zO (m+1) λk=>(wd k:Int),.int k,JD w wd T k]=some (.val<|jU w wd T k):=by
 have e1:=QG w k;have e2:=ym w k;have b1:qO w k<m+1:=by unfold qO;split<;>omega
 have b2:xK w k<m+1:=by unfold xK;split<;>omega
 have h1:hiW w wd k<=30:=by have:=dR (w:=w) h k;omega
 have h2:wiW w wd k<=30:=by have:=de (w:=w) h k;omega
 have t:=QA (p:=p) B h1 h2<|T k;rw[show(λi j=>T k i j%p)=T k from funext λi=>funext λj=>FS (z k i j).1 (z k i j).2]at t;have l:=Vf (.str<|jd<|wch<|w k)<|.lst<|xV (hiW w wd k) (wiW w wd k)<|T k;have I:=cf (w k) [.val (.int p),.val<|.tup<|zO (m+1) λk=>(wd k:Int),.val<|.int k,.val<|JD w wd T k,.no,.no] (sIx (zg 3)<|zm<|.int 0) rfl;have x1:ixD (m+1) (qO w k:Int)=some (qO w k):=by rw[qL,GY b1]
 have M:ixD (m+1) (xK w k:Int)=some (xK w k):=by rw[qL,GY b2]
 unfold xN;refine j9<|zB (γ':=[.val (.int p),.val<|.tup<|zO (m+1) λk=>(wd k:Int),.val<|.int k,.val<|JD w wd T k,.no,.no]) ?_ (zB (γ':=[.val (.int p),.val<|.tup<|zO (m+1) λk=>(wd k:Int),.val<|.int k,.val<|JD w wd T k,.val<|.str<|jd<|wch<|w k,.no]) rfl<|zB (γ':=[.val (.int p),.val<|.tup<|zO (m+1) λk=>(wd k:Int),.val<|.int k,.val<|JD w wd T k,.val<|.str<|jd<|wch<|w k,.val (jm (hiW w wd k) (wiW w wd k)<|T k)]) ?_ rfl)
 ·show(sIf _ _ _ [.val (.int p),.val<|.tup<|zO (m+1) λk=>(wd k:Int),.val<|.int k,.val<|JD w wd T k,.no,.no])=_
  rw[Vn,mR];have O:(ji<|sB<|zt jL<|zb (zd 3)<|zb (zm<|.int 2) zz) [.val (.int p),.val<|.tup<|zO (m+1) λk=>(wd k:Int),.val<|.int k,.val<|JD w wd T k,.no,.no]=some false:=by simp[JD,l]
  rw[O,Ab,MQ Ay,mY,I];rfl
 ·rw[yh,yy]at t
  simp[e1,e2,x1,M,JD,yh,yy,b1,b2,t]
theorem J5(U:p=2\/p=3\/p=5\/p=7)(h : ∀k,wd k<=20){k:Nat}(W:k<m)(B : ∀k i j,0<=T k i j/\T k i j<p) :
 jX [.int p,.tup<|zO (m+1) λk=>(wd k:Int),.int k,.str (vE w wd T k)]=some (.val<|jU w wd T k):=by
 have hl:=jq;have M : ∀k i j,0<=T k i j/\T k i j<10:=λk i j=>⟨(B k i j).1,by have:=(B k i j).2;omega⟩;have s0:zA (vE w wd T k)=true:=decide_eq_true (AE (K7 M h k) ⋯);have O:=aJ (w:=w) (wd:=wd) (T:=T) k;let z:D:= .tup (zO (m+1) λk=>(wd k:Int));let A:D:= .str (vE w wd T k);have st:fw (sB (Km (zd 3) (zm (.str "-")))) (zm (.str "r")) (zm (.str "l")) [.val (.int p),.val z,.val (.int k),.val A,.no,.no]=some (.str (jd (wch (w k)))):=by
  have Y:Fs (vE w wd T k) "-" = !w k:=by have e:(vE w wd T k).cps.toList[0]? = some (if w k=true then 60 else 45):=congrArg (λl:List Nat=>l[0]?) O;rw[En,YB];show(decide (0+(⟨#[45]⟩:Str).length<=(vE w wd T k).length) && Builtin.Str.subAt (vE w wd T k) ⟨#[45]⟩ 0)=true↔_;rw[Au,decide_eq_true_eq,StrLaws.subAt_one,e];cases w k<;>simp
  show((some (D.bl (Fs (vE w wd T k) "-"))).bind asB).bind _=_;rw[Y];cases w k
  ·rfl
  ·rfl
 have R:=wL (γ:=[.val (.int p),.val z,.val<|.int k,.val A,.val<|.str<|jd<|wch<|w k,.no]) (f:=zd 3) (l:=sBd<|zm<|.int 1) (h:=sBd<|Kn<|zm<|.int 1) (lo:=some 1) (hi:=some (-1)) rfl s0 rfl rfl;have a0:=QZ<|QX O;rw[a0]at R;have b1:qO w k<m+1:=by unfold qO;split<;>omega
 have x1:ixD (m+1) (qO w k:Int)=some (qO w k):=by rw[qL,GY b1]
 have e1:=QG w k;have rr:qa [.str (VP w wd T k),.int (wd (qO w k):Nat)]=some (.own<|xV (hiW w wd k) (wiW w wd k)<|T k):=by rw[<- yh w wd k];exact Xh (M k) (dR h k)<|de h k
 let L:D:= .lst (xV (hiW w wd k) (wiW w wd k)<|T k);have s2:jM 5 (qE<|kf qa<|zb (Ym (zd 3) (sBd<|zm<|.int 1)<|sBd<|Kn<|zm<|.int 1)<|zb (sIx (zg 1)<|zt xu<|zb (zd 2)<|zb (zd 4) zz) zz) [.val (.int p),.val z,.val<|.int k,.val A,.val<|.str<|jd<|wch<|w k,.no]=some (.next [.val (.int p),.val z,.val<|.int k,.val A,.val<|.str<|jd<|wch<|w k,.val L]):=by
  have ix:sIx (zg 1) (zt xu<|zb (zd 2)<|zb (zd 4) zz) [.val (.int p),.val z,.val<|.int k,.val A,.val<|.str<|jd<|wch<|w k,.no]=some (.int (wd (qO w k):Nat)):=by simp[e1,z,x1,b1]
  rw[yi,vS,cW,xh,R,Ab,xh,ix];simp[rr,L]
 have xk : ∀i,qy [.int p,.lst (zO (wiW w wd k)<|T k i)]=some (.val<|.bl true):=λi=>by
  have hv:=de (w:=w) h k;have a3:wiW w wd k<=lim:=by omega
  have go:zD (.nm 0) zQ (zu dLt (zd 0)<|zd 1) [.no,.val (.int p)] (zO (wiW w wd k)<|T k i)=some ((uZ<|wiW w wd k).map λ_=>D.bl true):=by rw[zE];refine zo _ _ λj _=>zq rfl rfl ?_;simp[(B k i j).2]
  simp[qy,zY,zU,Aa,a3,jc,go,qZ,vd]
 have al:Kp (zX<|zC (zP<|zg 5) (.nm 0) 1 [0] zQ (zt qy<|zb (zd 1)<|zb (zd 0) zz)) [.val (.int p),.val z,.val<|.int k,.val A,.val<|.str<|jd<|wch<|w k,.val L]=some (.bl true):=by
  have hh:=dR (w:=w) h k;have go:zD (.nm 0) zQ (zt qy<|zb (zd 1)<|zb (zd 0) zz) [.no,.val (.int p)] (xV (hiW w wd k) (wiW w wd k)<|T k)=some ((uZ<|hiW w wd k).map λ_=>D.bl true):=by unfold xV;refine zo _ _ λi _=>zq rfl rfl ?_;simp[xk i]
  have a4:hiW w wd k<=lim:=by omega
  simp[L,a4,jc,Aa,go,qZ,vd]
 have I:=mN (w:=w) U h W B;unfold jX;refine j9<|zB (γ':=[.val (.int p),.val z,.val<|.int k,.val A,.val<|.str<|jd<|wch<|w k,.no]) ?_ (zB s2<|zB (γ':=[.val (.int p),.val z,.val<|.int k,.val A,.val<|.str<|jd<|wch<|w k,.val L]) ?_ ?_)
 ·show jM _ _ [.val (.int p),.val z,.val<|.int k,.val A,.no,.no]=_
  rw[yi,st];rfl
 ·rw[Vn,aM,mY,al];rfl
 ·have l2:2<=lim:=by omega
  have I:xN [.int p,z,.int k,.tup [.str (jd<|wch<|w k),L]]=some (.val<|jU w wd T k):=I;simp[l2,I]
end
theorem dS{α β:Type}{F:Nat->α}{g:α->Option β}{G:Nat->β} : ∀{l:List Nat},(∀k∈l,g (F k)=some (G k))->(l.map F).filterMap g=l.map G
 | [],_=>rfl
 | k::l,h=>by rw[Ba,Bw<|h k Ai,dS λx z=>h x (Ah _ z)];rfl
theorem iZ{m:Nat}(hm:m<=5):Kz (2*m+2) (some 1) none (some 2)=(uZ<|m+1).map λk=>2*k+1:=by
 have : ∀m:Fin 6,Kz (2*m+2) (some 1) none (some 2)=(uZ<|m+1).map λk=>2*k+1:=by decide +kernel
 exact this ⟨m,by omega⟩
theorem fO{m:Nat}(hm:m<=5):Kz (2*m+2) (some 2) none (some 2)=(uZ m).map λk=>2*k+2:=by
 have : ∀m:Fin 6,Kz (2*m+2) (some 2) none (some 2)=(uZ m).map λk=>2*k+2:=by decide +kernel
 exact this ⟨m,by omega⟩
section
variable{p:Int}{m:Nat}{w:GX}{wd:GZ}{T:GV}
theorem Yf{n:Int}(z:0<=n)(h:n<=30):32∉sgS (qM n):=by
 have : ∀k:Fin 31,32∉sgS (qM ((k:Nat):Int)):=by decide +kernel
 have e:=this ⟨n.toNat,by omega⟩;rw[show(((⟨n.toNat,by omega⟩:Fin 31):Nat):Int)=n by show((n.toNat:Nat):Int)=n;omega]at e;exact e
theorem QN(I:p=2\/p=3\/p=5\/p=7)(M : ∀k i j,0<=T k i j/\T k i j<10)(h : ∀k,wd k<=20) : ∀s,∀x∈jV p w wd T s,32∉sgS x
 | 0,x,B=>by
  rcases Ag.mp B with rfl | B
  ·rcases I with rfl | rfl | rfl | rfl<;>decide +kernel
  ·rw[CG.mp B]
   exact Yf ⋯ (by have:=h 0;omega)
 | s+1,x,B=>by
  rcases Cd.mp B with B | B
  ·exact QN I M h s x B
  ·rcases Ag.mp B with rfl | B
   ·rw[aJ]
    intro z;rcases Ag.mp z with z | z
    ·split at z<;>omega
    ·rcases Cd.mp z with z | z
     ·have:=wH (M s) z;omega
     ·have:=CG.mp z
      split at this<;>omega
   ·rw[CG.mp B]
    exact Yf ⋯ (by have:=h<|s+1;omega)
theorem Kt(I:p=2\/p=3\/p=5\/p=7)(hm:m<=5)(O : ∀k i j,0<=T k i j/\T k i j<p)(h : ∀k,wd k<=20)(hs:zS (λk=>(wd k:Int)) (m+1)<=30):qV [.str (q9 p m w wd T)]=some (.val<|zL p m w wd T):=by
 have hl:=jq;have R : ∀k i j,0<=T k i j/\T k i j<10:=λk i j=>⟨(O k i j).1,by have:=(O k i j).2;omega⟩;let W:=jV p w wd T m;let L:D:= .lst (W.map D.str);let B:D:= .tup (zO (m+1) λk=>(wd k:Int));have U:W.length=2*m+2:=jA m;have len:(q9 p m w wd T).length<=20000:=by
  rw[xE];unfold q9;rw[kG];have:=JT (c:=32) (n:=1000) (l:=W.map sgS) λa ha=>by obtain⟨x,hx,rfl⟩:=AY.mp ha;have:=of_decide_eq_true<|vg I R h m x hx;rw[xE]at this;exact this
  rw[AO,U]at this;show(yW 32<|W.map sgS).length<=20000;omega
 have sp:Cf (q9 p m w wd T) (jd 32)=W:=ZR (λz=>by have:=jA (p:=p) (w:=w) (wd:=wd) (T:=T) m;rw[z]at this;simp at this) (QN I R h m);have s1:jM 1 (qE (vH (zd 0) (zm (.str " ")))) [.val (.str (q9 p m w wd T)),.no,.no,.no,.no]=some (.next [.val (.str (q9 p m w wd T)),.val L,.no,.no,.no]):=by
  have:vH (zd 0) (zm (.str " ")) [.val (.str (q9 p m w wd T)),.no,.no,.no,.no]=some (W.map D.str):=by show(if (q9 p m w wd T).length<=20000/\((" " : Str).length==0)=false then some ((Cf (q9 p m w wd T) " ").map D.str)else none)=_;rw[GY ⟨len,by decide +kernel⟩,XI,sp]
  rw[yi,vS,this];rfl
 have ce:=cR (w:=w) I hm R h;have w0:W[0]? = some (qM p++jd 58):=by
  have : ∀s,(jV p w wd T s)[0]? = some (qM p++jd 58):=λs=>by
   induction s with
   | zero=>rfl
   | succ s ih=>rw[jV,AD (by rw[jA];omega)];exact ih
  exact this m
 have s3:jM 2 (ZH<|Ym (sIx (zg 1)<|zm<|.int 0) wV<|sBd<|Kn<|zm<|.int 1) [.val (.str<|q9 p m w wd T),.val L,.no,.no,.no]=some (.next [.val (.str<|q9 p m w wd T),.val L,.val<|.int p,.no,.no]):=by
  have ix:sIx (zg 1) (zm<|.int 0) [.val (.str<|q9 p m w wd T),.val L,.no,.no,.no]=some (.str<|qM p++jd 58):=by
   have e:(W.map D.str)[0]? = some (.str<|qM p++jd 58):=by rw[AK,w0];rfl
   have x0:ixD (W.map D.str).length 0=some 0:=gr rfl (by rw[AO,U];omega);show((some (0:Int)).bind λi=>(ixD (W.map D.str).length i).bind λk=>(W.map D.str)[k]?)=_;rw[Ab,x0,Ab,e]
  have sh:zA (qM p++jd 58)=true:=by rcases I with rfl | rfl | rfl | rfl<;>decide +kernel
  have sl:=wL ix sh (l:=wV) (h:=sBd<|Kn<|zm<|.int 1) (lo:=none) (hi:=some (-1)) rfl rfl;rw[show Cg (qM p++jd 58) none (some (-1))=qM p by rcases I with rfl | rfl | rfl | rfl<;>decide +kernel]at sl;rw[yi,JR sl ⋯ ⋯];rfl
 have a0 : ∀(F:GZ) (G:Nat->Str) (n:Nat) (lo hi st:Option Int),Kz (2*m+2) lo hi st=(uZ n).map F->(∀k,k<n->W[F k]? = some (G k))->xI (W.map D.str) lo hi st=(uZ n).map λk=>D.str (G k):=λF G n lo hi st e1 e2=>by unfold xI;rw[AO,U,e1];exact dS λk M=>by rw[AK,e2 k (Aq.mp M)];rfl
 have p1:=a0 (λk=>2*k+1) (λk=>qM (wd k:Int)) (m+1) (some 1) none (some 2) (iZ hm) λk M=>Jl m k ⋯;have p2:=a0 (λk=>2*k+2) (vE w wd T) m (some 2) none (some 2) (fO hm) λk M=>wG m k M;have wg:=ez hm hs;have a1 : ∀(γ:Ctx) (a:Int) (X:List D),γ[1]? = some (.val L)->xI (W.map D.str) (some a) none (some 2)=X->X.length<=lim->VZ (zg 1) (sBd<|zm<|.int a) wV (sBd<|zm<|.int 2) γ=some X:=λγ a X e1 e2 e3=>by unfold VZ;rw[xY,e1];show(if (some (2:Int))=some 0 then none else if (xI (W.map D.str) (some a) none<|some 2).length<=lim then some (xI (W.map D.str) (some a) none<|some 2)else none)=_;rw[MQ ⋯,e2,GY e3]
 have s4:jM 3 (zt xi<|zb (qE<|zC (zP<|zX<|VZ (zg 1) (sBd<|zm<|.int 1) wV<|sBd<|zm<|.int 2) (.nm 0) 1 [] zQ (ZH<|zd 0)) zz) [.val (.str<|q9 p m w wd T),.val L,.val<|.int p,.no,.no]=some (.next [.val (.str<|q9 p m w wd T),.val L,.val<|.int p,.val B,.no]):=by
  have x:=a1 [.val (.str<|q9 p m w wd T),.val L,.val<|.int p,.no,.no] 1 _ rfl p1 (by simp;omega);have go:zD (.nm 0) zQ (ZH<|zd 0) [.no] ((uZ<|m+1).map λ(k:Nat)=>D.str<|qM (wd k:Int))=some (zO (m+1) λk=>(wd k:Int)):=by rw[zE];refine zo _ _ λk _=>zq rfl rfl ?_;have:=h k;exact JR rfl ⋯ ⋯
  have Y:zC (zP<|zX<|VZ (zg 1) (sBd<|zm<|.int 1) wV<|sBd<|zm<|.int 2) (.nm 0) 1 [] zQ (ZH<|zd 0) [.val (.str<|q9 p m w wd T),.val L,.val<|.int p,.no,.no]=some (zO (m+1) λk=>(wd k:Int)):=by rw[j3,J8,kK,x];show(if ((uZ<|m+1).map λ(k:Nat)=>D.str<|qM (wd k:Int)).length<=lim then zD _ _ _ [.no] _ else none)=_;rw[GY (by simp;omega),go]
  rw[yi,kL,xh,vS,Y];simp[wg,B]
 have s5:jM 4 (qE<|zC (vJ<|qE<|VZ (zg 1) (sBd<|zm<|.int 2) wV<|sBd<|zm<|.int 2) (.tp [0,1]) 2 [2,3] zQ (zt jX<|zb (zd 2)<|zb (zd 3)<|zb (zd 0)<|zb (zd 1) zz)) [.val (.str<|q9 p m w wd T),.val L,.val<|.int p,.val B,.no]=some (.next [.val (.str<|q9 p m w wd T),.val L,.val<|.int p,.val B,.val (.lst<|jg m w wd T)]):=by
  have x:=a1 [.val (.str<|q9 p m w wd T),.val L,.val<|.int p,.val B,.no] 2 _ rfl p2 (by simp;omega);have go:zD (.tp [0,1]) zQ (zt jX<|zb (zd 2)<|zb (zd 3)<|zb (zd 0)<|zb (zd 1) zz) [.no,.no,.val<|.int p,.val B] ((uZ m).map λ(k:Nat)=>D.tup [.int k,.str (vE w wd T k)])=some (jg m w wd T):=by unfold jg;refine zo _ _ λk M=>zq rfl rfl ?_;have:=J5 (w:=w) I h (Aq.mp M) O;simp[B,this]
  have Y:zC (vJ<|qE<|VZ (zg 1) (sBd<|zm<|.int 2) wV<|sBd<|zm<|.int 2) (.tp [0,1]) 2 [2,3] zQ (zt jX<|zb (zd 2)<|zb (zd 3)<|zb (zd 0)<|zb (zd 1) zz) [.val (.str<|q9 p m w wd T),.val L,.val<|.int p,.val B,.no]=some (jg m w wd T):=by
   have en:vJ (qE<|VZ (zg 1) (sBd<|zm<|.int 2) wV<|sBd<|zm<|.int 2) [.val (.str<|q9 p m w wd T),.val L,.val<|.int p,.val B,.no]=some ((uZ m).map λ(k:Nat)=>D.tup [.int k,.str (vE w wd T k)]):=by show((VZ _ _ _ _ _).map _).bind _=_;rw[x];show some (kH<|(uZ m).map λk=>D.str<|vE w wd T k)=_;rw[vB]
   rw[j3,en,Ab,GY (by simp;omega)];exact go
  rw[yi,vS,Y];rfl
 unfold qV;refine j9<|zB s1<|zB (γ':=[.val (.str<|q9 p m w wd T),.val L,.no,.no,.no]) ?_ (zB s3<|zB s4<|zB s5 ?_)
 ·simp[L,W,ce]
 ·have l3:3<=lim:=by omega
  simp[l3,B,zL]
end
theorem bc:qh=zY 7 (zN (v9 2<|yn zz)<|zN (Ke (zP<|zT<|zd 0) (.tp [3,4,5])<|zN QQ<|zN QP Yc)<|V1 2):=rfl
noncomputable def ju(n:Nat)(f:GK)(i j:Nat):Int:=if i<n then (if j<n then f i j else 0)else if j=i then 1 else 0
section
variable{n q:Nat}{f g:GK}
theorem cH(a b:Nat)(u v:Nat->Int):zO a u++zO b v=zO (a+b) λj=>if j<a then u j else v (j - a):=by
 refine Fb ⋯ λi h1 h2=>?_;rw[List.getElem_append];split
 ·next h=>
   have h:i<a:=by simpa using h
   simp[zE,h]
 ·next h=>
   have h : ¬i<a:=by simpa using h
   simp[zE,h]
theorem QO(hn:n<=60)(hq:q<=60)(L:List D)(hL:L.length<10)(B c6:Cell):zN QQ (zN QP Yc) [B,.val<|.int q,.own L,.val<|.int n,.val<|.int n,.val<|.tup<|jB n n f,c6]=some (.next [B,.val<|.int q,.own<|L++[jm (n+q) (n+q) (ju n f)],.val<|.int n,.val<|.int n,.val<|.tup<|jB n n f,.val (.lst<|jB (n+q) (n+q)<|ju n f)]):=by
 have hl:=jq;have R:n<=lim:=by omega
 have M:q<=lim:=by omega
 have O:inR (q:Int)=true:=yV ⋯ ⋯;have U:inR ((n:Int)+q)=true:=yV ⋯ ⋯;have z:zD (.nm 0) zQ (zm<|.int 0) [.no] ((uZ q).map λ(i:Nat)=>D.int (i:Int))=some (zO q λ_=>0):=by rw[zE];exact zo _ _ λj _=>zq rfl rfl rfl
 let I:List D:=(uZ n).map λi=>D.tup<|zO (n+q)<|ju n f i;have s1:QQ [B,.val<|.int q,.own L,.val<|.int n,.val<|.int n,.val<|.tup<|jB n n f,c6]=some (.next [B,.val<|.int q,.own L,.val<|.int n,.val<|.int n,.val<|.tup<|jB n n f,.val (.lst I)]):=by
  have go:zD (.nm 0) zQ (zu jO (zd 0)<|zG<|zX<|zC (zK<|zd 1) (.nm 0) 1 [] zQ (zm<|.int 0)) [.no,.val (.int q)] (jB n n f)=some I:=by
   unfold jB;refine zo _ _ λi hi=>zq rfl rfl ?_;have hi:=Aq.mp hi;have e:zO n (f i)++zO q (λ_=>0)=zO (n+q) (ju n f i):=by rw[cH];exact xq λj _=>by unfold ju;rw[GY hi]
   rw[<- e];simp[jk,O,M,jc,Aa,zE q λi=>(i:Int)];rw[z];simp;unfold jO;simp
   try omega
  have dl:(jB n n f).length<=lim:=by simpa[jB]using R
  unfold QQ;rw[yi,vS,j3];show((if (jB n n f).length<=lim then zD _ _ _ [.no,.val (.int q)] (jB n n f)else none).map _).map _=_;rw[GY dl,go];rfl
 have s2:QP [B,.val<|.int q,.own L,.val<|.int n,.val<|.int n,.val<|.tup<|jB n n f,.val (.lst I)]=some (.next [B,.val<|.int q,.own L,.val<|.int n,.val<|.int n,.val<|.tup<|jB n n f,.val (.lst<|jB (n+q) (n+q)<|ju n f)]):=by
  have W : ∀k:Nat,zD (.nm 0) zQ (ky<|zu dEq (zd 0)<|zu jO (zd 2)<|zd 1) [.no,.val<|.int k,.val (.int n)] ((uZ<|n+q).map λ(i:Nat)=>D.int (i:Int))=some (zO (n+q)<|ju n f<|n+k):=λk=>by
   rw[zE];refine zo _ _ λj _=>zq rfl rfl ?_;have e:ju n f (n+k) j=if j=n+k then 1 else 0:=by unfold ju;rw[MQ ⋯]
   rw[e];by_cases c:j=n+k
   ·subst c;simp[ky]
   ·have Y : ¬((j:Int)=(n:Int)+k):=by omega
    simp[ky,c,Y]
  let W2:List D:=(uZ q).map λk=>D.tup<|zO (n+q)<|ju n f<|n+k;have go:zD (.nm 0) zQ (zG<|zX<|zC (zK<|zu jO (zd 2)<|zd 1) (.nm 0) 1 [0,2] zQ (ky<|zu dEq (zd 0)<|zu jO (zd 2)<|zd 1)) [.no,.val<|.int q,.val (.int n)] ((uZ q).map λ(i:Nat)=>D.int (i:Int))=some W2:=by
   refine zo _ _ λk hk=>zq rfl rfl ?_;have a0:n+q<=lim:=by omega
   have tn:((n:Int)+q).toNat=n+q:=by omega
   have:=W k;simp[jk,U,a0,jc,Aa,tn,zE (n+q) λi=>(i:Int),this]
  have e:I++W2=jB (n+q) (n+q) (ju n f):=by unfold jB;rw[List.range_add,CH,Bj];rfl
  unfold QP;rw[<- e];simp[jk,O,M,jc,Aa,zE q λi=>(i:Int),go,I,W2]
  try omega
 refine zB s1<|zB s2 ?_;have l3:3<=lim:=by omega
 have a1:L.length<lim:=by omega
 simp[Yc,l3,a1,jm]
theorem YO(hn:n<=60)(z:q<=60):qh [.lst [jm n n f,jm n n g],.int q]=some (.own [jm (n+q) (n+q) (ju n f),jm (n+q) (n+q) (ju n g)]):=by let P:D:= .lst [jm n n f,jm n n g];rw[bc];refine j9<|zB (γ':=[.val P,.val<|.int q,.own [],.no,.no,.no,.no]) rfl<|zB (γ':=[.val P,.val<|.int q,.own [jm (n+q) (n+q) (ju n f),jm (n+q) (n+q) (ju n g)],.val<|.int n,.val<|.int n,.val<|.tup<|jB n n g,.val (.lst<|jB (n+q) (n+q)<|ju n g)]) ?_ rfl;rw[aO];show(some [jm n n f,jm n n g]).bind _=_;rw[Ab,kZ,show xl (.tp [3,4,5]) (jm n n f) [.val P,.val<|.int q,.own [],.no,.no,.no,.no]=some [.val P,.val<|.int q,.own [],.val<|.int n,.val<|.int n,.val<|.tup<|jB n n f,.no]from rfl,Ab,QO hn z [] ⋯,Ab];show vA _ _ [jm n n g] _=_;rw[kZ,show xl (.tp [3,4,5]) (jm n n g) [.val P,.val<|.int q,.own<|[]++[jm (n+q) (n+q) (ju n f)],.val<|.int n,.val<|.int n,.val<|.tup<|jB n n f,.val (.lst<|jB (n+q) (n+q)<|ju n f)]=some [.val P,.val<|.int q,.own [jm (n+q) (n+q) (ju n f)],.val<|.int n,.val<|.int n,.val<|.tup<|jB n n g,.val (.lst<|jB (n+q) (n+q)<|ju n f)]from rfl,Ab,QO hn z [jm (n+q) (n+q) (ju n f)] ⋯,Ab];rfl
end
theorem cu{h w h' w':Nat}(f g:GK):jm (h+h') (w+w') (KU h w f g λ_ _=>0)=jm (h+h') (w+w') (wA h w f g):=by
 have:jB (h+h') (w+w') (KU h w f g λ_ _=>0)=jB (h+h') (w+w') (wA h w f g):=by unfold jB;refine AL λi hi=>?_;rw[xq λj z=>?_];unfold KU wA;split<;>rfl
 unfold jm;rw[this]
section
variable{p p':Int}{m m':Nat}{w w':GX}{wd wd':GZ}{T T':GV}
abbrev QI(m:Nat)(wd wd':GZ):D:= .tup (zO (m+1) λk=>((wd k+wd' k:Nat):Int))
theorem VO(hm:m<=900):(jM 2<|zG<|zX<|zC (QK (sIx (zg 0)<|zm<|.int 1)<|sIx (zg 1)<|zm<|.int 1) (.tp [0,1]) 2 [] zQ (zu jO (zd 0)<|zd 1)) (zU 3 [zL p m w wd T,zL p m w wd' T'])=some (.next [.val (zL p m w wd T),.val<|zL p m w wd' T',.val (QI m wd wd')]):=by
 have O:=jq;have z:m+1<=lim:=by omega
 have B:=xG p m w wd T;have x1:=xG p m w wd' T';have I:zD (.tp [0,1]) zQ (zu jO (zd 0)<|zd 1) [Cell.no,Cell.no] ((uZ<|m+1).map λi=>D.tup [.int (wd i:Int),.int (wd' i:Int)])=some (zO (m+1) λk=>((wd k+wd' k:Nat):Int)):=by rw[zE (m+1) λk=>((wd k+wd' k:Nat):Int)];refine zo _ _ λk R=>zq rfl rfl ?_;show zu _ _ _ [Cell.val (.int (wd k:Int)),Cell.val (.int (wd' k:Int))]=_;simp
 have i1:ixD 3 1=some 1:=rfl;have src:QK (sIx (zg 0)<|zm<|.int 1) (sIx (zg 1)<|zm<|.int 1) [.val (zL p m w wd T),.val<|zL p m w wd' T',.no]=some ((uZ<|m+1).map λi=>D.tup [.int (wd i:Int),.int (wd' i:Int)]):=by rw[<- Jj (m+1) (λk=>(wd k:Int)) λk=>(wd' k:Int)];simp only[dX,J7,xY,vc,AH,AQ,Be,BA,BF,Ef,jW,Ab,AS,B,x1,xB,i1,vD]
 have M:((uZ<|m+1).map λi=>D.tup [.int (wd i:Int),.int (wd' i:Int)]).length<=lim:=by simpa using z
 show(((zC _ _ _ _ _ _ [.val (zL p m w wd T),.val<|zL p m w wd' T',.no]).map λds=>(Sk.L,ds)).map λa=>D.tup a.2).map _=_;rw[j3,src];simp only[Ab];rw[GY M,show jc 2 [] [.val (zL p m w wd T),.val<|zL p m w wd' T',.no]=[Cell.no,Cell.no]from rfl,I];rfl
theorem VN:VR (zO (m+1) λk=>((wd k+wd' k:Nat):Int))=some (zS (λk=>(wd k:Int)) (m+1)+zS (λk=>(wd' k:Int)) (m+1)):=by rw[kx,<- aG];congr 1
theorem Yh:VR (zO (m+1) λk=>(wd k:Int)+(wd' k:Int))=some (zS (λk=>(wd k:Int)) (m+1)+zS (λk=>(wd' k:Int)) (m+1)):=by rw[kx,<- aG]
theorem df(hm:m<=900)(h : ¬(30<zS (λk=>(wd k:Int)) (m+1)+zS (λk=>(wd' k:Int)) (m+1))):jF [zL p m w wd T,zL p m w wd' T']=some (.val<|QI m wd wd')/\ja [zL p m w wd T,zL p m w wd' T']=none:=by
 have z:=VN (m:=m) (wd:=wd) (wd':=wd');have B:=Yh (m:=m) (wd:=wd) (wd':=wd');have tg:qC [QI m wd wd']=some (.val .non):=by simp[qC,zY,zU,Aa,jf,QI,z,B,h]
 have I:jy [QI m wd wd']=none:=by simp[jy,Kr,zU,Aa,jf,QI,z,B,h,xIf,xNo]
 have s1:=VO (p:=p) (w:=w) (wd:=wd) (wd':=wd') (T:=T) (T':=T') hm;constructor
 ·refine j9 (zB s1<|zB (γ':=[.val (zL p m w wd T),.val<|zL p m w wd' T',.val (QI m wd wd')]) ?_ rfl)
  simp only[aP,kL,xh,vR,kj,AH,AQ,jx,Ab,AS,tg]
 ·unfold ja Kr
  rw[K8,s1];show(yx jy<|zb (zd 2) zz) [.val (zL p m w wd T),.val<|zL p m w wd' T',.val (QI m wd wd')]=none;simp[yx,I]
theorem bz(hm:m<=900)(h:30<zS (λk=>(wd k:Int)) (m+1)+zS (λk=>(wd' k:Int)) (m+1)):ja [zL p m w wd T,zL p m w wd' T']=some ((("TooMany" : Str),none):Xn):=by
 have z:=VN (m:=m) (wd:=wd) (wd':=wd');have B:=Yh (m:=m) (wd:=wd) (wd':=wd');have I:jy [QI m wd wd']=some ((("TooMany" : Str),none):Xn):=by simp[jy,Kr,zU,Aa,jf,QI,z,B,h,xIf,ey]
 have s1:=VO (p:=p) (w:=w) (wd:=wd) (wd':=wd') (T:=T) (T':=T') hm;unfold ja Kr;rw[K8,s1];show(yx jy<|zb (zd 2) zz) [.val (zL p m w wd T),.val<|zL p m w wd' T',.val (QI m wd wd')]=_;simp[yx,I]
abbrev noJ(m:Nat)(w:GX)(wd wd':GZ):D:= .lst (XN m w wd wd' λ_ _ _=>0)
theorem WX(hm:m<=900)(M : ∀k,wd k<=400)(O : ∀k,wd' k<=400)(h : ¬(30<zS (λk=>(wd k:Int)) (m+1)+zS (λk=>(wd' k:Int)) (m+1))):wF [zL p m w wd T,zL p m w wd' T',noJ m w wd wd']=some (.val<|Kf p m w wd wd' T T'):=by
 have hl:=jq;have W:m<=lim:=by omega
 have R:=xG p m w wd T;have x1:=xG p m w wd' T';have l2:2<=lim:=by omega
 have l3:3<=lim:=by omega
 have tg:=(df (p:=p) (w:=w) (T:=T) (T':=T') hm h).1;have B : ∀(u:GZ),(∀k,u k<=400)->∀k,hiW w u k<=400/\wiW w u k<=400:=λu U k=>by rw[<- ab,<- Vv];have:=U<|qO w k;have:=U<|xK w k;omega
 have Y:zD (.tp [0,1,2]) zQ (xj<|zb (sIx (zg 0)<|zm<|.int 0)<|zb (zt jG<|zb (sIx (zg 0)<|zm<|.int 1)<|zb (sIx (zg 1)<|zm<|.int 1)<|zb (zd 2) zz) zz) [Cell.no,Cell.no,Cell.no] ((uZ m).map λk=>D.tup [jU w wd T k,jU w wd' T' k,jm (hiW w wd k) (wiW w wd' k) λ_ _=>0])=some (jg m w (λk=>wd k+wd' k) λk=>wA (hiW w wd k) (wiW w wd k) (T k)<|T' k):=by unfold jg;refine zo _ _ λk hk=>zq rfl rfl ?_;have j:=WY (h:=hiW w wd k) (w:=wiW w wd k) (h':=hiW w wd' k) (w':=wiW w wd' k) (T k) (T' k) (λ_ _=>0) (B wd M k).1 (B wd M k).2 (B wd' O k).1 (B wd' O k).2;rw[cu]at j;have a0:jf (jU w wd T k)=some (.T,[.str (jd<|wch<|w k),jm (hiW w wd k) (wiW w wd k) (T k)]):=rfl;have a1:jf (jU w wd' T' k)=some (.T,[.str (jd<|wch<|w k),jm (hiW w wd' k) (wiW w wd' k) (T' k)]):=rfl;have I:ixD 2 0=some 0:=rfl;have i1:ixD 2 1=some 1:=rfl;show xj _ [Cell.val (jU w wd T k),Cell.val<|jU w wd' T' k,Cell.val (jm (hiW w wd k) (wiW w wd' k) λ_ _=>0)]=_;simp only[dY,xh,vR,J7,xY,kj,vc,kL,AH,AQ,Be,BA,BF,Ef,jx,jW,Ab,AS,a0,a1,xB,I,i1,j,iL,l2,if_true];unfold jU;rw[gw,eA]
 have s1:(jM 3<|zt jF<|zb (zd 0)<|zb (zd 1) zz) (zU 5 [zL p m w wd T,zL p m w wd' T',noJ m w wd wd'])=some (.next [.val (zL p m w wd T),.val<|zL p m w wd' T',.val<|noJ m w wd wd',.val<|QI m wd wd',.no]):=by show(((zt jF _) [.val (zL p m w wd T),.val<|zL p m w wd' T',.val<|noJ m w wd wd',.no,.no]).map _)=_;simp only[kL,xh,vR,kj,AH,AQ,jx,Ab,AS,tg];rfl
 have i2:ixD 3 2=some 2:=rfl;have s2:(jM 4<|qE<|zC (bC (sIx (zg 0)<|zm<|.int 2) (sIx (zg 1)<|zm<|.int 2)<|zd 2) (.tp [0,1,2]) 3 [] zQ (xj<|zb (sIx (zg 0)<|zm<|.int 0)<|zb (zt jG<|zb (sIx (zg 0)<|zm<|.int 1)<|zb (sIx (zg 1)<|zm<|.int 1)<|zb (zd 2) zz) zz)) [.val (zL p m w wd T),.val<|zL p m w wd' T',.val<|noJ m w wd wd',.val<|QI m wd wd',.no]=some (.next [.val (zL p m w wd T),.val<|zL p m w wd' T',.val<|noJ m w wd wd',.val<|QI m wd wd',.val (.lst<|jg m w (λk=>wd k+wd' k) λk=>wA (hiW w wd k) (wiW w wd k) (T k)<|T' k)]):=by
  have z:Kg (jg m w wd T) (jg m w wd' T') (XN m w wd wd' λ_ _ _=>0)=(uZ m).map λk=>D.tup [jU w wd T k,jU w wd' T' k,jm (hiW w wd k) (wiW w wd' k) λ_ _=>0]:=by unfold Kg jg XN;rw[CF,CF,Bj];rfl
  have src:bC (sIx (zg 0)<|zm<|.int 2) (sIx (zg 1)<|zm<|.int 2) (zd 2) [.val (zL p m w wd T),.val<|zL p m w wd' T',.val<|noJ m w wd wd',.val<|QI m wd wd',.no]=some ((uZ m).map λk=>D.tup [jU w wd T k,jU w wd' T' k,jm (hiW w wd k) (wiW w wd' k) λ_ _=>0]):=by rw[<- z];simp only[gQ,J7,xY,kj,vc,AH,AQ,Be,BA,BF,Ef,jW,jx,Ab,AS,R,x1,xB,i2,vD,X8]
  have hz:((uZ m).map λk=>D.tup [jU w wd T k,jU w wd' T' k,jm (hiW w wd k) (wiW w wd' k) λ_ _=>0]).length<=lim:=by simpa using W
  show((zC _ _ _ _ _ _ [.val (zL p m w wd T),.val<|zL p m w wd' T',.val<|noJ m w wd wd',.val<|QI m wd wd',.no]).map D.lst).map _=_;rw[j3,src];simp only[Ab];rw[GY hz,show jc 3 [] [.val (zL p m w wd T),.val<|zL p m w wd' T',.val<|noJ m w wd wd',.val<|QI m wd wd',.no]=[Cell.no,Cell.no,Cell.no]from rfl,Y];rfl
 have s3:(jH<|xj<|zb (sIx (zg 0)<|zm<|.int 0)<|zb (zd 3)<|zb (zG<|zg 4) zz) [.val (zL p m w wd T),.val<|zL p m w wd' T',.val<|noJ m w wd wd',.val<|QI m wd wd',.val (.lst<|jg m w (λk=>wd k+wd' k) λk=>wA (hiW w wd k) (wiW w wd k) (T k)<|T' k)]=some (.ret<|.val<|Kf p m w wd wd' T T'):=by have I:ixD 3 0=some 0:=rfl;simp only[vQ,dY,xh,vR,J7,xY,kj,vc,Jh,AH,AQ,Be,BA,BF,Ef,jW,jx,Ab,AS,R,xB,I,X8,l3,if_true];rfl
 exact j9<|zB s1<|zB s2 s3
theorem gn(hm:m<=900)(M : ∀k,wd k<=400)(O : ∀k,wd' k<=400):(zb (zd 0)<|zb (zd 1)<|zb (qE<|zC (QK (sIx (zg 0)<|zm<|.int 2)<|sIx (zg 1)<|zm<|.int 2) (.tp [0,1]) 2 [] zQ (zt qH<|zb (sIx (zg 0)<|zm<|.int 1)<|zb (sIx (zg 1)<|zm<|.int 1) zz)) zz) [.val (zL p m w wd T),.val (zL p m w wd' T')]=some [zL p m w wd T,zL p m w wd' T',noJ m w wd wd']:=by
 have hl:=jq;have R:m<=lim:=by omega
 have U:=xG p m w wd T;have x1:=xG p m w wd' T';have B : ∀(u:GZ),(∀k,u k<=400)->∀k,hiW w u k<=400/\wiW w u k<=400:=λu I k=>by rw[<- ab,<- Vv];have:=I<|qO w k;have:=I<|xK w k;omega
 have i2:ixD 3 2=some 2:=rfl;have W:zD (.tp [0,1]) zQ (zt qH<|zb (sIx (zg 0)<|zm<|.int 1)<|zb (sIx (zg 1)<|zm<|.int 1) zz) [Cell.no,Cell.no] ((uZ m).map λk=>D.tup [jU w wd T k,jU w wd' T' k])=some (XN m w wd wd' λ_ _ _=>0):=by
  unfold XN;refine zo _ _ λk hk=>zq rfl rfl ?_;have a0:jf (jU w wd T k)=some (.T,[.str (jd<|wch<|w k),jm (hiW w wd k) (wiW w wd k) (T k)]):=rfl;have Y:jf (jU w wd' T' k)=some (.T,[.str (jd<|wch<|w k),jm (hiW w wd' k) (wiW w wd' k) (T' k)]):=rfl;have i1:ixD 2 1=some 1:=rfl;have nj:qH [jm (hiW w wd k) (wiW w wd k) (T k),jm (hiW w wd' k) (wiW w wd' k) (T' k)]=some (.val<|jm (hiW w wd k) (wiW w wd' k) λ_ _=>0):=by
   have b1:hiW w wd k<=lim:=by have:=(B wd M k).1;omega
   have b2:wiW w wd' k<=lim:=by have:=(B wd' O k).2;omega
   have y0 : ∀(h w:Nat) (f:GK),jf (jm h w f)=some (.T,[.int h,.int w,.tup (jB h w f)]):=λ_ _ _=>rfl;simp[qH,zY,zU,y0,Ya b1 b2]
  show zt _ _ [Cell.val (jU w wd T k),Cell.val (jU w wd' T' k)]=_;simp only[xh,vR,J7,xY,kj,vc,kL,AH,AQ,Be,BA,BF,Ef,jx,jW,Ab,AS,a0,Y,xB,i1,nj,iL]
 have z:Jk (jg m w wd T) (jg m w wd' T')=(uZ m).map λk=>D.tup [jU w wd T k,jU w wd' T' k]:=by unfold Jk jg;rw[CF];simp
 have hz:((uZ m).map λk=>D.tup [jU w wd T k,jU w wd' T' k]).length<=lim:=by simpa using R
 simp only[xh,vR,kj,vS,j3,dX,J7,xY,vc,AH,AQ,Be,BA,BF,Ef,jx,jW,Ab,AS,U,x1,xB,i2,vD,z,hz,if_true];rw[show jc 2 [] [.val (zL p m w wd T),.val (zL p m w wd' T')]=[Cell.no,Cell.no]from rfl,W];rfl
theorem J3(hm:m<=900)(z : ∀k,wd k<=400)(B : ∀k,wd' k<=400) :
 (zS (λk=>(wd k:Int)) (m+1)+zS (λk=>(wd' k:Int)) (m+1)<=30->jC [zL p m w wd T,zL p m w wd' T']=some (.val<|Kf p m w wd wd' T T')/\wD [zL p m w wd T,zL p m w wd' T']=none)/\
 (¬zS (λk=>(wd k:Int)) (m+1)+zS (λk=>(wd' k:Int)) (m+1)<=30->wD [zL p m w wd T,zL p m w wd' T']=some ((("TooMany" : Str),none):Xn)):=by
 obtain⟨R,U⟩:=aI (p:=p) (w:=w) (wd:=wd) (wd':=wd') (T:=T) (T':=T') hm;have W:zU 2 [zL p m w wd T,zL p m w wd' T']=[.val (zL p m w wd T),.val (zL p m w wd' T')]:=rfl;have I:=gn (p:=p) (w:=w) (T:=T) (T':=T') hm z B;have M:(zb (zd 0)<|zb (zd 1) zz) [.val (zL p m w wd T),.val (zL p m w wd' T')]=some [zL p m w wd T,zL p m w wd' T']:=rfl;have s1:(Ko<|zt jR<|zb (zd 0)<|zb (zd 1) zz) [.val (zL p m w wd T),.val (zL p m w wd' T')]=some (.next [.val (zL p m w wd T),.val (zL p m w wd' T')]):=by simp only[aP,kL,M,Ab,AS,U]
 have Y:J9 [zL p m w wd T,zL p m w wd' T',noJ m w wd wd']=ja [zL p m w wd T,zL p m w wd' T']:=rfl;have O:wD [zL p m w wd T,zL p m w wd' T']=ja [zL p m w wd T,zL p m w wd' T']:=by
  unfold wD Kr;rw[W,K8];have:yx qz (zb (zd 0)<|zb (zd 1) zz) [.val (zL p m w wd T),.val (zL p m w wd' T')]=none:=by unfold yx;rw[M];exact R
  rw[this,s1];show(yx J9 _) [.val (zL p m w wd T),.val (zL p m w wd' T')]=_;unfold yx;rw[I];exact Y
 refine⟨λh=>⟨?_,?_⟩,λh=>?_⟩
 ·have j:=WX (p:=p) (w:=w) (T:=T) (T':=T') hm z B ⋯
  have s2:(jH<|zt wF<|zb (zd 0)<|zb (zd 1)<|zb (qE<|zC (QK (sIx (zg 0)<|zm<|.int 2)<|sIx (zg 1)<|zm<|.int 2) (.tp [0,1]) 2 [] zQ (zt qH<|zb (sIx (zg 0)<|zm<|.int 1)<|zb (sIx (zg 1)<|zm<|.int 1) zz)) zz) [.val (zL p m w wd T),.val (zL p m w wd' T')]=some (.ret<|.val<|Kf p m w wd wd' T T'):=by rw[vQ,kL,I];simp[j]
  exact j9<|zB s1 s2
 ·rw[O];exact(df hm ⋯).2
 ·rw[O];exact bz hm ⋯
end
theorem Xj{α:Type}(m:Nat)(f:Nat->α):((uZ m).map f).reverse=(uZ m).map λk=>f (m - 1 - k):=by
 apply Fb
 ·simp
 ·intro i h1 h2
  simp at h1 h2 ⊢
theorem x9{p:Int}{m:Nat}(w:GX)(wd:GZ)(T:GV)(hm:m<=900):qY [zL p m w wd T]=some (.val<|zL p m (λk=> !w (m - 1 - k)) (λk=>wd<|m - k) λk=>T<|m - 1 - k):=by
 have hl:=jq;have O:m<=lim:=by omega
 have z:jf (zL p m w wd T)=some (.T,[.int p,.tup<|zO (m+1) λk=>(wd k:Int),.tup (jg m w wd T)]):=rfl;have go:zD (.nm 0) zQ (xj<|zb (zt qb<|zb (sIx (zg 0)<|zm<|.int 0) zz)<|zb (sIx (zg 0)<|zm<|.int 1) zz) [Cell.no] ((uZ m).map λk=>jU w wd T<|m - 1 - k)=some (jg m (λk=> !w (m - 1 - k)) (λk=>wd<|m - k) λk=>T<|m - 1 - k):=by
  unfold jg;refine zo _ _ λk B=>zq rfl rfl ?_;have B:=Aq.mp B;have R:jf (jU w wd T<|m - 1 - k)=some (.T,[.str (jd<|wch<|w<|m - 1 - k),jm (hiW w wd<|m - 1 - k) (wiW w wd<|m - 1 - k) (T<|m - 1 - k)]):=rfl;have U:=yj<|w<|m - 1 - k;have W:m - k=m - 1 - k+1:=by omega
  have Y:m - (k+1)=m - 1 - k:=by omega
  simp[R,U,jU,hiW,wiW];rw[W,Y];cases w (m - 1 - k)<;>simp
 have I:(jg m w wd T).reverse=(uZ m).map λk=>jU w wd T (m - 1 - k):=Xj m _;have M:(zO (m+1) λk=>(wd k:Int)).reverse=zO (m+1) λk=>((wd (m - k):Nat):Int):=by unfold zO;rw[Xj];simp
 simp only[qY,zY,zU];rw[zW];simp[z,nk,Js,I,M,O,jc,xS,Aa];rw[go];simp[z,nk,Js,I,M,zL]
theorem x6{p:Int}{m:Nat}(w:GX)(wd:GZ)(T:GV)(hm:m<=900)(z : ∀k,wd k<=lim):qW [zL p m w wd T]=some (.val<|zL p m (λk=> !w k) wd λk i j=>T k j i):=by
 have R:=jq;have I:m<=lim:=by omega
 have B:jf (zL p m w wd T)=some (.T,[.int p,.tup<|zO (m+1) λk=>(wd k:Int),.tup (jg m w wd T)]):=rfl;have go:zD (.nm 0) zQ (xj<|zb (zt qb<|zb (sIx (zg 0)<|zm<|.int 0) zz)<|zb (zt jZ<|zb (sIx (zg 0)<|zm<|.int 1) zz) zz) [Cell.no] (jg m w wd T)=some (jg m (λk=> !w k) wd λk i j=>T k j i):=by
  unfold jg;refine zo _ _ λk U=>zq rfl rfl ?_;have h1:hiW w wd k<=lim:=by unfold hiW;split<;>exact z _
  have h2:wiW w wd k<=lim:=by unfold wiW;split<;>exact z _
  have M:jf (jU w wd T k)=some (.T,[.str (jd<|wch<|w k),jm (hiW w wd k) (wiW w wd k) (T k)]):=rfl;have O:=yj<|w k;have ov:=Kb (T k) h1 h2;have e1:hiW (λk=> !w k) wd k=wiW w wd k:=by unfold hiW wiW;cases e:w k<;>simp[e]
  have e2:wiW (λk=> !w k) wd k=hiW w wd k:=by unfold hiW wiW;cases e:w k<;>simp[e]
  simp[M,O,ov];simp[jU,e1,e2]
 simp only[qW,zY,zU];rw[zW];simp[B,I,jc,xS,Aa];rw[go];simp[B,zL]
section
variable{p:Int}{m:Nat}{w:GX}{wd wd' wd'':GZ}{f g T T' T'':GV}
noncomputable def ZA(w:GX)(wd:GZ)(T T':GV):Nat->Nat->Nat->Int:=λk=>wA (hiW w wd k) (wiW w wd k) (T k)<|T' k
theorem gM:zL p m (λk=> !w (m - 1 - k)) (λk=>wd (m - k)+wd' (m - k)) (λk=>ZA w wd T T'<|m - 1 - k)=Kf p m (λk=> !w (m - 1 - k)) (λk=>wd<|m - k) (λk=>wd'<|m - k) (λk=>T<|m - 1 - k) (λk=>T'<|m - 1 - k):=by
 refine wt (λ_ _=>rfl) (λ_ _=>rfl) λk i j I _ _=>?_;have z:m - k=m - 1 - k+1:=by omega
 have B:m - (k+1)=m - 1 - k:=by omega
 have e1:hiW w wd (m - 1 - k)=hiW (λk=> !w (m - 1 - k)) (λk=>wd<|m - k) k:=by unfold hiW;dsimp only;rw[B,z];rcases Bool.eq_false_or_eq_true (w<|m - 1 - k)with e | e<;>simp[e]
 have e2:wiW w wd (m - 1 - k)=wiW (λk=> !w (m - 1 - k)) (λk=>wd<|m - k) k:=by unfold wiW;dsimp only;rw[B,z];rcases Bool.eq_false_or_eq_true (w<|m - 1 - k)with e | e<;>simp[e]
 unfold ZA;rw[e1,e2]
theorem aH(h w:Nat)(f g:GK)(i j:Nat):wA h w f g j i=wA w h (λi j=>f j i) (λi j=>g j i) i j:=by unfold wA Zz;by_cases a:j<h<;>by_cases b:i<w<;>simp[a,b]
theorem gL:zL p m (λk=> !w k) (λk=>wd k+wd' k) (λk i j=>ZA w wd T T' k j i)=Kf p m (λk=> !w k) wd wd' (λk i j=>T k j i) (λk i j=>T' k j i):=by
 refine wt (λ_ _=>rfl) (λ_ _=>rfl) λk i j z _ _=>?_;have e1:hiW (λk=> !w k) wd k=wiW w wd k:=by unfold hiW wiW;cases e:w k<;>simp[e]
 have e2:wiW (λk=> !w k) wd k=hiW w wd k:=by unfold hiW wiW;cases e:w k<;>simp[e]
 unfold ZA;rw[e1,e2];exact aH ..
theorem aF:Kf p m w (λk=>wd k+wd' k) wd'' (ZA w wd T T') T''=Kf p m w wd (λk=>wd' k+wd'' k) T (ZA w wd' T' T''):=by
 refine wt (λ_ _=>rfl) (λk _=>Nat.add_assoc ..) λk i j M _ _=>?_;show wA _ _ (wA _ _ _ _) _ i j=wA _ _ _ (wA _ _ _ _) i j;rw[dQ,dc];unfold wA Zz;by_cases a:i<hiW w wd k
 ·have B:i<hiW w wd k+hiW w wd' k:=by omega
  simp only[a,B,if_true];by_cases b:j<wiW w wd k
  ·have z:j<wiW w wd k+wiW w wd' k:=by omega
   simp[b,z]
  ·simp[b]
 ·by_cases B:i<hiW w wd k+hiW w wd' k
  ·have I:i - hiW w wd k<hiW w wd' k:=by omega
   simp only[a,B,I,if_true,if_false];by_cases b:j<wiW w wd k
   ·have z:j<wiW w wd k+wiW w wd' k:=by omega
    simp[b,z]
   ·by_cases z:j<wiW w wd k+wiW w wd' k
    ·have b2:j - wiW w wd k<wiW w wd' k:=by omega
     simp[b,z,b2]
    ·have b2 : ¬j - wiW w wd k<wiW w wd' k:=by omega
     simp[b,z,b2]
  ·have I : ¬i - hiW w wd k<hiW w wd' k:=by omega
   simp only[a,B,I,if_false];by_cases b:j<wiW w wd k
   ·have z:j<wiW w wd k+wiW w wd' k:=by omega
    simp[b,z]
   ·by_cases z:j<wiW w wd k+wiW w wd' k
    ·have b2:j - wiW w wd k<wiW w wd' k:=by omega
     simp[b,z,b2]
    ·have b2 : ¬j - wiW w wd k<wiW w wd' k:=by omega
     simp[b,z,b2,Nat.sub_sub]
theorem vi{F:Nat->Int}{n:Nat}(h : ∀k,k<n->F k=0):zS F n=0:=by rw[kv h,ZQ]
theorem Vu(U : ∀k i j,0<=T' k i j/\T' k i j<p){k i j:Nat}(hi:i<hiW w wd k+hiW w wd' k)(W:j<wiW w wd k+wiW w wd' k) :
 ZA w wd (vh p w wd f g T) T' k i j=vh p w (λk=>wd k+wd' k) (λk=>ju (wd k)<|f k) (λk=>ju (wd k)<|g k) (ZA w wd T T') k i j:=by
 have M:=yh w wd k;have O:=yy w wd k;rw[yh,yh]at hi;rw[yy,yy]at W;unfold vh;show wA (hiW w wd k) (wiW w wd k) _ _ i j=_;have I : ∀a b,ZA w wd T T' k a b=wA (wd<|qO w k) (wd<|xK w k) (T k) (T' k) a b:=λa b=>by unfold ZA;rw[M,O]
 rw[M,O];have B : ∀b,b<wd (xK w k)+wd' (xK w k)->zS (λa=>ZA w wd T T' k a b*ju (wd<|qO w k) (f<|qO w k) i a) (wd (qO w k)+wd' (qO w k))=if i<wd (qO w k)then (if b<wd (xK w k)then zS (λa=>T k a b*f (qO w k) i a) (wd<|qO w k)else 0)else (if b<wd (xK w k)then 0 else T' k (i - wd (qO w k)) (b - wd (xK w k))):=λb z=>by
  by_cases c:i<wd (qO w k)
  ·rw[GY c,yA,vi (F:=λa=>ZA w wd T T' k (wd (qO w k)+a) b*ju (wd<|qO w k) (f<|qO w k) i (wd (qO w k)+a)) λa _=>by unfold ju;rw[GY c,MQ ⋯,Int.mul_zero],Cj]
   by_cases d:b<wd (xK w k)
   ·rw[GY d]
    refine kv λa ha=>?_;rw[I];unfold wA ju Zz;simp[c,d,ha]
   ·rw[MQ d]
    refine vi λa ha=>?_;rw[I];unfold wA ju Zz;simp[d,ha]
  ·rw[MQ c,kr (i:=i) hi λa _ R=>by unfold ju;simp[c,R],I]
   unfold wA ju Zz;simp[c]
 show _=zS (λb=>ju (wd<|xK w k) (g<|xK w k) b j*(zS (λa=>ZA w wd T T' k a b*ju (wd<|qO w k) (f<|qO w k) i a) (wd (qO w k)+wd' (qO w k))%p)) (wd (xK w k)+wd' (xK w k))%p;by_cases c:i<wd (qO w k)
 ·rw[yA,vi (n:=wd'<|xK w k) λb z=>by rw[B _ ⋯,GY c,MQ ⋯];simp,Cj]
  unfold wA Zz;rw[GY c];by_cases d:j<wd (xK w k)
  ·rw[GY d]
   dsimp only;congr 1;refine kv λb z=>?_;rw[B _ ⋯,GY c,GY z];unfold ju;simp[z,d]
  ·rw[MQ d,vi λb z=>by unfold ju;simp[z,d]]
   simp
 ·rw[yA,vi (n:=wd<|xK w k) λb z=>by rw[B _ ⋯,MQ c,GY z];simp,Int.zero_add]
  unfold wA Zz;rw[MQ c];by_cases d:j<wd (xK w k)
  ·rw[GY d,vi λb z=>by unfold ju;rw[MQ ⋯,MQ ⋯,Ci]]
   simp
  ·rw[MQ d,kr (i:=j - wd (xK w k)) ⋯ λb z R=>by unfold ju;rw[MQ ⋯,MQ ⋯,Ci]]
   rw[B _ ⋯,MQ c,MQ ⋯];have e:wd (xK w k)+(j - wd (xK w k))=j:=by omega
   rw[e];unfold ju;have:=U k (i - wd (qO w k))<|j - wd (xK w k);simp[d];rw[FS this.1 this.2]
theorem cU(B : ∀k i j,0<=T' k i j/\T' k i j<p):Kf p m w wd wd' (vh p w wd f g T) T'=zL p m w (λk=>wd k+wd' k) (vh p w (λk=>wd k+wd' k) (λk=>ju (wd k)<|f k) (λk=>ju (wd k)<|g k)<|ZA w wd T T'):=
 wt (λ_ _=>rfl) (λ_ _=>rfl) λk i j _ hi z=>Vu B (by rw[dQ]at hi;exact hi) (by rw[dc]at z;exact z)
theorem gK(I:0<p)(z : ∀k i j,0<=T k i j/\T k i j<p)(B : ∀k i j,0<=T' k i j/\T' k i j<p)(k i j:Nat):0<=ZA w wd T T' k i j/\ZA w wd T T' k i j<p:=by
 unfold ZA wA Zz;split<;>dsimp only<;>split
 ·exact z ..
 ·omega
 ·omega
 ·exact B ..
end
theorem bp:Zx=zY 11 (zN eO<|zN eM<|zN eL<|zN eK<|zN eJ<|zN eI<|zN eH<|zN eG<|zN eE<|zN VE<|zN Ye<|zN VD<|zN VC<|zN VB<|zN VA Vz):=rfl
theorem xQ{u:GZ}{c:Nat}(h : ∀k,u k<=c) : ∀n:Nat,zS (λk=>(u k:Int)) n<=(c:Int)*n
 | 0=>by simp[zS]
 | n+1=>by have:=xQ h n;have:=h n;simp only[zS];rw[show((n+1:Nat):Int)=(n:Int)+1 by omega,FH];omega
theorem yF{a b:D}{γ:Ctx}{r:Option Fl}(h:dNe a b=some (.bl false)):((dNe a b).bind asB).bind (λc=>if c=true then r else some (.next γ))=some (.next γ):=by rw[h];rfl
theorem qS{f:CO D}{d r:D}{ds z:List D}(h:f [.val d]=some r)(B:zD (.nm 0) zQ f [.no] ds=some z):zD (.nm 0) zQ f [.no] (d::ds)=some (r::z):=by show(some [Cell.val d]).bind _=_;simp[zQ,h,B]
theorem pB(ns:List Int)(a7:ns.length<=63):Zx [vP ns]=some (.val<|.bl true):=by
 have hl:=jq;obtain⟨e0,a0,_⟩:=Zk a7 (k:=0) ⋯ ⋯;obtain⟨e1,a1,_⟩:=Zk a7 (k:=1) ⋯ ⋯;obtain⟨e2,a2,_⟩:=Zk a7 (k:=220) ⋯ ⋯;obtain⟨e3,a3,_⟩:=Zk a7 (k:=221) ⋯ ⋯;obtain⟨p,ep,ix,ao⟩:=Ky a0;have hp:Pr p:=ao;have p0:=hp.pos;have p7:=hp.le;obtain⟨m,w,hm,ew⟩:=QC a1;obtain⟨wd,T,er,bd,hT⟩:=vV a7 p0 (a0:=2) (m:=m) (most:=3) ⋯ ⋯ w ⋯;obtain⟨wd',T',cr,cs,be⟩:=vV a7 p0 (a0:=110) (m:=m) (most:=3) ⋯ ⋯ w ⋯;have h2 : ∀k,wd k<=2:=λk=>by have:=bd k;omega
 have a4 : ∀k,wd' k<=2:=λk=>by have:=cs k;omega
 have h4 : ∀k,wd k+wd' k<=4:=λk=>by have:=h2 k;have:=a4 k;omega
 have s2 : ∀{u:GZ},(∀k,u k<=2)->∀n,n<=5->zS (λk=>(u k:Int)) (n+1)<=2*(n+1):=λhu n hn=>by have:=xQ hu<|n+1;omega
 obtain⟨i,ei,hi⟩:=xJ (m:=XG ns 220) ((m:Int)+1) ⋯;obtain⟨d,ed,hd⟩:=xJ (m:=XG ns 221) ((m:Int)+1 - i) ⋯;let j:=i+d;have ax:i<=j:=by omega
 have hj:j<=m:=by omega
 let S:=ZA w wd T T';let B:Nat->Nat:=λk=>wd k+wd' k;have hS : ∀k i j,0<=S k i j/\S k i j<p:=gK p0 hT be;have a9 : ∀(n:Nat) (w:GX) (u v:GZ) (U V:GV),n<=5->(∀k,u k<=2)->(∀k,v k<=2)->jC [zL p n w u U,zL p n w v V]=some (.val<|Kf p n w u v U V):=λn w u v U V hn hu hv=>by have x1:=s2 hu n hn;have x2:=s2 hv n hn;exact((J3 (p:=p) (w:=w) (T:=U) (T':=V) (m:=n) ⋯ (λk=>by have:=hu k;omega) (λk=>by have:=hv k;omega)).1 ⋯).1
 have b0:=a9 m w wd wd' T T' hm h2 a4;have cz:jC [zL p m w wd T,zL p m w wd' T']=some (.val<|zL p m w B S):=b0;have c0:Kd [zL p m w B S,.int i,.int j]=some (.val<|gE p i j w B S):=(QH ⋯ ax hj).1;have c1:=(QH (p:=p) (m:=m) (w:=w) (wd:=wd) (T:=T) ⋯ ax hj).1;have c2:=(QH (p:=p) (m:=m) (w:=w) (wd:=wd') (T:=T') ⋯ ax hj).1;have b1:jC [gE p i j w wd T,gE p i j w wd' T']=some (.val<|gE p i j w B S):=a9 (j - i) _ _ _ _ _ ⋯ (λk=>h2 _)<|λk=>a4 _;have m0:=x9 (p:=p) (m:=m) w B S ⋯;have d3:=x9 (p:=p) (m:=m) w wd T ⋯;have m2:=x9 (p:=p) (m:=m) w wd' T' ⋯;have b2:=a9 m (λk=> !w (m - 1 - k)) _ _ (λk=>T<|m - 1 - k) (λk=>T'<|m - 1 - k) hm (λk=>h2<|m - k)<|λk=>a4<|m - k;rw[<- gM]at b2;have o0:=x6 (p:=p) (m:=m) w B S ⋯ (λk=>by have:wd k+wd' k<=4:=h4 k;show wd k+wd' k<=lim;omega);have o1:=x6 (p:=p) (m:=m) w wd T ⋯ (λk=>by have:=h2 k;omega);have o2:=x6 (p:=p) (m:=m) w wd' T' ⋯ (λk=>by have:=a4 k;omega);have b3:=a9 m (λk=> !w k) _ _ (λk i j=>T k j i) (λk i j=>T' k j i) hm h2 a4;rw[<- gL]at b3;have turns : ∀k:Nat,∃fg:(Nat->Nat->Int)×(Nat->Nat->Int),k<m+1->Pair p (wd k) fg.1 fg.2/\qu [vP ns,.int<|230+7*(k:Int),.int p,.int (wd k:Nat)]=some (.own [jm (wd k) (wd k) fg.1,jm (wd k) (wd k) fg.2]):=λk=>by
  by_cases I:k<m+1
  ·obtain⟨f,g,h1,h2⟩:=QD a7 hp (n:=wd k) (by have:=bd k;omega) (show(0:Int)<=230+7*(k:Int)by omega) ⋯
   exact⟨(f,g),λ_=>⟨h1,h2⟩⟩
  ·exact⟨(λ_ _=>0,λ_ _=>0),λh=>absurd h I⟩
 obtain⟨FG,bn⟩:=Classical.axiomOfChoice turns;let f:Nat->Nat->Nat->Int:=λk=>(FG k).1;let g:Nat->Nat->Nat->Int:=λk=>(FG k).2;have bv : ∀k,k<m+1->Pair p (wd k) (f k) (g k):=λk I=>(bn k I).1;have ef : ∀k:Nat,k<m+1->qu [vP ns,.int<|230+7*(k:Int),.int p,.int (wd k:Nat)]=some (.own [jm (wd k) (wd k) (f k),jm (wd k) (wd k) (g k)]):=λk I=>(bn k I).2;let f':Nat->Nat->Nat->Int:=λk=>ju (wd k)<|f k;let g':Nat->Nat->Nat->Int:=λk=>ju (wd k)<|g k;have d9 : ∀k i j,k<m+1->i<B k->j<B k->0<=g' k i j/\g' k i j<p:=λk i j I _ _=>by
  have p2:2<=p:=by rcases ao with rfl | rfl | rfl | rfl<;>decide
  show 0<=ju (wd k) (g k) i j/\ju (wd k) (g k) i j<p;unfold ju;split
  ·split
   ·exact(bv k I).bg i j (by assumption) (by assumption)
   ·omega
  ·split<;>omega
 have db:=vf (f:=f) (g:=g) (m:=m) (w:=w) (wd:=wd) (T:=T) p0 p7 ⋯ (λk=>by have:=h2 k;omega) (λk i j _ _ _=>hT k i j)<|λk i j I hi hj=>(bv k I).bg i j hi hj;have dd:=vf (f:=f') (g:=g') (m:=m) (w:=w) (wd:=B) (T:=S) p0 p7 ⋯ (λk=>by have:wd k+wd' k<=4:=h4 k;show wd k+wd' k<=lim;omega) (λk i j _ _ _=>hS k i j) d9;let U:=vh p w wd f g T;have mr : ∀z:Int,0<=z%p/\z%p<p:=λz=>⟨BB _ ⋯,Br _ p0⟩;have hU : ∀k i j,0<=U k i j/\U k i j<p:=λk i j=>mr _;have b4:=a9 m w wd wd' U T' hm h2 a4;have dl:jC [zL p m w wd U,zL p m w wd' T']=some (.val<|zL p m w B<|vh p w B f' g' S):=by rw[b4];exact congrArg (λd=>some (Res.val d))<|cU (f:=f) (g:=g) (T:=T) be
 let P:List D:=(uZ<|m+1).map λk=>D.lst [jm (wd k) (wd k) (f k),jm (wd k) (wd k) (g k)];let Q:List D:=(uZ<|m+1).map λk=>D.lst [jm (B k) (B k) (f' k),jm (B k) (B k) (g' k)];have x0 : ∀wd T,jf (zL p m w wd T)=some (.T,[.int p,.tup<|zO (m+1) λk=>(wd k:Int),.tup (jg m w wd T)]):=λ_ _=>rfl;have g1:zD (.nm 0) zQ (qE<|kf qu<|zb (zd 1)<|zb (zu jO (zm<|.int 230)<|zu qT (zm<|.int 7)<|zd 0)<|zb (zd 2)<|zb (sIx (zT<|sIx (zg 3)<|zm<|.int 1)<|zd 0) zz) [Cell.no,Cell.val<|vP ns,Cell.val<|.int p,Cell.val (zL p m w wd T)] ((uZ<|m+1).map λ(i:Nat)=>D.int i)=some P:=by refine zo _ _ λk I=>zq rfl rfl ?_;have I:=Aq.mp I;have cm:J0 7 (k:Int)=true:=va _ _ ⋯ ⋯;simp[x0,I,cm,ef k I]
 have g2:zD (.nm 0) zQ (qE<|kf qh<|zb (sIx (zg 2)<|zd 0)<|zb (sIx (zT<|sIx (zg 1)<|zm<|.int 1)<|zd 0) zz) [Cell.no,Cell.val<|zL p m w wd' T',Cell.val (.lst P)] ((uZ<|m+1).map λ(i:Nat)=>D.int i)=some Q:=by refine zo _ _ λk I=>zq rfl rfl ?_;have I:=Aq.mp I;have we:=YO (n:=wd k) (q:=wd' k) (f:=f k) (g:=g k) (by have:=h2 k;omega) (by have:=a4 k;omega);simp[x0,I,P,we];exact⟨rfl,rfl⟩
 have t1:zD (.nm 0) zQ (sIx (zg 0)<|zm<|.int 0) [Cell.no] P=some (xP (m+1) wd f):=by unfold xP;exact zo _ _ λk I=>zq rfl rfl ⋯
 have t2:zD (.nm 0) zQ (sIx (zg 0)<|zm<|.int 1) [Cell.no] P=some (xP (m+1) wd g):=by unfold xP;exact zo _ _ λk I=>zq rfl rfl ⋯
 have t3:zD (.nm 0) zQ (sIx (zg 0)<|zm<|.int 0) [Cell.no] Q=some (xP (m+1) B f'):=by unfold xP;exact zo _ _ λk I=>zq rfl rfl ⋯
 have t4:zD (.nm 0) zQ (sIx (zg 0)<|zm<|.int 1) [Cell.no] Q=some (xP (m+1) B g'):=by unfold xP;exact zo _ _ λk I=>zq rfl rfl ⋯
 have pl:P.length=m+1:=by simp[P]
 have ql:Q.length=m+1:=by simp[Q]
 have e8 : ∀{X:GV},(∀k i j,0<=X k i j/\X k i j<p)->∀k i j,0<=X k i j/\X k i j<10:=λh k i j=>⟨(h k i j).1,by have:=(h k i j).2;omega⟩;have ap : ∀(n:Nat) (w:GX) (u:GZ) (X:GV),n<=5->(∀k,u k<=4)->(∀k i j,0<=X k i j/\X k i j<p)->zt qc (zb (zt qV<|zb (zt qU<|zb (zd 0) zz) zz)<|zb (zd 0) zz) [.val (zL p n w u X)]=some (.bl true):=λn w u X hn hu hX=>by have rt:=Ks (w:=w) (wd:=u) ao hn (e8 hX) (λk=>by have:=hu k;omega);have rr:=Kt (w:=w) (wd:=u) ao hn hX (λk=>by have:=hu k;omega) (by have:=xQ hu<|n+1;omega);have ir:=Yb (p:=p) w u X (show n<=900 by omega) (λk=>by have:=hu k;omega);simp[rt,rr,ir]
 have am:m+1<=lim:=by omega
 have ir:inR ((m:Int)+1)=true:=by rw[show((m:Int)+1)=((m+1:Nat):Int)by omega];exact KY am
 have tn:((m:Int)+1).toNat=m+1:=by omega
 have wl:=kR w (show m<=1000 by omega);let R:=zL p m w wd T;let Y:=zL p m w wd' T';let W:=zL p m w B S;let RC:=gE p i j w B S;let RU:=zL p m w wd U;have f3:okD W=true:=vw ..;let M:Cell->Cell->Cell->Cell->Cell->Cell->Cell->Cell->Ctx:=λc3 c4 c5 c6 c7 c8 c9 ec=>[.val (vP ns),.val<|.int p,.val<|.str<|ZD m w,c3,c4,c5,c6,c7,c8,c9,ec];let O:Cell->Cell->Cell->Ctx:=M (.val R) (.val Y) (.val W) (.val<|.int i)<|.val<|.int j;have jj:(i:Int)+(d:Int)=(j:Int):=by omega
 have m1:(0:Int)<(m:Int)+1:=by omega
 have ej:(0:Int)<(m:Int)+1 - i:=by omega
 rw[bp];refine j9<|zB (γ':=[.val (vP ns),.val<|.int p,.no,.no,.no,.no,.no,.no,.no,.no,.no]) (by simp[eO,zU,Aa,e0,ix,ep])<|zB (γ':=M .no .no .no .no .no .no .no .no) (by simp[eM,M,e1,ew])<|zB (γ':=M (.val R) .no .no .no .no .no .no .no) (by simp[eL,M];exact⟨_,er,rfl⟩)<|zB (γ':=M (.val R) (.val Y) .no .no .no .no .no .no) (by simp[eK,M];exact⟨_,cr,rfl⟩)<|zB (γ':=M (.val R) (.val Y) (.val W) .no .no .no .no .no) (by simp[eJ,M,R,Y,cz];rfl)<|zB (γ':=M (.val R) (.val Y) (.val W) (.val<|.int i) .no .no .no .no) ?_ (zB (γ':=O .no .no .no) ?_ (zB (γ':=O .no .no .no) ?_ (zB (γ':=O .no .no .no) ?_ (zB (γ':=O .no .no .no) ?_ (zB (γ':=O .no .no .no) ?_ (zB (γ':=O (.val<|.lst P) .no .no) ?_ (zB (γ':=O (.val<|.lst P) (.val<|.lst Q) .no) ?_ (zB (γ':=O (.val<|.lst P) (.val<|.lst Q)<|.val RU) ?_ (zB (γ':=O (.val<|.lst P) (.val<|.lst Q)<|.val RU) ?_ ?_)))))))))
 ·simp[eI,M,e2,xn,wl,m1,ei]
 ·have i2:(i:Int)<(m:Int)+1:=by omega
  simp[eH,O,M,e3,xn,wl,ej,ed,i2,jj]
 ·have ne:=xX (vw p (j - i) (λk=>w<|i+k) (λk=>B<|i+k) λk=>S<|i+k)
  simp[eG,O,M,R,Y,W,c0,c1,c2,b1];exact yF ne
 ·have ne:=xX (vw p m (λk=> !w (m - 1 - k)) (λk=>B<|m - k) λk=>S<|m - 1 - k)
  simp[eE,O,M,R,Y,W,m0,d3,m2,b2];exact yF ne
 ·have ne:=xX (vw p m (λk=> !w k) B λk i j=>S k j i)
  simp[VE,O,M,R,Y,W,o0,o1,o2,b3];exact yF ne
 ·by_cases f4:m<4
  ·have s0:=xQ h2 (m+1)
   have s1:=xQ a4<|m+1;have sb:=xQ h4<|m+1;have q1:jC [zL p m w B S,zL p m w wd T]=some (.val<|Kf p m w B wd S T):=((J3 (p:=p) (w:=w) (T:=S) (T':=T) (m:=m) (wd:=B) (wd':=wd) ⋯ (λk=>by have:wd k+wd' k<=4:=h4 k;show wd k+wd' k<=400;omega) (λk=>by have:=h2 k;omega)).1 (by show zS (λk=>((wd k+wd' k:Nat):Int)) (m+1)+_<=30;omega)).1;have q2:=a9 m w wd' wd T' T hm a4 h2;have f6:=xQ (u:=λk=>wd' k+wd k) (c:=4) (λk=>by have:=h4 k;omega)<|m+1;have q3:jC [zL p m w wd T,Kf p m w wd' wd T' T]=some (.val<|Kf p m w wd (λk=>wd' k+wd k) T<|ZA w wd' T' T):=((J3 (p:=p) (w:=w) (T:=T) (T':=ZA w wd' T' T) (m:=m) (wd:=wd) (wd':=λk=>wd' k+wd k) ⋯ (λk=>by have:=h2 k;omega) (λk=>by have:=h4 k;omega)).1 ⋯).1;have q4:Kf p m w B wd S T=Kf p m w wd (λk=>wd' k+wd k) T (ZA w wd' T' T):=aF;rw[q4]at q1;have b8:(m:Int)<4:=by omega
   have ne:=xX (d:=Kf p m w wd (λk=>wd' k+wd k) T<|ZA w wd' T' T)<|vw ..;simp[Ye,O,M,R,Y,W,xn,wl,b8,q1,q2,q3];exact yF ne
  ·have b8 : ¬((m:Int)<4):=by omega
   simp[Ye,O,M,xn,wl,b8]
 ·have rg:zK (zu jO (vm<|zd 2)<|zm<|.int 1) (O .no .no .no)=some ((uZ<|m+1).map λ(i:Nat)=>D.int (i:Int)):=by
   rw[vb];simp[O,M,xn,wl,ir,jk,zE,tn]
  unfold VD;rw[yi,vS,j3,rg,Ab,GY (by simpa using am)];show((zD _ _ _ [.no,.val<|vP ns,.val<|.int p,.val R] _).map _).map _=_;rw[g1];rfl
 ·have rg:zK (vI<|zg 8) (O (.val<|.lst P) .no .no)=some ((uZ<|m+1).map λ(i:Nat)=>D.int (i:Int)):=by
   rw[vb];simp[O,M,pl,ir,jk,zE,tn]
  unfold VC;rw[yi,vS,j3,rg,Ab,GY (by simpa using am)];show((zD _ _ _ [.no,.val Y,.val (.lst P)] _).map _).map _=_;rw[g2];rfl
 ·simp[VB,O,M,R,RU,pl,am,jc,Aa,t1,t2,db,U]
 ·have ne:=xX (vw p m w B<|vh p w B f' g' S)
  simp[VA,O,M,R,Y,RU,W,ql,am,jc,Aa,t3,t4,dd,dl];exact yF ne
 ·have k0:=ap m w wd T hm (λk=>by have:=h2 k;omega) hT
  have k1:=ap m w B S hm h4 hS;have k2:=ap m w wd U hm (λk=>by have:=h2 k;omega) hU;have k3:=ap (j - i) (λk=>w<|i+k) (λk=>B<|i+k) (λk=>S<|i+k) ⋯ (λk=>h4 _)<|λk=>hS _;have go:zD (.nm 0) zQ (zt qc<|zb (zt qV<|zb (zt qU<|zb (zd 0) zz) zz)<|zb (zd 0) zz) [Cell.no] [R,W,RU,RC]=some [.bl true,.bl true,.bl true,.bl true]:=
   qS k0 (qS k1<|qS k2<|qS k3 rfl)
  have l4:4<=lim:=by omega
  simp[Vz,O,M,W,c0,l4,jc,Aa];show(BV (λds=>(Sk.L,ds))<|zD _ _ _ [Cell.no] [R,W,RU,RC]).bind _=_;rw[go];rfl
noncomputable def top(i:Nat):PySem.Stmt:=PySem.Challenge.pw_barsplit_k19_whole_sides_go_together.main.body.getD i<|.Pass ⟨0,0,0,0⟩
section
variable{CR CL:PySem.Addr}{P:PySem.Program}{w:PySem.World}{K:uW}{mg:PySem.Str->Option PySem.Value}{base:PySem.Heap}
theorem KR(h:us.length=n+1) : ∃a t,us=a::t/\t.length=n:=by
 cases us with
 | nil=>exact absurd h<|Nat.zero_ne_add_one n
 | cons a t=>exact⟨a,t,rfl,Nat.succ.inj h⟩
theorem uT(h:us.length=1) : ∃a,us=[a]:=by obtain⟨a,B,rfl,z⟩:=KR h;rw[AM z];exact⟨a,rfl⟩
theorem uS(h:us.length=2) : ∃a b,us=[a,b]:=by obtain⟨a,B,rfl,z⟩:=KR h;obtain⟨b,I,rfl,h1⟩:=KR z;rw[AM h1];exact⟨a,b,rfl⟩
theorem uR(h:us.length=3) : ∃a b c,us=[a,b,c]:=by obtain⟨a,B,rfl,z⟩:=KR h;obtain⟨b,I,rfl,h1⟩:=KR z;obtain⟨c,M,rfl,h2⟩:=KR h1;rw[AM h2];exact⟨a,b,c,rfl⟩
theorem uQ(h:us.length=4) : ∃a b c d,us=[a,b,c,d]:=by obtain⟨a,I,rfl,z⟩:=KR h;obtain⟨b,M,rfl,h1⟩:=KR z;obtain⟨c,O,rfl,h2⟩:=KR h1;obtain⟨d,R,rfl,B⟩:=KR h2;rw[AM B];exact⟨a,b,c,d,rfl⟩
theorem uP{α:Type}{us:List α}(h:us.length=5) : ∃a b c d e,us=[a,b,c,d,e]:=by obtain⟨a,M,rfl,z⟩:=KR h;obtain⟨b,O,rfl,h1⟩:=KR z;obtain⟨c,R,rfl,h2⟩:=KR h1;obtain⟨d,U,rfl,B⟩:=KR h2;obtain⟨e,W,rfl,I⟩:=KR B;rw[AM I];exact⟨a,b,c,d,e,rfl⟩
structure E0(K:uW)(mg:PySem.Str->Option PySem.Value):Prop where
 Q0:DefAt K mg "is_whole" (top 13) ["x"]
 Q1:DefAt K mg "is_prime" (top 14) ["p"]
 Q2:DefAt K mg "rests" (top 15) ["p","numbers"]
 Q3:DefAt K mg "is_side" (top 16) ["many"]
 Q4:DefAt K mg "is_listed" (top 17) ["things","many"]
 Q5:DefAt K mg "is_line" (top 18) ["wide","row"]
 Q6:DefAt K mg "table_of" (top 19) ["p","high","wide","rows"]
 Q7:DefAt K mg "led" (top 20) ["p","table","load"]
 Q8:DefAt K mg "turned_over" (top 22) ["table"]
 Q9:DefAt K mg "product" (top 21) ["p","one","other"]
 Qa:DefAt K mg "nought_table" (top 23) ["high","wide"]
 Qb:DefAt K mg "beginning_of" (top 28) ["k","way"]
 Qc:DefAt K mg "end_of" (top 29) ["k","way"]
 Qd:DefAt K mg "other_way" (top 30) ["way"]
 Qe:DefAt K mg "is_room" (top 31) ["many","k"]
 Qf:DefAt K mg "are_widths" (top 32) ["widths"]
 Qg:DefAt K mg "widths_of" (top 33) ["widths"]
 Qh:DefAt K mg "arrow_of" (top 34) ["p","widths","k","pair"]
 Qi:DefAt K mg "ways_of" (top 35) ["row"]
 Qj:DefAt K mg "one_kind" (top 36) ["one","other"]
 Qk:DefAt K mg "ask_one_kind" (top 37) ["one","other"]
 Ql:DefAt K mg "ask_together" (top 38) ["widths"]
 Qm:DefAt K mg "arrow_in_turns" (top 39) ["p","k","arrow","turns","backs"]
 Qn:DefAt K mg "in_turns" (top 40) ["row","turns","backs"]
 Qo:DefAt K mg "tables_joined" (top 42) ["one","other","join"]
 Qp:DefAt K mg "no_join" (top 43) ["one","other"]
 Qq:DefAt K mg "widths_together" (top 44) ["one","other"]
 Qr:DefAt K mg "joined" (top 45) ["one","other","joins"]
 Qs:DefAt K mg "beside" (top 46) ["one","other"]
 Qt:DefAt K mg "ask_rooms" (top 47) ["row","i","j"]
 Qu:DefAt K mg "cut" (top 48) ["row","i","j"]
 Qv:DefAt K mg "mirrored" (top 49) ["row"]
 Qw:DefAt K mg "opposite" (top 50) ["row"]
 Qx:DefAt K mg "table_text" (top 53) ["table"]
 Qy:DefAt K mg "arrow_text" (top 54) ["arrow"]
 Qz:DefAt K mg "row_text" (top 55) ["row"]
 Q10:DefAt K mg "is_prime_word" (top 56) ["word"]
 Q11:DefAt K mg "is_width_word" (top 57) ["word"]
 Q12:DefAt K mg "is_arrow_word" (top 58) ["word"]
 Q13:DefAt K mg "has_form" (top 59) ["place","word"]
 Q14:DefAt K mg "check_forms" (top 60) ["words"]
 Q15:DefAt K mg "figures_of" (top 61) ["line"]
 Q16:DefAt K mg "rows_read" (top 62) ["signs","high"]
 Q17:DefAt K mg "are_rests" (top 63) ["p","numbers"]
 Q18:DefAt K mg "arrow_read" (top 64) ["p","widths","k","word"]
 Q19:DefAt K mg "row_read" (top 65) ["text"]
 Q1a:DefAt K mg "_law_mix" (top 67) ["_law_script","_law_k"]
 Q1b:DefAt K mg "_law_whole" (top 68) ["_law_found"]
 Q1c:DefAt K mg "_law_rests" (top 69) ["_law_found","_law_due"]
 Q1d:DefAt K mg "_law_is_table" (top 70) ["_law_found","_law_due"]
 Q1e:DefAt K mg "_law_table" (top 71) ["_law_script","_law_at","_law_p","_law_high","_law_wide"]
 Q1f:DefAt K mg "_law_ways" (top 72) ["_law_cell"]
 Q1g:DefAt K mg "_law_row" (top 73) ["_law_script","_law_at","_law_p","_law_ways_here","_law_most"]
 Q1h:DefAt K mg "_law_is_row" (top 74) ["_law_found","_law_due"]
 Q1i:DefAt K mg "_law_turn" (top 75) ["_law_script","_law_at","_law_p","_law_many"]
 Q1j:DefAt K mg "_law_widened" (top 76) ["_law_pair","_law_many"]
 Q1k:DefAt K mg "law" (top 77) ["_law_script"]
 Z0:mg "bool" = none
 Z1:mg "int" = none
 Z2:mg "isinstance" = none
 Z3:mg "tuple" = none
 Z4:mg "len" = none
 Z5:mg "list" = none
 Z6:mg "all" = none
 Z7:mg "sum" = none
 Z8:mg "zip" = none
 Z9:mg "range" = none
 Za:mg "enumerate" = none
 Zb:mg "reversed" = none
 Zc:mg "str" = none
 Zd:mg "max" = none
 G0:GL K mg "PRIMES" (.tup [.int 2,.int 3,.int 5,.int 7])
 G1:GL K mg "MOST_HIGH_OR_WIDE" (.int 30)
 G2:GL K mg "MOST_ROOMS" (.int 6)
 G3:GL K mg "MOST_TOGETHER" (.int 30)
 G4:GL K mg "WAYS" (.tup [.str "r",.str "l"])
 G5:GL K mg "TABLE_SIGNS" (.str "0123456789/")
theorem xf(E:E0 K mg):FnD P w K mg base 1 "is_whole" 1 jQ:=
 qp (N:=["x"]) E.Q0 ⋯ λX B hw I hm M z O=>by subst B hw I hm M;exact zk (zw (yd (Xq z ⋯ E.Z2 ⋯ E.Z1 (zr z)) (yc (dr (ZV z ⋯ E.Z2 ⋯ E.Z0 (zr z))))))
theorem KJ(E:E0 K mg):FnD P w K mg base 2 "is_prime" 1 vF:=
 qp (N:=["p"]) E.Q1 ⋯ λX B hw I hm M z O=>by subst B hw I hm M;exact zk (zw (yd (zF (xf E) z (za (zr z) zh)) (yc (iT (zr z) (PV.q (Jz z ⋯ E.G0))))))
theorem Yx(E:E0 K mg):FnD P w K mg base 1 "rests" 2 yv:=
 qp (N:=["p","numbers"]) E.Q2 ⋯ λX B hw I hm M z O=>by subst B hw I hm M;exact zk (zw (z5 z ⋯ E.Z3 (PO.q (jI z (zZ (zJ z)) (λ_ _ _ h1=>jt (zr h1) (zr h1))))))
theorem Jd(E:E0 K mg):FnD P w K mg base 2 "is_side" 1 kP:=
 qp (N:=["many"]) E.Q3 ⋯ λX B hw I hm M z O=>by subst B hw I hm M;exact zk (zw (yd (zF (xf E) z (za (zr z) zh)) (yc (Yr Y8 Y8 ZS ZS ze (zr z) (Jz z ⋯ E.G1)))))
theorem kC(E:E0 K mg):FnD P w K mg base 1 "is_listed" 2 jL:=
 qp (N:=["things","many"]) E.Q4 ⋯ λX B hw I hm M z O=>by subst B hw I hm M;exact zk (zw (yd (Wo z ⋯ E.Z2 ⋯ E.Z5 ⋯ E.Z3 (zr z)) (yc (Kx z (qo z ⋯ E.Z4 (zJ z)) (zr z)))))
theorem Vb(E:E0 K mg):FnD P w K mg base 2 "is_line" 2 kQ:=
 qp (N:=["wide","row"]) E.Q5 ⋯ λX B hw I hm M z O=>by subst B hw I hm M;exact zk (zw (yd (zF (kC E) z (za (zr z) (za (zr z) zh))) (yc (yK z ⋯ E.Z6 (PO.q (jI z (zZ (zJ z)) (λ_ _ _ h1=>zF (xf E) h1 (za (zr h1) zh))))))))
theorem KC(E:E0 K mg):FnD P w K mg base 3 "table_of" 4 k4:=
 qp (N:=["p","high","wide","rows"]) E.Q6 ⋯ λX B hw I hm M z O=>by subst B hw I hm M;exact by refine zf (je (z7 (z6 (zF (KJ E) z (za (zr z) zh)))) (zk jN) zH) ?_;refine zf (je (yo (qe (z7 (z6 (zF (Jd E) z (za (zr z) zh)))) (qK (z7 (z6 (zF (Jd E) z (za (zr z) zh))))))) (zk jN) zH) ?_;refine zf (je (yo (qe (z7 (z6 (zF (kC E) z (za (zr z) (za (zr z) zh))))) (qK (z7 (z6 (yK z ⋯ E.Z6 (PO.q (jI z (zZ (zJ z)) (λ_ _ _ h1=>zF (Vb E) h1 (za (zr h1) (za (zr h1) zh))))))))))) (zk jN) zH) ?_;exact(zk (zw (jv (kh (za (zr z) (za (zr z) (za (z5 z ⋯ E.Z3 (PO.q (jI z (zZ (zJ z)) (λ_ _ _ h1=>zF (Yx E) h1 (za (zr h1) (za (zr h1) zh)))))) zh)))))))
theorem lN(E:E0 K mg):FnD P w K mg base 2 "led" 3 da:=
 qp (N:=["p","table","load"]) E.Q7 ⋯ λX B hw I hm M z O=>by subst B hw I hm M;exact zk (zw (zF (Yx E) z (za (zr z) (za (PO.v (jI z (zZ (PV.q (zx (zJ z) ze))) (λ_ _ _ h1=>Wk h1 ⋯ E.Z7 (PO.q (jI h1 (PIF.c (w5 h1 ⋯ E.Z8 (zr h1) (zr h1))) (λ_ _ _ h2=>j0 (zr h2) (zr h2))))))) zh))))
theorem ye(E:E0 K mg):FnD P w K mg base 1 "turned_over" 1 jZ:=
 qp (N:=["table","columns"]) E.Q8 ⋯ λX B hw I hm M z O=>by subst B hw I hm M;exact by refine zf (qf 1 (wa z (PIF.c (jl z ⋯ E.Z9 (zx (zJ z) ze))) (λ_ _ _ h1=>z5 h1 ⋯ E.Z3 (PO.q (jI h1 (zZ (PV.q (zx (zJ h1) ze))) (λ_ _ _ h2=>zx (zJ h2) (zr h2))))))) ?_;exact(zk (zw (jv (kh (za (zx (zJ z) ze) (za (zx (zJ z) ze) (za (z5 z ⋯ E.Z3 (zJ z)) zh)))))))
theorem Jb(E:E0 K mg):FnD P w K mg base 3 "product" 3 kN:=
 qp (N:=["p","one","other","over"]) E.Q9 ⋯ λX B hw I hm M z O=>by subst B hw I hm M;exact by refine zf (jT z (zF (ye E) z (za (zr z) zh))) ?_;exact(zk (zw (jv (kh (za (zx (zJ z) ze) (za (zx (zJ z) ze) (za (z5 z ⋯ E.Z3 (PO.q (jI z (zZ (PV.q (zx (zJ z) ze))) (λ_ _ _ h1=>zF (lN E) h1 (za (zr h1) (za (zr h1) (za (zr h1) zh))))))) zh)))))))
theorem w9(E:E0 K mg):FnD P w K mg base 1 "nought_table" 2 qA:=
 qp (N:=["high","wide"]) E.Qa ⋯ λX B hw I hm M z O=>by subst B hw I hm M;exact zk (zw (jv (kh (za (zr z) (za (zr z) (za (j0 (jv (kh (za (j0 (jv (kh (za ze zh))) (zr z)) zh))) (zr z)) zh))))))
theorem kD(E:E0 K mg):FnD P w K mg base 1 "beginning_of" 2 j7:=
 qp (N:=["k","way"]) E.Qb ⋯ λX B hw I hm M z O=>by subst B hw I hm M;exact zk (zw (yJ (xo z (zr z) jD) (zr z) (jb (zr z) ze)))
theorem Zg(E:E0 K mg):FnD P w K mg base 1 "end_of" 2 xu:=
 qp (N:=["k","way"]) E.Qc ⋯ λX B hw I hm M z O=>by subst B hw I hm M;exact zk (zw (yJ (xo z (zr z) jD) (jb (zr z) ze) (zr z)))
theorem vL(E:E0 K mg):FnD P w K mg base 1 "other_way" 1 qb:=
 qp (N:=["way"]) E.Qd ⋯ λX B hw I hm M z O=>by subst B hw I hm M;exact zk (zw (yJ (xo z (zr z) jD) jD jD))
theorem Je(E:E0 K mg):FnD P w K mg base 2 "is_room" 2 j6:=
 qp (N:=["many","k"]) E.Qe ⋯ λX B hw I hm M z O=>by subst B hw I hm M;exact zk (zw (yd (zF (xf E) z (za (zr z) zh)) (yc (Yr Y8 fY ZS VT ze (zr z) (zr z)))))
theorem JL(E:E0 K mg):FnD P w K mg base 2 "are_widths" 1 xw:=
 qp (N:=["widths"]) E.Qf ⋯ λX B hw I hm M z O=>by subst B hw I hm M;exact by refine zf (je (yo (qe (z7 (z6 (Wo z ⋯ E.Z2 ⋯ E.Z5 ⋯ E.Z3 (zr z)))) (qK (z7 (Wp Y8 Y8 ZS ZS ze (qo z ⋯ E.Z4 (zJ z)) (Jz z ⋯ E.G2)))))) (zk (zw k8)) zH) ?_;refine zf (je (z7 (z6 (yK z ⋯ E.Z6 (PO.q (jI z (zZ (zJ z)) (λ_ _ _ h1=>yd (zF (xf E) h1 (za (zr h1) zh)) (yc (pd (zr h1) ze)))))))) (zk (zw k8)) zH) ?_;exact(zk (zw (oZ (Wk z ⋯ E.Z7 (zJ z)) (Jz z ⋯ E.G3))))
theorem Xx(E:E0 K mg):FnD P w K mg base 3 "widths_of" 1 xi:=
 qp (N:=["widths"]) E.Qg ⋯ λX B hw I hm M z O=>by subst B hw I hm M;exact by refine zf (je (z7 (z6 (zF (JL E) z (za (zr z) zh)))) (zk jN) zH) ?_;exact(zk (zw (z5 z ⋯ E.Z3 (zJ z))))
theorem KM(E:E0 K mg):FnD P w K mg base 4 "arrow_of" 4 xN:=
 qp (N:=["p","widths","k","pair","way","table"]) E.Qh ⋯ λX I hw M hm O B R=>by subst I hw M hm O;exact by refine zf (je (yo (qe (z7 (z6 (zF (kC E) B (za (zr B) (za ze zh))))) (qK (ZX (zx (zJ B) ze) (PV.q (Jz B ⋯ E.G4)))))) (zk jN) zH) ?_;refine zf (jT B (zx (zJ B) ze)) ?_;refine zf (bM (have z:=B.wish (λ_ _=>False);Wt 5 (z.set 5 ⋯ (zF (KC E) z (za (zr z) (za (zx (zJ z) (zF (Zg E) z (za (zr z) (za (zr z) zh)))) (za (zx (zJ z) (zF (kD E) z (za (zr z) (za (zr z) zh)))) (za (zx (zJ z) ze) zh)))))))) ?_;exact(zk (zw (jv (kh (za (zr B) (za (zr B) zh))))))
theorem Ja(E:E0 K mg):FnD P w K mg base 1 "ways_of" 1 kM:=
 qp (N:=["row"]) E.Qi ⋯ λX B hw I hm M z O=>by subst B hw I hm M;exact zk (zw (wY jD (PO.q (jI z (zZ (PV.q (zx (zJ z) ze))) (λ_ _ _ h1=>zx (zJ h1) ze)))))
theorem KG(E:E0 K mg):FnD P w K mg base 2 "one_kind" 2 qX:=
 qp (N:=["one","other"]) E.Qj ⋯ λX B hw I hm M z O=>by subst B hw I hm M;exact zk (zw (yd (Kx z (zx (zJ z) ze) (zx (zJ z) ze)) (yc (Kx z (zF (Ja E) z (za (zr z) zh)) (zF (Ja E) z (za (zr z) zh))))))
theorem Zi(E:E0 K mg):FnD P w K mg base 3 "ask_one_kind" 2 jR:=
 qp (N:=["one","other"]) E.Qk ⋯ λX B hw I hm M z O=>by subst B hw I hm M;exact zk (je (z7 (z6 (zF (KG E) z (za (zr z) (za (zr z) zh))))) (zk jN) zH)
theorem Zh(E:E0 K mg):FnD P w K mg base 1 "ask_together" 1 qC:=
 qp (N:=["widths"]) E.Ql ⋯ λX B hw I hm M z O=>by subst B hw I hm M;exact zk (je (dw (Wk z ⋯ E.Z7 (zJ z)) (Jz z ⋯ E.G3)) (zk jN) zH)
theorem vv(E:E0 K mg):FnD P w K mg base 4 "arrow_in_turns" 5 jP:=
 qp (N:=["p","k","arrow","turns","backs","way","turned"]) E.Qm ⋯ λX B hw I hm M z O=>by subst B hw I hm M;exact by refine zf (jT z (zx (zJ z) ze)) ?_;refine zf (jT z (zF (Jb E) z (za (zr z) (za (zx (zJ z) (zF (Zg E) z (za (zr z) (za (zr z) zh)))) (za (zx (zJ z) ze) zh))))) ?_;exact(zk (zw (jv (kh (za (zr z) (za (zF (Jb E) z (za (zr z) (za (zr z) (za (zx (zJ z) (zF (kD E) z (za (zr z) (za (zr z) zh)))) zh)))) zh))))))
theorem Zf(E:E0 K mg):FnD P w K mg base 5 "in_turns" 3 xM:=
 qp (N:=["row","turns","backs","made"]) E.Qn ⋯ λX B hw I hm M z O=>by subst B hw I hm M;exact by refine zf (qf 3 (wa z (PIF.c (lg z ⋯ E.Za (zx (zJ z) ze))) (λ_ _ _ h1=>zF (vv E) h1 (za (zx (zJ h1) ze) (za (zr h1) (za (zr h1) (za (zr h1) (za (zr h1) zh)))))))) ?_;exact(zk (zw (jv (kh (za (zx (zJ z) ze) (za (zx (zJ z) ze) (za (z5 z ⋯ E.Z3 (zJ z)) zh)))))))
theorem wc(E:E0 K mg):FnD P w K mg base 1 "tables_joined" 3 jG:=
 qp (N:=["one","other","join","first","second"]) E.Qo ⋯ λX B hw I hm M z O=>by subst B hw I hm M;exact by refine zf (qf 3 (wa z (PIF.c (w5 z ⋯ E.Z8 (zx (zJ z) ze) (zx (zJ z) ze))) (λ_ _ _ h1=>jb (zr h1) (zr h1)))) ?_;refine zf (qf 4 (wa z (zZ (PV.q (zx (zJ z) ze))) (λ_ _ _ h1=>jb (j0 (jv (kh (za ze zh))) (zx (zJ h1) ze)) (zr h1)))) ?_;exact(zk (zw (jv (kh (za (jb (zx (zJ z) ze) (zx (zJ z) ze)) (za (jb (zx (zJ z) ze) (zx (zJ z) ze)) (za (z5 z ⋯ E.Z3 (PV.q (PO.v (dC (zJ z) (zJ z))))) zh)))))))
theorem Va(E:E0 K mg):FnD P w K mg base 2 "no_join" 2 qH:=
 qp (N:=["one","other"]) E.Qp ⋯ λX B hw I hm M z O=>by subst B hw I hm M;exact zk (zw (zF (w9 E) z (za (zx (zJ z) ze) (za (zx (zJ z) ze) zh))))
theorem yQ(E:E0 K mg):FnD P w K mg base 2 "widths_together" 2 jF:=
 qp (N:=["one","other","widths"]) E.Qq ⋯ λX B hw I hm M z O=>by subst B hw I hm M;exact by refine zf (jT z (z5 z ⋯ E.Z3 (PO.q (jI z (PIF.c (w5 z ⋯ E.Z8 (zx (zJ z) ze) (zx (zJ z) ze))) (λ_ _ _ h1=>jb (zr h1) (zr h1)))))) ?_;refine zf (wx (zF (Zh E) z (za (zr z) zh))) ?_;exact(zk (Yt 2 (z.var ⋯)))
theorem WN(E:E0 K mg):FnD P w K mg base 3 "joined" 3 wF:=
 qp (N:=["one","other","joins","widths","arrows"]) E.Qr ⋯ λX B hw I hm M z O=>by subst B hw I hm M;exact by refine zf (jT z (zF (yQ E) z (za (zr z) (za (zr z) zh)))) ?_;refine zf (qf 4 (wa z (PIF.c (fP z ⋯ E.Z8 (zx (zJ z) ze) (zx (zJ z) ze) (zr z))) (λ_ _ _ h1=>jv (kh (za (zx (zJ h1) ze) (za (zF (wc E) h1 (za (zx (zJ h1) ze) (za (zx (zJ h1) ze) (za (zr h1) zh)))) zh)))))) ?_;exact(zk (zw (jv (kh (za (zx (zJ z) ze) (za (zr z) (za (z5 z ⋯ E.Z3 (zJ z)) zh)))))))
theorem qF(E:E0 K mg):FnD P w K mg base 4 "beside" 2 jC:=
 qp (N:=["one","other"]) E.Qs ⋯ λX B hw I hm M z O=>by subst B hw I hm M;exact by refine zf (wx (zF (Zi E) z (za (zr z) (za (zr z) zh)))) ?_;exact(zk (zw (zF (WN E) z (za (zr z) (za (zr z) (za (PO.v (jI z (PIF.c (w5 z ⋯ E.Z8 (zx (zJ z) ze) (zx (zJ z) ze))) (λ_ _ _ h1=>zF (Va E) h1 (za (zx (zJ h1) ze) (za (zx (zJ h1) ze) zh))))) zh))))))
theorem XA(E:E0 K mg):FnD P w K mg base 3 "ask_rooms" 3 kc:=
 qp (N:=["row","i","j","many"]) E.Qt ⋯ λX B hw I hm M z O=>by subst B hw I hm M;exact by refine zf (jT z (qo z ⋯ E.Z4 (PV.q (zx (zJ z) ze)))) ?_;refine zf (je (z7 (z6 (zF (Je E) z (za (zr z) (za (zr z) zh))))) (zk jN) zH) ?_;exact(zk (je (yo (qe (z7 (z6 (zF (Je E) z (za (zr z) (za (zr z) zh))))) (qK (dv (zr z) (zr z))))) (zk jN) zH))
theorem Yy(E:E0 K mg):FnD P w K mg base 4 "cut" 3 Kd:=
 qp (N:=["row","i","j"]) E.Qu ⋯ λX B hw I hm M z O=>by subst B hw I hm M;exact by refine zf (wx (zF (XA E) z (za (zr z) (za (zr z) (za (zr z) zh))))) ?_;exact(zk (zw (jv (kh (za (zx (zJ z) ze) (za (Xo (zx (zJ z) ze) (jS (zr z)) (jS (jb (zr z) ze))) (za (Xo (zx (zJ z) ze) (jS (zr z)) (jS (zr z))) zh)))))))
theorem yq(E:E0 K mg):FnD P w K mg base 2 "mirrored" 1 qY:=
 qp (N:=["row","arrows"]) E.Qv ⋯ λX B hw I hm M z O=>by subst B hw I hm M;exact by refine zf (qf 1 (wa z (PIF.c (fS z ⋯ E.Zb (zx (zJ z) ze))) (λ_ _ _ h1=>jv (kh (za (zF (vL E) h1 (za (zx (zJ h1) ze) zh)) (za (zx (zJ h1) ze) zh)))))) ?_;exact(zk (zw (jv (kh (za (zx (zJ z) ze) (za (Wj z ⋯ E.Z3 ⋯ E.Zb (zx (zJ z) ze)) (za (z5 z ⋯ E.Z3 (zJ z)) zh)))))))
theorem yp(E:E0 K mg):FnD P w K mg base 2 "opposite" 1 qW:=
 qp (N:=["row","arrows"]) E.Qw ⋯ λX B hw I hm M z O=>by subst B hw I hm M;exact by refine zf (qf 1 (wa z (zZ (PV.q (zx (zJ z) ze))) (λ_ _ _ h1=>jv (kh (za (zF (vL E) h1 (za (zx (zJ h1) ze) zh)) (za (zF (ye E) h1 (za (zx (zJ h1) ze) zh)) zh)))))) ?_;exact(zk (zw (jv (kh (za (zx (zJ z) ze) (za (zx (zJ z) ze) (za (z5 z ⋯ E.Z3 (zJ z)) zh)))))))
theorem JG(E:E0 K mg):FnD P w K mg base 1 "table_text" 1 xr:=
 qp (N:=["table"]) E.Qx ⋯ λX B hw I hm M z O=>by subst B hw I hm M;exact zk (zw (wY jD (PO.q (jI z (zZ (PV.q (zx (zJ z) ze))) (λ_ _ _ h1=>wY jD (PO.q (jI h1 (zZ (zJ h1)) (λ_ _ _ h2=>Jx h2 ⋯ E.Zc (zr h2)))))))))
theorem JJ(E:E0 K mg):FnD P w K mg base 2 "arrow_text" 1 qJ:=
 qp (N:=["arrow","table"]) E.Qy ⋯ λX B hw I hm M z O=>by subst B hw I hm M;exact by refine zf (jT z (zF (JG E) z (za (zx (zJ z) ze) zh))) ?_;exact(zk (zw (yJ (xo z (zx (zJ z) ze) jD) (JA (xy jD (xy (Yq rfl (zr z)) (xy jD Yv)))) (JA (xy jD (xy (Yq rfl (zr z)) (xy jD Yv)))))))
theorem KD(E:E0 K mg):FnD P w K mg base 3 "row_text" 1 qU:=
 qp (N:=["row","prime","words","arrow","width"]) E.Qz ⋯ λX B hw I hm M z O=>by subst B hw I hm M;exact by refine zf (jT z (zx (zJ z) ze)) ?_;refine zf (Xt z (yM (kh (za (JA (xy (Yq rfl (zr z)) (xy jD Yv))) (za (Jx z ⋯ E.Zc (zx (PV.q (zx (zJ z) ze)) ze)) zh))))) ?_;refine zf (yL O z (w5 z ⋯ E.Z8 (zx (zJ z) ze) (Xo (zx (zJ z) ze) (jS ze) kB)) (by refine zf (vp 2 z ⋯ (zF (JJ E) z (za (zr z) zh))) ?_;exact(zk (vp 2 z ⋯ (Jx z ⋯ E.Zc (zr z)))))) ?_;exact(zk (zw (wY jD (zJ z))))
theorem wm(E:E0 K mg):FnD P w K mg base 1 "is_prime_word" 1 qj:=
 qp (N:=["word"]) E.Q10 ⋯ λX B hw I hm M z O=>by subst B hw I hm M;exact zk (zw (du (zr z) (PO.q (jI z (zZ (PV.q (Jz z ⋯ E.G0))) (λ_ _ _ h1=>JA (xy (Yq rfl (zr h1)) (xy jD Yv)))))))
theorem wj(E:E0 K mg):FnD P w K mg base 1 "is_width_word" 1 qi:=
 qp (N:=["word"]) E.Q11 ⋯ λX B hw I hm M z O=>by subst B hw I hm M;exact zk (zw (du (zr z) (PO.q (jI z (PIF.c (jl z ⋯ E.Z9 (jb (Jz z ⋯ E.G3) ze))) (λ_ _ _ h1=>Jx h1 ⋯ E.Zc (zr h1))))))
theorem wo(E:E0 K mg):FnD P w K mg base 1 "is_arrow_word" 1 qk:=
 qp (N:=["word"]) E.Q12 ⋯ λX B hw I hm M z O=>by subst B hw I hm M;exact by refine zf (je (ZX (fF (Xp (zr z) kB (jS ze)) (Xp (zr z) (jS (Yp ze)) kB)) (PV.q (jv (kh (za jD (za jD zh)))))) (zk (zw k8)) zH) ?_;exact(zk (zw (yK z ⋯ E.Z6 (PO.q (jI z (PIF.c (Wz (Xp (zr z) (jS ze) (jS (Yp ze))))) (λ_ _ _ h1=>fE (zr h1) (Jz h1 ⋯ E.G5)))))))
theorem KL(E:E0 K mg):FnD P w K mg base 2 "has_form" 2 qx:=
 qp (N:=["place","word"]) E.Q13 ⋯ λX B hw I hm M z O=>by subst B hw I hm M;exact by refine zf (je (xo z (zr z) ze) (zk (zw (zF (wm E) z (za (zr z) zh)))) zH) ?_;refine zf (je (xo z (jt (zr z) ze) ze) (zk (zw (zF (wj E) z (za (zr z) zh)))) zH) ?_;exact(zk (zw (zF (wo E) z (za (zr z) zh))))
theorem ZJ(E:E0 K mg):FnD P w K mg base 3 "check_forms" 1 ka:=
 qp (N:=["words","place","word"]) E.Q14 ⋯ λX B hw I hm M z O=>by subst B hw I hm M;exact by refine zf (yL O z (WA z ⋯ E.Za (zr z)) (zk (je (z7 (z6 (zF (KL E) z (za (zr z) (za (zr z) zh))))) (zk jN) zH))) ?_;exact(zk (je (xo z (jt (qo z ⋯ E.Z4 (zJ z)) ze) ze) (zk jN) zH))
theorem JI(E:E0 K mg):FnD P w K mg base 1 "figures_of" 1 qI:=
 qp (N:=["line"]) E.Q15 ⋯ λX B hw I hm M z O=>by subst B hw I hm M;exact zk (wu (jI z (PIF.c (Wz (zr z))) (λ_ _ _ h1=>Kw h1 ⋯ E.Z1 (zr h1))))
theorem Xy(E:E0 K mg):FnD P w K mg base 2 "rows_read" 2 qa:=
 qp (N:=["signs","high"]) E.Q16 ⋯ λX B hw I hm M z O=>by subst B hw I hm M;exact by refine zf (je (yo (Kv (xo z (zr z) jD) (Jv (xo z (zr z) ze)))) (zk (wu (yM (kh zh)))) zH) ?_;exact(zk (wu (jI z (zZ (PO.q (Yu (zr z) jD))) (λ_ _ _ h1=>PO.v (bR (JI E) h1 (za (zr h1) zh))))))
theorem XB(E:E0 K mg):FnD P w K mg base 1 "are_rests" 2 qy:=
 qp (N:=["p","numbers"]) E.Q17 ⋯ λX B hw I hm M z O=>by subst B hw I hm M;exact zk (zw (yK z ⋯ E.Z6 (PO.q (jI z (zZ (zJ z)) (λ_ _ _ h1=>oY (zr h1) (zr h1))))))
theorem JK(E:E0 K mg):FnD P w K mg base 5 "arrow_read" 4 jX:=
 qp (N:=["p","widths","k","word","way","rows"]) E.Q18 ⋯ λX B hw I hm M z O=>by subst B hw I hm M;exact by refine zf (jT z (yJ (z6 (Wl (zr z) jD)) jD jD)) ?_;refine zf (jT z (PO.v (bR (Xy E) z (za (Xp (zr z) (jS ze) (jS (Yp ze))) (za (zx (zJ z) (zF (Zg E) z (za (zr z) (za (zr z) zh)))) zh))))) ?_;refine zf (je (z7 (z6 (yK z ⋯ E.Z6 (PO.q (jI z (zZ (zJ z)) (λ_ _ _ h1=>zF (XB E) h1 (za (zr h1) (za (zr h1) zh)))))))) (zk jN) zH) ?_;exact(zk (zw (zF (KM E) z (za (zr z) (za (zr z) (za (zr z) (za (jv (kh (za (zr z) (za (zr z) zh)))) zh)))))))
theorem KF(E:E0 K mg):FnD P w K mg base 6 "row_read" 1 qV:=
 qp (N:=["text","words","p","widths","arrows"]) E.Q19 ⋯ λX B hw I hm M z O=>by subst B hw I hm M;exact by refine zf (jT z (PO.v (Yu (zr z) jD))) ?_;refine zf (wx (zF (ZJ E) z (za (zr z) zh))) ?_;refine zf (jT z (Kw z ⋯ E.Z1 (Xp (zx (zJ z) ze) kB (jS (Yp ze))))) ?_;refine zf (jT z (zF (Xx E) z (za (PO.v (jI z (zZ (PO.q (dB (zJ z) (jS ze) kB (jS ze)))) (λ_ _ _ h1=>Kw h1 ⋯ E.Z1 (zr h1)))) zh))) ?_;refine zf (qf 4 (wa z (PIF.c (WA z ⋯ E.Za (PO.v (dB (zJ z) (jS ze) kB (jS ze))))) (λ_ _ _ h1=>zF (JK E) h1 (za (zr h1) (za (zr h1) (za (zr h1) (za (zr h1) zh))))))) ?_;exact(zk (zw (jv (kh (za (zr z) (za (zr z) (za (z5 z ⋯ E.Z3 (zJ z)) zh)))))))
theorem qt(E:E0 K mg):FnD P w K mg base 1 "_law_mix" 2 zR:=
 qp (N:=["_law_script","_law_k","_law_cell","_law_digits","_law_turn_here"]) E.Q1a ⋯ λX B hw I hm M z O=>by subst B hw I hm M;exact by refine zf (je (xo z (qo z ⋯ E.Z4 (zJ z)) ze) (zk (zw (jt (j0 (jt (j0 (jb (j0 (j0 (zr z) (zr z)) ze) ze) ze) ze) ze) ze))) zH) ?_;refine zf (jT z (zx (zJ z) (jt (zr z) (qo z ⋯ E.Z4 (zJ z))))) ?_;refine zf (je (yo (Kv (dw (qo z ⋯ E.Z4 (zJ z)) ze) (Jv (xo z (jt (zx (zJ z) ze) ze) ze)))) (by refine zf (jT z (zx (zJ z) (jb ze (jt (zr z) (ZU (qo z ⋯ E.Z4 (zJ z)) ze))))) ?_;refine zf (yL O z (jl z ⋯ E.Z9 (wZ (zr z) (ZU (qo z ⋯ E.Z4 (zJ z)) ze))) (zk (jT z (wZ (zr z) (Wm ze ze))))) ?_;exact(zk (zw (jt (zr z) (Wm ze ze))))) zH) ?_;exact(zk (zw (jt (j0 (jt (jb (jb (j0 (jt (zr z) (Wm ze ze)) ze) (j0 (j0 (zr z) (zr z)) ze)) ze) ze) ze) ze)))
theorem xp(E:E0 K mg):FnD P w K mg base 1 "_law_whole" 1 jK:=
 qp (N:=["_law_found"]) E.Q1b ⋯ λX B hw I hm M z O=>by subst B hw I hm M;exact zk (zw (yd (Xq z ⋯ E.Z2 ⋯ E.Z1 (zr z)) (yc (dr (ZV z ⋯ E.Z2 ⋯ E.Z0 (zr z))))))
theorem vM(E:E0 K mg):FnD P w K mg base 2 "_law_rests" 2 qw:=
 qp (N:=["_law_found","_law_due"]) E.Q1c ⋯ λX B hw I hm M z O=>by subst B hw I hm M;exact by refine zf (je (yo (qe (z7 (z6 (qs z ⋯ E.Z2 ⋯ E.Z3 (zr z)))) (qK (xc z (qo z ⋯ E.Z4 (zJ z)) (qo z ⋯ E.Z4 (zJ z)))))) (zk (zw k8)) zH) ?_;exact(zk (zw (yd (yK z ⋯ E.Z6 (PO.q (jI z (zZ (zJ z)) (λ_ _ _ h1=>zF (xp E) h1 (za (zr h1) zh))))) (yc (Kx z (zr z) (zr z))))))
theorem Ze(E:E0 K mg):FnD P w K mg base 3 "_law_is_table" 2 j5:=
 qp (N:=["_law_found","_law_due"]) E.Q1d ⋯ λX B hw I hm M z O=>by subst B hw I hm M;exact by refine zf (je (yo (qe (z7 (z6 (qs z ⋯ E.Z2 ⋯ E.Z3 (zr z)))) (qe (xc z (qo z ⋯ E.Z4 (zJ z)) ze) (qe (z7 (z6 (zF (xp E) z (za (zx (zJ z) ze) zh)))) (qK (z7 (z6 (zF (xp E) z (za (zx (zJ z) ze) zh))))))))) (zk (zw k8)) zH) ?_;refine zf (je (yo (qe (xc z (Xo (zr z) kB (jS ze)) (Xo (zr z) kB (jS ze))) (qe (z7 (z6 (qs z ⋯ E.Z2 ⋯ E.Z3 (zx (zJ z) ze)))) (qK (xc z (qo z ⋯ E.Z4 (PV.q (zx (zJ z) ze))) (zx (zJ z) ze)))))) (zk (zw k8)) zH) ?_;exact(zk (zw (yK z ⋯ E.Z6 (PO.q (jI z (PIF.c (jl z ⋯ E.Z9 (zx (zJ z) ze))) (λ_ _ _ h1=>zF (vM E) h1 (za (zx (PV.q (zx (zJ h1) ze)) (zr h1)) (za (zx (PV.q (zx (zJ h1) ze)) (zr h1)) zh))))))))
theorem Xz(E:E0 K mg):FnD P w K mg base 2 "_law_table" 5 qv:=
 qp (N:=["_law_script","_law_at","_law_p","_law_high","_law_wide","_law_rows","_law_i","_law_row_here","_law_j","_law_cell"]) E.Q1e ⋯ λX I hw M hm O z B=>by subst I hw M hm O;exact by refine zf (Xt z (yM (kh zh))) ?_;refine zf (yL B z (jl z ⋯ E.Z9 (zr z)) (by refine zf (Xt z (yM (kh zh))) ?_;refine zf (yL B z (jl z ⋯ E.Z9 (zr z)) (by refine zf (jT z (zF (qt E) z (za (zr z) (za (jb (jb (zr z) (j0 (zr z) (zr z))) (zr z)) zh)))) ?_;exact(zk (vp 7 z ⋯ (j0 (jt (zr z) (zr z)) (Jy z ⋯ E.Z1 (pb (jt (wZ (zr z) ze) ze) ze))))))) ?_;exact(zk (vp 5 z ⋯ (z5 z ⋯ E.Z3 (zJ z)))))) ?_;exact(zk (zw (jv (kh (za (zr z) (za (zr z) (za (z5 z ⋯ E.Z3 (zJ z)) zh)))))))
theorem KH(E:E0 K mg):FnD P w K mg base 1 "_law_ways" 1 k5:=
 qp (N:=["_law_cell","_law_many"]) E.Q1f ⋯ λX B hw I hm M z O=>by subst B hw I hm M;exact by refine zf (jT z (jt (zr z) ze)) ?_;exact(zk (zw (wY jD (PO.q (jI z (PIF.c (jl z ⋯ E.Z9 (zr z))) (λ_ _ _ h1=>Jw jD (jt (wZ (zr h1) (zx (PO.q (yM (kh (za ze (za ze (za ze (za ze (za ze zh)))))))) (zr h1))) ze)))))))
theorem Jc(E:E0 K mg):FnD P w K mg base 3 "_law_row" 5 kO:=
 qp (N:=["_law_script","_law_at","_law_p","_law_ways_here","_law_most","_law_widths","_law_arrows","_law_k","_law_sizes"]) E.Q1g ⋯ λX B hw I hm M z O=>by subst B hw I hm M;exact by refine zf (jT z (z5 z ⋯ E.Z3 (PO.q (jI z (PIF.c (jl z ⋯ E.Z9 (jb (vo z ⋯ E.Z4 (zr z)) ze))) (λ_ _ _ h1=>jt (zF (qt E) h1 (za (zr h1) (za (jb (zr h1) (zr h1)) zh))) (zr h1)))))) ?_;refine zf (Xt z (yM (kh zh))) ?_;refine zf (yL O z (jl z ⋯ E.Z9 (vo z ⋯ E.Z4 (zr z))) (by refine zf (jT z (jv (kh (za (zx (zJ z) (jb (zr z) ze)) (za (zx (zJ z) (zr z)) zh))))) ?_;refine zf (je (xo z (Jw (zr z) (zr z)) jD) (zk (jT z (jv (kh (za (zx (zJ z) (zr z)) (za (zx (zJ z) (jb (zr z) ze)) zh)))))) zH) ?_;exact(zk (vp 6 z ⋯ (jv (kh (za (Jw (zr z) (zr z)) (za (zF (Xz E) z (za (zr z) (za (jb (jb (zr z) ze) (j0 ze (zr z))) (za (zr z) (za (zx (zJ z) ze) (za (zx (zJ z) ze) zh)))))) zh)))))))) ?_;exact(zk (zw (jv (kh (za (zr z) (za (zr z) (za (z5 z ⋯ E.Z3 (zJ z)) zh)))))))
theorem JH(E:E0 K mg):FnD P w K mg base 4 "_law_is_row" 2 qc:=
 qp (N:=["_law_found","_law_due","_law_arrow","_law_other"]) E.Q1h ⋯ λX B hw I hm M z O=>by subst B hw I hm M;exact by refine zf (je (yo (qe (z7 (z6 (qs z ⋯ E.Z2 ⋯ E.Z3 (zr z)))) (qe (xc z (qo z ⋯ E.Z4 (zJ z)) ze) (qe (z7 (z6 (zF (xp E) z (za (zx (zJ z) ze) zh)))) (qK (xc z (zx (zJ z) ze) (zx (zJ z) ze))))))) (zk (zw k8)) zH) ?_;refine zf (je (yo (qe (z7 (z6 (zF (vM E) z (za (zx (zJ z) ze) (za (zx (zJ z) ze) zh))))) (qe (z7 (z6 (qs z ⋯ E.Z2 ⋯ E.Z3 (zx (zJ z) ze)))) (qK (xc z (qo z ⋯ E.Z4 (PV.q (zx (zJ z) ze))) (qo z ⋯ E.Z4 (PV.q (zx (zJ z) ze)))))))) (zk (zw k8)) zH) ?_;refine zf (yL O z (w5 z ⋯ E.Z8 (zx (zJ z) ze) (zx (zJ z) ze)) (by refine zf (je (yo (qe (z7 (z6 (qs z ⋯ E.Z2 ⋯ E.Z3 (zr z)))) (qe (xc z (qo z ⋯ E.Z4 (zJ z)) ze) (qK (xc z (zx (zJ z) ze) (zx (zJ z) ze)))))) (zk (zw k8)) zH) ?_;exact(zk (je (yo (qe (z7 (z6 (Wn z ⋯ E.Z2 ⋯ E.Zc (zx (zJ z) ze)))) (qK (z7 (z6 (zF (Ze E) z (za (zx (zJ z) ze) (za (zx (zJ z) ze) zh)))))))) (zk (zw k8)) zH)))) ?_;exact(zk (zw k8))
theorem KI(E:E0 K mg):FnD P w K mg base 2 "_law_turn" 4 qu:=
 qp (N:=["_law_script","_law_at","_law_p","_law_many","_law_turn_here","_law_back","_law_k","_law_cell","_law_one","_law_other","_law_times","_law_over","_law_row_here"]) E.Q1i ⋯ λX I hw M hm O z B=>by subst I hw M hm O;exact by refine zf (Ys 4 (wa z (PIF.c (jl z ⋯ E.Z9 (zr z))) (λ_ _ _ h1=>PO.v (jI h1 (PIF.c (jl h1 ⋯ E.Z9 (zr h1))) (λ_ _ _ h2=>Jy h2 ⋯ E.Z1 (Kx h2 (zr h2) (zr h2))))))) ?_;refine zf (iW z (PIF.c (jl z ⋯ E.Z9 (zr z))) (λ_ _ _ h1=>jI h1 (PIF.c (jl h1 ⋯ E.Z9 (zr h1))) (λ_ _ _ h2=>Jy h2 ⋯ E.Z1 (Kx h2 (zr h2) (zr h2))))) ?_;refine zf (yL B z (jl z ⋯ E.Z9 (j0 ze (zr z))) (by refine zf (jT z (zF (qt E) z (za (zr z) (za (jb (zr z) (zr z)) zh)))) ?_;refine zf (jT z (jt (zr z) (zr z))) ?_;refine zf (jT z (jt (jb (jb (zr z) ze) (jt (wZ (zr z) ze) (iS z ⋯ E.Zd ze (ZU (zr z) ze)))) (zr z))) ?_;refine zf (jT z (jb ze (jt (wZ (zr z) ze) (ZU (zr z) ze)))) ?_;refine zf (jT z (zx (PO.q (ph z (PIF.c (bT z ⋯ E.Z9 ze (zr z))) (λ_ _ _ h1=>xo h1 (jt (j0 (zr h1) (zr h1)) (zr h1)) ze) (λ_ _ _ h1=>zr h1))) ze)) ?_;exact(zk (je (xo z (jt (wZ (zr z) ze) ze) ze) (by refine zf (Xs 4 z ⋯ (zr z) (PO.v (jI z (zZ (PV.q (zx (zJ z) (zr z)))) (λ_ _ _ h1=>jt (j0 (zr h1) (zr h1)) (zr h1))))) ?_;exact(zk (ZY 5 12 (WK B) z.calm z ⋯ ⋯ (z.tgt 12 ⋯) (zr z) (jt (j0 (zr z) (zx (zJ z) (zr z))) (zr z))))) (zk (je (xc z (zr z) (zr z)) (by refine zf (Xs 4 z ⋯ (zr z) (PO.v (jI z (PIF.c (w5 z ⋯ E.Z8 (zx (zJ z) (zr z)) (zx (zJ z) (zr z)))) (λ_ _ _ h1=>jt (jb (zr h1) (j0 (zr h1) (zr h1))) (zr h1))))) ?_;exact(zk (ZY 5 12 (WK B) z.calm z ⋯ ⋯ (z.tgt 12 ⋯) (zr z) (jt (ZU (zx (zJ z) (zr z)) (j0 (zr z) (zx (zJ z) (zr z)))) (zr z))))) zH)))))) ?_;exact(zk (bO 5 (fI 4 (wu (jI z (zZ (PV.q (jv (kh (za (zr z) (za (zr z) zh)))))) (λ_ _ _ h1=>jv (kh (za (zr h1) (za (zr h1) (za (z5 h1 ⋯ E.Z3 (PO.q (jI h1 (zZ (zJ h1)) (λ_ _ _ h2=>z5 h2 ⋯ E.Z3 (zJ h2))))) zh))))))))))
theorem ZI(E:E0 K mg):FnD P w K mg base 1 "_law_widened" 2 qh:=
 qp (N:=["_law_pair","_law_many","_law_tables","_law_size","_law_wide","_law_rows","_law_wider"]) E.Q1j ⋯ λX B hw I hm M z O=>by subst B hw I hm M;exact by refine zf (Xt z (yM (kh zh))) ?_;refine zf (yL O z (fR (zr z)) (by refine zf (qf 6 (wa z (zZ (zJ z)) (λ_ _ _ h1=>jb (zr h1) (z5 h1 ⋯ E.Z3 (PO.q (jI h1 (PIF.c (jl h1 ⋯ E.Z9 (zr h1))) (λ_ _ _ _=>ze))))))) ?_;refine zf (jT z (PO.v (dC (zJ z) (PO.q (jI z (PIF.c (jl z ⋯ E.Z9 (zr z))) (λ_ _ _ h1=>z5 h1 ⋯ E.Z3 (PO.q (jI h1 (PIF.c (jl h1 ⋯ E.Z9 (jb (zr h1) (zr h1)))) (λ_ _ _ h2=>Jy h2 ⋯ E.Z1 (Kx h2 (zr h2) (jb (zr h2) (zr h2)))))))))))) ?_;exact(zk (vp 2 z ⋯ (jv (kh (za (jb (zr z) (zr z)) (za (jb (zr z) (zr z)) (za (z5 z ⋯ E.Z3 (zJ z)) zh))))))))) ?_;exact(zk (Yt 2 (z.var ⋯)))
theorem sv(D:L2.Fun K "law" "law" (top 77) f fd)(E:E0 K mg):FnOk P w K mg base CX0 7 f fd ["_law_script"] (spF K 1 Zx):=
 pO (N:=["_law_script","_law_p","_law_ways_here","_law_one","_law_other","_law_both","_law_i","_law_j","_law_pairs","_law_wide","_law_turned"]) D ⋯ λX B hw I hm M z O=>by subst B hw I hm M;exact by refine zf (jT z (zx (PO.q (yM (kh (za ze (za ze (za ze (za ze zh))))))) (jt (zF (qt E) z (za (zr z) (za ze zh))) ze))) ?_;refine zf (jT z (zF (KH E) z (za (zF (qt E) z (za (zr z) (za ze zh))) zh))) ?_;refine zf (jT z (zF (Jc E) z (za (zr z) (za ze (za (zr z) (za (zr z) (za ze zh))))))) ?_;refine zf (jT z (zF (Jc E) z (za (zr z) (za ze (za (zr z) (za (zr z) (za ze zh))))))) ?_;refine zf (jT z (zF (qF E) z (za (zr z) (za (zr z) zh)))) ?_;refine zf (jT z (jt (zF (qt E) z (za (zr z) (za ze zh))) (jb (vo z ⋯ E.Z4 (zr z)) ze))) ?_;refine zf (jT z (jb (zr z) (jt (zF (qt E) z (za (zr z) (za ze zh))) (ZU (jb (vo z ⋯ E.Z4 (zr z)) ze) (zr z))))) ?_;refine zf (je (xc z (zF (Yy E) z (za (zr z) (za (zr z) (za (zr z) zh)))) (zF (qF E) z (za (zF (Yy E) z (za (zr z) (za (zr z) (za (zr z) zh)))) (za (zF (Yy E) z (za (zr z) (za (zr z) (za (zr z) zh)))) zh)))) (zk (zw k8)) zH) ?_;refine zf (je (xc z (zF (yq E) z (za (zr z) zh)) (zF (qF E) z (za (zF (yq E) z (za (zr z) zh)) (za (zF (yq E) z (za (zr z) zh)) zh)))) (zk (zw k8)) zH) ?_;refine zf (je (xc z (zF (yp E) z (za (zr z) zh)) (zF (qF E) z (za (zF (yp E) z (za (zr z) zh)) (za (zF (yp E) z (za (zr z) zh)) zh)))) (zk (zw k8)) zH) ?_;refine zf (je (yo (Kv (dv (vo z ⋯ E.Z4 (zr z)) ze) (Jv (xc z (zF (qF E) z (za (zr z) (za (zr z) zh))) (zF (qF E) z (za (zr z) (za (zF (qF E) z (za (zr z) (za (zr z) zh))) zh))))))) (zk (zw k8)) zH) ?_;refine zf (qf 8 (wa z (PIF.c (jl z ⋯ E.Z9 (jb (vo z ⋯ E.Z4 (zr z)) ze))) (λ_ _ _ h1=>PO.v (bR (KI E) h1 (za (zr h1) (za (jb ze (j0 ze (zr h1))) (za (zr h1) (za (zx (PV.q (zx (zJ h1) ze)) (zr h1)) zh)))))))) ?_;refine zf (qf 9 (wa z (PIF.c (jl z ⋯ E.Z9 (qo z ⋯ E.Z4 (zJ z)))) (λ_ _ _ h1=>PO.v (bR (ZI E) h1 (za (zx (zJ h1) (zr h1)) (za (zx (PV.q (zx (zJ h1) ze)) (zr h1)) zh)))))) ?_;refine zf (jT z (zF (Zf E) z (za (zr z) (za (PO.v (jI z (zZ (zJ z)) (λ_ _ _ h1=>zx (zJ h1) ze))) (za (PO.v (jI z (zZ (zJ z)) (λ_ _ _ h1=>zx (zJ h1) ze))) zh))))) ?_;refine zf (je (xc z (zF (qF E) z (za (zr z) (za (zr z) zh))) (zF (Zf E) z (za (zr z) (za (PO.v (jI z (zZ (zJ z)) (λ_ _ _ h1=>zx (zJ h1) ze))) (za (PO.v (jI z (zZ (zJ z)) (λ_ _ _ h1=>zx (zJ h1) ze))) zh))))) (zk (zw k8)) zH) ?_;exact(zk (zw (yK z ⋯ E.Z6 (PO.q (jI z (zZ (PO.q (yM (kh (za (zr z) (za (zr z) (za (zr z) (za (zF (Yy E) z (za (zr z) (za (zr z) (za (zr z) zh)))) zh)))))))) (λ_ _ _ h1=>zF (JH E) h1 (za (zF (KF E) h1 (za (zF (KD E) h1 (za (zr h1) zh)) zh)) (za (zr h1) zh))))))))
end
end DL
namespace PySem.W.Fast
def tw6153617925832624778:=0
def tw11085537163369109599:=0
def tw9341317491080044171:=0
def tw17794200572053242093:=0
def tw3262806902046882567:=0
def tw298775826183281478:=0
def tw18655430653338910:=0
def tw4411601839818843927:=0
def tw2943193558953604998:=0
def tw4518972092433824176:=0
def tw7185863966219622831:=0
def tw2392283310156804076:=0
def tw10328572535448488694:=0
def tw3377339765189338352:=0
def tw11171647556508561016:=0
def tw12784915052380598383:=0
def tw14668181658396355922:=0
def tw1654575374806696688:=0
def tw3275586610308886946:=0
def tw1861652880739391801:=0
def tw1823582541993939101:=0
def tw9800190162586597471:=0
def tw2779130760138156821:=0
def tw4387286500643873879:=0
def tw9745117587939533663:=0
def tw4914950019707483384:=0
def tw10550358368773643992:=0
def tw14148133131419045223:=0
def tw10029733675085673491:=0
def tw8695539517757847305:=0
def tw6678271775148519562:=0
def tw1679315481930018376:=0
def tw8434534453367624885:=0
def tw3727261148770577710:=0
def tw4714196807918744566:=0
def tw4119879701941056756:=0
def tw16663093547998524276:=0
def tw10648591277777655259:=0
def tw10814681675685171696:=0
def tw12093141053061521906:=0
def tw13142263749782974207:=0
def tw13328330408514003075:=0
def tw7840674197394026032:=0
def tw2068719863109273730:=0
def tw5744042232928797534:=0
def tw18021806284045675059:=0
def tw12650624122558055784:=0
def tw6557178735928010432:=0
def tw11790922271023473797:=0
def tw12347529973657955671:=0
def tw18308739594698228266:=0
def tw8197915394239544266:=0
def tw2327502090459266530:=0
def tw663714523676562261:=0
def tw4286687953580752403:=0
def tw2317612169128065131:=0
def tw9936497939919403381:=0
def tw13106939452318932374:=0
def tw15774175203788531481:=0
def tw16510994141077015374:=0
def tw7606237345326404943:=0
def tw694954171736701927:=0
def tw3173316143790403735:=0
def tw17669429295410205133:=0
def tw12503929384676254987:=0
def tw3237590342102935708:=0
def tw1899483106830358169:=0
def tw641870282237521997:=0
def tw7093579646477543190:=0
def tw10300055362496897482:=0
def tw751301526755021950:=0
def tw533891824892890505:=0
def tw1649935583214641910:=0
def tw16864956763349533694:=0
def tw14807223268970821702:=0
def tw12938041471005178932:=0
def tw3417582307218906950:=0
def tw18246969970822727892:=0
def tw4588793982332364305:=0
def tw17198719584865899126:=0
def tw5237928517749214827:=0
def tw16558431537184963808:=0
def tw10852711233076956366:=0
def tw2739939296405475187:=0
def tw11496432730294052848:=0
def tw7766484473417135745:=0
def tw3459015339498336830:=0
def tw13713282646628592310:=0
def tw15887405349101386048:=0
def tw3545777947105391976:=0
def tw9713859914475667583:=0
def tw10944712058630326657:=0
def tw18446071697403848857:=0
def tw16201107510388740187:=0
def tw14261248163020301207:=0
def tw13815600156383282583:=0
def tw12353348161100161666:=0
def tw8975290858356870375:=0
def tw7337359780615488303:=0
def tw11526045351870033896:=0
def tw12435318641126954404:=0
def tw3520266359093198477:=0
def tw2981108406214202793:=0
def tw8738827689805184137:=0
def tw6724178817208654695:=0
def tw6818608280106612971:=0
def tw17182920506734820492:=0
def tw14783504130775059209:=0
def tw14517139346018209475:=0
def tw1144736726149091054:=0
def tw2990991948867180250:=0
def tw17975373139572670070:=0
def tw3773475292369644941:=0
def tw18246487805572193115:=0
def tw8696537786565371218:=0
def tw17589663400654986861:=0
def tw16480750517158893320:=0
def tw17424582061792173422:=0
def tw1472285158435070217:=0
def tw7055554633972283054:=0
def tw15095336554114482804:=0
def tw514891708098111624:=0
def tw12118253611089833046:=0
def tw7555509419184695571:=0
def tw17180093048945832415:=0
def tw505723055139698702:=0
def tw15329334644134784748:=0
def tw18042583193233263786:=0
def tw9130632830500597288:=0
def tw7146159009081892381:=0
def tw21967114252709652:=0
def tw3330081059180235561:=0
def tw4997699758631899340:=0
def tw11623324091180531717:=0
def tw11766349855940217360:=0
def tw15402124007993926186:=0
def tw5481627030424502283:=0
def tw544325025439965807:=0
def tw10071580333628430592:=0
def tw4483950479784945703:=0
def tw16542127249549465197:=0
def tw16325882572944687534:=0
def tw2294079164990514222:=0
def tw13488029962927968525:=0
def tw5076092114333025372:=0
def tw3491635622873745389:=0
def tw15358457882466289058:=0
def tw267637929867849567:=0
def tw10814265396602431992:=0
def tw2926932834724830074:=0
def tw4641180651750473794:=0
def tw3172479483166117391:=0
def tw7977718669787895844:=0
def tw12645903012897744598:=0
def tw9267951001997711407:=0
def tw11846924848000900840:=0
def tw11556816599978376455:=0
def tw8396396284864303366:=0
def tw5852405025595584948:=0
def tw15367978306408088748:=0
def tw2878370913688560763:=0
def tw18071829080256702880:=0
def tw3798083357382919073:=0
def tw8519191674891465147:=0
def tw4157839866208087248:=0
def tw8604686056941712463:=0
def tw2915122004877492797:=0
def tw2367013293998603670:=0
def tw18362610420315854294:=0
def tw13596557890315222217:=0
def tw12648147462440562178:=0
def tw11842467864751354450:=0
def tw13207430673110450184:=0
def tw11974547336195343031:=0
def tw8327295868637577982:=0
def tw16312229738183685370:=0
def tw16255181976112454535:=0
def tw11975015622397257901:=0
def tw3399026699595766528:=0
def tw6284361532865547093:=0
def tw4557911340395171747:=0
def tw12679287247684059163:=0
def tw12531381046658041805:=0
def tw12764908353866328078:=0
def tw14139372988232085079:=0
def tw10400523993432427960:=0
def tw9998042800060088189:=0
def tw18370910050148928422:=0
def tw13730042997834261884:=0
def tw6827367491633318701:=0
def tw18195758802423118696:=0
def tw15014376492411653866:=0
def tw12373372373461652191:=0
def tw8536220706578141775:=0
def tw1354823362780454659:=0
def tw4580170498629521000:=0
def tw16999316236683801307:=0
def tw10745855995206861583:=0
def tw10595712470474427560:=0
def tw13283224447851324139:=0
def tw3482564337479623706:=0
def tw13632515742444357000:=0
def tw12543469742882863059:=0
def tw10175894574112002962:=0
end PySem.W.Fast
open PySem PySem.W PyProof.Rows
set_option maxRecDepth 100000 in
set_option maxHeartbeats 0 in
theorem PySem.Challenge.cw_barsplit_k19_whole_sides_go_together_holds : PySem.Challenge.rw_barsplit_k19_whole_sides_go_together.Holds := by
 w_on;o_law;k_head;(case hw=>w_witness2)
 k_fill
 refine L2.ng (l:=Cy) (n:=63) (k:=7) (x:="_law_script") (CX:=L2.CX0) (sp:=λK=>DL.spF K 1 DL.Zx) rfl ⋯ rfl ⟨rfl,by decide,by decide⟩ (λw h Y=>PySem.W.kIn_of Y) ?F ?S ?C
 case S=>exact λK H a ns I hO M=>DL.nN M (DL.pB ns I)
 case C=>exact λ_ _ _ _ z=>z
 case F=>
  intro w mg fa h B G O;have a2:DL.GL (L2.KOf B) mg "MOST_HIGH_OR_WIDE" (.int 30):=by
   dsimp only[L2.KOf];refine' DL.sC B G ?a
   (case a=>k_is)
  have a3:DL.GL (L2.KOf B) mg "MOST_ROOMS" (.int 6):=by
   dsimp only[L2.KOf];refine' DL.sC B G ?a
   (case a=>k_is)
  have a4:DL.GL (L2.KOf B) mg "MOST_TOGETHER" (.int 30):=by
   dsimp only[L2.KOf];refine' DL.sC B G ?a
   (case a=>k_is)
  have a5:DL.GL (L2.KOf B) mg "PRIMES" (.tup [.int 2,.int 3,.int 5,.int 7]):=by
   dsimp only[L2.KOf];refine' DL.pK [2,3,5,7] B G ?a ?l ?v ?z
   (case a=>k_is);(case l=>k_is);(case v=>rfl);(case z=>decide)
  have a6:DL.GL (L2.KOf B) mg "TABLE_SIGNS" (.str "0123456789/"):=by
   dsimp only[L2.KOf];refine' DL.sA B G ?a
   (case a=>k_is)
  have a7:DL.GL (L2.KOf B) mg "WAYS" (.tup [.str "r",.str "l"]):=by
   dsimp only[L2.KOf];refine' DL.pJ ["r","l"] B G ?a ?l ?v ?z
   (case a=>k_is);(case l=>k_is);(case v=>rfl);(case z=>decide)
  have E:DL.E0 (L2.KOf B) mg:=by
   constructor
   all_goals first
    | assumption
    | exact PySem.W.mg_none_of B G (by k_is)
    | (dsimp only[L2.KOf];refine' DL.sH B G ?a ?l ?c ?k ?b;(case a=>k_is);(case l=>k_is);(case c=>k_is);(case k=>k_is);(case b=>intro _ _ _ _ _ _ us I;first | (obtain⟨_,rfl⟩:=DL.uT I;rfl) | (obtain⟨_,_,rfl⟩:=DL.uS I;rfl) | (obtain⟨_,_,_,rfl⟩:=DL.uR I;rfl) | (obtain⟨_,_,_,_,rfl⟩:=DL.uQ I;rfl) | (obtain⟨_,_,_,_,_,rfl⟩:=DL.uP I;rfl)))
  obtain⟨f,fd,R,U,hm⟩:=E.Q1k.ex;have e0:=O.symm.trans hm;cases e0;refine⟨fd,λs u=> .of_eq (U [u] rfl),λbase kb nb=>?_⟩;exact DL.sv R E
