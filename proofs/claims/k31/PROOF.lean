import PyProof.Rows.All
import Wide.All
import OpenK.AllK
import Wide.FinOn
import Lean
import PyProof.EqAt
import PyProof.EqKinds
import PyProof.TupleCall
import PySem.Str
import PyProof.ZipIter
import PyProof.IsiBase
import KE.KItemsList
import KE.KIsAll
import OpenK.KOwn
import KE.KSortAsk
import PyProof.StrBlockI
import PyProof.Rows.EqDataRows
import PyProof.Rows.InDataRows
import PyProof.SumWalkG
import PyProof.ConsumeWalk
import PyProof.WalksMore
import KE.KSortTup
import PyProof.ListMulRoad
import PyProof.EnumFor
import PyProof.Rows.EnumRows
import PyProof.StrBlockL
import PyProof.JoinWalk
import PyProof.NsDelKeeps
import KE.KTryDeep
import PyProof.InstStoreFacts
import PyProof.NsCount
import PyProof.ExcClass2
import PyProof.Rows.FStr
import PyProof.StationsW
import PyProof.Rows.Catch
import KE.KRevIter
import PyProof.CollectIter
import PyProof.TupleOfGen
import PyProof.Rows.Tup
import PyProof.Draws
import PyProof.EnumMake
import PyProof.StrWalks
import PyProof.SliceStr2
import PyProof.ListNew
import KE.KDictOf
import PyProof.ListRange
import PyProof.Rows.GenSrcRange
import PyProof.ListCopy
import PyProof.AttrMissHeap
import PyProof.DictWalks
import PyProof.FactsDict
import KE.KSortKey
import PyProof.TableCode
import PyProof.Rows.KernelRfl
import PySem.Challenge.RW_barsplit_k31_whole_bars_by_numbers
open PySem.W renaming Frag → FY, findIn → GS, kia_one → Hc, keepIn → Hh, fnOf → Ij, emptyDict → Im, kitOne → Ir, instObj → IQ, codeIn → Lu, cellsFrom_some → LK, plainGet → Ma, mroIn → Md, nsIn → Ml, isFn → Mn, typeIn → Mq, specialIn → Mu, kitx_dict → Mv, hasDictIn → Mw, makesIn → MS, lookIn → Nd, plainGet_of → Ni, mg_of → Nr, callWith_K → Nt, plainOver → ND, methodObj → NF, kitx_list → NG
open PySem renaming wpAny_bind → FZ, wpAny_pure → Gf, wpAny_holding → HH, wpAny_field → HI, wpAny_callSpecial?_slot → HJ, wpAny_call_entry → HY, wpAny_newObj_type → HZ, wpAny_setField_rec → Ib, wpAny_seqItems → IK, wpAny_truthy_bool → IL, wpAny_loadPart' → IM, wpAny_mono → IR, wpAny_Call_Name_kw → IT, wpAny_notOrdered_dict → Ly, mem_of_lookup → LA, Builtin → LJ, sizeLine_eq → LP, wpAny_typeOf → LQ, wpAny_rule → LR, call_meets → LS, wpAny_attempt → LZ, wpAny_dictEntries → Mg, wpAny_passesOwn → MD, pushCells_keeps → MF, codeAny_builtin → MG, wpAny_pyIter_tuple → MO, tupleKind_room_in1 → MP, codeAny_mono → MQ, wpAny_pyIter_list → MY, wpAny_letGo → Ng, wpAny_isInstance → Nm, wpAny_pyNext_list_item → Nq, wpAny_pyNext_list_end → NB, wpAny_updateSeq_pair → NK, codeAny_call_builtin → NL, Within → NP, wpAny_standAt → NY, wpAny_onRaise → NZ, wpAny_call → Od, typeIs_int → Oe, concat_meets → Of, noFill_tuple_add → Og
open List renaming range → Ga, mem_range → Gc, getElem?_eq_getElem → Gd, replicate → Ge, getElem?_set_ne → Gg, getD_eq_getElem?_getD → Gj, mem_cons_of_mem → Gn, size_toArray → Gp, getElem?_eq_some_iff → Gq, mem_cons → Gr, mem_cons_self → Gu, length_map → Gw, getElem?_cons_zero → Gz, getElem?_cons_succ → GC, getElem?_set_self → GD, mem_append_right → GF, map_congr_left → GI, length_cons → GJ, mem_map → GO, map_cons → GQ, mem_filter → GT, getElem?_map → GZ, not_mem_nil → Hd, mem_of_getElem? → He, nodup_cons → Hg, getElem?_append_right → Hj, map_append → Hk, countP_eq_length_filter → Hl, map_map → Hm, eq_nil_of_length_eq_zero → Hq, length_nil → Hu, length_append → Hv, getElem?_append_left → Hx, lookup_cons → HA, set_cons_zero → HP, set_cons_succ → HQ, length_range → HX, ext_getElem? → Ie, mem_singleton → Ik, take_of_length_le → Ip, replicate_succ → Iv, getElem?_set → Iw, countP_congr → Iy, pairwise_iff_getElem → IA, range_succ → IB, drop_eq_getElem_cons → IP, flatten_cons → IV, find?_cons → IW, range'_succ → La, length_take → Lb, getElem_mem → Lc, all_eq_true → Ld, mem_append → Li, length_singleton → Lj, countP_map → Ll, any_cons → Lr, Pairwise → Ls, range_eq_range' → Lw, mem_or_eq_of_mem_set → Lz, lookup → LC, zip_map' → LL, nil_append → LM, getElem?_replicate → LN, pairwise_lt_range → LW, range' → LX, pairwise_map → LY, range_add → Mc, drop_length → Mf, getElem_of_mem → Mo, append_nil → Mp, zip_cons_cons → My, toArray → Mz, find?_eq_none → MA, filter_append → MB, countP_cons → MV, mem_append_left → Np, filter_sublist → Ny, filterMap_cons → Nz, countP_eq_zero → NA, all_cons → NJ, length_eq_countP_add_countP → NO, foldl → NQ, any_eq_false → NR, nodup_range → NV, cons_append → NW, any_eq_true → NX
open PySem.Heap renaming get?_push_of_some → Gb, get?_push_size → Gv, lt_size → GE, size_push → Hi, push → HC, get?_update_other → HM, SameBut → LH, size_update → MX, get?_update_self → Nf
open Nat renaming le_refl → Gh, lt_or_ge → GB, lt_of_lt_of_le → GK, not_lt_zero → GP, ne_of_lt → Hb, add_sub_cancel_left → Hf, lt_irrefl → Hn, le_add_right → Hr, lt_succ_of_lt → HD, le_trans → HE, zero_le → HN, zero_add → HW, lt_succ_self → Ic, ne_of_gt → II, reduceAdd → IZ, lt_trichotomy → Mb, le_succ → MT, add_assoc → MU, mul_comm → Nj, le_of_lt → Nk, add_zero → Nl, min_le_right → Ob
open Int renaming mul_emod → Gi, emod_emod → GG, emod_lt_of_pos → GH, emod_nonneg → GU, add_emod → GW, mul_assoc → HB, mul_comm → HF, toNat_natCast → Ih, emod_eq_of_lt → Iz, sub_emod → IC, emod_eq_emod_iff_emod_sub_eq_zero → IF, eq_ofNat_of_zero_le → IG, mul_left_comm → IJ, zero_mul → Lm, one_mul → Ln, add_zero → Lo, toNat_of_nonneg → LD, mul_add → LG, mul_zero → MC, add_mul → MW, mul_one → NH
open Option renaming bind_some → Gk, map_some → GM, isSome_iff_exists → HR, some → Io, getD_some → MM, map → Na, bind → Nn
open Bool renaming and_eq_true → Gs, false_ne_true → GA, or_eq_true → Ia, false_eq_true → Il, not_eq_true' → IX, eq_iff_iff → IY, eq_false_iff → NS
open Ne renaming symm → GN
open PySem.Challenge renaming rw_barsplit_k31_whole_bars_by_numbers → GV
open PySem.Value renaming ref → GX, none → HK, type → LU, int → MZ, str → NC, bool → NM
open PySem.NameKind renaming free → GY, cell → IU
open PySem.Builtin.SmallTypes renaming nextOf → Ha, ownedTupleIsFree → Hz, ownedTupleHandOut → Iu, ownedTupleFields → Ms
open PySem.Str renaming ofString → Ho
open PyProof.Rows renaming callWith_type1 → Hw, slot_tuple_getitem → HU, callWith_builtin1 → LI, boot_dict → Mr, slot_tupleiter_next → ME, tupleItemsOf_ → Nh, boot_isinstance → Nu, listUpdate_at → Oa
open Option.some renaming inj → Hy
open Classical renaming byContradiction → HG, axiomOfChoice → LB
open PySem.Obj renaming mapSeq → HL, data_mapFields → NN
open PySem.SeqAt renaming EqAt → HS
open Array renaming length_toList → HV, getD_eq_getD_getElem? → Lh, getElem?_toList → Nb
open PySem.Calls renaming spliced_cons → Ii, spliced_nil → Lp
open PySem.Builtin.Tuple renaming tupleExact → Iq, tupleIsExact → Le
open False renaming elim → ID
open Sum renaming inl → IE, inr → NT
open True renaming intro → IH
open PySem.PyData renaming eqv → IS, depth → Lg, canLay0 → LV, depthAll → Mi, eqvAll → Nx, canLayAll0 → NI
open PySem.Builtin.Slice renaming slicePlaces → Lf, sliceAdjust → Me
open PySem.Builtin.List renaming listTooLong → Lq
open PySem.F renaming slot_enumerate_next → Lv, slot_list_getattribute → LO, slot_tuple_mul → Mj, args_tuple_add_2 → Mx, plainAttrs_list → MH, entry_tuple_add → MI, slot_tuple_add → MK, slot_zip_next → Nv, slot_int_rmul → Nw, args_tuple_mul_2 → NU, entry_tuple_mul → Oc
open PySem.Builtin.Dict renaming updateFrom → Lx, samePairs → Mt
open List.Pairwise renaming imp_of_mem → Mh, filter → MJ
open ForInStep renaming yield → MN
open PySem.SeqAt.EqAt renaming int_int → Nc
local macro_rules | `(⋯) => `(by first | decide +kernel | omega | simp)
set_option autoImplicit true
noncomputable section
set_option Elab.async false
set_option linter.all false
set_option maxRecDepth 100000
set_option maxHeartbeats 4000000
abbrev RQ:=PySem.Value->PySem.Shared->Prop
abbrev RW:=List (PySem.Addr×PySem.Obj)
abbrev RV:=Nat->Nat->Nat->Int
abbrev RK:=Nat->Nat->Int
abbrev RX:=Nat->Bool
abbrev RZ:=Nat->Nat
abbrev RJ:=PySem.Str->Option PySem.Value
theorem RY{c:Prop}{h:Decidable c}(z:c){α}{a b:α}:ite c a b=a:=if_pos z
theorem EQ{c:Prop}{h:Decidable c}(z:¬c){α}{a b:α}:ite c a b=b:=if_neg z
namespace L2
open PySem PySem.Spec PyProof.Rows
abbrev Key:=Sum Int Str
def WW:Key->Value->Bool
 | .inl k,v=>Value.isInt k v
 | .inr x,v=>Value.isStrOf x v
def FK(w:World):Key->Int
 | .inl k=>hashInt k
 | .inr x=>hashStr w x
theorem jU : ∀{k:Key} {v:Value},WW k v=true->(∃i t,k=IE i/\v=MZ i t)\/(∃x t,k=NT x/\v=NC x t)
 | .inl i,v,h=>by obtain⟨t,e⟩:=Value.isInt_shape (k:=i) (v:=v) h;exact .inl ⟨i,t,rfl,e⟩
 | .inr x,v,h=>by obtain⟨t,e⟩:=Value.isStrOf_shape (x:=x) (v:=v) h;exact .inr ⟨x,t,rfl,e⟩
theorem cO(i:Int)(t:Tok):WW (.inl i) (.int i t)=true:=by simp[WW,Value.isInt]
theorem cN(x:Str)(t:Tok):WW (.inr x) (.str x t)=true:=by simp[WW,Value.isStrOf]
theorem Ag(a b:Int):decide ((IE a:Key)=IE b)=(a==b):=by
 by_cases e:a=b
 ·subst e;simp
 ·have h : ¬(IE a:Key)=IE b:=λq=>e (IE.inj q)
  rw[decide_eq_false h];exact(beq_eq_false_iff_ne.mpr e).symm
theorem Ad(a b:Str):decide ((NT a:Key)=NT b)=decide (a=b):=by
 by_cases e:a=b
 ·subst e;simp
 ·have h : ¬(NT a:Key)=NT b:=λq=>e (NT.inj q)
  rw[decide_eq_false h,decide_eq_false e]
theorem Af(a:Int)(b:Str):decide ((IE a:Key)=NT b)=false:=decide_eq_false<|λq=>nomatch q
theorem Ae(a:Str)(b:Int):decide ((NT a:Key)=IE b)=false:=decide_eq_false<|λq=>nomatch q
def qL(prog:Program)(w:World):PySem.KeyKind prog w Key where
 is:=WW
 hash:=FK w
 inj:=λv a b ha I=>by
  rcases jU ha with⟨i,t,rfl,rfl⟩ | ⟨x,t,rfl,rfl⟩
  ·rcases jU I with⟨j,u,rfl,e⟩ | ⟨y,u,rfl,e⟩
   ·injection e with e1 _;rw[e1]
   ·exact nomatch e
  ·rcases jU I with⟨j,u,rfl,e⟩ | ⟨y,u,rfl,e⟩
   ·exact nomatch e
   ·injection e with e1 _;rw[e1]
 byValue:=λk v h=>by rcases jU h with⟨i,t,rfl,rfl⟩ | ⟨x,t,rfl,rfl⟩<;>rfl
 pyHash:=λz h=>by
  rcases jU z with⟨i,t,rfl,rfl⟩ | ⟨x,t,rfl,rfl⟩
  ·exact wpAny_pyHash_int h
  ·exact wpAny_pyHash_str h
 eqBool:=λO z h=>by
  rcases jU O with⟨i,t,rfl,rfl⟩ | ⟨x,t,rfl,rfl⟩
  ·rcases jU z with⟨j,u,rfl,rfl⟩ | ⟨y,u,rfl,rfl⟩
   ·rw[Ag]at h;exact wpAny_eqBool_int h
   ·rw[Af]at h;exact HS.int_str i t y u _ _ _ _ h
  ·rcases jU z with⟨j,u,rfl,rfl⟩ | ⟨y,u,rfl,rfl⟩
   ·rw[Ae]at h;exact HS.str_int x t j u _ _ _ _ h
   ·rw[Ad]at h;exact wpAny_eqBool_str h
 «strs» :=λk x t v h=>by
  rcases jU h with⟨i,u,rfl,e⟩ | ⟨y,u,rfl,e⟩
  ·exact nomatch e
  ·injection e with e1 _
   subst e1;cases v<;>rfl
theorem Yu(prog:Program)(w:World)(i:Int)(t:Tok):(qL prog w).is (.inl i) (.int i t)=true:=cO i t
theorem Yt(prog:Program)(w:World)(x:Str)(t:Tok):(qL prog w).is (.inr x) (.str x t)=true:=cN x t
inductive V where
 | non | bl (b:Bool) | int (i:Int) | str (x:Str) | byt (b:Array UInt8) | flt (b:UInt64) | ref (a:Addr) | ty (n:String)
 deriving DecidableEq
def RelV:V->Value->Prop
 | .non,u=>u=HK
 | .bl b,u=>u=NM b
 | .int i,u=>∃t,u=MZ i t
 | .str x,u=>∃t,u=NC x t
 | .byt b,u=>∃t,u=Value.bytes b t
 | .flt b,u=>∃t,u=Value.float b t
 | .ref a,u=>u=GX a
 | .ty n,u=>u=LU n
abbrev Vals:List V->List Value->Prop:=Paired RelV
theorem Vals.length(r:Vals xs us):xs.length=us.length:=Paired.length r
theorem Vals.get : ∀{xs:List V} {us:List Value} {i:Nat} {x:V},Vals xs us->xs[i]? = some x->∃u,us[i]? = some u/\RelV x u
 | _,_,_,_,.nil,e=>by simp at e
 | _,_,0,_,.cons r _,e=>by simp at e;subst e;exact⟨_,rfl,r⟩
 | _,_,i+1,x,.cons _ t,e=>by obtain⟨u,h1,h2⟩:=Vals.get (i:=i) (x:=x) t (by simpa using e);exact⟨u,by simpa using h1,h2⟩
theorem Vals.set(r:RelV x u) : ∀{xs:List V} {us:List Value} (i:Nat),Vals xs us->Vals (xs.set i x) (us.set i u)
 | _,_,_,.nil=> .nil
 | _,_,0,.cons _ t=> .cons r t
 | _,_,i+1,.cons q t=> .cons q (Vals.set r i t)
theorem Vals.append : ∀{xs ys:List V} {us z:List Value},Vals xs us->Vals ys z->Vals (xs++ys) (us++z)
 | _,_,_,_,.nil,s=>s
 | _,_,_,_,.cons r t,s=> .cons r (Vals.append t s)
theorem Vals.take : ∀{xs:List V} {us:List Value} (n:Nat),Vals xs us->Vals (xs.take n) (us.take n)
 | _,_,0,_=> .nil
 | _,_,_+1,.nil=> .nil
 | _,_,n+1,.cons r t=> .cons r (Vals.take n t)
theorem Vals.drop : ∀{xs:List V} {us:List Value} (n:Nat),Vals xs us->Vals (xs.drop n) (us.drop n)
 | _,_,0,r=>r
 | _,_,_+1,.nil=> .nil
 | _,_,n+1,.cons _ t=>Vals.drop n t
def RelO:Option V->Option Value->Prop
 | some v,some u=>RelV v u
 | none,none=>True
 | _,_=>False
def KV{κ:Type}:List (κ×V)->List (κ×Value)->Prop:=Paired λ(p:κ×V) (q:κ×Value)=>p.1=q.1/\RelV p.2 q.2
def kV:Key->V
 | .inl i=> .int i
 | .inr x=> .str x
inductive HO where
 | lst (xs:List V)
 | tup (xs:List V)
 | dK (kvs:List (Key×V)) | dT (kvs:List (List Key×V))
 | set (S:Int->Bool) (n:Nat)
 | ins (C dx:Addr) (fs:List (Str×V))
 | own (x:Addr)
 | xd (fs:List (Str×V))
 | met (f x:Addr)
 | rng (lo hi:Int)
 | frz (o:Obj) (u:HO)
 | tbl (ps:Array Value)
 | ext (φ:Heap->Prop)
abbrev Hp:=Addr->Option HO
def upd(H:Hp)(a:Addr)(o:HO):Hp:=λb=>if b=a then some o else H b
theorem zD:upd H a o a=some o:=by unfold upd;rw[RY rfl]
theorem zB(h:b≠a):upd H a o b=H b:=by unfold upd;rw[EQ h]
theorem vF{H:Hp}{a:Addr}{o u:HO}:upd (upd H a o) a u=upd H a u:=by funext b;unfold upd;split<;>rfl
theorem jS{H:Hp}{a b:Addr}{o:HO}(h:H a=some o)(h':H b=none):a≠b:=by intro e;subst e;rw[h]at h';cases h'
def IsTupD(h:Heap)(a:Addr)(items:Array Value):Prop:=∃o,h.get? a=some o/\(o.cls,o.dict)=(LU "tuple",none)/\∃n,o.data = .seq items n
theorem IsTupD.new(h:Heap)(items:Array Value):IsTupD (h.push {cls:= .type "tuple",data:= .seq items}) h.objs.size items:=⟨_,Gv _ rfl,rfl,_,rfl⟩
theorem IsTupD.tup(x:IsTupD h a items):IsTup h a items:=let ⟨o,e,c,r⟩:=x;⟨o,e,(Prod.mk.inj c).1,r⟩
section
variable(P:Program)(w:World)
def ObjOk(H:Hp)(h:Heap)(a:Addr):HO->Prop
 | .lst xs=>xs.length<=sizeLine/\∃(z:List Value) (n:Nat),Vals xs z/\h.get? a=some {cls:= .type "list",data:= .seq z.toArray n}
 | .tup xs=>xs.length<=sizeLine/\∃z:List Value,Vals xs z/\IsTupD h a z.toArray
 | .dK kvs=>kvs.length<=sizeLine/\(a==sysModules)=false/\∃vs,KV kvs vs/\h.DictOf (qL P w) a vs
 | .dT kvs=>kvs.length<=sizeLine/\(a==sysModules)=false/\∃xs:List (List Key×Addr×Value),
  Paired (λ(p:List Key×V) (q:List Key×Addr×Value)=>p.1=q.1/\H q.2.1=some (.tup<|p.1.map kV)/\RelV p.2 q.2.2) kvs xs/\
  ∃o es I,h.get? a=some o/\o.ExactDict/\o.data = .dict es I/\es.toList=xs.map (entryOfKey<|tupleKind<|qL P w)/\(xs.map (·.1)).Nodup
 | .set S n=>h.SetOf (intKind P w) a S n
 | .ins C dx fs=>H dx=some (.own a)/\fs.length<=1000/\dx≠a/\h.get? a=some (IQ C dx)/\
  ∃mA,h.Ns1 dx mA/\(∀f,RelO (fs.lookup f)<|mA f)/\NP mA (fs.map (·.1))
 | .own _=>∃o,h.get? a=some o
 | .xd fs=>∃mA,h.Ns1 a mA/\∀f,RelO (fs.lookup f)<|mA f
 | .rng lo hi=>∃t u v,h.get? a=some {cls:= .type "range",data:= .fields #[.int lo t,.int hi u,.int 1 v]}
 | .frz o u=>h.get? a=some o/\ObjOk H h a u
 | .tbl ps=>h.get? a=some {cls:= .none,data:= .fields ps}
 | .met f x=>h.get? a=some (NF (.ref f)<|.ref x)
 | .ext φ=>φ h/\(∃o,h.get? a=some o)/\∀h1 h2:Heap,φ h1->(∀o,h1.get? a=some o->h2.get? a=some o)->φ h2
def HOk(H:Hp)(h:Heap):Prop:=∀a o,H a=some o->ObjOk P w H h a o
end
section
variable{P:Program}{w:World}{H H':Hp}{h h':Heap}{a:Addr}{o:HO}
theorem ObjOk.lt(x:ObjOk P w H h a o):a<h.objs.size:=by
 cases o with
 | lst xs=>obtain⟨_,_,_,_,e⟩:=x;exact GE e
 | tup xs=>obtain⟨_,_,_,p⟩:=x;exact p.tup.lt
 | dK kvs=>obtain⟨_,_,_,_,o,_,_,e,_⟩:=x;exact GE e
 | dT kvs=>obtain⟨_,_,_,_,o,_,_,e,_⟩:=x;exact GE e
 | set S n=>obtain⟨o,_,_,_,e,_⟩:=x;exact GE e
 | ins C dx fs=>obtain⟨_,_,_,e,_⟩:=x;exact GE e
 | own y=>obtain⟨_,e⟩:=x;exact GE e
 | xd fs=>obtain⟨_,⟨_,_,_,e,_⟩,_⟩:=x;exact GE e
 | rng lo hi=>obtain⟨_,_,_,e⟩:=x;exact GE e
 | frz ob u=>obtain⟨e,_⟩:=x;exact GE e
 | tbl ps=>exact GE (show h.get? a=some _ from x)
 | met f y=>exact GE (show h.get? a=some _ from x)
 | ext φ=>obtain⟨_,⟨_,e⟩,_⟩:=x;exact GE e
theorem Paired.mapP : ∀{z:List α} {I:List β},Paired F z I->(∀a b,F a b->G a b)->Paired G z I
 | _,_,.nil,_=> .nil
 | _,_,.cons r t,f=> .cons (f _ _ r) (Paired.mapP t f)
theorem ObjOk.stay(x:ObjOk P w H h a o)(k : ∀b u,(b=a\/H b=some (.own a))->h.get? b=some u->h'.get? b=some u)
 (U : ∀b,H b=some (.own a)->H' b=some (.own a)) (Y : ∀b xs,H b=some (.tup xs)->H' b=some (.tup xs)):ObjOk P w H' h' a o:=by
 induction o with
 | lst xs=>obtain⟨z,O,n,r,e⟩:=x;exact⟨z,O,n,r,k _ _ (.inl rfl) e⟩
 | tup xs=>obtain⟨z,O,r,ob,e,c⟩:=x;exact⟨z,O,r,ob,k _ _ (.inl rfl) e,c⟩
 | dK kvs=>obtain⟨z,y,vs,r,ob,es,I,e,c⟩:=x;exact⟨z,y,vs,r,ob,es,I,k _ _ (.inl rfl) e,c⟩
 | dT kvs=>
  obtain⟨z,y,xs,r,ob,es,I,e,c⟩:=x;exact⟨z,y,xs,Paired.mapP r λp q z=>⟨z.1,Y _ _ z.2.1,z.2.2⟩,ob,es,I,k _ _ (.inl rfl) e,c⟩
 | set S n=>obtain⟨ob,es,I,t,e,c⟩:=x;exact⟨ob,es,I,t,k _ _ (.inl rfl) e,c⟩
 | ins C dx fs=>
  obtain⟨d,z,ne,e,mA,⟨od,es,I,Z,c⟩,r⟩:=x;exact⟨U _ d,z,ne,k _ _ (.inl rfl) e,mA,⟨od,es,I,k _ _ (.inr d) Z,c⟩,r⟩
 | own y=>obtain⟨ob,e⟩:=x;exact⟨ob,k _ _ (.inl rfl) e⟩
 | xd fs=>obtain⟨mA,⟨od,es,I,e,c⟩,r⟩:=x;exact⟨mA,⟨od,es,I,k _ _ (.inl rfl) e,c⟩,r⟩
 | rng lo hi=>obtain⟨t,u,v,e⟩:=x;exact⟨t,u,v,k _ _ (.inl rfl) e⟩
 | frz ob u ih=>obtain⟨e,q⟩:=x;exact⟨k _ _ (.inl rfl) e,ih q⟩
 | tbl ps=>
  have e:h.get? a=some {cls:= .none,data:= .fields ps}:=x;show h'.get? a=some {cls:= .none,data:= .fields ps};exact k a _ (.inl rfl) e
 | met f y=>
  have e:h.get? a=some (NF (.ref f)<|.ref y):=x;show h'.get? a=some (NF (.ref f)<|.ref y);exact k a _ (.inl rfl) e
 | ext φ=>obtain⟨p,⟨o,e⟩,st⟩:=x;exact⟨st _ _ p λo q=>k _ _ (.inl rfl) q,⟨o,k _ _ (.inl rfl) e⟩,st⟩
theorem HOk.lt(x:HOk P w H h)(e:H a=some o):a<h.objs.size:=(x a o e).lt
theorem HOk.fresh(x:HOk P w H h)(e:h.objs.size<=a):H a=none:=by
 cases q:H a with
 | none=>rfl
 | some u=>exact absurd (GK (x.lt q) e)<|Hn _
theorem HOk.kept(x:HOk P w H h)(k : ∀b u,h.get? b=some u->h'.get? b=some u):HOk P w H h':=λa o e=>
 (x a o e).stay (λb u _ q=>k b u q) (λ_ q=>q) λ_ _ q=>q
theorem HOk.laid(x:HOk P w H h)(k : ∀b u,h.get? b=some u->h'.get? b=some u)(I:h.objs.size<=a)(new:ObjOk P w (upd H a o) h' a o):HOk P w (upd H a o) h':=λb u e=>by
 have hn:=x.fresh I;by_cases z:b=a
 ·subst z;rw[zD]at e;cases e;exact new
 ·rw[zB z]at e
  exact(x b u e).stay (λc v _ q=>k c v q) (λc q=>by rw[zB (jS q hn)];exact q) λc xs q=>by rw[zB (jS q hn)];exact q
end
def Rd(H:Hp)(a:Addr)(u:HO):Prop:=H a=some u\/∃o,H a=some (.frz o u)
theorem Rd.ok(r:Rd H a u)(x:HOk P w H h):ObjOk P w H h a u:=by
 rcases r with r | ⟨o,r⟩
 ·exact x a u r
 ·obtain⟨_,q⟩:=x a _ r
  exact q
def Mut:Option HO->Prop
 | some (.lst _)=>True
 | some (.dK _)=>True
 | some (.dT _)=>True
 | some (.set _ _)=>True
 | some (.ins _ _ _)=>True
 | some (.ext _)=>True
 | _=>False
section
variable{P:Program}{w:World}{H:Hp}{h h':Heap}{x e:Addr}{o':HO}
theorem HOk.write(ok:HOk P w H h)(I:Mut (H x))(Y:e=x\/H e=some (.own x))(k : ∀b u,b≠e->h.get? b=some u->h'.get? b=some u)(a1 : ∃u,h'.get? e=some u)
 (new:ObjOk P w (upd H x o') h' x o'):HOk P w (upd H x o') h':=λb u q=>by
 have Z : ∀c y,H c=some (.own y)->c≠x:=λc y r z=>by subst z;rw[r]at I;exact I
 have a2 : ∀c xs,H c=some (.tup xs)->c≠x:=λc xs r z=>by subst z;rw[r]at I;exact I
 by_cases O:b=x
 ·subst O;rw[zD]at q;cases q;exact new
 ·rw[zB O]at q
  by_cases S:b=e
  ·have q':H b=some (.own x):=by
    rcases Y with z | z
    ·exact absurd (S.trans z) O
    ·rw[S];exact z
   rw[q]at q';cases q';obtain⟨v,hv⟩:=a1;exact⟨v,by rw[S];exact hv⟩
  ·refine(ok b u q).stay (λc v U r=>k c v ?_ r) (λc r=>by rw[zB (Z c b r)];exact r) λc xs r=>by rw[zB (a2 c xs r)];exact r
   rcases U with rfl | U
   ·exact S
   ·rintro rfl
    rcases Y with z | z
    ·exact Z c b U z
    ·rw[U]at z;cases z;exact O rfl
end
structure Un(fs ex:List Addr)(H H':Hp)(h h':Heap):Prop where
 keep : ∀b o,h.get? b=some o->H b=none->b∉fs->b∉ex->h'.get? b=some o
 slot : ∀b o,h.get? b=some o->H b=none->b∈fs->b∉ex->∃sl,h'.get? b=some {o with slots:=sl}
 free : ∀b o,h.get? b=some o->H b=none->b∉ex->H' b=none
 there : ∀b o,h.get? b=some o->b∉ex->∃o',h'.get? b=some o'
 tups : ∀b xs,H b=some (.tup xs)->H' b=some (.tup xs)
 frzs : ∀b o u,H b=some (.frz o u)->H' b=some (.frz o u)
 tbls : ∀b ps,H b=some (.tbl ps)->∃more,H' b=some (.tbl<|ps++more)
section
variable{fs fs' ex ex':List Addr}{H H1 H2:Hp}{h h1 h2 h':Heap}{a x e:Addr}{o:HO}
theorem Un.any(u:Un fs ex H H1 h h1)(q:h.get? b=some ob)(n:H b=none)(hx:b∉ex) : ∃sl,h1.get? b=some {ob with slots:=sl}:=by
 by_cases z:b∈fs
 ·exact u.slot b ob q n z hx
 ·exact⟨ob.slots,u.keep b ob q n z hx⟩
theorem Un.kept(k : ∀b u,h.get? b=some u->h'.get? b=some u):Un fs ex H H h h':=
 ⟨λb ob q _ _ _=>k b ob q,λb ob q _ _ _=>⟨ob.slots,k b ob q⟩,λ_ _ _ n _=>n,λb ob q _=>⟨ob,k b ob q⟩,λ_ _ q=>q,λ_ _ _ q=>q,λ_ ps q=>⟨#[],by rw[q];simp⟩⟩
theorem Un.refl:Un fs ex H H h h:=Un.kept λ_ _ q=>q
theorem Un.laid(k : ∀b u,h.get? b=some u->h'.get? b=some u)(z:h.objs.size<=a)(hn:H a=none):Un fs ex H (upd H a o) h h' where
 keep:=λb u q _ _ _=>k b u q
 slot:=λb u q _ _ _=>⟨u.slots,k b u q⟩
 free:=λb u q n _=>by rw[zB (Hb<|GK (GE q) z)];exact n
 there:=λb u q _=>⟨u,k b u q⟩
 tups:=λb xs q=>by rw[zB (jS q hn)];exact q
 frzs:=λb u xs q=>by rw[zB (jS q hn)];exact q
 tbls:=λb ps q=>⟨#[],by rw[zB (jS q hn),q];simp⟩
theorem Un.write(I:Mut (H x))(U:e=x\/H e=some (.own x))(k : ∀b u,b≠e->h.get? b=some u->h'.get? b=some u)(Y : ∃u,h'.get? e=some u):Un fs ex H (upd H x o) h h':=by
 have hx : ∀b,H b=none->b≠x:=λb n z=>by subst z;rw[n]at I;exact I
 have O : ∀b,H b=none->b≠e:=λb n z=>by
  subst z;rcases U with r | r
  ·exact hx b n r
  ·rw[n]at r;cases r
 have hm : ∀b u,H b=some u->¬Mut (some u)->b≠x:=λb u q nm z=>by subst z;rw[q]at I;exact nm I
 refine⟨λb u q n _ _=>k b u (O b n) q,λb u q n _ _=>⟨u.slots,k b u (O b n) q⟩,λb u q n _=>by rw[zB (hx b n)];exact n,λb u q _=>?_,
  λb xs q=>by rw[zB (hm b _ q λz=>z)];exact q,λb u xs q=>by rw[zB (hm b _ q λz=>z)];exact q,λb ps q=>⟨#[],by rw[zB (hm b _ q λz=>z),q];simp⟩⟩
 by_cases S:b=e
 ·subst S;exact Y
 ·exact⟨u,k b u S q⟩
end
def trk(h:Heap)(H:Hp):List Addr:=(Ga h.objs.size).filter λa=>(H a).isSome
def iP(h:Heap)(H:Hp):Heap:=PySem.W.hideAll h<|trk h H
theorem cY(h:Heap)(H:Hp):(iP h H).objs.size=h.objs.size:=PySem.W.hideAll_size _ _
theorem iO(e:h.get? b=some o)(n:H b=none):(iP h H).get? b=some o:=
 PySem.W.hideAll_get _ e λhm=>by have q:(H b).isSome=true:=(GT.mp hm).2;rw[n]at q;simp at q
theorem pk(e:(iP h H).get? b=some o):h.get? b=some o/\H b=none:=by
 have I:h.get? b=some o:=PySem.W.of_hideAll (trk h H) e;refine⟨I,?_⟩;cases q:H b with
 | none=>rfl
 | some x=>
  have hm:b∈trk h H:=GT.mpr ⟨Gc.mpr<|GE I,by simp[q]⟩;have z:(iP h H).get? b=none:=PySem.W.hideAll_none (trk h H) hm;rw[z]at e;cases e
def rV(g h:Heap)(L:Addr):List (Addr×Obj):=(Ga h.objs.size).filterMap λa=>if a=L\/(g.get? a).isSome=true then none else (h.get? a).map λo=>(a,o)
def xH(g h:Heap)(L d:Addr):List (Addr×Obj):=(rV g h L).filter λp=>decide<|p.1≠d
structure Mod(K:FY)(mg:RJ)(base:Heap):Prop where
 kin:K.In base
 glob:base.Ns mainGlobals mg
 blt : ∃mb,base.Ns builtinsNs mb/\∀x:Str,x ≠ "__name__"->mb x=bootBuiltins x
 nolimit:base.NoLimit
structure Cx where
 prog:Program
 w:World
 K:FY
 mg:Str->Option Value
 base:Heap
 A:Around
 N:List Str
 s₀:Shared
 H₀:Hp
 env:Env
 outer:List Env
 stack:List Env
 ex:List Addr
 fn:Str->Bool
 calm:Bool
 pn:List (Addr×Obj)
 xe:Value->Shared->Prop
def frs(l:List Env):List Addr:=l.filterMap (·.frame)
abbrev Cx.fs(X:Cx):List Addr:=frs X.outer
def Vis(sc:Scope)(x:Str):Prop:=sc.names.lookup x=some .local\/sc.names.lookup x=some .cell\/sc.names.lookup x=some .free
def Loc(sc:Scope)(x:Str):Prop:=sc.names.lookup x=some .local\/sc.names.lookup x=some .cell
def Look(env:Env)(h:Heap)(m:RJ)(x:Str)(u:Value):Prop:=
 (env.kindOf x=some .local/\m x=some u)\/((env.kindOf x=some .cell\/env.kindOf x=some .free)/\∃c,env.cells.lookup x=some c/\h.IsCell c (some u))
structure Cx.Ok(X:Cx):Prop where
 mod:Mod X.K X.mg X.base
 kind:X.env.scope.kind = .function
 glob:X.env.globals=mainGlobals
 blt:X.env.builtins=builtinsNs
 above:X.s₀.heap.objs.size<=X.env.locals
 inj : ∀x y c,X.env.cells.lookup x=some c->X.env.cells.lookup y=some c->x=y
 has : ∀x,(X.env.kindOf x=some .cell\/X.env.kindOf x=some .free)->∃c,X.env.cells.lookup x=some c
 cab : ∀x c,X.fn x=true->X.env.cells.lookup x=some c->X.s₀.heap.objs.size<=c
 hd:X.calm=true->X.A.handled=none
 frames:X.A.frames=some X.stack
 stk:X.stack=X.outer\/(X.stack=X.env::X.outer/\X.env.frame=some X.env.locals)
 exf : ∀b∈X.ex,b≠X.env.locals/\∀x c,X.env.cells.lookup x=some c->c≠b
 bs : ∀b o,X.base.get? b=some o->X.s₀.heap.get? b=some o/\X.H₀ b=none
 bsz:X.base.objs.size<=X.s₀.heap.objs.size
 noex : ∀b o,X.base.get? b=some o->b∉X.ex
 exfs : ∀b∈X.ex,b∉X.fs
 funs:X.s₀.heap.FunFrames X.base X.outer
 frf : ∀b∈X.fs,X.H₀ b=none
structure Inv(X:Cx)(pins:RW)(σ:List (Option V))(H:Hp)(s:Shared):Prop where
 ok:X.Ok
 os:s.os=X.s₀.os
 bare:AllBare s.gens
 base:Un X.fs X.ex X.H₀ H X.s₀.heap s.heap
 loc : ∃m,s.heap.Ns X.env.locals m/\∀(i:Nat) (x:Str) (v:V),X.N[i]? = some x->σ[i]? = some (some v)->Vis X.env.scope x->∃u,RelV v u/\Look X.env s.heap m x u
 cell : ∀x c,X.env.cells.lookup x=some c->∃v,s.heap.IsCell c v
 free:H X.env.locals=none
 freeC : ∀x c,X.env.cells.lookup x=some c->H c=none
 pin : ∀p∈X.pn++pins,s.heap.get? p.1=some p.2/\H p.1=none/\p.1≠X.env.locals/\p.1∉X.fs/\∀v,p.2.data ≠ .cell v
 hok:HOk X.prog X.w H s.heap
 len:σ.length=X.N.length
section
variable{X:Cx}{pins:RW}{σ:List (Option V)}{H H':Hp}{s:Shared}{h':Heap}
theorem Cx.Ok.nofr(ok:X.Ok)(e:X.base.get? b=some o):b∉X.fs:=λz=>by have:=(ok.funs.mem z).1;rw[e]at this;cases this
theorem Inv.bs(I:Inv X pins σ H s) : ∀b o,X.base.get? b=some o->s.heap.get? b=some o/\H b=none:=λb o e=>
 ⟨I.base.keep b o (I.ok.bs b o e).1 (I.ok.bs b o e).2 (I.ok.nofr e) (I.ok.noex b o e),I.base.free b o (I.ok.bs b o e).1 (I.ok.bs b o e).2 (I.ok.noex b o e)⟩
theorem Inv.bk(I:Inv X pins σ H s) : ∀b o,X.base.get? b=some o->s.heap.get? b=some o:=λb o e=>(I.bs b o e).1
theorem Inv.mod(I:Inv X pins σ H s):Mod X.K X.mg X.base:=I.ok.mod
theorem Inv.kIn(I:Inv X pins σ H s):X.K.In s.heap:=I.ok.mod.kin.keeps I.bk
theorem Inv.lt(I:Inv X pins σ H s):X.env.locals<s.heap.objs.size:=let ⟨_,hn,_⟩:=I.loc;hn.lt
theorem Inv.sz(I:Inv X pins σ H s):X.s₀.heap.objs.size<=s.heap.objs.size:=HE I.ok.above<|Nk I.lt
theorem Inv.nofs(I:Inv X pins σ H s)(h:s.heap.objs.size<=a):a∉X.fs:=λz=>by obtain⟨_,o,O,_⟩:=I.ok.funs.mem z;exact absurd (GK (GE O)<|HE I.sz h)<|Hn _
theorem Inv.cne(I:Inv X pins σ H s) : ∀x c,X.env.cells.lookup x=some c->c≠X.env.locals:=λx c e z=>by obtain⟨v,o,O,hd⟩:=I.cell x c e;obtain⟨m,⟨o',es,Y,S,U,_⟩,_⟩:=I.loc;rw[z,S]at O;cases O;rw[U]at hd;cases hd
theorem Inv.funs(I:Inv X pins σ H s):s.heap.FunFrames X.base X.outer:=by
 have all : ∀(l:List Env),(∀b∈frs l,b∈X.fs)->X.s₀.heap.FunFrames X.base l->s.heap.FunFrames X.base l:=by
  intro l
  induction l with
  | nil=>intro _ _;trivial
  | cons env r Z=>
   intro Y hl;obtain⟨hk,⟨L,o,O,hn,ho,hd⟩,hr⟩:=hl;have S:L∈X.fs:=Y L (by unfold frs;rw[Nz,O];exact Gu);obtain⟨sl,e⟩:=I.base.slot L o ho (I.ok.frf L S) S λz=>I.ok.exfs L z S;exact⟨hk,⟨L,_,O,hn,e,hd⟩,Z (λb U=>Y b<|by unfold frs;rw[Nz,O];exact Gn _ U) hr⟩
 exact all X.outer (λ_ U=>U) I.ok.funs
theorem Inv.stack(I:Inv X pins σ H s):s.heap.FunFrames X.base X.stack:=by
 rcases I.ok.stk with e | ⟨e,z⟩
 ·rw[e];exact I.funs
 ·rw[e]
  obtain⟨m,hn,_⟩:=I.loc;refine .cons (by rw[I.ok.kind];decide) z hn ?_ I.funs;exact Heap.get?_none_of_le<|HE I.ok.bsz I.ok.above
theorem Inv.stkSub(I:Inv X pins σ H s) : ∀b∈frs X.stack,b∈X.env.locals::X.fs:=λb z=>by
 rcases I.ok.stk with e | ⟨e,O⟩
 ·rw[e]at z;exact Gn _ z
 ·rw[e]at z
  unfold frs at z;rw[Nz,O]at z;exact z
theorem Inv.stkFree(I:Inv X pins σ H s) : ∀b∈frs X.stack,H b=none:=λb O=>by
 rcases Gr.mp (I.stkSub b O)with e | O
 ·rw[e];exact I.free
 ·obtain⟨_,o,S,_⟩:=I.ok.funs.mem O
  exact I.base.free b o S (I.ok.frf b O) λz=>I.ok.exfs b z O
theorem Inv.step{g':Array GenState}{t':Nat}{d':Drawn}{ch:List Addr}(I:Inv X pins σ H s)
 (U : ∀b∈ch,(b∈X.ex\/X.s₀.heap.objs.size<=b)/\b≠X.env.locals/\(∀x c,X.env.cells.lookup x=some c->c≠b)/\∀p∈X.pn++pins,p.1≠b)
 (keep : ∀b o,b≠X.env.locals->b∉X.fs->b∉ch->s.heap.get? b=some o->H b=none->h'.get? b=some o)
 (slot : ∀b o,b≠X.env.locals->b∈X.fs->b∉ch->s.heap.get? b=some o->H b=none->∃sl,h'.get? b=some {o with slots:=sl}) (free : ∀b o,b∉ch->s.heap.get? b=some o->H b=none->H' b=none)
 (there : ∀b o,b∉ch->s.heap.get? b=some o->∃o',h'.get? b=some o')
 (tups : ∀b xs,H b=some (.tup xs)->H' b=some (.tup xs)) (frzs : ∀b o u,H b=some (.frz o u)->H' b=some (.frz o u)) (tbls : ∀b ps,H b=some (.tbl ps)->∃more,H' b=some (.tbl<|ps++more))
 (ns : ∀m,s.heap.Ns X.env.locals m->h'.Ns X.env.locals m) (hok:HOk X.prog X.w H' h') (hg:AllBare g') :
 Inv X pins σ H' {s with heap:=h',gens:=g',drawn:=d',toks:=t'}:=by
 have a1 : ∀b o,X.s₀.heap.get? b=some o->b≠X.env.locals:=λb o e=>Hb<|GK (GE e) I.ok.above;have a0 : ∀b o,X.s₀.heap.get? b=some o->b∉X.ex->b∉ch:=λb o e hx O=>by
  rcases (U b O).1 with z | z
  ·exact hx z
  ·exact absurd (GK (GE e) z)<|Hn _
 have a2 : ∀x c,X.env.cells.lookup x=some c->∀v,s.heap.IsCell c v->h'.IsCell c v:=λx c e v hZ=>by
  obtain⟨o,S,hd⟩:=hZ;have Y:c∉ch:=λz=>(U c z).2.2.1 x c e rfl;by_cases hc:c∈X.fs
  ·obtain⟨sl,q⟩:=slot c o (I.cne x c e) hc Y S (I.freeC x c e)
   exact⟨_,q,hd⟩
  ·exact⟨o,keep c o (I.cne x c e) hc Y S<|I.freeC x c e,hd⟩
 refine⟨I.ok,I.os,hg,⟨λb o e n O hx=>?_,λb o e n O hx=>?_,λb o e n hx=>?_,λb o e hx=>?_,λb xs e=>tups b xs<|I.base.tups b xs e,λb o xs e=>frzs b o xs<|I.base.frzs b o xs e,λb ps e=>?_⟩,?_,λx c e=>?_,?_,λx c e=>?_,λp hp=>?_,hok,I.len⟩
 ·exact keep b o (a1 b o e) O (a0 b o e hx) (I.base.keep b o e n O hx)<|I.base.free b o e n hx
 ·obtain⟨sl,e1⟩:=I.base.slot b o e n O hx
  obtain⟨a8,Z⟩:=slot b _ (a1 b o e) O (a0 b o e hx) e1<|I.base.free b o e n hx;exact⟨a8,Z⟩
 ·obtain⟨o',e1⟩:=I.base.there b o e hx
  exact free b o' (a0 b o e hx) e1<|I.base.free b o e n hx
 ·obtain⟨o',e1⟩:=I.base.there b o e hx
  exact there b o' (a0 b o e hx) e1
 ·obtain⟨m1,e1⟩:=I.base.tbls b ps e
  obtain⟨m2,Z⟩:=tbls b _ e1;exact⟨m1++m2,by rw[Z,Array.append_assoc]⟩
 ·obtain⟨m,hn,hl⟩:=I.loc
  refine⟨m,ns m hn,λi x v e1 Z e3=>?_⟩;obtain⟨u,r,l⟩:=hl i x v e1 Z e3;refine⟨u,r,?_⟩;rcases l with l | ⟨k,c,e,z⟩
  ·exact .inl l
  ·exact .inr ⟨k,c,e,a2 x c e _ z⟩
 ·obtain⟨v,z⟩:=I.cell x c e
  exact⟨v,a2 x c e v z⟩
 ·obtain⟨m,⟨o,_,_,S,_⟩,_⟩:=I.loc
  exact free _ o (λz=>(U _ z).2.1 rfl) S I.free
 ·obtain⟨v,o,S,hd⟩:=I.cell x c e
  exact free c o (λz=>(U c z).2.2.1 x c e rfl) S<|I.freeC x c e
 ·obtain⟨e,n,ne,nf,d⟩:=I.pin p hp
  have Y:p.1∉ch:=λz=>(U p.1 z).2.2.2 p hp rfl;exact⟨keep p.1 p.2 ne nf Y e n,free p.1 p.2 Y e n,ne,nf,d⟩
theorem Inv.un{t':Nat}(I:Inv X pins σ H s)(u:Un X.fs [] H H' s.heap h')(hok:HOk X.prog X.w H' h'):Inv X pins σ H' {s with heap:=h',toks:=t'}:=by
 obtain⟨m,⟨o,es,ep,S,r⟩,_⟩:=id I.loc;obtain⟨sl,Y⟩:=u.any S I.free ⋯;exact I.step (g':=s.gens) (d':=s.drawn) (ch:=[]) (λ_ z=>nomatch z) (λb o _ O _ e n=>u.keep b o e n O ⋯) (λb o _ O _ e n=>u.slot b o e n O ⋯) (λb o _ e n=>u.free b o e n ⋯) (λb o _ e=>u.there b o e ⋯) u.tups u.frzs u.tbls (λm' hm=>by obtain⟨o',Z,a0,U,r'⟩:=hm;rw[S]at U;cases U;exact⟨_,Z,a0,Y,r'⟩) hok I.bare
theorem Inv.call{g':Array GenState}{t':Nat}{d':Drawn}{ch:List Addr}(I:Inv X pins σ H s)(u:Un (frs X.stack) ch H H' s.heap h')(hok:HOk X.prog X.w H' h')(hg:AllBare g')
 (U : ∀b∈ch,(b∈X.ex\/X.s₀.heap.objs.size<=b)/\b≠X.env.locals/\(∀x c,X.env.cells.lookup x=some c->c≠b)/\∀p∈X.pn++pins,p.1≠b) :
 Inv X pins σ H' {s with heap:=h',gens:=g',drawn:=d',toks:=t'}:=by
 obtain⟨m,⟨o,es,ep,Y,r⟩,_⟩:=id I.loc;obtain⟨sl,S⟩:=u.any Y I.free λz=>(U _ z).2.1 rfl;exact I.step (ch:=ch) U (λb o S hb O e n=>u.keep b o e n (λz=>(Gr.mp<|I.stkSub b z).elim S hb) O) (λb o _ _ O e n=>u.any e n O) (λb o O e n=>u.free b o e n O) (λb o O e=>u.there b o e O) u.tups u.frzs u.tbls (λm' hm=>by obtain⟨o',a2,a3,Z,r'⟩:=hm;rw[Y]at Z;cases Z;exact⟨_,a2,a3,S,r'⟩) hok hg
theorem Inv.turned{t':Nat}{it:Addr}(I:Inv X pins σ H s)(k : ∀b o,b≠it->s.heap.get? b=some o->h'.get? b=some o)(hn:H it=none)(S:it≠X.env.locals)
 (h1:it∈X.ex\/X.s₀.heap.objs.size<=it) (h2 : ∀x c,X.env.cells.lookup x=some c->c≠it) (Y : ∀p∈X.pn++pins,p.1≠it):Inv X pins σ H {s with heap:=h',toks:=t'}:=by
 have U : ∀b u,H b=some u->b≠it:=λb u e z=>by rw[z,hn]at e;cases e
 refine I.step (g':=s.gens) (d':=s.drawn) (ch:=[it]) (λb Z=>?_) (λb o _ _ O e _=>k b o (λz=>O<|by simp[z]) e) (λb o _ _ O e _=>⟨o.slots,k b o (λz=>O<|by simp[z]) e⟩) (λ_ _ _ _ n=>n)
  (λb o O e=>⟨o,k b o (λz=>O<|by simp[z]) e⟩) (λ_ _ e=>e) (λ_ _ _ e=>e) (λb ps e=>⟨#[],by rw[e];simp⟩) (λm hm=>?_) (λb u e=>?_) I.bare
 ·have e:b=it:=by simpa using Z
  subst e;exact⟨h1,S,h2,Y⟩
 ·obtain⟨o,es,ep,ho,r⟩:=hm
  exact⟨o,es,ep,k _ o (GN S) ho,r⟩
 ·refine(I.hok b u e).stay (λc v O q=>k c v ?_ q) (λ_ q=>q) λ_ _ q=>q
  rcases O with z | z
  ·rw[z];exact U b u e
  ·exact U c _ z
theorem Inv.tok(I:Inv X pins σ H s)(t:Nat):Inv X pins σ H {s with toks:=t}:=I.un (h':=s.heap) (t':=t) Un.refl I.hok
theorem Inv.kept(I:Inv X pins σ H s)(k : ∀b u,s.heap.get? b=some u->h'.get? b=some u):Inv X pins σ H {s with heap:=h',toks:=t'}:=I.un (Un.kept k)<|I.hok.kept k
theorem Inv.laid(I:Inv X pins σ H s)(k : ∀b u,s.heap.get? b=some u->h'.get? b=some u)(z:s.heap.objs.size<=a)(new:ObjOk X.prog X.w (upd H a o) h' a o) :
 Inv X pins σ (upd H a o) {s with heap:=h',toks:=t'}:=I.un (Un.laid k z<|I.hok.fresh z)<|I.hok.laid k z new
theorem Inv.write(I:Inv X pins σ H s)(z:Mut (H x))(O:e=x\/H e=some (.own x))(k : ∀b u,b≠e->s.heap.get? b=some u->h'.get? b=some u)(S : ∃u,h'.get? e=some u)
 (new:ObjOk X.prog X.w (upd H x o) h' x o):Inv X pins σ (upd H x o) {s with heap:=h',toks:=t'}:=I.un (Un.write z O k S)<|I.hok.write z O k S new
theorem Inv.pins_of(I:Inv X pins σ H s)(h : ∀p∈O,s.heap.get? p.1=some p.2/\H p.1=none/\p.1≠X.env.locals/\p.1∉X.fs/\∀v,p.2.data ≠ .cell v):Inv X O σ H s:=
 ⟨I.ok,I.os,I.bare,I.base,I.loc,I.cell,I.free,I.freeC,λp S=>(Li.mp S).elim (λz=>I.pin p<|Np _ z) (h p),I.hok,I.len⟩
theorem VD{N:List Str}(z:N.Nodup){i j:Nat}{x:Str}(a:N[i]? = some x)(b:N[j]? = some x):i=j:=by obtain⟨h1,e1⟩:=Gq.mp a;obtain⟨h2,I⟩:=Gq.mp b;exact(List.getElem_inj z).mp (e1.trans I.symm)
theorem XR{M:Model}{A:Around}{E:RQ}{i:Nat}{x:Str}{v:V}{u:Value}{Q:Unit->Shared->Prop}(I:Inv X pins σ H s)(hN:X.N.Nodup)(hi:X.N[i]? = some x)(hx:Loc X.env.scope x)(r:RelV v u)
 (h : ∀s',Inv X pins (σ.set i<|some v) H s'->(∃a,LH a s.heap s'.heap/\(a=X.env.locals\/X.env.cells.lookup x=some a))->Q () s') (hf:X.fn x=true\/X.env.scope.names.lookup x=some .local:=by first | exact .inl rfl | exact .inr rfl | assumption):wpAny M A (storeName X.env x u) Q E s:=by
 obtain⟨m,hn,hl⟩:=id I.loc;have as:(X.env.scope.kind == .class || (X.env.scope.kind == .module && X.env.locals != X.env.globals))=false:=by rw[I.ok.kind];rfl
 have ac:i<σ.length:=by rw[I.len];exact(Gq.mp hi).1
 have cne:=I.cne;have ad : ∀{a:Addr} {h':Heap},(∃o,s.heap.get? a=some o/\H a=none)->LH a s.heap h'->HOk X.prog X.w H h':=λ{a h'} ha O b ob e=>by
  obtain⟨_,_,al⟩:=ha;refine(I.hok b ob e).stay (λc w' S q=>(O.2 c ?_).trans q) (λ_ q=>q) λ_ _ q=>q;rintro rfl;rcases S with rfl | S
  ·rw[al]at e;cases e
  ·rw[al]at S;cases S
 rcases hx with Y | Y
 ·refine wpAny_storeName_local Y hn (λh' ax O=>?_) as
  obtain⟨oL,_,_,b9,_⟩:=id hn;refine h _ ⟨I.ok,I.os,I.bare,⟨λb o e n Z hx=>?_,λb o e n Z hx=>?_,I.base.free,λb o e hx=>?_,I.base.tups,I.base.frzs,I.base.tbls⟩,⟨_,ax,λj y v' e1 U e3=>?_⟩,λy c e=>?_,I.free,I.freeC,λp hp=>?_,ad ⟨oL,b9,I.free⟩ O,by simpa using I.len⟩ ⟨_,O,.inl rfl⟩
  ·exact(O.2 b<|Hb<|GK (GE e) I.ok.above).trans (I.base.keep b o e n Z hx)
  ·obtain⟨sl,e1⟩:=I.base.slot b o e n Z hx
   exact⟨sl,(O.2 b<|Hb<|GK (GE e) I.ok.above).trans e1⟩
  ·obtain⟨o',e1⟩:=I.base.there b o e hx
   exact⟨o',(O.2 b<|Hb<|GK (GE e) I.ok.above).trans e1⟩
  ·by_cases hj:j=i
   ·subst hj
    rw[hi]at e1;cases e1;rw[GD ac]at U;cases U;exact⟨u,r,.inl ⟨Y,by simp⟩⟩
   ·rw[Gg (GN hj)]at U
    obtain⟨u',r',q⟩:=hl j y v' e1 U e3;refine⟨u',r',?_⟩;rcases q with⟨k,e⟩ | ⟨k,c,e,z⟩
    ·refine .inl ⟨k,?_⟩
     have:y≠x:=λe=>hj<|VD hN e1<|e ▸ hi;simp[this,e]
    ·exact .inr ⟨k,c,e,z.sameBut O<|cne y c e⟩
  ·obtain⟨w',z⟩:=I.cell y c e
   exact⟨w',z.sameBut O<|cne y c e⟩
  ·obtain⟨e,n,ne,nf,d⟩:=I.pin p hp
   exact⟨(O.2 p.1 ne).trans e,n,ne,nf,d⟩
 ·have a7:X.fn x=true:=by
   rcases hf with z | z
   ·exact z
   ·rw[z]at Y;cases Y
  obtain⟨c,S⟩:=I.ok.has x<|.inl Y;obtain⟨w',z⟩:=I.cell x c S;refine wpAny_storeName_cell I.ok.kind Y S z<|λh' am O=>?_;obtain⟨oc,an,bb⟩:=id z;refine h {s with heap:=h'} ⟨I.ok,I.os,I.bare,⟨λb o e n Z hx=>?_,λb o e n Z hx=>?_,I.base.free,λb o e hx=>?_,I.base.tups,I.base.frzs,I.base.tbls⟩,⟨m,hn.sameBut O<|GN<|cne x c S,λj y v' e1 U e3=>?_⟩,λy c' e=>?_,I.free,I.freeC,λp hp=>?_,ad ⟨oc,an,I.freeC x c S⟩ O,by simpa using I.len⟩ ⟨c,O,.inr S⟩
  ·exact(O.2 b<|Hb<|GK (GE e)<|I.ok.cab x c a7 S).trans (I.base.keep b o e n Z hx)
  ·obtain⟨sl,e1⟩:=I.base.slot b o e n Z hx
   exact⟨sl,(O.2 b<|Hb<|GK (GE e)<|I.ok.cab x c a7 S).trans e1⟩
  ·obtain⟨o',e1⟩:=I.base.there b o e hx
   exact⟨o',(O.2 b<|Hb<|GK (GE e)<|I.ok.cab x c a7 S).trans e1⟩
  ·by_cases hj:j=i
   ·subst hj
    rw[hi]at e1;cases e1;rw[GD ac]at U;cases U;exact⟨u,r,.inr ⟨.inl Y,c,S,am⟩⟩
   ·rw[Gg (GN hj)]at U
    obtain⟨u',r',q⟩:=hl j y v' e1 U e3;refine⟨u',r',?_⟩;rcases q with q | ⟨k,c',e,z'⟩
    ·exact .inl q
    ·refine .inr ⟨k,c',e,z'.sameBut O ?_⟩
     rintro rfl;exact hj<|VD hN e1<|I.ok.inj _ _ _ e S ▸ hi
  ·by_cases ap:c'=c
   ·subst ap;exact⟨_,am⟩
   ·obtain⟨w2,z2⟩:=I.cell y c' e
    exact⟨w2,z2.sameBut O ap⟩
  ·obtain⟨e,n,ne,nf,d⟩:=I.pin p hp
   refine⟨(O.2 p.1 ?_).trans e,n,ne,nf,d⟩;intro q;rw[q,an]at e;have q':oc=p.2:=Hy e;exact d w' (by rw[<- q'];exact bb)
theorem Vi(I:Inv X pins σ H s)(z:X.N.Nodup)(hi:X.N[i]? = some x)(hx:Loc X.env.scope x)(r:RelV v u)
 (h : ∀s',Inv X pins (σ.set i<|some v) H s'->Q () s') (O:X.fn x=true\/X.env.scope.names.lookup x=some .local:=by first | exact .inl rfl | exact .inr rfl | assumption):wpAny M A (storeName X.env x u) Q E s:=
 XR I z hi hx r (λs' S _=>h s' S) O
theorem Inv.call'(I:Inv X pins σ H s)(z:s'.os=s.os)(u:Un (frs X.stack) ch H H' s.heap s'.heap)(hok:HOk X.prog X.w H' s'.heap)(O:AllBare s'.gens)
 (S : ∀b∈ch,(b∈X.ex\/X.s₀.heap.objs.size<=b)/\b≠X.env.locals/\(∀x c,X.env.cells.lookup x=some c->c≠b)/\∀p∈X.pn++pins,p.1≠b):Inv X pins σ H' s':=by
 obtain⟨h',g',d',t',o'⟩:=s';have e:o'=s.os:=z;subst e;exact I.call (g':=g') (t':=t') (d':=d') u hok O S
end
abbrev XK:=Value->Option Addr->Hp->Prop
abbrev St:=List (Option V)
abbrev VK:=V->Hp->Prop
abbrev TE:=St->Hp->VK->Prop
abbrev TT:=St->Hp->(Bool->Hp->Prop)->Prop
abbrev TA:=St->Hp->(List V->Hp->Prop)->Prop
structure Ends where
 nx:St->Hp->Prop
 rt:VK
 bk:St->Hp->Prop:=λ_ _=>False
 ct:St->Hp->Prop:=λ_ _=>False
abbrev TS:=Ends->St->Hp->Prop
def EP(X:Cx)(pins:RW)(σ:St)(Q:VK)(u:Value)(s':Shared):Prop:=∃v H',Inv X pins σ H' s'/\RelV v u/\Q v H'
def TP(X:Cx)(pins:RW)(σ:St)(Q:Bool->Hp->Prop)(b:Bool)(s':Shared):Prop:=∃H',Inv X pins σ H' s'/\Q b H'
def AP(X:Cx)(pins:RW)(σ:St)(Q:List V->Hp->Prop)(us:List Value)(s':Shared):Prop:=∃vs H',Inv X pins σ H' s'/\Vals vs us/\Q vs H'
def SP(X:Cx)(pins:RW)(D:Ends)(f:Flow)(s':Shared):Prop:=
 match f with
 | .next=>∃z H',Inv X pins z H' s'/\D.nx z H'
 | .brk=>∃z H',Inv X pins z H' s'/\D.bk z H'
 | .cont=>∃z H',Inv X pins z H' s'/\D.ct z H'
 | .ret u=>∃v z H',Inv X pins z H' s'/\RelV v u/\D.rt v H'
def PE(X:Cx)(e:Expr)(t:TE):Prop:=
 ∀(pins:RW) (s:Shared) (σ:St) (H:Hp) (Q:VK),Inv X pins σ H s->t σ H Q->wpAny (model X.prog X.w) X.A (eval e X.env) (EP X pins σ Q) X.xe s
def PT(X:Cx)(e:Expr)(t:TT):Prop:=
 ∀(pins:RW) (s:Shared) (σ:St) (H:Hp) (Q:Bool->Hp->Prop),Inv X pins σ H s->t σ H Q->wpAny (model X.prog X.w) X.A (isTrue e X.env<|eval e X.env) (TP X pins σ Q) X.xe s
def PW(X:Cx)(e:Expr)(t:TT):Prop:=
 ∀(z:Sem Value) (pins:RW) (s:Shared) (σ:St) (H:Hp) (Q:Bool->Hp->Prop),Inv X pins σ H s->t σ H Q->wpAny (model X.prog X.w) X.A (isTrue e X.env z) (TP X pins σ Q) X.xe s
theorem PW.pt(h:PW X e t):PT X e t:=h _
def PA(X:Cx)(es:List Expr)(t:TA):Prop:=
 ∀(pos:Pos) (pins:RW) (s:Shared) (σ:St) (H:Hp) (Q:List V->Hp->Prop),Inv X pins σ H s->t σ H Q->wpAny (model X.prog X.w) X.A (spliced<|backTo pos<|starEach es X.env) (AP X pins σ Q) X.xe s
def PS(X:Cx)(st:Stmt)(t:TS):Prop:=
 ∀(pins:RW) (s:Shared) (σ:St) (H:Hp) (D:Ends),Inv X pins σ H s->t D σ H->wpAny (model X.prog X.w) X.A (exec st X.env) (SP X pins D) X.xe s
def PSs(X:Cx)(st:List Stmt)(t:TS):Prop:=
 ∀(pins:RW) (s:Shared) (σ:St) (H:Hp) (D:Ends),Inv X pins σ H s->t D σ H->wpAny (model X.prog X.w) X.A (execs st X.env) (SP X pins D) X.xe s
theorem thn(h:wpAny M A t Q E s)(z : ∀a s,Q a s->Q' a s):wpAny M A t Q' E s:=IR h z λ_ _ x=>x
section
variable{X:Cx}
def Jz(i:Nat):TE:=λσ H Q=>∃v,σ[i]? = some (some v)/\Q v H
def tC(v:V):TE:=λ_ H Q=>Q v H
theorem uv(Y:X.N[i]? = some x)(Z:Vis X.env.scope x)(hd:(x==("__debug__" : Str))=false:=by decide)(a0:(x==("__classdict__" : Str))=false:=by decide):PE X (.Name x pos) (Jz i):=by
 intro pins s σ H Q I h;obtain⟨v,e,h⟩:=h;obtain⟨m,hn,hl⟩:=I.loc;obtain⟨u,r,l⟩:=hl i x v Y e Z;have O:EP X pins σ Q u s:=⟨v,H,I,r,h⟩;rcases l with⟨z,hm⟩ | ⟨z,c,S,U⟩
 ·exact wpAny_Name (wpAny_loadName_local I.ok.kind z hn hm O) hd
 ·rcases z with z | z
  ·exact wpAny_Name (wpAny_loadName_cell I.ok.kind z S U O) hd
  ·exact wpAny_Name (wpAny_loadName_free I.ok.kind z S U O a0) hd
theorem uB:PE X (.Constant (.int i) j pos) (tC<|.int i):=λ_ _ _ H _ I h=>wpAny_Constant_int ⟨.int i,H,I.tok _,⟨_,rfl⟩,h⟩
theorem Cr:PE X (.Constant (.bool b) j pos) (tC<|.bl b):=λ_ _ _ H _ I h=>Constant_bool ⟨.bl b,H,I,rfl,h⟩
theorem uz:PE X (.Constant .none j pos) (tC .non):=λ_ _ _ H _ I h=>Constant_none ⟨.non,H,I,rfl,h⟩
theorem mC:PE X (.Constant (.str x) j pos) (tC<|.str x):=λ_ _ _ H _ I h=>Calls.Constant_str ⟨.str x,H,I.tok _,⟨_,rfl⟩,h⟩
def Gl(X:Cx)(x:Str):Prop:=X.env.kindOf x=some .globalImplicit
theorem YA(I:Inv X pins σ H s)(z:Gl X x)(hm:X.mg x=some u)(h:Q u s)
 (hd:(x==("__debug__" : Str))=false:=by decide):wpAny (model X.prog X.w) X.A (eval (.Name x pos) X.env) Q E s:=
 Calls.Name_function_global I.ok.kind z (Calls.loadGlobal_global (by rw[I.ok.glob];exact I.mod.glob.keeps I.bk) hm h) hd
theorem xP(I:Inv X pins σ H s)(z:Gl X x)(hm:X.mg x=none)(O:bootBuiltins x=some u)(h:Q u s)
 (hn:x ≠ "__name__":=by decide) (hd:(x==("__debug__" : Str))=false:=by decide):wpAny (model X.prog X.w) X.A (eval (.Name x pos) X.env) Q E s:=by
 obtain⟨mb,h1,h2⟩:=I.mod.blt;exact Calls.Name_function_global I.ok.kind z (Calls.loadGlobal_builtin (by rw[I.ok.glob];exact I.mod.glob.keeps I.bk) hm (by rw[I.ok.blt];exact h1.keeps I.bk) ((h2 x hn).trans O) h) hd
variable{a b:Expr}{ta tb:TE}{pos:Pos}
def PC(X:Cx)(z:CmpOp)(a b:Expr)(t:TE):Prop:=
 ∀(pins:RW) (s:Shared) (σ:St) (H:Hp) (Q:VK),Inv X pins σ H s->t σ H Q->
  wpAny (model X.prog X.w) X.A (eval a X.env) (λv I=>wpAny (model X.prog X.w) X.A (eval b X.env) (λu O=>wpAny (model X.prog X.w) X.A (compareOp z v u) (EP X pins σ Q) X.xe O) X.xe I) X.xe s
theorem ip(b:Expr)(h:op ≠ .In)(h2:op ≠ .NotIn):behindInMarks op b=false:=by
 have e1:(op==CmpOp.In)=false:=by cases op<;>first | rfl | exact absurd rfl h
 have z:(op==CmpOp.NotIn)=false:=by cases op<;>first | rfl | exact absurd rfl h2
 cases b<;>simp[behindInMarks,e1,z]
def tB(t:TE):TT:=λσ H Q=>t σ H λx H1=>∃c,x = .bl c/\Q c H1
theorem ui(h:PC X op a b t)(h1:behindInMarks op b=false:=by first | exact ip _ ⋯ ⋯ | rfl):PT X (.Compare a [op] [b] pos) (tB t):=by intro pins s σ H Q I hw;refine wpAny_isTrue_Compare1 (thn (h pins s σ H _ I hw) λv s1 h1=>thn h1 λu s2 h2=>thn h2 λc Y z=>?_) h1;obtain⟨x,H1,O,S,U⟩:=z;obtain⟨d,rfl,q⟩:=U;cases S;exact IL ⟨H1,O,q⟩
theorem ug(h:PE X e t)(O : ∀z,isTrue e X.env z=(do let v <- z;standAt e.pos;holding [v] (truthy v)):=by intro _;rfl):PT X e (tB t):=by intro pins s σ H Q I hw;refine isTrue_plain (thn (h pins s σ H _ I hw) λv s1 S=>?_)<|O _;obtain⟨x,H1,U,Y,Z⟩:=S;obtain⟨d,rfl,q⟩:=Z;cases Y;exact IL ⟨H1,U,q⟩
variable{tA tB':TT}{xH:List Expr}
def FA(t u:TT):TT:=λσ H Q=>t σ H λc H1=>if c=true then u σ H1 Q else Q false H1
def tOr(t u:TT):TT:=λσ H Q=>t σ H λc H1=>if c=true then Q true H1 else u σ H1 Q
def Fv(t:TT):TT:=λσ H Q=>t σ H λc H1=>Q (!c) H1
theorem ou(ha:PT X a tA):PW X (.BoolOp .And [a] pos) tA:=by
 intro z pins s σ H Q I h;refine isTrue_and<|thn (ha pins s σ H Q I h) λc s1 e=>?_;cases c with
 | true=>exact isTrue_and_nil e
 | false=>exact e
theorem tK(ha:PT X a tA):PW X (.BoolOp .Or [a] pos) tA:=by
 intro z pins s σ H Q I h;refine isTrue_or<|thn (ha pins s σ H Q I h) λc s1 e=>?_;cases c with
 | false=>exact isTrue_or_nil e
 | true=>exact e
theorem tM(ha:PT X a tA)(S:PW X (.BoolOp .And (b::xH) pos) tB'):PW X (.BoolOp .And (a::b::xH) pos) (FA tA tB'):=by
 intro U pins s σ H Q I h;refine isTrue_and<|thn (ha pins s σ H _ I h) λc s1 Y=>?_;obtain⟨H1,z,O⟩:=Y;cases c with
 | true=>exact S U pins s1 σ H1 Q z O
 | false=>exact⟨H1,z,O⟩
theorem Ck(ha:PT X a tA)(S:PW X (.BoolOp .Or (b::xH) pos) tB'):PW X (.BoolOp .Or (a::b::xH) pos) (tOr tA tB'):=by
 intro U pins s σ H Q I h;refine isTrue_or<|thn (ha pins s σ H _ I h) λc s1 Y=>?_;obtain⟨H1,z,O⟩:=Y;cases c with
 | true=>exact⟨H1,z,O⟩
 | false=>exact S U pins s1 σ H1 Q z O
theorem uh(ha:PT X a tA):PT X (.UnaryOp .Not a pos) (Fv tA):=by intro pins s σ H Q I h;exact isTrue_not<|ha pins s σ H (λc H1=>Q (!c) H1) I h
def Cc(ta tb:TE):TE:=λσ H Q=>ta σ H λx H1=>∃c,x = .bl c/\if c=true then tb σ H1 Q else Q (.bl false) H1
def BU(ta:TE):TE:=λσ H Q=>ta σ H λx H1=>∃c,x = .bl c/\Q (.bl<|!c) H1
theorem ux(h:PE X a t):PE X (.BoolOp op [a] pos) t:=λpins s σ H Q I hw=>BoolOp_one<|h pins s σ H Q I hw
theorem uC(ha:PE X a ta)(S:PE X (.BoolOp .And (b::xH) pos) tb):PE X (.BoolOp .And (a::b::xH) pos) (Cc ta tb):=by
 intro pins s σ H Q I h;refine BoolOp_and<|thn (ha pins s σ H _ I h) λv s1 U=>?_;obtain⟨x,H1,O,Y,z⟩:=U;obtain⟨c,rfl,z⟩:=z;cases Y;refine IL ?_;cases c with
 | true=>exact S pins s1 σ H1 Q O z
 | false=>exact⟨.bl false,H1,O,rfl,z⟩
theorem uy(ha:PE X a ta):PE X (.UnaryOp .Not a pos) (BU ta):=by intro pins s σ H Q I h;refine UnaryOp_<|thn (ha pins s σ H _ I h) λv s1 O=>?_;obtain⟨x,H1,S,U,z⟩:=O;obtain⟨c,rfl,z⟩:=z;cases U;exact not_of<|IL ⟨.bl<|!c,H1,S,rfl,z⟩
def tIf(t:TT)(ta tb:TE):TE:=λσ H Q=>t σ H λc H1=>if c=true then ta σ H1 Q else tb σ H1 Q
theorem pe_ifExp(S:PT X c tA)(ha:PE X a ta)(U:PE X b tb):PE X (.IfExp c a b pos) (tIf tA ta tb):=by
 intro pins s σ H Q I h;refine wpAny_IfExp<|thn (S pins s σ H _ I h) λd s1 Y=>?_;obtain⟨H1,z,O⟩:=Y;cases d with
 | true=>exact ha pins s1 σ H1 Q z O
 | false=>exact U pins s1 σ H1 Q z O
end
def SqL(K:FY)(H:Hp)(a:Addr)(xs:List V):Prop:=
 Rd H a (.lst xs)\/
  ∃(o:Obj) (z:Array Value) (n:Nat),K.lookup a=some o/\o.cls = .type "list"/\o.dict=none/\o.data = .seq z n/\z.size<=sizeLine/\Vals xs z.toList
def SqT(K:FY)(H:Hp)(a:Addr)(xs:List V):Prop:=
 Rd H a (.tup xs)\/
  ∃(o:Obj) (z:Array Value) (n:Nat),K.lookup a=some o/\(o.cls,o.dict)=(LU "tuple",none)/\o.data = .seq z n/\z.size<=sizeLine/\Vals xs z.toList
def FU:Value->Option V
 | .none=>some .non
 | .bool b=>some (.bl b)
 | .int i _=>some (.int i)
 | .str x _=>some (.str x)
 | .bytes b _=>some (.byt b)
 | .float b _=>some (.flt b)
 | .ref a=>some (.ref a)
 | .type n=>some (.ty n)
 | _=>none
theorem RelV.abs(r:RelV x u):FU u=some x:=by
 cases x with
 | non=>cases r;rfl
 | bl _=>cases r;rfl
 | int _=>obtain⟨t,rfl⟩:=r;rfl
 | str _=>obtain⟨t,rfl⟩:=r;rfl
 | byt _=>obtain⟨t,rfl⟩:=r;rfl
 | flt _=>obtain⟨t,rfl⟩:=r;rfl
 | ref _=>cases r;rfl
 | ty _=>cases r;rfl
theorem RelV.inj(r:RelV x u)(q:RelV y u):x=y:=Hy<|r.abs.symm.trans q.abs
theorem Vals.inj : ∀{xs ys:List V} {us:List Value},Vals xs us->Vals ys us->xs=ys
 | _,_,_,.nil,.nil=>rfl
 | _,_,_,.cons r t,.cons r' t'=>by rw[r.inj r',Vals.inj t t']
section
variable{X:Cx}{pins:RW}{σ:St}{H:Hp}{s:Shared}{a:Addr}{xs ys:List V}
theorem SqL.of{K:FY}(h:H a=some (.lst xs)):SqL K H a xs:= .inl (.inl h)
theorem SqT.of{K:FY}(h:H a=some (.tup xs)):SqT K H a xs:= .inl (.inl h)
theorem Inv.list(I:Inv X pins σ H s)(h:SqL X.K H a xs) : ∃O:List Value,Vals xs O/\PlainL s.heap a O.toArray/\xs.length<=sizeLine:=by
 rcases h with h | ⟨o,O,n,S,U,hd,Y,Z,r⟩
 ·obtain⟨z,O,n,r,e⟩:=h.ok I.hok
  exact⟨O,r,⟨_,n,e,rfl,rfl,rfl⟩,z⟩
 ·refine⟨O.toList,r,⟨o,n,I.kIn a o S,U,hd,by simpa using Y⟩,?_⟩
  have e:=r.length;simp only[HV]at e;omega
theorem Inv.tuple(I:Inv X pins σ H s)(h:SqT X.K H a xs) : ∃O:List Value,Vals xs O/\IsTup s.heap a O.toArray/\xs.length<=sizeLine:=by
 rcases h with h | ⟨o,O,n,S,U,Y,Z,r⟩
 ·obtain⟨z,O,r,p⟩:=h.ok I.hok
  exact⟨O,r,p.tup,z⟩
 ·refine⟨O.toList,r,⟨o,I.kIn a o S,(Prod.mk.inj U).1,n,by simpa using Y⟩,?_⟩
  have e:=r.length;simp only[HV]at e;omega
theorem Inv.list_inj(I:Inv X pins σ H s)(h:SqL X.K H a xs)(h':SqL X.K H a ys):xs=ys:=by
 obtain⟨O,r,⟨o,n,e,_,_,d⟩,_⟩:=I.list h;obtain⟨its',r',⟨o',n',z,_,_,d'⟩,_⟩:=I.list h';rw[e]at z;cases z;rw[d]at d';injection d' with S _;have:O=its':=by simpa using congrArg Array.toList S
 subst this;exact r.inj r'
theorem Inv.tuple_inj(I:Inv X pins σ H s)(h:SqT X.K H a xs)(h':SqT X.K H a ys):xs=ys:=by
 obtain⟨O,r,⟨o,e,_,n,d⟩,_⟩:=I.tuple h;obtain⟨its',r',⟨o',z,_,n',d'⟩,_⟩:=I.tuple h';rw[e]at z;cases z;rw[d]at d';injection d' with S _;have:O=its':=by simpa using congrArg Array.toList S
 subst this;exact r.inj r'
end
abbrev Cx.wish(X:Cx)(E:RQ):Cx:={X with xe:=E}
abbrev Cx.nox(X:Cx):Cx:=X.wish λ_ _=>False
theorem Cx.Ok.wish{X:Cx}(ok:X.Ok)(E:RQ):(X.wish E).Ok:=
 ⟨ok.mod,ok.kind,ok.glob,ok.blt,ok.above,ok.inj,ok.has,ok.cab,ok.hd,ok.frames,ok.stk,ok.exf,ok.bs,ok.bsz,ok.noex,ok.exfs,ok.funs,ok.frf⟩
theorem Cx.Ok.unwish{X:Cx}{E:RQ}(ok:(X.wish E).Ok):X.Ok:=
 ⟨ok.mod,ok.kind,ok.glob,ok.blt,ok.above,ok.inj,ok.has,ok.cab,ok.hd,ok.frames,ok.stk,ok.exf,ok.bs,ok.bsz,ok.noex,ok.exfs,ok.funs,ok.frf⟩
section
variable{X:Cx}{pins:RW}{σ:St}{H:Hp}{s:Shared}{E:RQ}
theorem Inv.wish(I:Inv X pins σ H s)(E:RQ):Inv (X.wish E) pins σ H s:=⟨I.ok.wish E,I.os,I.bare,I.base,I.loc,I.cell,I.free,I.freeC,I.pin,I.hok,I.len⟩
theorem Inv.unwish(I:Inv (X.wish E) pins σ H s):Inv X pins σ H s:=⟨I.ok.unwish,I.os,I.bare,I.base,I.loc,I.cell,I.free,I.freeC,I.pin,I.hok,I.len⟩
theorem SP.unwish(h:SP (X.wish E) pins D f s'):SP X pins D f s':=by
 cases f with
 | next=>obtain⟨z,H',I,q⟩:=h;exact⟨z,H',I.unwish,q⟩
 | brk=>obtain⟨z,H',I,q⟩:=h;exact⟨z,H',I.unwish,q⟩
 | cont=>obtain⟨z,H',I,q⟩:=h;exact⟨z,H',I.unwish,q⟩
 | ret u=>obtain⟨v,z,H',I,r,q⟩:=h;exact⟨v,z,H',I.unwish,r,q⟩
theorem PSs.nox{st:List Stmt}{t:TS}(h:PSs X.nox st t):PSs X st t:=λpins s σ H D I hw=>
 IR (h pins s σ H D (I.wish _) hw) (λ_ _ q=>q.unwish) λ_ _ z=>ID z
end
section
variable{X:Cx}{st:Stmt}{xH:List Stmt}{t u:TS}{e:Expr}{te:TE}{pos:Pos}
def BW:TS:=λD σ H=>D.nx σ H
def EJ(t u:TS):TS:=λD σ H=>t {D with nx:=u D} σ H
theorem oG:PSs X [] BW:=λ_ _ σ H _ I h=>wpAny_execs_nil ⟨σ,H,I,h⟩
theorem Vu(h1:PS X st t)(h2:PSs X xH u):PSs X (st::xH) (EJ t u):=by
 intro pins s σ H D I h;refine wpAny_execs_cons<|thn (h1 pins s σ H {D with nx:=u D} I h) λf s1 q=>?_;cases f with
 | next=>
  obtain⟨z,H',O,q⟩:=q;exact h2 pins s1 z H' D O q
 | ret v=>exact q
 | brk=>exact q
 | cont=>exact q
theorem vO(h1:PS X st t):PSs X [st] t:=by
 intro pins s σ H D I h;refine wpAny_execs_cons<|thn (h1 pins s σ H D I h) λf s1 q=>?_;cases f with
 | next=>exact wpAny_execs_nil q
 | ret v=>exact q
 | brk=>exact q
 | cont=>exact q
def Cb:TS:=λD σ H=>D.ct σ H
theorem Yl:PS X (.Continue pos) Cb:=λ_ _ σ H _ I h=>wpAny_Continue ⟨σ,H,I,h⟩
theorem Inv.quiet(I:Inv X pins σ H s):interactive X.env=false:=by simp[interactive,I.ok.kind]
def BZ(te:TE):TS:=λD σ H=>te σ H λ_ H1=>D.nx σ H1
theorem bH(z:PE X e te)(O:swapsWith e none pos.line X.env=pure false:=by rfl):PS X (.Expr e pos) (BZ te):=by intro pins s σ H D I h;exact wpAny_Expr_any (thn (z pins s σ H _ I h) λv s1 ⟨x,H1,S,Y,U⟩=>⟨σ,H1,S,U⟩) I.quiet O
def BR(te:TE):TS:=λD σ H=>te σ H D.rt
theorem JH(z:PE X e te):PS X (.Return (some e) pos) (BR te):=by intro pins s σ H D I h;exact wpAny_Return_some<|thn (z pins s σ H _ I h) λv s1 ⟨x,H1,O,S,U⟩=>⟨x,σ,H1,O,S,U⟩
def Fx(c:TT)(t u:TS):TS:=λD σ H=>c σ H λb H1=>if b=true then t D σ H1 else u D σ H1
theorem Co(S:PT X c tc)(ha:PSs X a t)(U:PSs X b u):PS X (.If c a b pos) (Fx tc t u):=by
 intro pins s σ H D I h;refine wpAny_If<|thn (S pins s σ H _ I h) λd s1 Y=>?_;obtain⟨H1,z,O⟩:=Y;cases d with
 | true=>exact ha pins s1 σ H1 D z O
 | false=>exact U pins s1 σ H1 D z O
def sE:TS:=λ_ _ _=>False
theorem gQ:PS X st sE:=λ_ _ _ _ _ _ h=>h.elim
end
abbrev TG:=V->St->Hp->(St->Hp->Prop)->Prop
abbrev TGs:=List V->St->Hp->(St->Hp->Prop)->Prop
def PG(X:Cx)(I:Expr)(t:TG):Prop:=
 ∀(pins:RW) (s:Shared) (σ:St) (H:Hp) (v:V) (u:Value) (Q:St->Hp->Prop),Inv X pins σ H s->RelV v u->t v σ H Q->
  wpAny (model X.prog X.w) X.A (assign I X.env u) (λ_ s'=>∃z H',Inv X pins z H' s'/\Q z H') X.xe s
def PGs(X:Cx)(I:List Expr)(t:TGs):Prop:=
 ∀(pins:RW) (s:Shared) (σ:St) (H:Hp) (vs:List V) (us:List Value) (Q:St->Hp->Prop),Inv X pins σ H s->Vals vs us->t vs σ H Q->
  wpAny (model X.prog X.w) X.A (assignInOrder ((assignEach I X.env).map (·.2)) us) (λ_ s'=>∃z H',Inv X pins z H' s'/\Q z H') X.xe s
abbrev Fk:=V->V->V->Hp->(Hp->Prop)->Prop
def Fn(X:Cx)(t:Fk):Prop:=
 ∀(pins:RW) (s:Shared) (σ:St) (H:Hp) (o i v:V) (z I u:Value) (Q:Hp->Prop),Inv X pins σ H s->RelV o z->RelV i I->RelV v u->t o i v H Q->
  wpAny (model X.prog X.w) X.A (setItem z I u) (λ_ s'=>∃H',Inv X pins σ H' s'/\Q H') X.xe s
section
variable{X:Cx}{pos:Pos}
def ya(i:Nat):TG:=λv σ H Q=>Q (σ.set i<|some v) H
theorem bQ(z:X.N.Nodup)(hi:X.N[i]? = some x)(hx:Loc X.env.scope x)(O:X.fn x=true\/X.env.scope.names.lookup x=some .local:=by first | exact .inl rfl | exact .inr rfl | assumption):PG X (.Name x pos) (ya i):=by intro pins s σ H v u Q I r h;exact wpAny_assign_Name<|Vi I z hi hx r (λs' S=>⟨_,H,S,h⟩) O
def EU:TGs:=λvs σ H Q=>vs=[]/\Q σ H
def As(t:TG)(u:TGs):TGs:=λvs σ H Q=>∃v r,vs=v::r/\t v σ H λz H'=>u r z H' Q
theorem bP:PGs X [] EU:=by intro pins s σ H vs us Q I r h;obtain⟨e,h⟩:=h;subst e;cases r;exact assignInOrder_nil ⟨σ,H,I,h⟩
theorem yS(h1:PG X e t)(h2:PGs X es u)
 (z:(assignEach (e::es) X.env).map (·.2)=assign e X.env::(assignEach es X.env).map (·.2):=by rfl):PGs X (e::es) (As t u):=by
 intro pins s σ H vs us Q I r h;obtain⟨v,vr,e1,h⟩:=h;subst e1;cases r with
 | cons r O=>
  rw[z];refine assignInOrder_cons<|thn (h1 pins s σ H _ _ _ I r h) λ_ s1 S=>?_;obtain⟨U,H1,Y,Z⟩:=S;exact h2 pins s1 U H1 _ _ Q Y O Z
def ET(K:FY)(n:Nat)(t:TGs):TG:=λv σ H Q=>∃a xs,v = .ref a/\SqT K H a xs/\xs.length=n/\t xs σ H Q
theorem uu(O:X.calm=true)(h:PGs X es t)
 (hn:(assignEach es X.env).length=n:=by rfl) (S:(assignEach es X.env).findIdx? (·.1)=none:=by rfl):PG X (.Tuple es k pos) (ET X.K n t):=by
 intro pins s σ H v u Q I r hw;obtain⟨a,xs,e1,U,Y,hw⟩:=hw;subst e1;cases r;obtain⟨a1,z,Z,hz⟩:=I.tuple U;refine assign_Tuple_tuple (I.ok.hd O) Z (by simp[hn,<- Y,z.length]) S λh' hx=>?_;have I1:Inv X pins σ H {s with heap:=h'}:=I.kept (t':=s.toks) λb o e=>hx b o (Hb<|GE e) e;exact h pins _ σ H xs _ Q I1 (by simpa using z) hw
def FP(to z:TE)(t:Fk):TG:=λv σ H Q=>to σ H λo H1=>z σ H1 λi H2=>t o i v H2 λI=>Q σ I
theorem Vx(U:PE X o to)(hi:PE X i ti)(Y:Fn X t)
 (ha : ∀v,assign (.Subscript o i pos) X.env v=(do
   let z <- holding [v] (eval o X.env);let O <- holding [v,z] (eval i X.env)
   standAt pos
   holding [v,z,O] (setItem z O v)
   release [v,z,O] []):=by intro _;rfl):PG X (.Subscript o i pos) (FP to ti t):=by
 intro pins s σ H v u Q I r h;rw[ha];refine FZ<|HH<|thn (U pins s σ H _ I h) λz s1 S=>?_;obtain⟨x,H1,Z,r1,q1⟩:=S;refine FZ<|HH<|thn (hi pins s1 σ H1 _ Z q1) λO s2 S=>?_;obtain⟨y,H2,I2,r2,q2⟩:=S;refine FZ<|NY<|FZ<|HH<|thn (Y pins s2 σ H2 x y v z O u _ I2 r1 r2 r q2) λ_ s3 S=>?_;obtain⟨H3,I3,q3⟩:=S;exact wpAny_release ⟨σ,H3,I3,q3⟩
def Wf(te:TE)(g:TG):TS:=λD σ H=>te σ H λx H1=>g x σ H1 D.nx
theorem JI(z:PE X e te)(O:PG X tg g)(S:swapsWithSole [tg] e pos.line X.env=pure false:=by rfl)(hw:swappedStores [tg] e X.env=pure none:=by rfl)
 (h1:(assignEach [tg] X.env).map (·.2)=[assign tg X.env]:=by rfl):PS X (.Assign [tg] e pos) (Wf te g):=by
 intro pins s σ H D I h;refine wpAny_Assign_stores (thn (z pins s σ H _ I h) λv s1 U=>?_) S hw;obtain⟨x,H1,Y,Z,q1⟩:=U;rw[h1];exact thn (O pins s1 σ H1 x v _ Y Z q1) λ_ s2 q=>q
theorem uj(z:X.N.Nodup)(hi:X.N[i]? = some x)(hx:Loc X.env.scope x)(O:PE X e te)(S:swapsWith e (some (.Name x pos')) pos.line X.env=pure false:=by rfl)(U:X.fn x=true\/X.env.scope.names.lookup x=some .local:=by first | exact .inl rfl | exact .inr rfl | assumption) :
 PS X (.Assign [.Name x pos'] e pos) (Wf te<|ya i):=by
 intro pins s σ H D I h;refine wpAny_Assign_Name (thn (O pins s σ H _ I h) λv s1 Y=>?_) S;obtain⟨y,H1,Z,r1,q1⟩:=Y;exact Vi Z z hi hx r1 (λs2 I2=>⟨_,H1,I2,q1⟩) U
end
structure It where
 go:Nat->Hp->Prop
 yld:Nat->Hp->V->Hp->Prop
 stop:Nat->Hp->Prop
def FpOk(X:Cx)(pins:RW)(H:Hp)(b:Addr):Prop:=
 H b=none/\b≠X.env.locals/\b∉X.fs/\(b∈X.ex\/X.s₀.heap.objs.size<=b)/\(∀x c,X.env.cells.lookup x=some c->c≠b)/\∀p∈X.pn++pins,p.1≠b
theorem Inv.fpOk(I:Inv X pins σ H s)(O:s.heap.objs.size<=b)(hn:H' b=none):FpOk X pins H' b:=by
 refine⟨hn,II<|GK I.lt O,I.nofs O,.inr<|HE I.sz O,λx c e z=>?_,λp S z=>?_⟩
 ·obtain⟨v,q⟩:=I.cell x c e
  exact absurd (GK q.lt<|by rw[z];exact O)<|Hn _
 ·exact absurd (GK (GE (I.pin p S).1)<|by rw[z];exact O)<|Hn _
structure Turn(P:Program)(w:World)(K:FY)(tg:Expr)(J:It)(fp:List Addr)(it:Addr)(tn:Nat->Heap->Prop):Prop where
 mem:it∈fp
 obj : ∀i h,tn i h->∀b∈fp,∃o,h.get? b=some o/\∀v,o.data ≠ .cell v
 keep : ∀i h h',tn i h->(∀b∈fp,∀o,h.get? b=some o->h'.get? b=some o)->tn i h'
 item : ∀(X:Cx),X.prog=P->X.w=w->X.K=K->X.calm=true->∀(i:Nat) (pins:RW) (s:Shared) (σ:St) (H:Hp) (E:RQ),Inv X pins σ H s->(∀b∈fp,FpOk X pins H b)->tn i s.heap->J.go i H->
  wpAny (model P w) X.A (pyNext<|.ref it) (λr s1=>∃u,r=some u/\
   wpAny (model P w) X.A (letOwnedTupleGo tg (.ref it) u) (λ_ s2=>∃x H',Inv X pins σ H' s2/\RelV x u/\J.yld i H x H'/\tn (i+1) s2.heap/\∀b∈fp,H' b=none) E s1) E s
 done : ∀(X:Cx),X.prog=P->X.w=w->X.K=K->X.calm=true->∀(i:Nat) (pins:RW) (s:Shared) (σ:St) (H:Hp) (E:RQ),Inv X pins σ H s->(∀b∈fp,FpOk X pins H b)->tn i s.heap->J.stop i H->
  wpAny (model P w) X.A (pyNext<|.ref it) (λr s1=>r=none/\Inv X pins σ H s1) E s
 self : ∀(A:Around) (i:Nat) (s:Shared) (Q:RQ) (E:RQ),tn i s.heap->Q (.ref it) s->wpAny (model P w) A (pyIter<|.ref it) Q E s
abbrev TI:=St->Hp->(It->Hp->Prop)->Prop
def PIE(X:Cx)(pins:RW)(σ:St)(tg:Expr)(R:It->Hp->Prop)(z:Value)(s2:Shared):Prop:=
 ∃(it:Addr) (fp:List Addr) (tn:Nat->Heap->Prop) (J:It) (H':Hp),z = .ref it/\Inv X pins σ H' s2/\Turn X.prog X.w X.K tg J fp it tn/\tn 0 s2.heap/\(∀b∈fp,FpOk X pins H' b)/\R J H'
def PI(X:Cx)(tg iter:Expr)(wi:TI):Prop:=
 ∀(pins:RW) (s:Shared) (σ:St) (H:Hp) (R:It->Hp->Prop),Inv X pins σ H s->wi σ H R->
  wpAny (model X.prog X.w) X.A (eval iter X.env) (λv s1=>wpAny (model X.prog X.w) X.A (pyIter v) (PIE X pins σ tg R) X.xe s1) X.xe s
theorem pP(I:s.heap.get? it=some o)(O:o.cls = .type n)(hd:o.data = .fields vs)
 (hn:["enumerate","zip","dict_itemiterator","dict_reverseitemiterator","odict_iterator","itertools.zip_longest","itertools.pairwise"].contains n=false) (z:Q () s):wpAny M A (letOwnedTupleGo tg (.ref it) u) Q E s:=by
 unfold letOwnedTupleGo;cases tg<;>first
  | exact Gf z
  | (cases u<;>first
      | exact Gf z
      | (refine FZ (wpAny_load I ?_)
         rw[O,hd];show wpAny M A (if (["enumerate","zip","dict_itemiterator","dict_reverseitemiterator","odict_iterator","itertools.zip_longest","itertools.pairwise"].contains n && vs[0]? == some (rawInt _))=true then _ else _) Q E s;rw[EQ (by intro h;rw[hn,Bool.false_and]at h;cases h)];exact Gf z))
def Itl(K:FY)(a:Addr):It:=
 ⟨λi H=>∃xs x,SqL K H a xs/\xs[i]? = some x,λi H x H'=>H'=H/\∀xs,SqL K H a xs->xs[i]? = some x,λi H=>∃xs,SqL K H a xs/\xs.length<=i⟩
def Itt(K:FY)(a:Addr):It:=
 ⟨λi H=>∃xs x,SqT K H a xs/\xs[i]? = some x,λi H x H'=>H'=H/\∀xs,SqT K H a xs->xs[i]? = some x,λi H=>∃xs,SqT K H a xs/\xs.length<=i⟩
def Itr(lo:Int)(n:Nat):It:=⟨λi _=>i<n,λi H x H'=>H'=H/\x = .int (lo+i),λi _=>n<=i⟩
theorem aB{P:Program}{w:World}{K:FY}{tg:Expr}(a it:Addr):Turn P w K tg (Itl K a) [it] it (λi h=>h.IsListIter it a i) where
 mem:=by simp
 obj:=λi h st b O=>by
  have e:b=it:=by simpa using O
  subst e;obtain⟨o,e,c,d⟩:=st;exact⟨o,e,λv z=>by rw[d]at z;cases z⟩
 keep:=λi h h' st k=>st.at λo e=>k it ⋯ o e
 item:=by intro X Y hw Z hc i pins s σ H E I S st hg;subst Y hw Z;obtain⟨xs,x,U,hx⟩:=hg;obtain⟨a9,rv,p,hz⟩:=I.list U;obtain⟨u,hu,ru⟩:=rv.get hx;obtain⟨f0,f1,f2,f3,f4,f5⟩:=S it ⋯;refine Nq st p.isList (x:=u) (by simpa using hu) λh' a8 sb=>?_;have I1:Inv X pins σ H {s with heap:=h'}:=I.turned (t':=s.toks) (λb o O e=>(sb.2 b O).trans e) f0 f1 f3 f4 f5;obtain⟨o,e,c,d⟩:=id a8;exact⟨u,rfl,pP (s:={s with heap:=h'}) e c d ⋯ ⟨x,H,I1,ru,⟨rfl,λys hy=>by rw[I.list_inj hy U];exact hx⟩,a8,λb O=>(S b O).1⟩⟩
 done:=by intro X Y hw Z hc i pins s σ H E I S st hg;subst Y hw Z;obtain⟨xs,U,hx⟩:=hg;obtain⟨a9,rv,p,hz⟩:=I.list U;obtain⟨f0,f1,f2,f3,f4,f5⟩:=S it ⋯;have hl:=rv.length;exact NB (I.ok.hd hc) st p.isList (by simp;omega) λh' eb=>⟨rfl,I.turned (t':=s.toks) (λb o O e=>eb b o O e) f0 f1 f3 f4 f5⟩
 self:=λ_ _ _ _ _ st h=>wpAny_pyIter_listiter st h
theorem Wc{P:Program}{w:World}{K:FY}{tg:Expr}(a it:Addr):Turn P w K tg (Itt K a) [it] it (λi h=>h.IsTupleIter it a i) where
 mem:=by simp
 obj:=λi h st b O=>by
  have e:b=it:=by simpa using O
  subst e;obtain⟨o,e,c,d⟩:=st;exact⟨o,e,λv z=>by rw[d]at z;cases z⟩
 keep:=λi h h' st k=>st.at λo e=>k it ⋯ o e
 item:=by intro X Y hw Z hc i pins s σ H E I S st hg;subst Y hw Z;obtain⟨xs,x,U,hx⟩:=hg;obtain⟨a1,rv,p,hz⟩:=I.tuple U;obtain⟨u,hu,ru⟩:=rv.get hx;obtain⟨f0,f1,f2,f3,f4,f5⟩:=S it ⋯;refine wpAny_pyNext_tuple_item st (show s.heap.IsTuple a a1.toArray from p) (x:=u) (by simpa using hu) λh' a9 sb=>?_;have I1:Inv X pins σ H {s with heap:=h'}:=I.turned (t':=s.toks) (λb o O e=>(sb.2 b O).trans e) f0 f1 f3 f4 f5;obtain⟨o,e,c,d⟩:=id a9;exact⟨u,rfl,pP (s:={s with heap:=h'}) e c d ⋯ ⟨x,H,I1,ru,⟨rfl,λys hy=>by rw[I.tuple_inj hy U];exact hx⟩,a9,λb O=>(S b O).1⟩⟩
 done:=by intro X Y hw Z hc i pins s σ H E I S st hg;subst Y hw Z;obtain⟨xs,U,hx⟩:=hg;obtain⟨a1,rv,p,hz⟩:=I.tuple U;obtain⟨f0,f1,f2,f3,f4,f5⟩:=S it ⋯;have hl:=rv.length;exact wpAny_pyNext_tuple_end (I.ok.hd hc) st (show s.heap.IsTuple a a1.toArray from p) (by simp;omega) λh' eb=>⟨rfl,I.turned (t':=s.toks) (λb o O e=>eb b o O e) f0 f1 f3 f4 f5⟩
 self:=λ_ _ _ _ _ st h=>wpAny_pyIter_tupleiter st h
theorem Wd{P:Program}{w:World}{K:FY}{tg:Expr}(it:Addr)(lo:Int)(n:Nat):Turn P w K tg (Itr lo n) [it] it (λi h=>IsRangeIter h it (lo+(i:Nat)*1) ((n:Int) - (i:Nat)) 1) where
 mem:=by simp
 obj:=λi h st b O=>by
  have e:b=it:=by simpa using O
  subst e;exact⟨_,st,λv z=>by have z':Data.fields _=Data.cell v:=z;cases z'⟩
 keep:=λi h h' st k=>k it ⋯ _ st
 item:=by intro X U hw Y Z i pins s σ H E I S st hg;subst U hw Y;obtain⟨f0,f1,f2,f3,f4,f5⟩:=S it ⋯;have W:=Walks.range (prog:=X.prog) (w:=X.w) (I.ok.hd Z) it lo 1 n;refine W.item i s _ _ hg st λv h' tk hv a6 kk=>?_;obtain⟨t,rfl⟩:=hv;have I1:Inv X pins σ H {s with heap:=h',toks:=tk}:=I.turned (λb o O e=>kk b o (by simpa using O) e) f0 f1 f3 f4 f5;refine⟨_,rfl,pP (s:={s with heap:=h',toks:=tk}) (n:="range_iterator") a6 rfl rfl ⋯ ⟨.int (lo+i),H,I1,⟨t,?_⟩,⟨rfl,rfl⟩,a6,λb O=>(S b O).1⟩⟩;rw[NH]
 done:=by intro X U hw Y Z i pins s σ H E I S st hg;subst U hw Y;obtain⟨f0,f1,f2,f3,f4,f5⟩:=S it ⋯;exact wpAny_pyNext_range_end (I.ok.hd Z) st (by have:n<=i:=hg;omega) λh' eb=>⟨rfl,I.turned (t':=s.toks) (λb o O e=>eb b o O e) f0 f1 f3 f4 f5⟩
 self:=λ_ _ _ _ _ st h=>wpAny_pyIter_rangeiter st h
section
variable{X:Cx}{tg:Expr}
theorem Vp{pins:RW}{σ:St}{H:Hp}{s:Shared}{R:It->Hp->Prop}{E:RQ}{lo hi:Int}{t u v:Tok}{tk:Nat}(I:Inv X pins σ H s)(h1 : -(2 ^ 62)<=lo)(h2:lo<2 ^ 62)(O : -(2 ^ 62)<=hi)(S:hi<2 ^ 62)
 (q:R (Itr lo (hi - lo).toNat) H):wpAny (model X.prog X.w) X.A (pyIter (.ref s.heap.objs.size)) (PIE X pins σ tg R) E {s with heap:=s.heap.push {cls:= .type "range",data:= .fields #[.int lo t,.int hi u,.int 1 v]},toks:=tk}:=by
 refine wpAny_pyIter_range (IsRange.new ..) (small_one h1 h2 O S) ?_;have z:Inv X pins σ H {s with heap:=s.heap.push {cls:= .type "range",data:= .fields #[.int lo t,.int hi u,.int 1 v]},toks:=tk}:=I.kept λb o e=>Gb _ e;refine⟨(s.heap.push {cls:= .type "range",data:= .fields #[.int lo t,.int hi u,.int 1 v]}).objs.size,[(s.heap.push {cls:= .type "range",data:= .fields #[.int lo t,.int hi u,.int 1 v]}).objs.size],_,_,H,rfl,
  z.kept (t':=tk) λb o e=>Gb _ e,Wd _ lo (hi - lo).toNat,?_,λb U=>?_,q⟩
 ·have e1:lo+((0:Nat):Int)*1=lo:=by simp
  have Y:(((hi - lo).toNat:Nat):Int) - ((0:Nat):Int)=Builtin.Range.rangeSize lo hi 1:=by rw[rangeSize_one];split<;>omega
  show IsRangeIter _ _ (lo+((0:Nat):Int)*1) ((((hi - lo).toNat:Nat):Int) - ((0:Nat):Int)) 1;rw[e1,Y];exact Gv _ rfl
 ·have e:b=(s.heap.push {cls:= .type "range",data:= .fields #[.int lo t,.int hi u,.int 1 v]}).objs.size:=by simpa using U
  subst e;exact z.fpOk (Gh _)<|z.hok.fresh<|Gh _
def CP(ta:TA):TI:=λσ H R=>ta σ H λvs H1=>∃j:Int,vs=[.int j]/\ -(2 ^ 62)<=j/\j<2 ^ 62/\R (Itr 0 j.toNat) H1
def CN(ta:TA):TI:=λσ H R=>ta σ H λvs H1=>∃i j:Int,vs=[.int i,.int j]/\(-(2 ^ 62)<=i/\i<2 ^ 62/\ -(2 ^ 62)<=j/\j<2 ^ 62)/\R (Itr i (j - i).toNat) H1
theorem bO{a:Expr}{ta:TA}{p pos:Pos}(O:Gl X "range")(hm:X.mg "range" = none)(ha:PA X [a] ta)(S:starEach [a] X.env=[(false,eval a X.env)]:=by rfl):PI X tg (.Call (.Name "range" p) [a] [] pos) (CP ta):=by
 intro pins s σ H R I h;refine Call_<|xP I O hm boot_range<|Hw (thn (ha pos pins s σ H _ I h) λus s1 U=>?_) S rfl;obtain⟨vs,H1,Y,Z,z⟩:=U;obtain⟨j,e,z,q2,q⟩:=z;subst e;cases Z with
 | cons r rr=>
  cases rr;obtain⟨t,rfl⟩:=r;exact call_range_1 (Vp Y ⋯ ⋯ z q2<|by simpa using q)
theorem bN(U:Gl X "range")(hm:X.mg "range" = none)(ha:PA X [a,b] ta)(Y:starEach [a,b] X.env=[(false,eval a X.env),(false,eval b X.env)]:=by rfl)(S:starEach [b] X.env=[(false,eval b X.env)]:=by rfl) :
 PI X tg (.Call (.Name "range" p) [a,b] [] pos) (CN ta):=by
 intro pins s σ H R I h;refine Call_ (xP I U hm boot_range<|Hw (thn (ha pos pins s σ H _ I h) λus s1 Z=>?_) (by rw[Y,S])<|by rw[S];rfl);obtain⟨vs,H1,I1,r1,z⟩:=Z;obtain⟨i,j,e,⟨z,q2,q3,q4⟩,q⟩:=z;subst e;cases r1 with
 | cons r O=>
  cases O with
  | cons r' O=>
   cases O;obtain⟨t,rfl⟩:=r;obtain⟨t',rfl⟩:=r';exact call_range_2<|Vp I1 z q2 q3 q4 q
def Fy(wi:TI)(g:TG)(tb:TS):TS:=λD σ H=>wi σ H λJ H1=>∃W:Nat->Nat->St->Hp->Prop,(∃m,W 0 m σ H1)/\∀i m σ H,W i m σ H->
 (J.stop i H/\D.nx σ H)\/(J.go i H/\∃N:St->Hp->Prop,(∀z H',N z H'->∃m',m'<m/\W (i+1) m' z H')/\∀x H',J.yld i H x H'->g x σ H' λI H2=>tb {D with nx:=N,ct:=N,bk:=D.nx} I H2)
def X8(fp:List Addr)(h:Heap):List (Addr×Obj):=fp.filterMap λb=>(h.get? b).map λo=>(b,o)
theorem yn(z:b∈fp)(e:h.get? b=some o):(b,o)∈X8 fp h:=List.mem_filterMap.mpr ⟨b,z,by rw[e];rfl⟩
theorem cg(z:p∈X8 fp h):p.1∈fp/\h.get? p.1=some p.2:=by
 obtain⟨b,I,e⟩:=List.mem_filterMap.mp z;cases q:h.get? b with
 | none=>rw[q]at e;cases e
 | some o=>
  rw[q]at e;have O:(b,o)=p:=Hy e;subst O;exact⟨I,q⟩
theorem Inv.pinned(I:Inv X pins σ H s)(U : ∀b∈fp,FpOk X pins H b)(Y : ∀b∈fp,∃o,s.heap.get? b=some o/\∀v,o.data ≠ .cell v):Inv X (pins++X8 fp s.heap) σ H s:=
 I.pins_of λp Z=>(Li.mp Z).elim (λz=>I.pin p<|GF _ z) λz=>by obtain⟨O,e⟩:=cg z;obtain⟨f0,f1,f2,_⟩:=U p.1 O;obtain⟨o,S,d⟩:=Y p.1 O;rw[e]at S;cases S;exact⟨e,f0,f1,f2,d⟩
theorem Inv.unpinned(I:Inv X (pins++pl) σ H s):Inv X pins σ H s:=I.pins_of λp z=>I.pin p<|GF _<|Np _ z
theorem mx(hp:PassesOwn (model X.prog X.w) X.A X.env X.xe)(hc:X.calm=true)(hi:PI X tg iter wi)(hg:PG X tg g)(z:PSs X body tb)
 (hs : ∀x,foldedSetIterable iter X.env x=pure x:=by intro _;rfl):PS X (.For tg iter body [] pos) (Fy wi g tb):=by
 intro pins s σ H D I h;refine wpAny_For (thn (hi pins s σ H _ I h) λv s1 h1=>thn h1 λc8 s2 h2=>?_) hs;obtain⟨it,fp,tn,J,H2,e,I2,T,b0,f2,W,⟨m0,w0⟩,bd⟩:=h2;subst e;have a5 : ∀{H':Hp},(∀b∈fp,H' b=none)->∀b∈fp,FpOk X pins H' b:=λhn b z=>⟨hn b z,(f2 b z).2⟩;refine codeAny_forLoop_any (λn s'=>∃i σ' H',Inv X pins σ' H' s'/\tn i s'.heap/\(∀b∈fp,H' b=none)/\W i n σ' H') ?_ m0 ⟨0,σ,H2,I2,b0,λb z=>(f2 b z).1,w0⟩;rintro n s3 ⟨i,σ3,H3,I3,st3,am,w3⟩;rcases bd i n σ3 H3 w3 with⟨stop,qn⟩ | ⟨go,N,hN,step⟩
 ·refine MD hp (thn (T.done X rfl rfl rfl hc i pins s3 σ3 H3 X.xe I3 (a5 am) st3 stop) λr s4 Z=>?_)
  obtain⟨hr,I4⟩:=Z;subst hr;exact wpAny_execs_nil ⟨σ3,H3,I4,qn⟩
 ·refine MD hp (thn (T.item X rfl rfl rfl hc i pins s3 σ3 H3 X.xe I3 (a5 am) st3 go) λr s4 Z=>?_)
  obtain⟨u,hr,h4⟩:=Z;subst hr;refine MD hp<|thn h4 λ_ s5 Z=>?_;obtain⟨x,H5,I5,r5,y5,a7,bx⟩:=Z;have c0:=I5.pinned (a5 bx)<|T.obj _ _ a7;refine MD hp<|thn (hg _ s5 σ3 H5 x u _ c0 r5<|step x H5 y5) λ_ s6 Z=>?_;obtain⟨σ6,H6,I6,q6⟩:=Z;refine MD hp<|thn (z _ s6 σ6 H6 _ I6 q6) λf s7 Y=>?_;have again : ∀{O:St} {S:Hp},Inv X (pins++X8 fp s5.heap) O S s7->N O S->∃m,m<n/\∃i σ' H',Inv X pins σ' H' s7/\tn i s7.heap/\(∀b∈fp,H' b=none)/\W i m σ' H':=λ{O S} U n7=>by obtain⟨m',hm,w7⟩:=hN O S n7;refine⟨m',hm,i+1,O,S,U.unpinned,T.keep _ _ _ a7 λb z o e=>(U.pin (b,o)<|GF _<|GF _<|yn z e).1,λb z=>?_,w7⟩;obtain⟨o,e,d⟩:=T.obj _ _ a7 b z;exact(U.pin (b,o)<|GF _<|GF _<|yn z e).2.1
  cases f with
  | next=>obtain⟨O,S,U,n7⟩:=Y;exact again U n7
  | cont=>obtain⟨O,S,U,n7⟩:=Y;exact again U n7
  | brk=>obtain⟨O,S,U,Y⟩:=Y;exact⟨O,S,U.unpinned,Y⟩
  | ret v=>obtain⟨x7,O,S,U,r7,Y⟩:=Y;exact⟨x7,O,S,U.unpinned,r7,Y⟩
end
theorem KM{lo:Int}{n:Nat}{g:TG}{tb:TS}{D:Ends}{σ:St}{H:Hp}(z:Nat->St->Hp->Prop)(U:z 0 σ H)
 (Y : ∀i σ H,i<n->z i σ H->g (.int<|lo+i) σ H λI H2=>tb {D with nx:=z<|i+1,ct:=z<|i+1,bk:=D.nx} I H2) (hd : ∀σ H,z n σ H->D.nx σ H) :
 ∃W:Nat->Nat->St->Hp->Prop,(∃m,W 0 m σ H)/\∀i m σ H,W i m σ H->
  ((Itr lo n).stop i H/\D.nx σ H)\/((Itr lo n).go i H/\∃N:St->Hp->Prop,(∀O H',N O H'->∃m',m'<m/\W (i+1) m' O H')/\∀x H',(Itr lo n).yld i H x H'->g x σ H' λI H2=>tb {D with nx:=N,ct:=N,bk:=D.nx} I H2):=by
 refine⟨λi m σ H=>m=n - i/\i<=n/\z i σ H,⟨n,by simp,HN _,U⟩,?_⟩;rintro i m σ H ⟨rfl,hi,p⟩;by_cases S:i<n
 ·refine .inr ⟨S,z<|i+1,λO H' Z=>⟨n - (i+1),by omega,rfl,S,Z⟩,λx H' y=>?_⟩
  obtain⟨e,y⟩:=y;subst e y;exact Y i σ _ S p
 ·have e:i=n:=by omega
  subst e;exact .inl ⟨Gh _,hd σ H p⟩
abbrev R2:=V->V->Hp->VK->Prop
def OpR(X:Cx)(f:Value->Value->Sem Value)(r:R2):Prop:=
 ∀(pins:RW) (s:Shared) (σ:St) (H:Hp) (x y:V) (v u:Value) (Q:VK),Inv X pins σ H s->RelV x v->RelV y u->r x y H Q->
  wpAny (model X.prog X.w) X.A (f v u) (EP X pins σ Q) X.xe s
def UnR(X:Cx)(f:Value->Sem Value)(r:V->Hp->VK->Prop):Prop:=
 ∀(pins:RW) (s:Shared) (σ:St) (H:Hp) (x:V) (v:Value) (Q:VK),Inv X pins σ H s->RelV x v->r x H Q->
  wpAny (model X.prog X.w) X.A (f v) (EP X pins σ Q) X.xe s
def Jt(X:Cx)(f:Value)(r:List V->Hp->VK->Prop):Prop:=
 ∀(pins:RW) (s:Shared) (σ:St) (H:Hp) (xs:List V) (us:List Value) (Q:VK),Inv X pins σ H s->Vals xs us->r xs H Q->
  wpAny (model X.prog X.w) X.A (call f us) (EP X pins σ Q) X.xe s
def FV(X:Cx)(r:V->Hp->(Bool->Hp->Prop)->Prop):Prop:=
 ∀(pins:RW) (s:Shared) (σ:St) (H:Hp) (x:V) (v:Value) (Q:Bool->Hp->Prop),Inv X pins σ H s->RelV x v->r x H Q->
  wpAny (model X.prog X.w) X.A (truthy v) (TP X pins σ Q) X.xe s
def tOp(r:R2)(ta tb:TE):TE:=λσ H Q=>ta σ H λx H1=>tb σ H1 λy H2=>r x y H2 Q
def tUn(r:V->Hp->VK->Prop)(ta:TE):TE:=λσ H Q=>ta σ H λx H1=>r x H1 Q
def rI(C:Int->Int->Prop)(g:Int->Int->V):R2:=λx y H Q=>∃i j,x = .int i/\y = .int j/\C i j/\Q (g i j) H
def rI0(g:Int->Int->V):R2:=λx y H Q=>∃i j,x = .int i/\y = .int j/\Q (g i j) H
def rU(g:Int->V):V->Hp->VK->Prop:=λx H Q=>∃i,x = .int i/\Q (g i) H
section
variable{X:Cx}{a b c:Expr}{ta tb tc:TE}{pos:Pos}
theorem Ei(ha:PE X a ta)(O:PE X b tb){pins:RW}{s:Shared}{σ:St}{H:Hp}{R:V->V->Hp->Prop}(I:Inv X pins σ H s)
 (h:ta σ H λx H1=>tb σ H1 λy H2=>R x y H2) {Q:RQ} {f:Value->Value->Sem Value}
 (S : ∀v u s2 x y H2,Inv X pins σ H2 s2->RelV x v->RelV y u->R x y H2->wpAny (model X.prog X.w) X.A (f v u) Q X.xe s2) :
 wpAny (model X.prog X.w) X.A (eval a X.env) (λv U=>wpAny (model X.prog X.w) X.A (eval b X.env) (λu Y=>wpAny (model X.prog X.w) X.A (f v u) Q X.xe Y) X.xe U) X.xe s:=by
 refine thn (ha pins s σ H _ I h) λv s1 z=>?_;obtain⟨x,H1,Z,r1,q1⟩:=z;refine thn (O pins s1 σ H1 _ Z q1) λu s2 z=>?_;obtain⟨y,H2,I2,r2,q2⟩:=z;exact S v u s2 x y H2 I2 r1 r2 q2
theorem oV{z:Operator}{r:R2}(O:OpR X (binaryOp z) r)(ha:PE X a ta)(S:PE X b tb):PE X (.BinOp a z b pos) (tOp r ta tb):=by intro pins s σ H Q I h;exact wpAny_BinOp<|Ei ha S I h λv u s2 x y H2 U Y Z q=>O pins s2 σ H2 x y v u Q U Y Z q
theorem Cq(z:UnR X (unaryOp op) r)(ha:PE X a ta):PE X (.UnaryOp op a pos) (tUn r ta):=by intro pins s σ H Q I h;exact UnaryOp_<|thn (ha pins s σ H _ I h) λv s1 ⟨x,H1,O,S,U⟩=>z pins s1 σ H1 x v Q O S U
theorem opI{f:Value->Value->Sem Value}{C:Int->Int->Prop}{g:Int->Int->Int}
 (rule : ∀(i j:Int) (t u:Tok) (s:Shared) (Q:RQ) (E:RQ),C i j->Q (.int (g i j) s.toks) {s with toks:=s.toks+1}->wpAny (model X.prog X.w) X.A (f (.int i t)<|.int j u) Q E s) :
 OpR X f (rI C λi j=> .int (g i j)):=by
 intro pins s σ H x y v u Q I z O h;obtain⟨i,j,rfl,rfl,S,q⟩:=h;obtain⟨t,rfl⟩:=z;obtain⟨t',rfl⟩:=O;exact rule i j t t' s _ _ S ⟨.int<|g i j,H,I.tok _,⟨_,rfl⟩,q⟩
theorem ES{f:Value->Value->Sem Value}{g:Int->Int->Int}
 (rule : ∀(i j:Int) (t u:Tok) (s:Shared) (Q:RQ) (E:RQ),Q (.int (g i j) s.toks) {s with toks:=s.toks+1}->wpAny (model X.prog X.w) X.A (f (.int i t)<|.int j u) Q E s) :
 OpR X f (rI0 λi j=> .int (g i j)):=by
 intro pins s σ H x y v u Q I z O h;obtain⟨i,j,rfl,rfl,q⟩:=h;obtain⟨t,rfl⟩:=z;obtain⟨t',rfl⟩:=O;exact rule i j t t' s _ _ ⟨.int<|g i j,H,I.tok _,⟨_,rfl⟩,q⟩
theorem Cy{f:Value->Value->Sem Value}{g:Int->Int->Bool}
 (rule : ∀(i j:Int) (t u:Tok) (s:Shared) (Q:RQ) (E:RQ),Q (.bool<|g i j) s->wpAny (model X.prog X.w) X.A (f (.int i t)<|.int j u) Q E s) :
 OpR X f (rI0 λi j=> .bl (g i j)):=by
 intro pins s σ H x y v u Q I z O h;obtain⟨i,j,rfl,rfl,q⟩:=h;obtain⟨t,rfl⟩:=z;obtain⟨t',rfl⟩:=O;exact rule i j t t' s _ _ ⟨.bl<|g i j,H,I,rfl,q⟩
def Fp(i j:Int):Prop:=0<j/\j<1073741824
def Fo(i j:Int):Prop:=0<=j/\j<=1000000/\i.natAbs<2 ^ 64
def CMul(i j:Int):Prop:=(-(2 ^ 64)<i/\i<2 ^ 64)\/(-(2 ^ 64)<j/\j<2 ^ 64)
theorem CMul.ok(h:CMul i j):IntMulOk i j:=by
 rcases h with⟨h1,h2⟩ | ⟨h1,h2⟩
 ·exact .of_left<|intBits_le_64 h1 h2
 ·exact .of_right<|intBits_le_64 h1 h2
theorem op_add:OpR X (binaryOp .Add) (rI0 λi j=> .int (i+j)):=ES λ_ _ _ _ _ _ _ q=>add_int q
theorem uH:OpR X (binaryOp .Sub) (rI0 λi j=> .int (i - j)):=ES λ_ _ _ _ _ _ _ q=>sub_int q
theorem op_mul:OpR X (binaryOp .Mult) (rI CMul λi j=> .int (i*j)):=opI λ_ _ _ _ _ _ _ z q=>mul_int q z.ok
theorem pf:OpR X (binaryOp .FloorDiv) (rI Fp λi j=> .int (i/j)):=opI λi j _ _ _ _ _ z q=>by have h1:(0:Int)<j:=z.1;have h2:j<1073741824:=z.2;exact floordiv_int ⋯ (by rw[Int.fdiv_eq_ediv_of_nonneg i ⋯];exact q)<|.inl<|PyProof.noPylong_small ⋯
theorem uO:OpR X (binaryOp .Mod) (rI (λ_ j=>0<j) λi j=> .int (i%j)):=opI λi j _ _ _ _ _ z q=>by have h1:(0:Int)<j:=z;exact mod_int' ⋯ (by rw[Int.fmod_eq_emod_of_nonneg i ⋯];exact q)
theorem uK:OpR X (binaryOp .Pow) (rI Fo λi j=> .int (i ^ j.toNat)):=opI λ_ _ _ _ _ _ _ z q=>pow_int_small z.1 z.2.1 z.2.2 q
theorem unI{f:Value->Sem Value}{g:Int->Int}
 (rule : ∀(i:Int) (t:Tok) (s:Shared) (Q:RQ) (E:RQ),Q (.int (g i) s.toks) {s with toks:=s.toks+1}->wpAny (model X.prog X.w) X.A (f<|.int i t) Q E s) :
 UnR X f (rU λi=> .int (g i)):=by
 intro pins s σ H x v Q I z h;obtain⟨i,rfl,q⟩:=h;obtain⟨t,rfl⟩:=z;exact rule i t s _ _ ⟨.int<|g i,H,I.tok _,⟨_,rfl⟩,q⟩
theorem sk:UnR X (unaryOp .USub) (rU λi=> .int (-i)):=unI λ_ _ _ _ _ q=>neg_int q
end
def FB:V->V->Bool
 | .non,.non=>true | .non,.int _=>true | .int _,.non=>true | .non,.bl _=>true | .bl _,.non=>true | .non,.str _=>true | .str _,.non=>true
 | .int _,.int _=>true | .bl _,.bl _=>true | .str _,.str _=>true | .byt _,.byt _=>true
 | .int _,.str _=>true | .str _,.int _=>true | .bl _,.str _=>true | .str _,.bl _=>true
 | _,_=>false
def rEq:R2:=λx y H Q=>FB x y=true/\Q (.bl<|decide<|x=y) H
theorem rq:decide (V.int i=V.int j)=(i==j):=by rw[IY];simp
theorem AB:decide (V.bl i=V.bl j)=(i==j):=by rw[IY];simp
theorem rk:decide (V.str i=V.str j)=(i==j):=by rw[IY];simp
theorem rz:decide (V.byt i=V.byt j)=(i.toList==j.toList):=by rw[IY];cases i;cases j;simp
section
variable{X:Cx}{a b c:Expr}{ta tb tc:TE}{pos:Pos}
theorem xh(I:Inv X pins σ H s)(q:Q (.bl k) H)(e:k=k'):EP X pins σ Q (.bool k') s:=by subst e;exact⟨.bl k,H,I,rfl,q⟩
theorem Cw:OpR X (compareOp .Eq) rEq:=by
 intro pins s σ H x y v u Q I S z h;obtain⟨O,q⟩:=h;cases x with
 | non=>
  cases S;cases y with
  | non=>cases z;exact PySem.EqNone.eq_none_none<|xh I q ⋯
  | bl j=>cases z;exact PySem.EqNone.eq_none_bool<|xh I q ⋯
  | int j=>obtain⟨t',rfl⟩:=z;exact PySem.EqNone.eq_none_int<|xh I q ⋯
  | str j=>obtain⟨t',rfl⟩:=z;exact PySem.EqNone.eq_none_str<|xh I q ⋯
  | _=>exact absurd (show false=true from O) GA
 | bl i=>
  cases S;cases y with
  | non=>cases z;exact PySem.EqNone.eq_bool_none<|xh I q ⋯
  | bl j=>cases z;exact eq_bool<|xh I q AB
  | str j=>obtain⟨t',rfl⟩:=z;exact PySem.EqMixed.eq_bool_str<|xh I q ⋯
  | _=>exact absurd (show false=true from O) GA
 | int i=>
  obtain⟨t,rfl⟩:=S;cases y with
  | non=>cases z;exact PySem.EqNone.eq_int_none<|xh I q ⋯
  | int j=>obtain⟨t',rfl⟩:=z;exact eq_int<|xh I q rq
  | str j=>obtain⟨t',rfl⟩:=z;exact PySem.EqMixed.eq_int_str<|xh I q ⋯
  | _=>exact absurd (show false=true from O) GA
 | str i=>
  obtain⟨t,rfl⟩:=S;cases y with
  | non=>cases z;exact PySem.EqNone.eq_str_none<|xh I q ⋯
  | bl j=>cases z;exact PySem.EqMixed.eq_str_bool<|xh I q ⋯
  | int j=>obtain⟨t',rfl⟩:=z;exact PySem.EqMixed.eq_str_int<|xh I q ⋯
  | str j=>obtain⟨t',rfl⟩:=z;exact eq_str<|xh I q rk
  | _=>exact absurd (show false=true from O) GA
 | byt i=>
  obtain⟨t,rfl⟩:=S;cases y with
  | byt j=>obtain⟨t',rfl⟩:=z;exact PySem.W.eq_bytes<|xh I q rz
  | _=>exact absurd (show false=true from O) GA
 | _=>cases y<;>exact absurd (show false=true from O) GA
theorem Ct:OpR X (compareOp .Lt) (rI0 λi j=> .bl (decide<|i<j)):=Cy λ_ _ _ _ _ _ _ q=>lt_int q
theorem Cu:OpR X (compareOp .LtE) (rI0 λi j=> .bl (decide<|i<=j)):=Cy λ_ _ _ _ _ _ _ q=>le_int q
theorem Cv:OpR X (compareOp .Gt) (rI0 λi j=> .bl (decide<|j<i)):=Cy λ_ _ _ _ _ _ _ q=>gt_int q
theorem uP:OpR X (compareOp .Is) (λx y H Q=>y = .non/\Q (.bl<|decide<|x = .non) H):=by
 intro pins s σ H x y v u Q I z O h;obtain⟨rfl,q⟩:=h;cases O;refine is_none_gen<|xh I q ?_;cases x<;>first
  | (cases z;rfl)
  | (obtain⟨t,rfl⟩:=z;rfl)
theorem OpR.or(h:OpR X f r)(h':OpR X f r'):OpR X f (λx y H Q=>r x y H Q\/r' x y H Q):=by
 intro pins s σ H x y v u Q I z O q;rcases q with q | q
 ·exact h pins s σ H x y v u Q I z O q
 ·exact h' pins s σ H x y v u Q I z O q
theorem JN(b:Expr)(h:op ≠ .In:=by decide)(h2:op ≠ .NotIn:=by decide):behindInMarks op b=false:=by
 have e1:(op==CmpOp.In)=false:=by cases op<;>first | rfl | exact absurd rfl h
 have z:(op==CmpOp.NotIn)=false:=by cases op<;>first | rfl | exact absurd rfl h2
 cases b<;>simp[behindInMarks,e1,z]
theorem oY{z:CmpOp}{r:R2}(O:OpR X (compareOp z) r)(ha:PE X a ta)(S:PE X b tb)(hm:behindInMarks z b=false):PE X (.Compare a [z] [b] pos) (tOp r ta tb):=by intro pins s σ H Q I h;exact wpAny_Compare1 (Ei ha S I h λv u s2 x y H2 U Y Z q=>O pins s2 σ H2 x y v u Q U Y Z q) hm
def sD(t:TE):TT:=λσ H Q=>t σ H λx H'=>∃k,x = .bl k/\Q k H'
theorem Yk(O:OpR X (compareOp op) r)(ha:PE X a ta)(S:PE X b tb)(hm:behindInMarks op b=false):PT X (.Compare a [op] [b] pos) (sD<|tOp r ta tb):=by
 intro pins s σ H Q I h;refine wpAny_isTrue_Compare1 (thn (ha pins s σ H _ I h) λv s1 ⟨x,H1,U,Y,Z⟩=>thn (S pins s1 σ H1 _ U Z) λu s2 ⟨y,H2,I2,r2,q2⟩=>
  thn (O pins s2 σ H2 x y v u _ I2 Y r2 q2) λc s3 ⟨z,H3,I3,r3,k,e,q3⟩=>?_) hm
 subst e;cases r3;exact IL ⟨H3,I3,q3⟩
def sF(r r':R2)(ta tb tc:TE):TE:=λσ H Q=>ta σ H λx H1=>tb σ H1 λy H2=>r x y H2 λz I=>∃k,z = .bl k/\
 (if k=true then tc σ I λw' O=>r' y w' O Q else Q (.bl false) I)
theorem hJ(Y:OpR X (compareOp op) r)(Z:OpR X (compareOp op') r')(ha:PE X a ta)(hb:PE X b tb)(hc:PE X c tc)
 (hm:lastMarks [op,op'] [b,c]=false:=by with_unfolding_all rfl):PE X (.Compare a [op,op'] [b,c] pos) (sF r r' ta tb tc):=by
 intro pins s σ H Q I h;refine Compare_chain (thn (ha pins s σ H _ I h) λv s1 ⟨x,H1,I1,r1,q1⟩=>chain_link (thn (hb pins s1 σ H1 _ I1 q1) λu s2 ⟨y,H2,I2,r2,q2⟩=>
  thn (Y pins s2 σ H2 x y v u _ I2 r1 r2 q2) λd s3 ⟨z,O,S,r3,k,e,U⟩=>?_)) hm
 subst e;cases r3;refine IL ?_;cases k with
 | false=>exact ite_ff ⟨.bl false,O,S,rfl,U⟩
 | true=>exact ite_tt<|chain_last<|thn (hc pins s3 σ O _ S U) λw' s4 ⟨z',H4,I4,r4,q4⟩=>Z pins s4 σ H4 y z' u w' Q I4 r2 r4 q4
def Fj(K:FY)(x:V)(H:Hp)(k:Bool):Prop:=
 match x with
 | .non=>k=false
 | .bl b=>k=b
 | .int i=>k=(i != 0)
 | .str y=>y.length<=sizeLine/\k=((y.length:Int) != 0)
 | .byt y=>y.size<=sizeLine/\k=((y.size:Int) != 0)
 | .ref p=>(∃xs,SqL K H p xs/\k = !xs.isEmpty)\/(∃xs,SqT K H p xs/\k = !xs.isEmpty)\/∃kvs,H p=some (.dK kvs)/\k = !kvs.isEmpty
 | _=>False
theorem WX(r:KV kvs vs):(!vs.isEmpty) = !kvs.isEmpty:=by cases r<;>rfl
theorem JT(r:Vals xs its):(!its.toArray.isEmpty) = !xs.isEmpty:=by cases r<;>simp
theorem JP:(sizeLine:Nat)<2 ^ 63:=by rw[LP];decide
theorem sv:FV X (λx H Q=>∃k,Fj X.K x H k/\Q k H):=by
 intro pins s σ H x v Q I O h;obtain⟨k,e,q⟩:=h;have hl:=JP;have hs:sizeLine=16777216:=LP;cases x with
 | non=>
  cases O;have z:k=false:=e;subst z;exact truthy_none ⟨H,I,q⟩
 | bl b=>
  cases O;have z:k=b:=e;subst z;exact IL ⟨H,I,q⟩
 | int i=>
  obtain⟨t,rfl⟩:=O;have z:k=(i != 0):=e;subst z;exact PySem.P.truthy_int ⟨H,I,q⟩
 | str y=>
  obtain⟨t,rfl⟩:=O;obtain⟨Y,z⟩:y.length<=sizeLine/\k=((y.length:Int) != 0):=e;subst z;exact PySem.P.truthy_str ⋯ ⟨H,I.tok _,q⟩
 | byt y=>
  obtain⟨t,rfl⟩:=O;obtain⟨Y,z⟩:y.size<=sizeLine/\k=((y.size:Int) != 0):=e;subst z;exact PySem.W.truthy_bytes ⋯ ⟨H,I.tok _,q⟩
 | ref p=>
  cases O;have z:(∃xs,SqL X.K H p xs/\k = !xs.isEmpty)\/(∃xs,SqT X.K H p xs/\k = !xs.isEmpty)\/∃kvs,H p=some (.dK kvs)/\k = !kvs.isEmpty:=e;rcases z with⟨xs,hx,z⟩ | ⟨xs,hx,z⟩ | ⟨kvs,hx,z⟩
  ·subst z
   obtain⟨Z,r,pl,S⟩:=I.list hx;have U:=r.length;exact wpAny_truthy_list pl.isList (by simp only[Gp];omega) ⟨H,I.tok _,by rw[JT r];exact q⟩
  ·subst z
   obtain⟨Z,r,pl,S⟩:=I.tuple hx;have U:=r.length;exact truthy_tuple pl (by simp only[Gp];omega) ⟨H,I.tok _,by rw[JT r];exact q⟩
  ·subst z
   obtain⟨S,hS,vs,r,m⟩:kvs.length<=sizeLine/\(p==sysModules)=false/\∃vs,KV kvs vs/\s.heap.DictOf (qL X.prog X.w) p vs:=I.hok p _ hx;have U:kvs.length=vs.length:=Paired.length r;exact wpAny_truthy_dict hS m ⋯ ⟨H,I.tok _,by rw[WX r];exact q⟩
 | _=>exact(show False from e).elim
theorem gK(ha:PE X a ta)(O : ∀z,isTrue a X.env z=(do let v <- z;standAt a.pos;holding [v] (truthy v))) :
 PT X a (λσ H Q=>ta σ H λx H'=>∃k,Fj X.K x H' k/\Q k H'):=by
 intro pins s σ H Q I h;exact isTrue_plain (thn (ha pins s σ H _ I h) λv s1 ⟨x,H1,S,U,Y⟩=>sv pins s1 σ H1 x v Q S U Y)<|O _
theorem yE(r:Vals [x] us) : ∃u,us=[u]/\RelV x u:=by
 cases r with
 | cons z r2=>cases r2;exact⟨_,rfl,z⟩
theorem sg(r:Vals [x,y] us) : ∃u w',us=[u,w']/\RelV x u/\RelV y w':=by
 cases r with
 | cons z r2=>
  cases r2 with
  | cons I O=>cases O;exact⟨_,_,rfl,z,I⟩
theorem eE(O:X.calm=true):Jt X (.builtin "min") (λxs H Q=>∃i j,xs=[.int i,.int j]/\Q (.int (if j<i then j else i)) H):=by
 intro pins s σ H xs us Q I r h;obtain⟨i,j,rfl,q⟩:=h;obtain⟨u,w',rfl,⟨t,rfl⟩,⟨t',rfl⟩⟩:=sg r;refine min_two_ints (I.ok.hd O) λh' tk k=>⟨_,H,I.kept k,?_,q⟩;by_cases z:j<i
 ·rw[RY z,RY z];exact⟨_,rfl⟩
 ·rw[EQ z,EQ z];exact⟨_,rfl⟩
theorem eG:Jt X (.type "int") (λxs H Q=>(∃i,xs=[.int i]/\Q (.int i) H)\/∃k,xs=[.bl k]/\Q (.int (if k then 1 else 0)) H):=by
 intro pins s σ H xs us Q I r h;rcases h with⟨i,rfl,q⟩ | ⟨k,rfl,q⟩
 ·obtain⟨u,rfl,t,rfl⟩:=yE r
  exact call_int_int ⟨.int i,H,I,⟨_,rfl⟩,q⟩
 ·obtain⟨u,rfl,z⟩:=yE r
  cases z;exact call_int_bool ⟨.int<|if k then 1 else 0,H,I.tok _,⟨_,rfl⟩,q⟩
end
structure ObjM(h:Heap)(x dx C:Addr)(mA:RJ):Prop where
 obj:h.get? x=some (IQ C dx)
 ns:h.Ns1 dx mA
 ne:dx≠x
theorem cF{h:Heap}{dx:Addr}{mA:RJ}(n:h.Ns1 dx mA) : ∃od,h.get? dx=some od/\∀name,Nd name od=some (mA name):=by
 obtain⟨o,es,Z,I,hd,O,_,hm⟩:=n;refine⟨o,I,λname=>?_⟩;have e:=hm name;unfold nsFind findBy at e;rw[<- Array.find?_toList]at e;unfold Nd;rw[hd];dsimp only;split
 ·rename_i y q
  rw[q]at e;exact congrArg some e
 ·rename_i q
  rw[q]at e;have a:es.toList.any (·.refKey)=false:=by rw[NR];intro y S;obtain⟨z,t,U⟩:=O y<|Array.mem_toList_iff.mp S;simp[DictEntry.refKey,U]
  have Y : ¬es.toList.any (·.refKey)=true:=by rw[a];exact GA
  rw[EQ Y];exact congrArg some e
theorem ObjM.look(I:ObjM h x dx C mA) : ∃od,PySem.W.InstAt h x (IQ C dx) C (some od)/\∀name,Nd name od=some (mA name):=
 let ⟨od,z,O⟩:=cF I.ns
 ⟨od,⟨I.obj,rfl,rfl,z⟩,O⟩
section
variable{prog:Program}{w:World}{A:Around}{E:RQ}{s:Shared}{K:FY}{x dx C f:Addr}{mA:RJ}{name:Str}{v:Value}
theorem pQ(X:K.In s.heap)(I:ObjM s.heap x dx C mA)(z:Ma K C name=true)(O:Mw K C=true)
 (ha:GS K (.ref C) name=some none) (S:mA name=some v) (U:PySem.W.handedIn v=true) (h:Q v {s with toks:=s.toks+1}) :
 wpAny (model prog w) A (getAttr (.ref x) name expr) Q E s:=by
 obtain⟨od,J,Y⟩:=I.look;exact PySem.W.get_value X J (Ni z).1 (PySem.W.findObj_own O ha rfl<|by rw[Y,S]) U h
theorem iT(X:K.In s.heap)(I:ObjM s.heap x dx C mA)(z:Ma K C name=true)
 (O:GS K (.ref C) name=some (some (.ref f))) (S:Mn K (.ref f)=true) (U:mA name=none) (h:Q (.ref f,[.ref x]) s) :
 wpAny (model prog w) A (getMethod (.ref x) name pl) Q E s:=by
 obtain⟨od,J,Y⟩:=I.look;exact PySem.W.method_fn X J (Ni z).1 (Ni z).2 O (beq_iff_eq.mp S) (by show(Nd name od).map (·.isSome)=some false;rw[Y,U];rfl) h
theorem og(X:K.In s.heap)(I:ObjM s.heap x dx C mA)
 (S:GS K (.ref C) "__setattr__" = some (some (.builtin "object.__setattr__"))) (U:ND K C=true) (Y:PySem.W.takerIn K C name=some none) (Z:Mw K C=true)
 (hw:NP mA ns) (hsz:ns.length<=sizeLine)
 (h : ∀h',ObjM h' x dx C (λy=>if y=name then some v else mA y)->LH dx s.heap h'->Q () {s with heap:=h',toks:=s.toks+2}) :
 wpAny (model prog w) A (setAttr (.ref x) name v) Q E s:=by
 obtain⟨od,J,hl⟩:=I.look;refine PySem.W.set_plain X J S<|PySem.W.osa_open (s:={s with toks:=s.toks+1}) (r:=none) X J U Y λb=>?_;obtain⟨cd,hc,a1⟩:=PySem.W.any_some Z;have hx:s.heap.get? x=some ⟨.ref C,some dx,.plain,#[]⟩:=I.obj;refine FZ<|Gf<|FZ<|FZ<|wpAny_loadPart hx<|FZ<|PySem.W.Looks.here (s:={s with toks:=s.toks+1}) (PySem.W.looks_clsIn X hc) ?_;rw[a1];refine Gf (a:=some dx)<|FZ<|Gf<|FZ ?_;refine wpAny_nsSet1 (s:={s with toks:=s.toks+1}) I.ns λh' z O=>?_;obtain⟨oD,a7,a8,a2,a3,a4⟩:=z.count<|NP.cons name v hw;refine FZ<|wpAny_lookBehind a2 (by rw[a3];exact pastItsLine_dict<|HE a4<|by rw[GJ];omega) ?_;exact Gf<|h _ ⟨(O.2 _<|GN I.ne).trans I.obj,z,I.ne⟩ O
theorem iA(X:K.In s.heap)(hm:MS K C=true)
 (hi:GS K (.ref C) "__init__" = some (some (.ref f))) (z:Mq K (.ref f)=some (.type "function"))
 (h:codeAny (model prog w) (A.under (.builtin "type.__call__" ⟨.ref C::vs,kw⟩)) (.call (.ref f) ⟨.ref (s.heap.objs.size+1)::vs,kw⟩) (PySem.W.InitBack (s.heap.objs.size+1) R)
   {s with heap:=(s.heap.push Im).push (IQ C s.heap.objs.size)}) :
 codeAny (model prog w) A (.call (.ref C) ⟨vs,kw⟩) R s:=by
 obtain⟨I,g,d,t,os⟩:=s;exact PySem.W.make_core (PySem.W.makes_of X hm) (PySem.W.looks_findIn X hi) (λself=>PySem.W.bind_fn X self z) (.inl rfl) h
end
def QL(f:Str)(v:V):List (Str×V)->List (Str×V)
 | []=>[(f,v)]
 | (g,x)::r=>if g=f then (g,v)::r else (g,x)::QL f v r
theorem ql(f g:Str)(v:V) : ∀fs:List (Str×V),(QL f v fs).lookup g=if g=f then some v else fs.lookup g
 | []=>by
  show LC g [(f,v)]=_;by_cases h:g=f
  ·have z:(g==f)=true:=beq_iff_eq.mpr h
   simp only[LC,z,RY h]
  ·have z:(g==f)=false:=beq_eq_false_iff_ne.mpr h
   simp only[LC,z,EQ h]
 | (k,x)::r=>by
  have O:=ql f g v r;rw[show QL f v ((k,x)::r)=(if k=f then (k,v)::r else (k,x)::QL f v r)from rfl];by_cases I:k=f
  ·rw[RY I]
   by_cases h:g=k
   ·have z:(g==k)=true:=beq_iff_eq.mpr h
    simp only[LC,z,RY (h.trans I)]
   ·have z:(g==k)=false:=beq_eq_false_iff_ne.mpr h
    simp only[LC,z,EQ (λe:g=f=>h<|e.trans I.symm)]
  ·rw[EQ I]
   by_cases h:g=k
   ·have z:(g==k)=true:=beq_iff_eq.mpr h
    simp only[LC,z,EQ (λe:g=f=>I<|h.symm.trans e)]
   ·have z:(g==k)=false:=beq_eq_false_iff_ne.mpr h
    simp only[LC,z];exact O
theorem ZI(f:Str)(v:V) : ∀fs:List (Str×V),f∈(QL f v fs).map (·.1)/\∀g,g∈fs.map (·.1)->g∈(QL f v fs).map (·.1)
 | []=>⟨by simp[QL],λg h=>by simp at h⟩
 | (k,x)::r=>by
  obtain⟨I,O⟩:=ZI f v r;rw[show QL f v ((k,x)::r)=(if k=f then (k,v)::r else (k,x)::QL f v r)from rfl];by_cases z:k=f
  ·rw[RY z]
   subst z;exact⟨by simp,λg h=>by simpa using h⟩
  ·rw[EQ z]
   refine⟨?_,λg h=>?_⟩
   ·rw[GQ]
    exact Gn _ I
   ·rw[GQ]at h ⊢
    rcases Gr.mp h with e | e
    ·exact Gr.mpr<|.inl e
    ·exact Gn _<|O g e
theorem ZH(f:Str)(v:V) : ∀fs:List (Str×V),(QL f v fs).length<=fs.length+1
 | []=>by simp[QL]
 | (k,x)::r=>by
  have I:=ZH f v r;rw[show QL f v ((k,x)::r)=(if k=f then (k,v)::r else (k,x)::QL f v r)from rfl];by_cases z:k=f
  ·rw[RY z,GJ,GJ];omega
  ·rw[EQ z,GJ,GJ];omega
theorem RelO.some_of(r:RelO (some v) o) : ∃u,o=some u/\RelV v u:=by
 cases o with
 | none=>exact(show False from r).elim
 | some u=>exact⟨u,rfl,r⟩
theorem RelO.none_of(r:RelO none o):o=none:=by
 cases o with
 | none=>rfl
 | some u=>exact(show False from r).elim
theorem de(r:RelV v u):PySem.W.handedIn u=true:=by
 cases v with
 | non=>cases (show u=HK from r);rfl
 | bl b=>cases (show u=NM b from r);rfl
 | int i=>obtain⟨t,e⟩:=(show ∃t,u=MZ i t from r);cases e;rfl
 | str x=>obtain⟨t,e⟩:=(show ∃t,u=NC x t from r);cases e;rfl
 | byt b=>obtain⟨t,e⟩:=(show ∃t,u=Value.bytes b t from r);cases e;rfl
 | flt b=>obtain⟨t,e⟩:=(show ∃t,u=Value.float b t from r);cases e;rfl
 | ref a=>cases (show u=GX a from r);rfl
 | ty n=>cases (show u=LU n from r);rfl
section
variable{P:Program}{w:World}{H H':Hp}{h h':Heap}{a C dx:Addr}{fs fs':List (Str×V)}
theorem Xe(hok:HOk P w H h)(e:H a=some (.ins C dx fs)) : ∃mA,ObjM h a dx C mA/\(∀f,RelO (fs.lookup f)<|mA f)/\NP mA (fs.map (·.1))/\fs.length<=1000/\H dx=some (.own a):=by obtain⟨d,z,ne,ob,mA,n,r,q⟩:=(show ObjOk P w H h a (.ins C dx fs)from hok a _ e);exact⟨mA,⟨ob,n,ne⟩,r,q,z,d⟩
end
structure Cls(K:FY)(C:Addr):Prop where
 pg:Ma K C Str.empty=true
 hd:Mw K C=true
 po:ND K C=true
 sa:GS K (.ref C) "__setattr__" = some (some (.builtin "object.__setattr__"))
theorem Cls.get{K:FY}{C:Addr}(c:Cls K C)(f:Str):Ma K C f=true:=c.pg
def NoAttr(K:FY)(C:Addr)(f:Str):Prop:=GS K (.ref C) f=some none
theorem NoAttr.taker{K:FY}{C:Addr}{f:Str}(n:NoAttr K C f):PySem.W.takerIn K C f=some none:=by unfold PySem.W.takerIn;rw[show GS K (.ref C) f=some none from n];rfl
structure Meth(K:FY)(C:Addr)(m:Str)(f:Addr):Prop where
 at_:GS K (.ref C) m=some (some (.ref f))
 fn:Mn K (.ref f)=true
 kp:Hh K (.ref f)=true
section
variable{X:Cx}{pins:RW}{σ:St}{H:Hp}{s:Shared}{a C dx:Addr}{fs:List (Str×V)}{f:Str}{v:V}{A:Around}{E:RQ}
theorem W3(I:Inv X pins σ H s)(e:H a=some (.ins C dx fs))(c:Cls X.K C)(n:NoAttr X.K C f)(l:fs.lookup f=some v)
 (h : ∀u s',Inv X pins σ H s'->RelV v u->Q u s'):wpAny (model X.prog X.w) A (getAttr (.ref a) f b) Q E s:=by
 obtain⟨mA,O,r,_,_,_⟩:=Xe I.hok e;obtain⟨u,S,z⟩:=RelO.some_of (v:=v) (o:=mA f) (by rw[<- l];exact r f);exact pQ I.kIn O (c.get f) c.hd n S (de z)<|h u _ (I.tok _) z
theorem W2(I:Inv X pins σ H s)(e:H a=some (.ins C dx fs))(c:Cls X.K C)(k:Meth X.K C m g)(l:fs.lookup m=none)
 (h:Q (.ref g,[.ref a]) s):wpAny (model X.prog X.w) A (getMethod (.ref a) m pl) Q E s:=by
 obtain⟨mA,O,r,_,_,_⟩:=Xe I.hok e;have hn:mA m=none:=RelO.none_of (by rw[<- l];exact r m);exact iT I.kIn O (c.get m) k.at_ k.fn hn h
theorem Wn(I:Inv X pins σ H s)(e:H a=some (.ins C dx fs))(c:Cls X.K C)(n:NoAttr X.K C f)(hl:fs.length<1000)(Y:RelV y u)
 (h : ∀s',Inv X pins σ (upd H a<|.ins C dx<|QL f y fs) s'->Q () s'):wpAny (model X.prog X.w) A (setAttr (.ref a) f u) Q E s:=by
 obtain⟨mA,O,r,wi,_,U⟩:=Xe I.hok e;have Z:(fs.map (·.1)).length<=sizeLine:=by rw[Gw,LP];omega
 refine og I.kIn O c.sa c.po n.taker c.hd wi Z λh' S sb=>h _ ?_;have hd : ∃o,h'.get? dx=some o:=let ⟨o,_,_,e',_⟩:=S.ns;⟨o,e'⟩;refine I.write (x:=a) (e:=dx) (by rw[e];exact IH) (.inr U) (λb q hb z=>(sb.2 b hb).trans z) hd ?_;refine⟨by rw[zB O.ne];exact U,?_,O.ne,S.obj,_,S.ns,λg=>?_,λg hg=>?_⟩
 ·have:=ZH f y fs;omega
 ·show RelO ((QL f y fs).lookup g) (if g=f then some u else mA g)
  rw[ql];by_cases q:g=f
  ·rw[RY q,RY q];exact Y
  ·rw[EQ q,EQ q];exact r g
 ·by_cases q:g=f
  ·rw[q];exact(ZI f y fs).1
  ·refine(ZI f y fs).2 g (wi g λz=>hg ?_)
   show(if g=f then some u else mA g)=none;rw[EQ q];exact z
theorem Inv.made(I:Inv X pins σ H s):Inv X pins σ (upd (upd H s.heap.objs.size<|.own<|s.heap.objs.size+1) (s.heap.objs.size+1)<|.ins C s.heap.objs.size [])
 {s with heap:=(s.heap.push Im).push (IQ C s.heap.objs.size)}:=by
 have e1:(s.heap.push Im).get? s.heap.objs.size=some Im:=Gv s.heap rfl;have z:((s.heap.push Im).push (IQ C s.heap.objs.size)).get? (s.heap.objs.size+1)=some (IQ C s.heap.objs.size):=by
  have:=Gv (s.heap.push Im) (o:=IQ C s.heap.objs.size) rfl
  rwa [Hi]at this
 have O:(s.heap.push Im).Ns s.heap.objs.size (λ_=>none):=⟨Im,#[],_,e1,rfl,(λe S=>absurd S ⋯),λ_=>rfl⟩;have U:=I.laid (a:=s.heap.objs.size) (o:= .own (s.heap.objs.size+1)) (h':=s.heap.push Im) (t':=s.toks) (λb u q=>Gb _ q) (Gh _) ⟨_,e1⟩;refine U.laid (a:=s.heap.objs.size+1) (o:= .ins C s.heap.objs.size []) (t':=s.toks) (λb u q=>Gb _ q) (Nat.le_of_eq<|Hi _ _) ?_;have ne:s.heap.objs.size≠s.heap.objs.size+1:=Hb<|Ic _;refine⟨by rw[zB ne,zD],HN _,ne,z,λ_=>none,(Heap.Ns1.of_empty O).at λo q=>Gb _ q,λ_=>IH,λy Y=>absurd rfl Y⟩
theorem rO(z:attributeBase e f env (eval e env)=eval e env)
 (h:wpAny (model prog w) A (eval e env) (λo I=>wpAny (model prog w) A (getAttr o f true) Q E I) E s):wpAny (model prog w) A (eval (.Attribute e f pos) env) Q E s:=
 Attribute_any_ h (by rw[arm_eval_Attribute,z])
end
def BY(K:FY)(ta:TE)(f:Str):TE:=λσ H Q=>ta σ H λx H1=>∃a C dx fs v,x = .ref a/\H1 a=some (.ins C dx fs)/\Cls K C/\NoAttr K C f/\fs.lookup f=some v/\Q v H1
def Cg(K:FY)(ta tv:TE)(f:Str):TS:=λD σ H=>tv σ H λy H1=>ta σ H1 λx H2=>∃a C dx fs,x = .ref a/\H2 a=some (.ins C dx fs)/\Cls K C/\NoAttr K C f/\fs.length<1000/\
 D.nx σ (upd H2 a<|.ins C dx<|QL f y fs)
section
variable{X:Cx}{o e value:Expr}{f:Str}{pos pos' tpos:Pos}{ta tv:TE}
theorem Vy(z:PE X e ta)(O:attributeBase e f X.env (eval e X.env)=eval e X.env):PE X (.Attribute e f pos) (BY X.K ta f):=by intro pins s σ H Q I h;refine rO O<|thn (z pins s σ H _ I h) λu s1 S=>?_;obtain⟨x,H1,U,Y,a,C,dx,fs,v,ex,Z,c,n,l,q⟩:=S;subst ex;obtain rfl:u=GX a:=Y;exact W3 U Z c n l λu' s2 I2 ru=>⟨v,H1,I2,ru,q⟩
theorem mz(ha:PE X o ta)(z:PE X value tv)(O:swapsWith value (some (.Attribute o f pos')) pos.line X.env=pure false):PS X (.Assign [.Attribute o f pos'] value pos) (Cg X.K ta tv f):=by intro pins s σ H D I h;refine plainObj_wpAny_Assign_Attribute (thn (z pins s σ H _ I h) λu s1 ⟨y,H1,S,U,q⟩=>thn (ha pins s1 σ H1 _ S q) λY s2 ⟨x,H2,Z,rx,a,C,dx,fs,ex,ea,c,n,l,q2⟩=>?_) O;subst ex;obtain rfl:Y=GX a:=rx;exact Wn Z ea c n l U λs3 I3=>⟨σ,_,I3,q2⟩
end
section
variable{X:Cx}{pins:RW}{σ:St}{H:Hp}{s:Shared}{A:Around}{E:RQ}{Q:RQ}{c:Value}{b:Bool}
inductive TyOf(K:FY)(H:Hp):V->Value->Prop where
 | non:TyOf K H .non (.type "NoneType")
 | bl (x:Bool):TyOf K H (.bl x) (.type "bool")
 | int (i:Int):TyOf K H (.int i) (.type "int")
 | str (x:Str):TyOf K H (.str x) (.type "str")
 | flt (x:UInt64):TyOf K H (.flt x) (.type "float")
 | lst {a:Addr} {xs:List V} (e:H a=some (.lst xs)):TyOf K H (.ref a) (.type "list")
 | frz {a:Addr} {o:Obj} {xs:List V} (e:H a=some (.frz o (.lst xs))):TyOf K H (.ref a) (.type "list")
 | tup {a:Addr} {xs:List V} (e:H a=some (.tup xs)):TyOf K H (.ref a) (.type "tuple")
 | dK {a:Addr} {kvs:List (Key×V)} (e:H a=some (.dK kvs)):TyOf K H (.ref a) (.type "dict")
 | dT {a:Addr} {kvs:List (List Key×V)} (e:H a=some (.dT kvs)):TyOf K H (.ref a) (.type "dict")
 | ins {a C dx:Addr} {fs:List (Str×V)} (e:H a=some (.ins C dx fs)) (cl:Cls K C) (ha:GS K (.ref C) "__class__" = some (some (.builtin "object.__class__")))
  (hn:Mu K (.builtin "object.__class__") "__get__" = some (some (.builtin "getset_descriptor.__get__"))) (htk:PySem.W.takesIn K (.builtin "object.__class__")=some true)
  (hm:Md K C (.type "object")=some true):TyOf K H (.ref a) (.ref C)
theorem cT(I:Inv X pins σ H s)(S:RelV x u)(ty:TyOf X.K H x t)(e:Ir X.K t c=some b)(h : ∀tk,Q (.bool b) {s with toks:=tk}) :
 wpAny (model X.prog X.w) A (call (.builtin "isinstance") [u,c]) Q E s:=by
 cases ty with
 | non=>cases (show u=HK from S);exact Hc PySem.W.kitx_none I.kIn IH e (λz=>nomatch z) h
 | bl y=>cases (show u=NM y from S);exact Hc PySem.W.kitx_bool I.kIn IH e (λz=>nomatch z) h
 | int i=>obtain⟨t,q⟩:=(show ∃t,u=MZ i t from S);cases q;exact Hc PySem.W.kitx_int I.kIn IH e (λz=>nomatch z) h
 | str y=>obtain⟨t,q⟩:=(show ∃t,u=NC y t from S);cases q;exact Hc PySem.W.kitx_str I.kIn IH e (λz=>nomatch z) h
 | flt y=>obtain⟨t,q⟩:=(show ∃t,u=Value.float y t from S);cases q;exact Hc PySem.W.kitx_float I.kIn IH e (λz=>nomatch z) h
 | @lst a xs U=>
  cases (show u=GX a from S);obtain⟨_,_,n,_,h1⟩:=(show ObjOk X.prog X.w H s.heap a (.lst xs)from I.hok a _ U);exact Hc NG I.kIn ⟨_,h1,rfl⟩ e (λz=>nomatch z) h
 | @frz a ob xs U=>
  cases (show u=GX a from S);obtain⟨_,_,_,n,_,h1⟩:=(show ObjOk X.prog X.w H s.heap a (.frz ob<|.lst xs)from I.hok a _ U);exact Hc NG I.kIn ⟨_,h1,rfl⟩ e (λz=>nomatch z) h
 | @tup a xs U=>
  cases (show u=GX a from S);obtain⟨_,_,_,p⟩:=(show ObjOk X.prog X.w H s.heap a (.tup xs)from I.hok a _ U);obtain⟨o,h1,h2,_⟩:=p;exact Hc PySem.W.kitx_tuple I.kIn ⟨o,h1,(Prod.mk.inj h2).1⟩ e (λz=>nomatch z) h
 | @dK a kvs U=>
  cases (show u=GX a from S);obtain⟨_,_,vs,_,p⟩:=(show ObjOk X.prog X.w H s.heap a (.dK kvs)from I.hok a _ U);obtain⟨o,es,Y,h1,h2,_⟩:=p;exact Hc Mv I.kIn ⟨o,h1,h2.1⟩ e (λz=>nomatch z) h
 | @dT a kvs U=>
  cases (show u=GX a from S);obtain⟨_,_,xs,_,o,es,Y,h1,h2,_⟩:=(show ObjOk X.prog X.w H s.heap a (.dT kvs)from I.hok a _ U);exact Hc Mv I.kIn ⟨o,h1,h2.1⟩ e (λz=>nomatch z) h
 | @ins a C dx fs U cl ha hn htk hm=>
  cases (show u=GX a from S);obtain⟨mA,O,_⟩:=Xe I.hok U;obtain⟨od,J,_⟩:=O.look;exact Hc (PySem.W.kitx_own (cl.get _) cl.hd ha hn htk hm) I.kIn J e (λz=>nomatch z) h
end
structure Room(k:Nat)(A:Around):Prop where
 hd:A.handled=none
 dp:A.depth+3*k+5<recursionLimit
 un:A.units+16*k+200<cLine
theorem Room.mono(r:Room k A)(h:j<=k):Room j A:=⟨r.hd,by have:=r.dp;omega,by have:=r.un;omega⟩
theorem Room.deeper(r:Room (k+1) A)(env:Env):Room k (A.deeper env):=
 ⟨r.hd,by have:=r.dp;show A.depth+1+3*k+5<_;omega,by have:=r.un;show A.units+3+16*k+200<_;omega⟩
theorem Room.in1(r:Room (k+1) A):Room k A.in1:=
 ⟨r.hd,by have:=r.dp;show A.depth+3*k+5<_;omega,by have:=r.un;show A.units+1+16*k+200<_;omega⟩
theorem WQ{A:Around}{C:Addr}{us:List Value}{z:List (Str×Value)}:(A.under (.builtin "type.__call__" ⟨.ref C::us,z⟩)).depth=A.depth+1:=by first | rfl | simp[Around.under,Code.weight,Code.isCreation,Code.isGuard,Code.isCaller,Code.frames,Code.isFrame,guardIds]
theorem WO{A:Around}{C:Addr}{us:List Value}{z:List (Str×Value)}:(A.under (.builtin "type.__call__" ⟨.ref C::us,z⟩)).units=A.units+1:=by first | rfl | simp[Around.under,Code.cUnits,Code.frames,Code.isFrame]
theorem Room.make(r:Room (k+1) A)(C:Addr)(us:List Value)(z:List (Str×Value)):Room k (A.under (.builtin "type.__call__" ⟨.ref C::us,z⟩)):=
 ⟨r.hd,by have:=r.dp;rw[WQ];omega,by have:=r.un;rw[WO];omega⟩
theorem Room.depth(r:Room k A):A.depth<recursionLimit:=by have:=r.dp;omega
def rW:TA:=λ_ H Q=>Q [] H
def w6(ta:TE)(z:TA):TA:=λσ H Q=>ta σ H λx H1=>z σ H1 λxs H2=>Q (x::xs) H2
section
variable{X:Cx}{e:Expr}{es:List Expr}{te:TE}{t:TA}{pos:Pos}
theorem j1:PA X [] rW:=λ_ _ _ _ H Q I h=>Lp ⟨[],H,I,.nil,h⟩
theorem zZ(ha:PE X e te)(z:PA X es t)(O:starEach (e::es) X.env=(false,eval e X.env)::starEach es X.env:=by rfl):PA X (e::es) (w6 te t):=by intro pos pins s σ H Q I h;rw[O];show wpAny _ _ (spliced ((false,eval e X.env)::backTo pos (starEach es X.env))) _ _ s;refine Ii<|thn (ha pins s σ H _ I h) λu s1 S=>?_;obtain⟨x,H1,U,Y,Z⟩:=S;exact thn (z pos pins s1 σ H1 _ U Z) λus s2 ⟨xs,H2,I2,r2,q2⟩=>⟨x::xs,H2,I2,.cons Y r2,q2⟩
def Ft(t:TA):TE:=λσ H Q=>t σ H λxs H1=>xs.length<=sizeLine/\∀p,H1 p=none->Q (.ref p) (upd H1 p<|.tup xs)
def Fw(t:TA):TE:=λσ H Q=>t σ H λxs H1=>xs.length<=sizeLine/\∀p,H1 p=none->Q (.ref p) (upd H1 p<|.lst xs)
theorem uw(h:PA X es t):PE X (.Tuple es x1 pos) (Ft t):=by intro pins s σ H Q I S;refine wpAny_Tuple_spliced<|thn (h pos pins s σ H _ I S) λus s1 ⟨xs,H1,O,r,z,q⟩=>⟨by rw[<- r.length];exact z,?_⟩;have U:H1 s1.heap.objs.size=none:=O.hok.fresh<|Gh _;refine⟨.ref s1.heap.objs.size,upd H1 s1.heap.objs.size<|.tup xs,O.laid (t':=s1.toks) (λb u e=>Gb _ e) (Gh _) ?_,rfl,q _ U⟩;exact⟨z,us,r,⟨_,Gv _ rfl,rfl,_,rfl⟩⟩
theorem uA(h:PA X es t):PE X (.List es pos) (Fw t):=by intro pins s σ H Q I S;refine wpAny_List_spliced<|thn (h pos pins s σ H _ I S) λus s1 ⟨xs,H1,O,r,z,q⟩=>⟨by rw[<- r.length];exact z,?_⟩;have U:H1 s1.heap.objs.size=none:=O.hok.fresh<|Gh _;refine⟨.ref s1.heap.objs.size,upd H1 s1.heap.objs.size<|.lst xs,O.laid (t':=s1.toks) (λb u e=>Gb _ e) (Gh _) ?_,rfl,q _ U⟩;exact⟨z,us,0,r,Gv _ rfl⟩
end
abbrev Sp:=List V->Hp->VK->XK->Prop
abbrev CXT:=List Env->Hp->Shared->XK->Value->Shared->Prop
structure Env0(P:Program)(w:World)(K:FY)(mg:RJ)(base:Heap)(A:Around)(outer:List Env)(s:Shared)(H:Hp):Prop where
 frames:A.frames=some outer
 mod:Mod K mg base
 bs : ∀b o,base.get? b=some o->s.heap.get? b=some o/\H b=none
 bsz:base.objs.size<=s.heap.objs.size
 funs:s.heap.FunFrames base outer
 frf : ∀b∈frs outer,H b=none
 hok:HOk P w H s.heap
 bare:AllBare s.gens
def CE(outer:List Env)(P:Program)(w:World)(H:Hp)(s:Shared)(Q:VK)(u:Value)(s':Shared):Prop:=
 ∃v H',s'.os=s.os/\AllBare s'.gens/\Un (frs outer) [] H H' s.heap s'.heap/\HOk P w H' s'.heap/\RelV v u/\Q v H'
def CR(CX:CXT)(outer:List Env)(P:Program)(w:World)(H:Hp)(s:Shared)(Q:VK)(E:XK)(r:Result)(s':Shared):Prop:=
 match r with
 | .ok (.ret u)=>CE outer P w H s Q u s'
 | .ok _=>False
 | .error e=>CX outer H s E e s'
structure FnOk(P:Program)(w:World)(K:FY)(mg:RJ)(base:Heap)(CX:CXT)(k:Nat)(f:Addr)(fd:FuncData)(ps:List Str)(sp:Sp):Prop where
 len : ∀vs H Q E,sp vs H Q E->vs.length=ps.length
 run : ∀(A:Around) (outer:List Env) (s:Shared) (H:Hp) (args:Args) (us:List Value) (vs:List V) (Q:VK) (E:XK),Room k A->Env0 P w K mg base A outer s H->BindsTo s fd args (ps.zip us)->Vals vs us->sp vs H Q E->
  codeAny (model P w) A (.call (.ref f) args) (CR CX outer P w H s Q E) s
theorem Env0.make{P:Program}{w:World}{K:FY}{mg:RJ}{base:Heap}{A:Around}{outer:List Env}{s:Shared}{H:Hp}(e:Env0 P w K mg base A outer s H)(C:Addr)(us:List Value)(z:List (Str×Value)) :
 Env0 P w K mg base (A.under (.builtin "type.__call__" ⟨.ref C::us,z⟩)) outer s H:=⟨by first | exact e.frames | (simpa[Around.under,Code.envs,Code.isFrame,pushEnvs]using e.frames),e.mod,e.bs,e.bsz,e.funs,e.frf,e.hok,e.bare⟩
theorem Env0.in1{P:Program}{w:World}{K:FY}{mg:RJ}{base:Heap}{A:Around}{outer:List Env}{s:Shared}{H:Hp}(e:Env0 P w K mg base A outer s H) :
 Env0 P w K mg base A.in1 outer s H:=⟨e.frames,e.mod,e.bs,e.bsz,e.funs,e.frf,e.hok,e.bare⟩
section
variable{X:Cx}{pins:RW}{σ:St}{H:Hp}{s s':Shared}
theorem Inv.env0(I:Inv X pins σ H s):Env0 X.prog X.w X.K X.mg X.base X.A X.stack s H:=
 ⟨I.ok.frames,I.ok.mod,I.bs,HE I.ok.bsz I.sz,I.stack,I.stkFree,I.hok,I.bare⟩
theorem Inv.after(I:Inv X pins σ H s)(h:CE X.stack X.prog X.w H s Q u s'):EP X pins σ Q u s':=by obtain⟨v,H',os,bare,un,hok,r,q⟩:=h;obtain⟨O,g,d,t,S⟩:=s';obtain rfl:S=s.os:=os;exact⟨v,H',I.call (h':=O) (g':=g) (d':=d) (t':=t) (ch:=[]) un hok bare<|λb z=>absurd z ⋯,r,q⟩
end
def fZ(sp:Sp)(dvs:List V)(E:XK)(t:TA):TE:=λσ H Q=>t σ H λvs H1=>sp (vs++dvs) H1 Q E
def BX(C:Addr)(m:Str)(sp:Sp)(dvs:List V)(E:XK)(ta:TE)(t:TA):TE:=λσ H Q=>ta σ H λx H1=>∃a dx fs,x = .ref a/\H1 a=some (.ins C dx fs)/\fs.lookup m=none/\
 t σ H1 λvs H2=>sp (x::(vs++dvs)) H2 Q E
def fY(C:Addr)(sp:Sp)(dvs:List V)(E:XK)(t:TA):TE:=λσ H Q=>t σ H λvs H1=>∀x dx,H1 x=none->H1 dx=none->dx≠x->
 sp (.ref x::(vs++dvs)) (upd (upd H1 dx<|.own x) x<|.ins C dx []) (λv H2=>v = .non/\Q (.ref x) H2) E
def Binds(K:FY)(fd:FuncData)(ps:List Str)(ds:List Value):Prop:=
 ∀(s:Shared) (us:List Value),K.In s.heap->(us++ds).length=ps.length->BindsTo s fd ⟨us,[]⟩ (ps.zip<|us++ds)
theorem Binds.all{K:FY}{fd:FuncData}{ps:List Str}(h : ∀us:List Value,us.length=ps.length->bindArgs fd ⟨us,[]⟩=pure (ps.zip us)):Binds K fd ps []:=λs us _ z=>by rw[Mp]at z ⊢;exact .of_eq<|h us z
def J2(CX:CXT)(X:Cx)(E:XK):Prop:=∀(pins:RW) (σ:St) (H:Hp) (s:Shared) (e:Value) (s':Shared),Inv X pins σ H s->CX X.stack H s E e s'->X.xe e s'
section
variable{X:Cx}{CX:CXT}{k:Nat}{f C:Addr}{fd:FuncData}{ps:List Str}{sp:Sp}{dvs:List V}{ds:List Value}{E:XK}{x m:Str}{p pos apos:Pos}{e o:Expr}{es:List Expr}{ta:TE}{t:TA}
theorem ma(F:FnOk X.prog X.w X.K X.mg X.base CX k f fd ps sp)(O:Room k X.A)(S:Binds X.K fd ps ds)(hd:Vals dvs ds)(hx:J2 CX X E)
 (I:Inv X pins σ H s) (r:Vals vs us) (h:sp (vs++dvs) H Q E):wpAny (model X.prog X.w) X.A (call (.ref f) us) (EP X pins σ Q) X.xe s:=by
 have r2:Vals (vs++dvs) (us++ds):=r.append hd;have U:(us++ds).length=ps.length:=by rw[<- r2.length];exact F.len _ _ _ _ h
 refine Od<|MQ (F.run X.A X.stack s H ⟨us,[]⟩ (us++ds) (vs++dvs) Q E O I.env0 (S s us I.kIn U) r2 h) λr s' z=>?_;cases r with
 | error e=>exact hx pins σ H s e s' I z
 | ok Y=>
  cases Y with
  | ret u=>exact I.after z
  | next=>exact ID z
  | brk=>exact ID z
  | cont=>exact ID z
theorem Zx(F:FnOk X.prog X.w X.K X.mg X.base CX k f fd ps sp)(O:Room k X.A)(S:Gl X x)(hm:X.mg x=some (.ref f))(U:Hh X.K (.ref f)=true)(Y:Binds X.K fd ps ds)(hd:Vals dvs ds)(hx:J2 CX X E)
 (ha:PA X (e::es) t) (Z:(x==("__debug__" : Str))=false:=by decide) (he:starEach (e::es) X.env=(false,eval e X.env)::starEach es X.env:=by rfl) (a1:(backTo pos (starEach es X.env)).any (·.1)=false:=by rfl) :
 PE X (.Call (.Name x p) (e::es) [] pos) (fZ sp dvs E t):=by
 intro pins s σ H Q I h;refine IT<|YA I S hm ?_ Z;refine Nt (h₀:=X.base) I.ok.mod.kin U (thn (ha pos pins s σ H _ I h) λus s1 ⟨vs,H1,z,r,q⟩=>⟨z.kIn,?_⟩) he a1;exact ma F O Y hd hx z r q
theorem oW(U:PE X o ta)(c:Cls X.K C)(hm:Meth X.K C m f)(F:FnOk X.prog X.w X.K X.mg X.base CX k f fd ps sp)(Y:Room k X.A)(Z:Binds X.K fd ps ds)(hd:Vals dvs ds)(hx:J2 CX X E)(ha:PA X (e::es) t)
 (a0:starEach (e::es) X.env=(false,eval e X.env)::starEach es X.env:=by rfl) (a1:(backTo pos<|starEach es X.env).any (·.1)=false:=by rfl)
 (ht:eval (.Call (.Attribute o m apos) (e::es) [] pos) X.env=(do
   let z <- eval o X.env
   standAt apos.atName
   let (f,first) <- holding [z] (getMethod z m pl)
   callWith pos f first (backTo pos<|starEach (e::es) X.env) (backToKw pos<|keywordEach [] X.env)):=by rfl) :
 PE X (.Call (.Attribute o m apos) (e::es) [] pos) (BX C m sp dvs E ta t):=by
 intro pins s σ H Q I h;refine PySem.W.methodCall_KW (pl:=pl) (thn (U pins s σ H _ I h) λu s1 hZ=>?_) ht;obtain⟨x,H1,O,rx,a,dx,fs,ex,ea,l,q⟩:=hZ;subst ex;obtain rfl:u=GX a:=rx;refine W2 O ea c hm l ?_;refine Nt (first:=[.ref a]) (h₀:=X.base) I.ok.mod.kin hm.kp (thn (ha pos pins s1 σ H1 _ O q) λus s2 ⟨vs,H2,S,r,q2⟩=>⟨S.kIn,?_⟩) a0 a1;exact ma (us:= .ref a::us) (vs:= .ref a::vs) F Y Z hd hx S (.cons rfl r) q2
structure Mk(K:FY)(C f:Addr):Prop where
 makes:MS K C=true
 init:GS K (.ref C) "__init__" = some (some (.ref f))
 fn:Mn K (.ref f)=true
 kp:Hh K (.ref C)=true
theorem gy(M:Mk X.K C f)(F:FnOk X.prog X.w X.K X.mg X.base CX k f fd ps sp)(U:Room (k+1) X.A)(Y:Binds X.K fd ps ds)(hd:Vals dvs ds)
 (hx:J2 CX X E) (I:Inv X pins σ H s) (r:Vals vs us)
 (h : ∀x dx,H x=none->H dx=none->dx≠x->sp (.ref x::(vs++dvs)) (upd (upd H dx<|.own x) x<|.ins C dx []) (λv H2=>v = .non/\Q (.ref x) H2) E) :
 wpAny (model X.prog X.w) X.A (call (.ref C) us) (EP X pins σ Q) X.xe s:=by
 have S:=h (s.heap.objs.size+1) s.heap.objs.size (I.hok.fresh<|MT _) (I.hok.fresh<|Gh _)<|Hb<|Ic _;have O:=Inv.made (C:=C) I;have r2:Vals (V.ref (s.heap.objs.size+1)::(vs++dvs)) (GX (s.heap.objs.size+1)::(us++ds)):= .cons rfl (r.append hd);have Z:(GX (s.heap.objs.size+1)::us++ds).length=ps.length:=by have e:=r2.length;rw[F.len _ _ _ _ S]at e;exact e.symm
 refine Od (iA (f:=f) I.kIn M.makes M.init (beq_iff_eq.mp M.fn) (MQ (F.run _ X.stack _ _ ⟨GX (s.heap.objs.size+1)::us,[]⟩ (GX (s.heap.objs.size+1)::(us++ds)) _ _ E (U.make C us [])
  (O.env0.make C us []) (Y _ (GX (s.heap.objs.size+1)::us) O.kIn Z) r2 S) λr s' z=>?_))
 cases r with
 | error e=>exact hx pins σ _ _ e s' O z
 | ok fl=>
  cases fl with
  | ret u=>
   obtain⟨v,H',I3,rv,ev,q3⟩:=O.after z;subst ev;exact⟨rv,⟨V.ref<|s.heap.objs.size+1,H',I3,rfl,q3⟩⟩
  | next=>exact ID z
  | brk=>exact ID z
  | cont=>exact ID z
theorem bT(M:Mk X.K C f)(F:FnOk X.prog X.w X.K X.mg X.base CX k f fd ps sp)(O:Room (k+1) X.A)(S:Gl X x)(hm:X.mg x=some (.ref C))(U:Binds X.K fd ps ds)(hd:Vals dvs ds)(hx:J2 CX X E)
 (ha:PA X (e::es) t) (Y:(x==("__debug__" : Str))=false:=by decide) (Z:starEach (e::es) X.env=(false,eval e X.env)::starEach es X.env:=by rfl) (a0:(backTo pos (starEach es X.env)).any (·.1)=false:=by rfl) :
 PE X (.Call (.Name x p) (e::es) [] pos) (fY C sp dvs E t):=by
 intro pins s σ H Q I h;refine IT<|YA I S hm ?_ Y;refine Nt (h₀:=X.base) I.ok.mod.kin M.kp (thn (ha pos pins s σ H _ I h) λus s1 ⟨vs,H1,z,r,q⟩=>⟨z.kIn,?_⟩) Z a0;exact gy M F O U hd hx z r q
end
structure FnScope(N P:List Str)(sc:Scope):Prop where
 kind:sc.kind = .function
 co:sc.isCoroutine=false
 gen:sc.isGenerator=false
 nd:N.Nodup
 pre:N.take P.length=P
 par : ∀x∈P,sc.names.lookup x=some .local\/sc.names.lookup x=some .cell
 nofree : ∀y∈sc.names,y.2 ≠ .free
theorem KR{kindOf:Str->Option NameKind}{x:Str} : ∀{binds:List (Str×Value)} {m:RJ},(∀v,(x,v)∉binds)->bindL kindOf binds m x=m x
 | [],_,_=>rfl
 | (n,v)::r,m,h=>by
  unfold bindL;rw[KR λw hw=>h w (Gn _ hw)];split
  ·have:x≠n:=by rintro rfl;exact h v Gu
   simp[this]
  ·rfl
theorem KW{kindOf:Str->Option NameKind}{x:Str} : ∀{binds:List (Str×Value)} {m:RJ},(∀v,(x,v)∉binds)->bindC kindOf binds m x=m x
 | [],_,_=>rfl
 | (n,v)::r,m,h=>by
  unfold bindC;rw[KW λw hw=>h w (Gn _ hw)];split
  ·rfl
  ·have:x≠n:=by rintro rfl;exact h v Gu
   simp[this]
theorem KS{kindOf:Str->Option NameKind}{x:Str}{v:Value} : ∀{P:List Str} {vs:List Value} {i:Nat} {m:RJ},P.Nodup->P[i]? = some x->vs[i]? = some v->kindOf x=some .local->
 bindL kindOf (P.zip vs) m x=some v
 | [],_,_,_,_,h,_,_=>by simp at h
 | _::_,[],_,_,_,_,h,_=>by simp at h
 | p::P,w::vs,0,m,nd,h1,h2,hk=>by simp at h1 h2;subst h1;subst h2;show bindL kindOf ((p,w)::P.zip vs) m p=_;unfold bindL;rw[KR λv z=>(Hg.mp nd).1 (List.of_mem_zip z).1,RY hk];simp
 | p::P,w::vs,i+1,m,nd,h1,h2,hk=>by show bindL kindOf ((p,w)::P.zip vs) m x=_;unfold bindL;exact KS (i:=i) (Hg.mp nd).2 (by simpa using h1) (by simpa using h2) hk
theorem KY{kindOf:Str->Option NameKind}{x:Str}{v:Value} : ∀{P:List Str} {vs:List Value} {i:Nat} {m:RJ},P.Nodup->P[i]? = some x->vs[i]? = some v->kindOf x≠some .local->
 bindC kindOf (P.zip vs) m x=some v
 | [],_,_,_,_,h,_,_=>by simp at h
 | _::_,[],_,_,_,_,h,_=>by simp at h
 | p::P,w::vs,0,m,nd,h1,h2,hk=>by simp at h1 h2;subst h1;subst h2;show bindC kindOf ((p,w)::P.zip vs) m p=_;unfold bindC;rw[KW λv z=>(Hg.mp nd).1 (List.of_mem_zip z).1,EQ hk];simp
 | p::P,w::vs,i+1,m,nd,h1,h2,hk=>by show bindC kindOf ((p,w)::P.zip vs) m x=_;unfold bindC;exact KY (i:=i) (Hg.mp nd).2 (by simpa using h1) (by simpa using h2) hk
def start(N:List Str)(vs:List V):St:=vs.map some++Ge (N.length - vs.length) none
def rD(CX:CXT)(P:Program)(w:World)(K:FY)(mg:RJ)(base:Heap)(N:List Str)(qual:Str)(scope:Scope)(f:Addr)(z:Value)(A:Around)(outer:List Env)(s:Shared)(H:Hp)(E:XK):Cx where
 prog:=P
 w:=w
 K:=K
 mg:=mg
 base:=base
 A:=A.deeper<|envOfC qual scope s.heap.objs.size f z
 N:=N
 s₀:=s
 H₀:=H
 env:=envOfC qual scope s.heap.objs.size f z
 outer:=outer
 stack:=envOfC qual scope s.heap.objs.size f z::outer
 ex:=[]
 calm:=true
 fn:=λ_=>true
 pn:=[]
 xe:=λe s'=>wpAny (model P w) (A.deeper<|envOfC qual scope s.heap.objs.size f z) (leaving (envOfC qual scope s.heap.objs.size f z) e) (λ_ I=>CX outer H s E e I) (λO I=>CX outer H s E O I) s'
theorem V4{sc:Scope}{n:Nat}{x:Str}(h:sc.names.lookup x=some .cell) : ∃c,(cellsFrom n sc.names []).lookup x=some c:=by have q:=LK sc.names n [] (.inl h);exact HR.mp q
theorem cV{CX:CXT}{P:Program}{w:World}{K:FY}{mg:RJ}{base:Heap}{N ps:List Str}{qual:Str}{scope:Scope}{f:Addr}{Y:Value}{A:Around}{outer:List Env}{s s1:Shared}{H:Hp}{E:XK}{us:List Value}{vs:List V}
 (S:FnScope N ps scope) (hd:A.handled=none) (I:Env0 P w K mg base A outer s H) (hl:vs.length=ps.length) (r:Vals vs us)
 (x:InCallC s s.heap.objs.size (bindL (envOfC qual scope s.heap.objs.size f Y).kindOf (ps.zip us) λ_=>none) (cellsFrom (s.heap.objs.size+1) scope.names []) (bindC (envOfC qual scope s.heap.objs.size f Y).kindOf (ps.zip us) λ_=>none) s1) :
 Inv (rD CX P w K mg base N qual scope f Y A outer s H E) [] (start N vs) H s1:=by
 have a5:ps.length<=N.length:=by have:=congrArg List.length S.pre;rw[Lb]at this;omega
 obtain⟨h1,tk,rfl,hk⟩:=x.done;have Z : ∀b:Addr,b∉(rD CX P w K mg base N qual scope f Y A outer s H E).ex:=λb z=>absurd (show b∈([]:List Addr)from z) ⋯;refine⟨⟨I.mod,S.kind,rfl,rfl,Gh _,λy z c h1 h2=>?_,λy O=>?_,λy c _ h=>?_,λ_=>hd,Around.frames_deeper I.frames,.inr ⟨rfl,rfl⟩,λb z=>absurd z<|Z b,I.bs,I.bsz,λb _ _=>Z b,λb z=>absurd z<|Z b,I.funs,I.frf⟩,
  rfl,I.bare,Un.kept hk,⟨_,x.toInCall.ns,λi y v h1 h2 h3=>?_⟩,λy c h=>⟨_,x.cell y c h⟩,I.hok.fresh<|Gh _,λy c h=>?_,λp U=>absurd (show p∈([]:RW)from U) ⋯,I.hok.kept hk,?_⟩
 ·exact name_of_addr x.apart (LA h1)<|LA h2
 ·have O:scope.names.lookup y=some .cell\/scope.names.lookup y=some .free:=O
  rcases O with O | O
  ·exact V4 O
  ·exact absurd rfl<|S.nofree _<|LA O
 ·exact Nk<|x.above y c<|LA h
 ·have hi:i<vs.length:=by
   unfold start at h2;by_cases hi:i<vs.length
   ·exact hi
   ·rw[Hj (by simpa using hi)]at h2
    rw[LN]at h2;split at h2<;>cases h2
  have ha:vs[i]? = some v:=by
   unfold start at h2;rw[Hx (by simpa using hi),GZ]at h2;cases e:vs[i]? with
   | none=>rw[e]at h2;cases h2
   | some a=>rw[e]at h2;cases h2;rfl
  obtain⟨u,hu,rv⟩:=r.get ha;have U:ps[i]? = some y:=by rw[<- S.pre,List.getElem?_take_of_lt ⋯];exact h1
  have a2:ps.Nodup:=by rw[<- S.pre];exact S.nd.sublist<|List.take_sublist _ _
  refine⟨u,rv,?_⟩;rcases S.par y (He U)with k | k
  ·exact .inl ⟨k,KS a2 U hu k⟩
  ·obtain⟨c,e⟩:=V4 (n:=s.heap.objs.size+1) k
   refine .inr ⟨.inl k,c,e,?_⟩;have q:=x.cell y c e;rw[KY a2 U hu (by show scope.names.lookup y≠_;rw[k];decide)]at q;exact q
 ·exact I.hok.fresh<|Nk<|x.above y c<|LA h
 ·unfold start
  show _=N.length;rw[Hv,Gw,List.length_replicate];omega
theorem CV{CX:CXT}{P:Program}{w:World}{K:FY}{mg:RJ}{base:Heap}{k:Nat}{f:Addr}{name qual:Str}{a0:Arguments}{body:List Stmt}{scope:Scope}{dV kV doc pm cdv ct oc:Value}{an od:Option Addr}
 {osl:Array (Option Value)} {N ps:List Str} {sp:Sp} (lk:K.lookup f=some ⟨oc,od,.func<|Ij name qual a0 body scope dV kV doc pm an cdv ct,osl⟩) (a5:Lu K cdv qual=true) (S:FnScope N ps scope)
 (len : ∀vs H Q E,sp vs H Q E->vs.length=ps.length)
 (a6 : ∀(A:Around) (outer:List Env) (s:Shared) (H:Hp) (vs:List V) (Q:VK) (E:XK),Room k (A.deeper<|envOfC qual scope s.heap.objs.size f cdv)->sp vs H Q E->
   ∃t,PSs (rD CX P w K mg base N qual scope f cdv A outer s H E) body t/\t {nx:=λ_ H'=>Q .non H',rt:=Q} (start N vs) H) :
 FnOk P w K mg base CX (k+1) f (Ij name qual a0 body scope dV kV doc pm an cdv ct) ps sp:=by
 refine⟨len,λA outer s H args us vs Q E Y O hb r a2=>?_⟩;have hl:=len _ _ _ _ a2;have KX:K.In s.heap:=O.mod.kin.keeps λb o e=>(O.bs b o e).1;have lim:s.heap.NoLimit:=O.mod.nolimit.keeps λb o e=>(O.bs b o e).1;have a9 : ∀y∈ps.zip us,scope.names.lookup y.1=some .local\/(scope.names.lookup y.1=some .cell/\((cellsFrom (s.heap.objs.size+1) scope.names []).lookup y.1).isSome=true):=λ⟨n,v⟩ hy=>by
  rcases S.par n (List.of_mem_zip hy).1 with q | q
  ·exact .inl q
  ·exact .inr ⟨q,LK _ _ _<|.inl q⟩
 refine codeAny_call_function Y.depth (KX _ _ lk) rfl S.co S.gen rfl (PySem.W.codeRec_of KX a5)<|hb _ _ _ _ ?_;refine wpAny_newFunctionEnv_cells S.kind a9 λenv he s1 x=>?_;subst he;refine⟨lim.keeps x.toInCall.keep,codeAny_func ?_⟩;obtain⟨t,ht,hq⟩:=a6 A outer s H vs Q E (Y.deeper _) a2;have I:Inv (rD CX P w K mg base N qual scope f cdv A outer s H E) [] (start N vs) H s1:=cV S Y.hd O hl r x;refine IR (ht [] s1 (start N vs) H _ I hq) (λfl s' z=>?_) λe s' z=>z;have a4 : ∀{U:St} {H':Hp} {v:V} {u:Value},Inv (rD CX P w K mg base N qual scope f cdv A outer s H E) [] U H' s'->RelV v u->Q v H'->CE outer P w H s Q u s':=
  λ{U H' v u} J Z q=>⟨v,H',J.os,J.bare,J.base,J.hok,Z,q⟩
 cases fl with
 | ret u=>
  obtain⟨v,U,H',J,Z,q⟩:=z;exact a4 J Z q
 | next=>
  obtain⟨U,H',J,q⟩:=z;exact a4 (v:=V.non) (u:=HK) J rfl q
 | brk=>
  obtain⟨_,_,_,q⟩:=z;exact ID q
 | cont=>
  obtain⟨_,_,_,q⟩:=z;exact ID q
section
variable{X:Cx}{x:Str}{p pos:Pos}{e:Expr}{es:List Expr}{t:TA}{id T:String}{r:List V->Hp->VK->Prop}
def tCB(r:List V->Hp->VK->Prop)(t:TA):TE:=λσ H Q=>t σ H λvs H1=>r vs H1 Q
theorem yT(z:Jt X (.builtin id) r)(O:Gl X x)(hm:X.mg x=none)(S:bootBuiltins x=some (.builtin id))(ha:PA X (e::es) t)(hn:x ≠ "__name__":=by decide)(U:(x==("__debug__" : Str))=false:=by decide)
 (Y:starEach (e::es) X.env=(false,eval e X.env)::starEach es X.env:=by rfl) (Z:(backTo pos<|starEach es X.env).any (·.1)=false:=by rfl):PE X (.Call (.Name x p) (e::es) [] pos) (tCB r t):=by
 intro pins s σ H Q I h;refine IT<|xP I O hm S ?_ hn U;exact LI (thn (ha pos pins s σ H _ I h) λus s1 ⟨vs,H1,I1,r1,q1⟩=>z pins s1 σ H1 vs us Q I1 r1 q1) Y Z
theorem Zw(z:Jt X (.type T) r)(O:Gl X x)(hm:X.mg x=none)(S:bootBuiltins x=some (.type T))(ha:PA X (e::es) t)(hn:x ≠ "__name__":=by decide)(U:(x==("__debug__" : Str))=false:=by decide)
 (Y:starEach (e::es) X.env=(false,eval e X.env)::starEach es X.env:=by rfl) (Z:(backTo pos<|starEach es X.env).any (·.1)=false:=by rfl):PE X (.Call (.Name x p) (e::es) [] pos) (tCB r t):=by
 intro pins s σ H Q I h;refine IT<|xP I O hm S ?_ hn U;exact Hw (thn (ha pos pins s σ H _ I h) λus s1 ⟨vs,H1,I1,r1,q1⟩=>z pins s1 σ H1 vs us Q I1 r1 q1) Y Z
end
end L2
namespace HT
open PySem PyProof.Rows
section
variable{prog:Program}{w:World}{A:Around}{E:RQ}{s:Shared}
theorem cat_tup(ht:IsTup s.heap t vs.toArray)(hb:IsTup s.heap b z.toArray)(S:vs ≠ [])
 (h1:z=[]->Q (.ref t) s) (h2:z ≠ []->Q (.ref s.heap.objs.size) {s with heap:=s.heap.push {cls:= .type "tuple",data:= .seq (vs++z).toArray}})
 (hsz:vs.length+z.length<=sizeLine):wpAny (model prog w) A (binaryOp .Add (.ref t)<|.ref b) Q E s:=by
 obtain⟨⟨cls,U,data,sl⟩,I,Y,n,hd⟩:=id ht;obtain⟨⟨a6,Z,data2,a0⟩,O,a1,n2,a3⟩:=id hb;simp only at Y hd a1 a3;subst Y hd a1 a3;have e:vs.toArray++z.toArray=(vs++z).toArray:=by simp
 by_cases hw:z=[]
 ·exact Of ⟨_,I,rfl⟩ ⟨_,O,rfl⟩ Og seq_tuple_add MK MI (Mx _ _)
   (tuple_addW1 t b vs.toArray z.toArray n n2 U Z sl a0 (by simpa using S)<|by simp[hw]) ⟨I,O,h1 hw⟩
 ·refine Of ⟨_,I,rfl⟩ ⟨_,O,rfl⟩ Og seq_tuple_add MK MI (Mx _ _)
   (tuple_addW2 t b vs.toArray z.toArray n n2 U Z sl a0 (by simpa using S) (by simpa using hw)<|by rw[Gp,Gp];exact hsz) ⟨I,O,?_⟩
  rw[e];exact h2 hw
def sIx(n d:Nat):Option Int->Nat
 | none=>d
 | some v=>if v<0 then (v+(n:Int)).toNat else min v.toNat n
theorem tf(n d:Nat)(hd:d<=n)(o:Option Int):sIx n d o<=n:=by
 cases o with
 | none=>exact hd
 | some v=>
  show(if v<0 then (v+(n:Int)).toNat else min v.toNat n)<=n;by_cases z:v<0
  ·rw[RY z];omega
  ·rw[EQ z];exact Ob _ _
theorem eB(v:Int)(n d:Nat):(if v<0 then max (v+(n:Int)) 0 else min v (n:Int))=((sIx n d (some v):Nat):Int):=by
 show(if v<0 then max (v+(n:Int)) 0 else min v (n:Int))=(((if v<0 then (v+(n:Int)).toNat else min v.toNat n):Nat):Int);by_cases z:v<0
 ·simp only[RY z];omega
 ·simp only[EQ z];omega
theorem ai(lo hi:Option Int)(n:Nat):Me lo hi 1 (n:Int)=(((sIx n 0 lo:Nat):Int),((sIx n n hi:Nat):Int)):=by
 have h1 : ¬((1:Int)<0):=by omega
 unfold Me;simp only[h1,if_false];refine Prod.ext ?_ ?_
 ·cases lo with
  | none=>rfl
  | some v=>exact eB v n 0
 ·cases hi with
  | none=>rfl
  | some v=>exact eB v n n
theorem WC(i j:Nat):Lf (i:Int) (j:Int) 1=j - i:=by
 unfold Lf;have h1:(1:Int)>0:=by omega
 simp only[h1,if_true,Int.ediv_one];split<;>omega
theorem JC(p:IsPart v o)(h:Q o s):wpAny (model prog w) A (Builtin.Slice.slicePartIndex v) Q E s:=by
 cases p with
 | none=>exact slicePart_none h
 | int i t=>exact slicePart_int h
theorem sliceApplied_gen{sl:Addr}{z I:Value}{lo hi:Option Int}{n:Nat}{Q:Int×Int×Nat->Shared->Prop}(U:s.heap.IsSliceOf sl z I .none)(pl:IsPart z lo)(Y:IsPart I hi)
 (h:Q (((sIx n 0 lo:Nat):Int),1,sIx n n hi - sIx n 0 lo) s):wpAny (model prog w) A (Builtin.Slice.sliceApplied (.ref sl)<|pure (n:Int)) Q E s:=by
 obtain⟨os,O,Z,S⟩:=id U;unfold Builtin.Slice.sliceApplied Builtin.Slice.sliceFields;refine FZ<|FZ<|HI O S (x:=z) rfl<|FZ<|HI O S (x:=I) rfl<|FZ<|HI O S (x:= .none) rfl<|Gf ?_;refine FZ<|slicePart_none ?_;show wpAny _ _ (if ((1:Int)==0)=true then _ else _) _ _ s;rw[EQ ⋯];refine FZ<|JC pl<|FZ<|JC Y<|FZ<|Gf ?_;show wpAny _ _ (match Me lo hi 1 (n:Int)with | (lo,hi)=>pure (lo,(1:Int),Lf lo hi 1)) _ _ s;rw[ai lo hi n];show wpAny _ _ (pure (((sIx n 0 lo:Nat):Int),(1:Int),Lf ((sIx n 0 lo:Nat):Int) ((sIx n n hi:Nat):Int) 1)) _ _ s;rw[WC];exact Gf h
theorem gW(xs:Array Value)(i k:Nat):((Ga k).filterMap λ(m:Nat)=>xs[((i:Int)+(m:Int)*1).toNat]?).toArray=((xs.toList.drop i).take k).toArray:=by
 have e:(λ(m:Nat)=>xs[((i:Int)+(m:Int)*1).toNat]?)=λm=>xs[i+m]? :=by
  funext m;have:((i:Int)+(m:Int)*1).toNat=i+m:=by omega
  rw[this]
 rw[e];have:=pick_run xs i k;rw[List.filterMap_map]at this;have z:((λx=>xs[x]?)∘λx=>i+x)=λm=>xs[i+m]? :=rfl;rw[z]at this;rw[this]
theorem getItem_tuple_cut{t sl:Addr}{items:Array Value}{O S:Value}{lo hi:Option Int}{Q:RQ}(z:IsTup s.heap t items)(U:s.heap.IsSliceOf sl O S .none)(pl:IsPart O lo)(Y:IsPart S hi)
 (hw : ¬(sIx items.size 0 lo=0/\sIx items.size items.size hi=items.size))
 (h:Q (.ref s.heap.objs.size) {s with heap:=s.heap.push {cls:= .type "tuple",data:= .seq ((items.toList.drop (sIx items.size 0 lo)).take (sIx items.size items.size hi - sIx items.size 0 lo)).toArray}})
 (hsz:items.size<=sizeLine):wpAny (model prog w) A (getItem (.ref t)<|.ref sl) Q E s:=by
 have I:sizeOk (.seq ((items.toList.drop<|sIx items.size 0 lo).take (sIx items.size items.size hi - sIx items.size 0 lo)).toArray):=by show((items.toList.drop<|sIx items.size 0 lo).take (sIx items.size items.size hi - sIx items.size 0 lo)).toArray.size<=sizeLine;rw[Gp,Lb,List.length_drop,HV];omega
 have hj:sIx items.size items.size hi<=items.size:=tf _ _ (Gh _) hi;obtain⟨os,Z,a0,a4⟩:=id U;have a1:s.TypeIs (.ref sl) "slice":=⟨os,Z,a0⟩;unfold getItem
 try with_reducible refine HH ?_
 first | refine FZ (Gf ?_) | skip
 refine FZ (wpAny_sequenceKey z.typeIs ⋯ ?_);refine FZ (HJ (name:=Ho "__getitem__") z.typeIs HU
  (HY HU z.typeIs entry_tuple_getitem ?_ (args_tuple_getitem _ _)))
 show wpAny _ _ (Builtin.Tuple.tupleItemsOf (.ref t) >>= _) _ _ s;refine FZ<|Nh z ?_;refine FZ<|LQ a1 ?_;rw[RY ⋯];refine FZ<|sliceApplied_gen U pl Y ?_;have a2 : ¬((((sIx items.size 0 lo:Nat):Int)==0 && (1:Int)==1 && (sIx items.size items.size hi - sIx items.size 0 lo)==items.size)=true):=by intro q;rw[Gs,Gs]at q;have q1:((sIx items.size 0 lo:Nat):Int)=0:=eq_of_beq q.1.1;have q2:sIx items.size items.size hi - sIx items.size 0 lo=items.size:=eq_of_beq q.2;exact hw ⟨by omega,by omega⟩
 show wpAny _ _ (if (((sIx items.size 0 lo:Nat):Int)==0 && (1:Int)==1 && (sIx items.size items.size hi - sIx items.size 0 lo)==items.size)=true then _ else _) _ _ s;rw[EQ a2,gW]
 first
  | exact FZ (m:=Iq _)<|HZ (Gf ⟨_,rfl,Gf h⟩) I
  | exact FZ (m:=Iq _)<|HZ (FZ<|Gf<|Gf ⟨_,rfl,Gf h⟩) I
  | exact FZ<|FZ (m:=Iq _)<|HZ (Gf<|Gf ⟨_,rfl,Gf h⟩) I
  | exact FZ<|FZ (m:=Iq _)<|HZ (Gf ⟨_,rfl,Gf h⟩) I
end
end HT
namespace L2
open PySem PySem.Spec PyProof.Rows
abbrev TO:=St->Hp->(Option Int->Hp->Prop)->Prop
def PO(X:Cx)(e:Option Expr)(t:TO):Prop:=
 ∀(pins:RW) (s:Shared) (σ:St) (H:Hp) (Q:Option Int->Hp->Prop),Inv X pins σ H s->t σ H Q->
  wpAny (model X.prog X.w) X.A (evalPart e X.env) (λu s'=>∃o H',Inv X pins σ H' s'/\IsPart u o/\Q o H') X.xe s
def nK:TO:=λ_ H Q=>Q none H
def BS(t:TE):TO:=λσ H Q=>t σ H λx H1=>∃i,x = .int i/\Q (some i) H1
section
variable{X:Cx}{e:Expr}{te:TE}{lo hi:Option Expr}{tl th:TO}{pos p2:Pos}
theorem oO:PO X none nK:=by intro pins s σ H Q I h;rw[evalPart_none];exact Gf ⟨none,H,I,.none,h⟩
theorem oN(h:PE X e te):PO X (some e) (BS te):=by intro pins s σ H Q I hw;rw[evalPart_some];refine thn (h pins s σ H _ I hw) λu s1 z=>?_;obtain⟨x,H1,O,S,U⟩:=z;obtain⟨i,rfl,q⟩:=U;obtain⟨t,rfl⟩:=S;exact⟨some i,H1,O,.int i t,q⟩
def SlR(X:Cx)(r:V->Option Int->Option Int->Hp->VK->Prop):Prop:=
 ∀(pins:RW) (s:Shared) (σ:St) (H:Hp) (x:V) (v z I:Value) (lo hi:Option Int) (sl:Addr) (Q:VK),Inv X pins σ H s->RelV x v->s.heap.IsSliceOf sl z I .none->IsPart z lo->IsPart I hi->r x lo hi H Q->
  ∃T id,typeLookup (.type T) "__getitem__" = pure (some (.builtin id))/\s.TypeIs v T/\wpAny (model X.prog X.w) X.A (getItem v (.ref sl)) (EP X pins σ Q) X.xe s
def tSl(r:V->Option Int->Option Int->Hp->VK->Prop)(te:TE)(tl th:TO):TE:=λσ H Q=>te σ H λx H1=>tl σ H1 λl H2=>th σ H2 λu z=>r x l u z Q
theorem gY(Y:SlR X r)(Z:PE X e te)(hl:PO X lo tl)(hu:PO X hi th):PE X (.Subscript e (.Slice lo hi none p2) pos) (tSl r te tl th):=by intro pins s σ H Q I h;refine Subscript_ (thn (Z pins s σ H _ I h) λv s1 hZ=>?_);obtain⟨x,H1,I1,r1,q1⟩:=hZ;refine wpAny_Slice (thn (hl pins s1 σ H1 _ I1 q1) λO s2 ⟨l,H2,I2,pl,q2⟩=>thn (hu pins s2 σ H2 _ I2 q2) λS z ⟨u,U,I3,pu,q3⟩=>?_);rw[evalPart_none];refine Gf ?_;have I4:Inv X pins σ U {z with heap:=z.heap.push {cls:= .type "slice",data:= .fields #[O,S,.none]}}:=I3.kept (t':=z.toks) λb ob q=>Gb _ q;obtain⟨T,id,hT,ht,hg⟩:=Y pins {z with heap:=z.heap.push {cls:= .type "slice",data:= .fields #[O,S,.none]}} σ U x v O S l u z.heap.objs.size Q I4 r1 (Heap.IsSliceOf.new ..) pl pu q3;show wpAny (model X.prog X.w) X.A (subscriptTail e (.Slice lo hi none p2) v (.ref z.heap.objs.size)) (EP X pins σ Q) X.xe {z with heap:=z.heap.push {cls:= .type "slice",data:= .fields #[O,S,.none]}};exact tail_any (ops:=[.ref z.heap.objs.size,v]) ht hT hg (by with_unfolding_all rfl)
def rF(xs:List V)(lo hi:Option Int):List V:=(xs.drop<|HT.sIx xs.length 0 lo).take (HT.sIx xs.length xs.length hi - HT.sIx xs.length 0 lo)
theorem YM(xs:List V)(lo hi:Option Int):(rF xs lo hi).length<=xs.length:=by unfold rF;rw[Lb,List.length_drop];omega
def FC(K:FY):V->Option Int->Option Int->Hp->VK->Prop:=λx lo hi H Q=>∃a xs,x = .ref a/\SqT K H a xs/\
 ¬(HT.sIx xs.length 0 lo=0/\HT.sIx xs.length xs.length hi=xs.length)/\∀p,H p=none->Q (.ref p) (upd H p<|.tup<|rF xs lo hi)
theorem sV:SlR X (FC X.K):=by
 intro pins s σ H x v vl vu lo hi sl Q I U Y pl Z h;obtain⟨a,xs,rfl,hx,hw,q⟩:=h;cases U;obtain⟨a0,r,O,S⟩:=I.tuple hx;have z:a0.toArray.size=xs.length:=by rw[Gp];exact r.length.symm
 refine⟨"tuple",_,HU.lookup,O.typeIs,?_⟩;refine HT.getItem_tuple_cut O Y pl Z (by rw[z];exact hw) ?_ (by rw[z];exact S);rw[z];refine⟨.ref s.heap.objs.size,_,I.laid (t':=s.toks) (o:= .tup (rF xs lo hi)) (λb ob q=>Gb _ q) (Gh _) ?_,rfl,q _ (I.hok.fresh (Gh _))⟩;exact⟨HE (YM xs lo hi) S,_,(r.drop (HT.sIx xs.length 0 lo)).take (HT.sIx xs.length xs.length hi - HT.sIx xs.length 0 lo),IsTupD.new _ _⟩
theorem Vals.nil_iff(r:Vals xs us):us=[]↔xs=[]:=by
 cases r with
 | nil=>simp
 | cons _ _=>simp
end
def ixN(n:Nat)(i:Int):Option Nat:=if 0<=i then (if i<n then some i.toNat else none)else if -(n:Int)<=i then some (i+n).toNat else none
def atI{α:Type}(xs:List α)(i:Int):Option α:=(ixN xs.length i).bind λj=>xs[j]?
theorem cS(h:ixN n i=some j):seqIndex? i n=some j/\j<n/\ -(n:Int)<=i/\i<n:=by
 unfold ixN at h;by_cases z:0<=i
 ·rw[RY z]at h
  by_cases h1:i<n
  ·rw[RY h1]at h
   have e:i.toNat=j:=Hy h;exact⟨by rw[seqIndex_of z h1,e],by omega,by omega,h1⟩
  ·rw[EQ h1]at h;cases h
 ·rw[EQ z]at h
  by_cases h1 : -(n:Int)<=i
  ·rw[RY h1]at h
   have e:(i+n).toNat=j:=Hy h;exact⟨by rw[seqIndex_neg ⋯ h1,e],by omega,h1,by omega⟩
  ·rw[EQ h1]at h;cases h
theorem YS(h:atI xs i=some v) : ∃j,seqIndex? i xs.length=some j/\xs[j]? = some v/\j<xs.length/\ -(xs.length:Int)<=i/\i<xs.length:=by
 unfold atI at h;cases e:ixN xs.length i with
 | none=>rw[e]at h;cases h
 | some j=>
  rw[e]at h;obtain⟨h1,h2,z,I⟩:=cS e;exact⟨j,h1,h,h2,z,I⟩
def wg(b:Expr):Prop:=∀o i,subscripted b false o i=operate [o,i] (getItem o i)
def IxR(X:Cx)(r:R2):Prop:=
 ∀(value z:Expr) (pins:RW) (s:Shared) (σ:St) (H:Hp) (x y:V) (v u:Value) (Q:VK),Inv X pins σ H s->RelV x v->RelV y u->r x y H Q->
  subscripted z false v u=operate [v,u] (getItem v u)->wpAny (model X.prog X.w) X.A (subscriptTail value z v u) (EP X pins σ Q) X.xe s
def MtR(X:Cx)(id:String)(r:V->List V->Hp->VK->Prop):Prop:=
 ∀(pins:RW) (s:Shared) (σ:St) (H:Hp) (x:V) (xs:List V) (v:Value) (us:List Value) (Q:VK),Inv X pins σ H s->RelV x v->Vals xs us->r x xs H Q->
  wpAny (model X.prog X.w) X.A (call (.builtin id) (v::us)) (EP X pins σ Q) X.xe s
section
variable{X:Cx}{a b:Expr}{ta tb:TE}{pos:Pos}
theorem IxR.or(h:IxR X r)(h':IxR X r'):IxR X (λx y H Q=>r x y H Q\/r' x y H Q):=by
 intro value z pins s σ H x y v u Q I O S q U;rcases q with q | q
 ·exact h value z pins s σ H x y v u Q I O S q U
 ·exact h' value z pins s σ H x y v u Q I O S q U
theorem gZ(z:IxR X r)(ha:PE X a ta)(O:PE X b tb)(S:wg b):PE X (.Subscript a b pos) (tOp r ta tb):=by intro pins s σ H Q I h;exact Subscript_<|Ei ha O I h λv u s2 x y H2 U Y Z q=>z a b pins s2 σ H2 x y v u Q U Y Z q<|S _ _
def FH(K:FY):R2:=λx y H Q=>∃p xs i v,x = .ref p/\y = .int i/\SqL K H p xs/\atI xs i=some v/\Q v H
def FE(K:FY):R2:=λx y H Q=>∃p xs i v,x = .ref p/\y = .int i/\SqT K H p xs/\atI xs i=some v/\Q v H
def FF:R2:=λx y H Q=>∃z i c,x = .str z/\y = .int i/\z.length<=sizeLine/\atI z.cps.toList i=some c/\Q (.str ⟨#[c]⟩) H
theorem ix_list:IxR X (FH X.K):=by
 intro value a9 pins s σ H x y v u Q I rx ry h S;obtain⟨p,xs,i,z,rfl,rfl,hq,he,q⟩:=h;cases rx;obtain⟨t,rfl⟩:=ry;obtain⟨a4,r,pl,hz⟩:=I.list hq;obtain⟨j,h1,h2,h3,h4,h5⟩:=YS he;obtain⟨w,U,a7⟩:=r.get h2;have hl:=r.length;have hn:=JP;have Y:EP X pins σ Q w s:=⟨z,H,I,a7,q⟩;by_cases Z:0<=i
 ·have O:i.toNat=j:=by
   rw[seqIndex_of Z h5]at h1;exact Hy h1
  exact item_listR pl.isList Z ⋯ (by rw[O];simpa using U) Y S
 ·have O:(i+(a4.toArray.size:Int)).toNat=j:=by
   rw[seqIndex_neg ⋯ h4]at h1;rw[Gp,<- hl];exact Hy h1
  exact subscriptTail_builtinR (x:=w) pl.isList.typeIs slot_list_getitem.lookup
   (wpAny_getItem_list_neg (Q:=λr s'=>r=w/\EP X pins σ Q r s') pl.isList ⋯ (by rw[Gp]<;>omega) ⋯ (by rw[O];simpa using U) ⟨rfl,Y⟩) S
theorem Aj:IxR X (FE X.K):=by
 intro value a4 pins s σ H x y v u Q I O S h U;obtain⟨p,xs,i,z,rfl,rfl,Y,Z,q⟩:=h;cases O;obtain⟨t,rfl⟩:=S;obtain⟨a5,r,pl,hz⟩:=I.tuple Y;obtain⟨j,h1,h2,h3,h4,h5⟩:=YS Z;obtain⟨w,ew,a1⟩:=r.get h2;have hl:=r.length;have hn:=JP;have a3:EP X pins σ Q w s:=⟨z,H,I,a1,q⟩;exact subscriptTail_builtinR (x:=w) pl.typeIs slot_tuple_getitem.lookup
  (getItem_tuple (j:=j) (Q:=λr s'=>r=w/\EP X pins σ Q r s') pl ⋯ ⋯ (by rw[Gp,<- hl];exact h1) (by simpa using ew) ⟨rfl,a3⟩) U
theorem Ak:IxR X FF:=by
 intro value a3 pins s σ H x y v u Q I O S h U;obtain⟨z,i,c,rfl,rfl,hz,Y,q⟩:=h;obtain⟨t,rfl⟩:=O;obtain⟨t',rfl⟩:=S;obtain⟨j,h1,h2,h3,Z,h5⟩:=YS Y;have hl:z.cps.toList.length=z.length:=by simp[Str.length]
 rw[hl]at h1 Z h5;have hn:=JP;exact tail_any (typeIs_str s z t) slot_str_getitem.lookup (getItem_str (c:=c) (by
  have e1:decide (i < -(2 ^ 63:Int))=false:=decide_eq_false ⋯;have e2:decide (i>=2 ^ 63)=false:=decide_eq_false ⋯;rw[e1,e2,Bool.or_false]) (by rw[h1];simpa using h2) ⟨.str ⟨#[c]⟩,H,I.tok _,⟨_,rfl⟩,q⟩) U
theorem WN(z:List Value)(n j:Nat)(u:Value):HL (·.setIfInBounds j u) {cls:= .type "list",data:= .seq z.toArray n} = {cls:= .type "list",data:= .seq (z.set j u).toArray n}:=by simp[HL]
theorem Inv.lst(I:Inv X pins σ H s)(h:H p=some (.lst xs)) :
 ∃(O:List Value) (n:Nat),Vals xs O/\s.heap.get? p=some {cls:= .type "list",data:= .seq O.toArray n}/\xs.length<=sizeLine:=by
 obtain⟨z,O,n,r,e⟩:=I.hok p _ h;exact⟨O,n,r,e,z⟩
theorem Inv.lstUpd{pins:RW}{σ:St}{H:Hp}{s:Shared}{p:Addr}{xs ys:List V}{z its':List Value}{n n':Nat}{f:Obj->Obj}(I:Inv X pins σ H s)(h:H p=some (.lst xs))
 (S:s.heap.get? p=some {cls:= .type "list",data:= .seq z.toArray n}) (O:f {cls:= .type "list",data:= .seq z.toArray n} = {cls:= .type "list",data:= .seq its'.toArray n'}) (r:Vals ys its') (U:ys.length<=sizeLine) (t:Nat) :
 Inv X pins σ (upd H p<|.lst ys) {s with heap:=s.heap.update p f,toks:=t}:=by
 have e:(s.heap.update p f).get? p=some {cls:= .type "list",data:= .seq its'.toArray n'}:=by rw[Nf f S (by rw[O]<;>rfl),O]
 refine I.write (x:=p) (e:=p) (by rw[h];trivial) (.inl rfl) (λb u Y q=>(HM _ _<|GN Y).trans q) ⟨_,e⟩ ?_;exact⟨U,its',n',r,e⟩
def Cj:V->V->V->Hp->(Hp->Prop)->Prop:=λo i v H Q=>∃p xs k j,o = .ref p/\i = .int k/\H p=some (.lst xs)/\ixN xs.length k=some j/\Q (upd H p<|.lst<|xs.set j v)
theorem wI:Fn X Cj:=by
 intro pins s σ H o i v ov iv u Q I ro ri rv h;obtain⟨p,xs,k,j,rfl,rfl,U,hj,q⟩:=h;cases ro;obtain⟨t,rfl⟩:=ri;obtain⟨Y,n,r,z,hz⟩:=I.lst U;obtain⟨h1,h2,Z,h4⟩:=cS hj;have O:=r.length;have hn:=JP;have I':Inv X pins σ (upd H p<|.lst<|xs.set j v) {s with heap:=s.heap.update p (HL (·.setIfInBounds j u))}:=
  I.lstUpd U z (WN Y n j u) (r.set rv j) (by rw[List.length_set];exact hz) s.toks
 by_cases h0:0<=k
 ·have S:k.toNat=j:=by
   rw[seqIndex_of h0 h4]at h1;exact Hy h1
  exact PySem.W.ki_setAt z h0 ⋯ (by rw[Gp,<- O];exact h4) (by rw[S];exact⟨_,I',q⟩)
 ·have S:(k+(Y.toArray.size:Int)).toNat=j:=by
   rw[seqIndex_neg ⋯ Z]at h1;rw[Gp,<- O];exact Hy h1
  exact PySem.W.ki_setBack z ⋯ (by rw[Gp,<- O];exact Z) ⋯ (by rw[S];exact⟨_,I',q⟩)
def Xi:V->Bool
 | .non=>true
 | .bl _=>true
 | .int _=>true
 | .str _=>true
 | _=>false
def eqV:V->V->Bool
 | .non,.non=>true
 | .bl a,.bl b=>a==b
 | .bl a,.int b=>(if a then 1 else 0)==b
 | .int a,.bl b=>a==(if b then 1 else 0)
 | .int a,.int b=>a==b
 | .str a,.str b=>a==b
 | _,_=>false
theorem Ax(I:RelV y u)(z:RelV x v)(O:Xi y=true)(fx:Xi x=true):HS A s u v (eqV y x):=by
 cases y with
 | non=>
  cases I;cases x with
  | non=>cases z;exact HS.same _
  | bl b=>cases z;exact HS.none_bool b
  | int b=>obtain⟨t,rfl⟩:=z;exact HS.none_int b t
  | str b=>obtain⟨t,rfl⟩:=z;exact HS.none_str b t
  | _=>exact absurd (show false=true from fx) GA
 | bl a=>
  cases I;cases x with
  | non=>cases z;exact HS.bool_none a
  | bl b=>cases z;exact HS.bool_bool a b
  | int b=>obtain⟨t,rfl⟩:=z;exact HS.bool_int a b t
  | str b=>obtain⟨t,rfl⟩:=z;exact HS.bool_str a b t
  | _=>exact absurd (show false=true from fx) GA
 | int a=>
  obtain⟨t',rfl⟩:=I;cases x with
  | non=>cases z;exact HS.int_none a t'
  | bl b=>cases z;exact HS.int_bool a t' b
  | int b=>obtain⟨t,rfl⟩:=z;exact Nc a t' b t
  | str b=>obtain⟨t,rfl⟩:=z;exact HS.int_str a t' b t
  | _=>exact absurd (show false=true from fx) GA
 | str a=>
  obtain⟨t',rfl⟩:=I;cases x with
  | non=>cases z;exact HS.str_none a t'
  | bl b=>cases z;exact HS.str_bool a t' b
  | int b=>obtain⟨t,rfl⟩:=z;exact HS.str_int a t' b t
  | str b=>obtain⟨t,rfl⟩:=z;exact HS.str_str a t' b t
  | _=>exact absurd (show false=true from fx) GA
 | _=>exact absurd (show false=true from O) GA
def eqU(x:V)(u:Value):Bool:=match u with
 | .none=>eqV .non x
 | .bool b=>eqV (.bl b) x
 | .int i _=>eqV (.int i) x
 | .str z _=>eqV (.str z) x
 | _=>false
theorem mP(r:RelV y u)(f:Xi y=true):eqU x u=eqV y x:=by
 cases y with
 | non=>cases r;rfl
 | bl b=>cases r;rfl
 | int i=>obtain⟨t,rfl⟩:=r;rfl
 | str z=>obtain⟨t,rfl⟩:=r;rfl
 | _=>exact absurd (show false=true from f) GA
theorem YW : ∀{xs:List V} {us:List Value},Vals xs us->xs.all Xi=true->us.any (eqU x)=xs.any λy=>eqV y x
 | _,_,.nil,_=>rfl
 | y::xs,u::us,.cons r t,f=>by rw[NJ,Gs]at f;rw[Lr,Lr,mP r f.1,YW t f.2]
theorem QY(I:RelV x v)(fx:Xi x=true) : ∀{xs:List V} {us:List Value},Vals xs us->xs.all Xi=true->∀u∈us,HS A s u v (eqU x u)
 | _,_,.nil,_=>λu z=>by cases z
 | y::xs,u::us,.cons r t,f=>λO z=>by
  rw[NJ,Gs]at f;rcases Gr.mp z with rfl | z
  ·rw[mP r f.1];exact Ax r I f.1 fx
  ·exact QY I fx t f.2 O z
def inV(x:V)(xs:List V):Bool:=xs.any λy=>eqV y x
def rIn(K:FY)(z:Bool):R2:=λx y H Q=>∃p xs,y = .ref p/\(SqL K H p xs\/SqT K H p xs)/\Xi x=true/\xs.all Xi=true/\Q (.bl<|if z then !inV x xs else inV x xs) H
theorem Kd:OpR X (compareOp .NotIn) (rIn X.K true):=by
 intro pins s σ H x y v u Q I S U h;obtain⟨p,xs,rfl,z,fx,fs,q⟩:=h;cases U;rcases z with z | z
 ·obtain⟨O,r,pl,Y⟩:=I.list z
  refine SeqAt.notIn_listAt (eqU x) pl.isList (λw hw=>QY S fx r fs w<|by simpa using hw) ⟨.bl _,H,I,rfl,?_⟩;rw[show O.toArray.any (eqU x)=O.any (eqU x)by simp,YW r fs];exact q
 ·obtain⟨O,r,pl,Y⟩:=I.tuple z
  refine SeqAt.notIn_tupleAt (eqU x) pl (λw hw=>QY S fx r fs w<|by simpa using hw) ⟨.bl _,H,I,rfl,?_⟩;rw[show O.toArray.any (eqU x)=O.any (eqU x)by simp,YW r fs];exact q
theorem KQ:Jt X (.builtin "len") (λxs H Q=>∃p ys,xs=[.ref p]/\(SqL X.K H p ys\/SqT X.K H p ys)/\Q (.int ys.length) H):=by
 intro pins s σ H xs us Q I r h;obtain⟨p,ys,rfl,z,q⟩:=h;obtain⟨u,rfl,S⟩:=yE r;cases S;have hn:=JP;rcases z with z | z
 ·obtain⟨U,r',pl,Y⟩:=I.list z
  have O:=r'.length;exact Calls.call_len_list pl.isList (by simp only[Gp]<;>omega) ⟨.int ys.length,H,I.tok _,⟨s.toks+1,by rw[Gp,O]⟩,q⟩
 ·obtain⟨U,r',pl,Y⟩:=I.tuple z
  have O:=r'.length;exact len_tuple pl (by simp only[Gp]<;>omega) ⟨.int ys.length,H,I.tok _,⟨s.toks+1,by rw[Gp,O]⟩,q⟩
theorem KP:Jt X (.type "list") (λxs H Q=>∃p ys,xs=[.ref p]/\(SqL X.K H p ys\/SqT X.K H p ys)/\∀l,H l=none->Q (.ref l) (upd H l (.lst ys))):=by
 intro pins s σ H xs us Q I r h;obtain⟨p,ys,rfl,S,q⟩:=h;obtain⟨u,rfl,rx⟩:=yE r;cases rx;have a0 : ∀(z:List Value),Vals ys z->ys.length<=sizeLine->∀(h':Heap) (O:Nat),(∀b o',s.heap.get? b=some o'->h'.get? b=some o')->
  h'.get? s.heap.objs.size=some {cls:= .type "list",dict:=none,data:= .seq z.toArray O,slots:=#[]}->EP X pins σ Q (.ref s.heap.objs.size) {s with heap:=h'}:=λz r' U h' O kp e=>
  ⟨.ref s.heap.objs.size,_,I.laid (t':=s.toks) kp (Gh _) (show ObjOk X.prog X.w _ h' _ (.lst ys)from⟨U,z,O,r',e⟩),rfl,q _<|I.hok.fresh<|Gh _⟩
 rcases S with S | S
 ·obtain⟨z,r',pl,U⟩:=I.list S
  have a2:=r'.length;obtain⟨o,Y,Z,n,hd⟩:=pl.isList;exact call_list_seq p (.inl rfl) Y Z hd (λh' O kp e=>a0 z r' U h' O kp e) (by simp only[Gp]<;>omega)
 ·obtain⟨z,r',pl,U⟩:=I.tuple S
  have a2:=r'.length;obtain⟨o,Y,Z,n,hd⟩:=pl;exact call_list_seq p (.inr rfl) Y Z hd (λh' O kp e=>a0 z r' U h' O kp e) (by simp only[Gp]<;>omega)
theorem Xu:Jt X (.type "tuple") (λxs H Q=>∃p ys,xs=[.ref p]/\((SqL X.K H p ys/\∀l,H l=none->Q (.ref l) (upd H l (.tup ys)))\/(SqT X.K H p ys/\Q (.ref p) H))):=by
 intro pins s σ H xs us Q I r h;obtain⟨p,ys,rfl,h⟩:=h;obtain⟨u,rfl,Y⟩:=yE r;cases Y;rcases h with⟨z,q⟩ | ⟨z,q⟩
 ·obtain⟨O,r',pl,S⟩:=I.list z
  have a0:=r'.length;refine call_tuple_list pl.isList (λh' kp=>?_) (by simp only[Gp]<;>omega);have U:Inv X pins σ H {s with heap:=h'}:=I.kept (t':=s.toks) kp;have Z:Inv X pins σ (upd H h'.objs.size (.tup ys)) {s with heap:=h'.push {cls:= .type "tuple",data:= .seq O.toArray}}:=
   U.laid (t':=s.toks) (λb o e=>Gb _ e) (Gh _) (show ObjOk X.prog X.w _ _ _ (.tup ys)from⟨S,O,r',IsTupD.new _ _⟩)
  exact⟨.ref h'.objs.size,_,Z,rfl,q _<|U.hok.fresh<|Gh _⟩
 ·obtain⟨O,r',pl,S⟩:=I.tuple z
  exact call_tuple_same pl ⟨.ref p,H,I,rfl,q⟩
def tyV(K:FY)(T:String)(x:V)(H:Hp):Prop:=match x with
 | .str _=>T = "str"
 | .int _=>T = "int"
 | .ref p=>(T = "list"/\∃xs,SqL K H p xs)\/(T = "tuple"/\∃o,K.lookup p=some o/\o.cls = .type "tuple"/\o.dict=none)\/
  (T = "dict"/\((∃kvs,H p=some (.dK kvs))\/∃kvs,H p=some (.dT kvs)))\/(T = "set"/\∃S n,H p=some (.set S n))
 | _=>False
theorem sr(I:Inv X pins σ H s)(r:RelV x v)(ty:tyV X.K T x H) :
 s.TypeIs v T/\∀a,v = .ref a->∃ob,s.heap.get? a=some ob/\ob.dict=none:=by
 cases x with
 | str z=>
  obtain⟨t,rfl⟩:=r;cases (show T = "str" from ty);exact⟨typeIs_str s z t,λ_ e=>nomatch e⟩
 | int i=>
  obtain⟨t,rfl⟩:=r;cases (show T = "int" from ty);exact⟨Oe s i t,λ_ e=>nomatch e⟩
 | ref p=>
  cases r;rcases ty with⟨rfl,xs,Y⟩ | ⟨rfl,o,O,Z,hd⟩ | ⟨rfl,O⟩ | ⟨rfl,S,n,O⟩
  ·obtain⟨a0,_,pl,_⟩:=I.list Y
   refine⟨pl.isList.typeIs,λa e=>?_⟩;cases e;obtain⟨o,n,e,c,hd,_⟩:=pl;exact⟨o,e,hd⟩
  ·refine⟨⟨o,I.kIn p o O,Z⟩,λa e=>?_⟩
   cases e;exact⟨o,I.kIn _ o O,hd⟩
  ·have z : ∃o,s.heap.get? p=some o/\o.ExactDict:=by
    rcases O with⟨kvs,O⟩ | ⟨kvs,O⟩
    ·obtain⟨_,_,_,_,o,_,_,e,ex,_⟩:=I.hok p _ O
     exact⟨o,e,ex⟩
    ·obtain⟨_,_,_,_,o,_,_,e,ex,_⟩:=I.hok p _ O
     exact⟨o,e,ex⟩
   obtain⟨o,e,ex⟩:=z;refine⟨⟨o,e,ex.1⟩,λa U=>?_⟩;cases U;exact⟨o,e,ex.2.1⟩
  ·obtain⟨o,_,_,_,e,ex,_⟩:=I.hok p _ O
   refine⟨⟨o,e,ex.1⟩,λa U=>?_⟩;cases U;exact⟨o,e,ex.2.1⟩
 | _=>exact ID ty
def tBM(K:FY)(T:String)(r:V->List V->Hp->VK->Prop)(to:TE)(t:TA):TE:=λσ H Q=>to σ H λx H1=>tyV K T x H1/\t σ H1 λxs H2=>r x xs H2 Q
variable{o e:Expr}{es:List Expr}{to:TE}{t:TA}{name:Str}{apos cpos:Pos}{T id:String}{r:V->List V->Hp->VK->Prop}
theorem oZ(U:PlainAttrs T)(slot:Slot T name id)(Y:typeOf (.builtin id)=pure (.type "method_descriptor"))(hm:MtR X id r)(Z:PE X o to)(ha:PA X (e::es) t)
 (a0:attributeBase o name X.env (eval o X.env)=eval o X.env:=by rfl)
 (a1:((backTo cpos<|starEach (e::es) X.env).all (λx=> !x.1) && (backToKw cpos<|keywordEach [] X.env).all (λx=>x.1.isSome)
   && decide ((e::es).length+([]:List Keyword).length+(if ([]:List Keyword).isEmpty then 0 else 1)<30))=true:=by rfl)
 (a2:(apos.endLine==cpos.line)=true:=by rfl) (hs:starEach (e::es) X.env=(false,eval e X.env)::starEach es X.env:=by rfl) (a4:(backTo cpos<|starEach es X.env).any (·.1)=false:=by rfl) :
 PE X (.Call (.Attribute o name apos) (e::es) [] cpos) (tBM X.K T r to t):=by
 intro pins s σ H Q I h;refine wpAny_Call_method_late a0 a1 a2 rfl<|thn (Z pins s σ H _ I h) λv s1 hZ=>?_;obtain⟨x,H1,z,O,ty,q1⟩:=hZ;obtain⟨h1,h2⟩:=sr z O ty;refine⟨T,id,U,slot,Y,h1,h2,?_⟩;have S:=ha cpos pins s1 σ H1 _ z q1;rw[hs]at S ⊢;refine Calls.callWith_builtin (by show(false || (backTo cpos<|starEach es X.env).any (·.1))=false;rw[a4]<;>rfl)<|Calls.evalArgs_plain ?_;exact thn S λus s2 ⟨vs,H2,I2,r2,q2⟩=>hm pins s2 σ H2 x vs v us Q I2 O r2 q2
end
def MtM(X:Cx)(id:String)(r:V->List V->Hp->VK->Prop):Prop:=
 ∀(pins:RW) (s:Shared) (σ:St) (H:Hp) (x:V) (xs:List V) (v:Value) (us:List Value) (Q:VK),Inv X pins σ H s->RelV x v->Vals xs us->r x xs H Q->
  wpAny (model X.prog X.w) X.A (call (.builtin id) (v::us)) (EP X pins σ Q) X.xe s
theorem Vals.one : ∀{x:V} {us:List Value},Vals [x] us->∃u,us=[u]/\RelV x u
 | _,_,.cons r .nil=>⟨_,rfl,r⟩
theorem Vals.dropLast(h:Vals xs us):Vals xs.dropLast us.dropLast:=by
 induction h with
 | nil=>exact .nil
 | cons r t z=>
  cases t with
  | nil=>exact .nil
  | cons q t'=>exact .cons r z
theorem Vals.rep(h:Vals xs us) : ∀k:Nat,Vals (Ge k xs).flatten (Ge k us).flatten
 | 0=> .nil
 | k+1=>by rw[Iv,Iv,IV,IV];exact Vals.append h<|Vals.rep h k
theorem ZP(z:List Value) : ∀(k:Nat) (acc:List Value),
 NQ (λx1 I=>x1++I) acc.toArray (Ge k z.toArray)=(acc++(Ge k z).flatten).toArray
 | 0,acc=>by simp
 | k+1,acc=>by
  have e:acc.toArray++z.toArray=(acc++z).toArray:=by simp
  have O:(acc++z)++(Ge k z).flatten=acc++(Ge (k+1) z).flatten:=by rw[Iv,IV,List.append_assoc]
  rw[<- O,<- ZP z k (acc++z),<- e,Iv,List.foldl_cons]
section
variable{X:Cx}{pins:RW}{σ:St}{H:Hp}{s:Shared}{l b:Addr}{xs ys zs:List V}
theorem Inv.lset{z its':List Value}{n:Nat}{f:Array Value->Array Value}{t':Nat}(I:Inv X pins σ H s)(O:H l=some (.lst xs))
 (e:s.heap.get? l=some {cls:= .type "list",data:= .seq z.toArray n}) (S:f z.toArray=its'.toArray) (U:Vals ys its') (Y:ys.length<=sizeLine) :
 Inv X pins σ (upd H l<|.lst ys) {s with heap:=s.heap.update l<|HL f,toks:=t'}:=by
 have q:=PySem.IsL.update e f;rw[S]at q;refine I.write (x:=l) (e:=l) (by rw[O];exact trivial) (.inl rfl) (λb' u Z hu=>(HM s.heap (HL f)<|GN Z).trans hu) ⟨_,q⟩ ?_;exact⟨Y,its',_,U,q⟩
theorem Inv.lnew(I:Inv X pins σ H s)(O:Vals ys z)(S:ys.length<=sizeLine) :
 Inv X pins σ (upd H s.heap.objs.size (.lst ys)) {s with heap:=s.heap.push {cls:= .type "list",data:= .seq z.toArray},toks:=t'}:=
 I.laid (λ_ _ q=>Gb _ q) (Gh _) ⟨S,z,0,O,Gv _ rfl⟩
theorem Inv.fresh(I:Inv X pins σ H s):H s.heap.objs.size=none:=I.hok.fresh<|Gh _
theorem Inv.lstM(I:Inv X pins σ H s)(S:H l=some (.lst xs)):xs.length<=sizeLine/\∃(O:List Value) (n:Nat),Vals xs O/\xs.length=O.length/\s.heap.get? l=some {cls:= .type "list",data:= .seq O.toArray n}:=by obtain⟨z,O,n,r,e⟩:=I.hok l _ S;exact⟨z,O,n,r,r.length,e⟩
theorem VC(h:n<=sizeLine):Lq n=false:=by unfold Lq;exact decide_eq_false ⋯
end
section
variable{X:Cx}
def bu:V->List V->Hp->VK->Prop:=λx vs H Q=>∃l xs y,x = .ref l/\vs=[y]/\H l=some (.lst xs)/\xs.length<sizeLine/\Q .non (upd H l<|.lst<|xs++[y])
theorem cC:MtM X "list.append" bu:=by intro pins s σ H x vs v us Q I U Y h;obtain⟨l,xs,y,rfl,rfl,O,hz,q⟩:=h;cases U;obtain⟨u,rfl,Z⟩:=Y.one;obtain⟨z,S,n,r,hl,e⟩:=I.lstM O;refine LS F.slot_list_append ⟨_,e,rfl⟩ F.entry_list_append (F.args_list_append_2 _ _) (PySem.list_append l S.toArray n u (by rw[Gp];omega)) ⟨e,?_⟩;refine⟨.non,_,I.lset (its':=S++[u]) O e ⋯ (r.append (.cons Z .nil)) ?_,rfl,q⟩;rw[Hv,Lj];omega
def oq:V->List V->Hp->VK->Prop:=λx vs H Q=>∃l b xs zs,x = .ref l/\vs=[.ref b]/\H l=some (.lst xs)/\H b=some (.lst zs)/\xs.length+zs.length<=sizeLine/\Q .non (upd H l<|.lst<|xs++zs)
theorem cu:MtM X "list.extend" oq:=by
 intro pins s σ H x vs v us Q I Y Z h;obtain⟨l,b,xs,zs,rfl,rfl,U,hB,hz,q⟩:=h;cases Y;obtain⟨u,rfl,ru⟩:=Z.one;cases ru;obtain⟨z,O,n,r,hl,e⟩:=I.lstM U;obtain⟨z2,S,n2,r2,a7,e2⟩:=I.lstM hB;have hsz:O.toArray.size+S.toArray.size<=sizeLine:=by rw[Gp,Gp];omega
 have a4 : ¬(!O.toArray.isEmpty && Lq (O.toArray.size+S.toArray.size))=true:=by rw[VC hsz,Bool.and_false];exact GA
 refine LS F.slot_list_extend ⟨_,e,rfl⟩ F.entry_list_extend (F.args_list_extend_2 _ _)
  (AutoSeq1.list_extend_list_list_0 l O.toArray n b S.toArray n2 a4 (by rw[Gp];omega) ⋯) ⟨e,e2,?_⟩
 refine⟨.non,_,I.lset (its':=O++S) U e ⋯ (r.append r2) ?_,rfl,q⟩;rw[Hv];omega
def FD:R2:=λx y H Q=>∃l k xs,x = .ref l/\y = .int k/\H l=some (.lst xs)/\ -(2 ^ 63)<=k/\k<2 ^ 63/\xs.length*k.toNat<=sizeLine/\
 ∀p,H p=none->Q (.ref p) (upd H p<|.lst (Ge k.toNat xs).flatten)
theorem Yx(xs:List α)(k:Nat):(Ge k xs).flatten.length=k*xs.length:=by
 induction k with
 | zero=>simp
 | succ k z=>rw[Iv,IV,Hv,z,Nat.succ_mul,Nat.add_comm]
theorem uJ:OpR X (binaryOp .Mult) FD:=by
 intro pins s σ H x y v u Q I Z ry h;obtain⟨l,k,xs,rfl,rfl,hH,h1,h2,Y,q⟩:=h;cases Z;obtain⟨t,rfl⟩:=ry;obtain⟨z,O,n,r,hl,e⟩:=I.lstM hH;have a3:O.toArray.size*k.toNat<=sizeLine:=by rw[Gp,<- hl];exact Y
 have a4 : ¬O.toArray.size*k.toNat>(2 ^ 63 - 1)/8:=by
  have:(sizeLine:Nat)<=(2 ^ 63 - 1)/8:=by decide
  omega
 have a5 : ¬(!Builtin.List.listFitsIndex k)=true:=by rw[fitsIndex_both h1 h2];exact GA
 have a6 : ¬Lq (O.toArray.size*k.toNat)=true:=by rw[VC a3];exact GA
 have a7:NQ (λx1 S=>x1++S) #[] (Ge (if O.toArray.isEmpty=true then 0 else k.toNat) O.toArray)=(Ge k.toNat O).flatten.toArray:=by
  have f0 : ∀m:Nat,NQ (λx1 S=>x1++S) #[] (Ge m O.toArray)=(Ge m O).flatten.toArray:=λm=>by have:=ZP O m [];rw[LM]at this;exact this
  rw[f0];cases O with
  | nil=>simp
  | cons a r'=>rw[EQ ⋯]
 refine wpAny_binaryOp_repeat_ref (T:="list") (U:="int") ⋯ ⟨_,e,rfl⟩ (λs'=>Oe s' k t) noFill_list_mul F.fills_int_mul Nw repeat_list F.slot_int_index.lookup
  (LS Nw (Oe s k t) F.entry_int_rmul (F.args_int_rmul_2 _ _) (int___rmul___int_list k t l O.toArray n)
    ⟨e,rfl,⟨_,e,rfl⟩,LS F.slot_list_mul ⟨_,e,rfl⟩ F.entry_list_mul (F.args_list_mul_2 _ _) (AutoListH.list___mul___list_int_3 l O.toArray n k t a5 a4 a6) ⟨e,?_⟩⟩)
 rw[a7];exact⟨.ref _,_,I.lnew (t':=s.toks) (r.rep k.toNat) (by rw[Yx,Nj];exact Y),rfl,q _ I.fresh⟩
end
end L2
namespace Att
open PySem PySem.W PySem.Calls PyProof.Rows
theorem ZK : ∀(ns:List Int) (vs:List Value),WellAll P h vs (ns.map WData.int)->IntsAre vs ns:=by
 intro ns
 induction ns with
 | nil=>
  intro vs w;rw[List.map_nil]at w;cases w;exact .nil
 | cons n ns z=>
  intro vs w;rw[GQ]at w;cases w with
  | cons a b=>
   cases a;exact .cons _ _<|z _ b
theorem aU{l:OpenLaw}{n:Nat}(hn:l.most=some n){P:Params}{h:Heap}{args:List WData}{O:List Value}
 (S:l.row.toRowW.claim.pre args=true) (Y:WellAll P h O args) :
 ∃a vs ns,O=[GX a]/\args=[WData.list (ns.map WData.int)]/\h.get? a=some {cls:= .type "list",data:= .seq vs.toArray}/\IntsAre vs ns/\ns.length<=n:=by
 have Z:WShape.hasAll [] args [.list .int]=true:=(pre_splitW S).1;have U:l.pre.holds [] {args:=args}=true:=(pre_splitW S).2;obtain⟨d,r,rfl,h1,h2⟩:=hasAllW_cons Z;obtain rfl:=hasAllW_nil h2;obtain⟨xs,rfl,h3⟩:=hasW_list h1;obtain⟨ns,rfl⟩:=items_int h3;have a1:ns.length<=n:=by
  unfold OpenLaw.pre at U;have z:(WTm.not<|.lt (.lit<|.int (n:Int))<|.len<|.arg 0).holds [] {args:=[.list (ns.map .int)]}=true:=by have z:=(holds_andW U).1;rw[hn]at z;exact z
  have I:=condW_of z<|w_not<|w_lt w_lit<|w_len_list<|w_arg rfl;rw[Gw]at I;refine Nat.le_of_not_lt λq=>?_;have q':(n:Int)<((ns.length:Nat):Int):=by omega
  first
   | (rw[decide_eq_true q']at I;exact absurd I ⋯)
   | (simp at I;omega)
 cases Y with
 | cons w1 w2=>
  cases w2;cases w1 with
  | list ho a4=>exact⟨_,_,ns,rfl,rfl,ho,ZK ns _ a4,a1⟩
theorem bI(l:OpenLaw)(args:List WData):l.row.toRowW.claim.post args (.bool true) args=true:=
 postW_of (r:=l.row.toRowW) (X:=(true==true))
  (show WShape.has [] (.bool true) .bool=true by first | rfl | decide | simp[WShape.has,WShape.arms,WShape.armsAll])
  (show(WTm.eq .res<|.lit<|.bool true).value [] {args:=args,res:=some (.bool true),after:=args}=some (.bool<|true==true)from w_eq_bool (w_res rfl) w_lit) rfl
theorem attach_call{l:OpenLaw}{n:Nat}{q:Program}{O:List Str}{S:(Str->Option Value)->Heap->Prop}{U:World->Heap->Prop}{d:DefRec}
 (hn:l.most=some n) (a0:d.params.defaults=[])
 (call : ∀(w:World) (s₀ z:Shared) (mg mb:RJ) (fa:Addr) (o:Obj) (pm I doc:Value) (a:Addr) (vs:List Value) (ns:List Int),
   Ground q O [] S w s₀ mg mb z.heap->U w z.heap->
   z.heap.get? fa=some o->o.data = .func (docDef d.name d.params d.body d.scope pm I doc)->z.heap.CodeRec I d.name->mg d.name=some (.ref fa)->
   z.heap.get? a=some {cls:= .type "list",data:= .seq vs.toArray}->IntsAre vs ns->ns.length<=n->z.gens = #[]->
   codeAny (model l.prog w) callerA (.call (.ref fa) ⟨[.ref a],[]⟩) (λr s'=>r = .ok (.ret<|.bool true)/\OldK z.heap s'.heap/\s'.os=z.os/\AllBare s'.gens) z) :
 WalkO q O S U l.row.toRowW d [] (λf vs=>PySem.call f vs):=by
 intro w s₀ z mg mb G Y fa o pm I doc dV kV ho hd a3 Z a4 hg args an as a6 ar ax a7 b0;obtain rfl:dV = .none:=Dflts.none Z a0;obtain rfl:kV = .none:=Dflts.noKw Z;obtain⟨a,vs,ns,rfl,rfl,a8,a9,ac⟩:=aU hn a6 a7;refine enter_call<|MQ (call w s₀ z mg mb fa o pm I doc a vs ns G Y ho (fd_plain hd) a3 a4 a8 a9 ac hg) λr s' hq=>?_;obtain⟨rfl,h2,h3,h4⟩:=hq;exact⟨.inl ⟨.bool true,.bool true,[],rfl,λ_=>rfl,.bool true,bI l _,λ_=>⟨Ls.nil,λ_ hm=>(nomatch hm)⟩⟩,h2,h3,h4⟩
end Att
namespace L2
open PySem PySem.Spec PyProof.Rows
theorem yK : ∀{vs:List Value} {ns:List Int},IntsAre vs ns->Vals (ns.map V.int) vs
 | _,_,.nil=> .nil
 | _,_,.cons n t h=> .cons ⟨t,rfl⟩ (yK h)
def BL(H:Hp):Prop:=∀b,H b=none\/∃o xs,H b=some (.frz o<|.lst xs)
theorem iD{P:Program}{w:World}{K:FY}{mg mb:RJ}{CX:CXT}{k:Nat}{fa a:Addr}{fd:FuncData}{x:Str}{sp:Sp}{I:Shared}{vs:List Value}{ns:List Int}
 (KX:K.In I.heap) (a1:I.heap.Ns mainGlobals mg) (O:I.heap.Ns builtinsNs mb) (a8 : ∀x:Str,x ≠ "__name__"->mb x=bootBuiltins x) (a9:I.heap.NoLimit) (hg:I.gens = #[])
 (ha:I.heap.get? a=some {cls:= .type "list",data:= .seq vs.toArray}) (hi:IntsAre vs ns) (hl:ns.length<=sizeLine) (hr:Room k callerA)
 (F : ∀base:Heap,K.In base->base.Ns mainGlobals mg->FnOk P w K mg base CX k fa fd [x] sp) (al : ∀(s:Shared) (u:Value),BindsTo s fd ⟨[u],[]⟩ [(x,u)])
 (am : ∀H:Hp,BL H->SqL K H a (ns.map V.int)->sp [.ref a] H (λv _=>v = .bl true) λ_ _ _=>False)
 (an : ∀H e s',CX [] H I (λ_ _ _=>False) e s'->False) :
 codeAny (model P w) callerA (.call (.ref fa) ⟨[.ref a],[]⟩) (λr s'=>r = .ok (.ret<|.bool true)/\OldK I.heap s'.heap/\s'.os=I.os/\AllBare s'.gens) I:=by
 have rv:=yK hi;have ap:=hi.length;have a4 : ∀H:Hp,BL H->SqL K H a (ns.map V.int)->HOk P w H I.heap->(∀b,H b≠none->b=a)->(H a≠none->K.lookup a=none)->
  codeAny (model P w) callerA (.call (.ref fa) ⟨[.ref a],[]⟩) (λr s'=>r = .ok (.ret<|.bool true)/\OldK I.heap s'.heap/\s'.os=I.os/\AllBare s'.gens) I:=by
  intro H hO hS hok hA hK;have base_of : ∀{b:Addr} {o:Obj},I.heap.get? b=some o->H b=none->(iP I.heap H).get? b=some o:=λe n=>iO e n;have ax : ∀{b:Addr} {o:Obj} {es:Array DictEntry} {S:Nat},I.heap.get? b=some o->o.data = .dict es S->H b=none:=λ{b o es S} e d=>by
   cases q:H b with
   | none=>rfl
   | some u=>
    have Z:b=a:=hA b (by rw[q];simp);subst Z;rw[ha]at e;cases e;have d':Data.seq vs.toArray _=Data.dict es S:=d;cases d'
  have Y : ∀{b:Addr} {m:RJ},I.heap.Ns b m->(iP I.heap H).Ns b m:=λ{b m} ⟨o,es,S,e,d,r⟩=>⟨o,es,S,base_of e<|ax e d,d,r⟩;have a7:K.In (iP I.heap H):=λb o e=>base_of (KX b o e) (by
   cases q:H b with
   | none=>rfl
   | some u=>
    have Z:b=a:=hA b (by rw[q];simp);subst Z;rw[hK (by rw[q];simp)]at e;cases e)
  have hM:Mod K mg (iP I.heap H):=⟨a7,Y a1,⟨mb,Y O,a8⟩,let ⟨mc,h1,h2⟩:=a9;⟨mc,Y h1,h2⟩⟩;have e0:Env0 P w K mg (iP I.heap H) callerA [] I H:=⟨rfl,hM,λb o e=>pk e,Nat.le_of_eq<|cY _ _,trivial,λb O=>absurd (show b∈([]:List Addr)from O) ⋯,hok,.of_eq hg⟩;refine MQ ((F _ a7<|Y a1).run callerA [] I H ⟨[.ref a],[]⟩ [.ref a] [.ref a] _ _ hr e0 (al I<|.ref a) (.cons rfl .nil) (am H hO hS)) λr s' h=>?_;cases r with
  | error e=>exact(an H e s' h).elim
  | ok fl=>
   cases fl with
   | next=>exact ID h
   | brk=>exact ID h
   | cont=>exact ID h
   | ret u=>
    obtain⟨v,H',os,bare,un,be,r',q⟩:=h;have q':v = .bl true:=q;subst q';obtain rfl:u=NM true:=r';refine⟨rfl,OldK.of_keep λb o e=>?_,os,bare⟩;cases q:H b with
    | none=>exact un.keep b o e q (by intro z;exact absurd (show b∈([]:List Addr)from z) ⋯) ⋯
    | some u=>
     rcases hO b with z | ⟨ob,xs,z⟩
     ·rw[q]at z;cases z
     ·have z2:=un.frzs b ob _ z
      obtain⟨e1,_⟩:=hok b _ z;obtain⟨e2,_⟩:=be b _ z2;rw[e]at e1;cases e1;exact e2
 cases hk:K.lookup a with
 | some o=>
  have e:=KX a o hk;rw[ha]at e;cases e;refine a4 (λ_=>none) (λ_=> .inl rfl) (.inr ⟨_,vs.toArray,_,hk,rfl,rfl,rfl,by rw[Gp,ap];exact hl,by simpa using rv⟩) (λb u z=>by have U:(none:Option HO)=some u:=z;cases U) (λb z=>absurd rfl z) λz=>absurd rfl z
 | none=>
  refine a4 (λb=>if b=a then some (.frz {cls:= .type "list",data:= .seq vs.toArray} (.lst (ns.map V.int)))else none) (λb=>?_) (.inl (.inr ⟨{cls:= .type "list",data:= .seq vs.toArray},RY rfl⟩)) (λb u z=>?_) (λb z=>?_) λ_=>hk
  ·by_cases O:b=a
   ·exact .inr ⟨_,_,RY O⟩
   ·exact .inl<|EQ O
  ·by_cases O:b=a
   ·have U:=(RY O).symm.trans z
    cases U;subst O;exact⟨ha,by rw[Gw];exact hl,vs,_,rv,ha⟩
   ·have U:=(EQ O).symm.trans z
    cases U
  ·by_cases O:b=a
   ·exact O
   ·exact absurd (EQ O) z
abbrev KOf{K:FY}{h:Heap}(_:K.In h):FY:=K
theorem nv{l:PySem.W.OpenLaw}{n k:Nat}{q:Program}{S:List Str}{U:(Str->Option Value)->Heap->Prop}{z:World->Heap->Prop}{d:DefRec}{K:Params->FY}{CX:World->CXT}{sp:World->Sp}{x:Str}
 (hn:l.most=some n) (Z:n<=sizeLine) (a0:d.params.defaults=[]) (hr:Room k callerA)
 (hY : ∀(w:World) (h:Heap),z w h->(K w.params).In h)
 (F : ∀(w:World) (mg:RJ) (fa:Addr) (h:Heap),(K w.params).In h->h.Ns mainGlobals mg->mg d.name=some (.ref fa)->
   ∃fd:FuncData,(∀(s:Shared) (u:Value),BindsTo s fd ⟨[u],[]⟩ [(x,u)])/\
    ∀base:Heap,(K w.params).In base->base.Ns mainGlobals mg->FnOk l.prog w (K w.params) mg base (CX w) k fa fd [x] (sp w))
 (a3 : ∀(w:World) (H:Hp) (a:Addr) (ns:List Int),ns.length<=n->BL H->SqL (K w.params) H a (ns.map V.int)->sp w [.ref a] H (λv _=>v = .bl true) λ_ _ _=>False)
 (a4 : ∀(w:World) (H:Hp) (s:Shared) (e:Value) (s':Shared),CX w [] H s (λ_ _ _=>False) e s'->False) :
 PySem.W.WalkO q S U z l.row.toRowW d [] (λf vs=>PySem.call f vs):=by
 refine Att.attach_call hn a0 λw s₀ s₁ mg mb fa o pm cd doc a vs ns G Y ho hd ar a6 a7 a8 I hg=>?_;have O:=hY w _ Y;obtain⟨fd,hb,hF⟩:=F w mg fa _ O G.T.g a6;exact iD O G.T.g G.T.b G.T.builtins G.T.nolimit hg a7 a8 (HE I Z) hr hF hb (λH hO hS=>a3 w H a ns I hO hS) λH e s'=>a4 w H s₁ e s'
theorem walk_ofK{l:PySem.W.OpenLaw}{n k:Nat}{q:Program}{I:List Str}{O:(Str->Option Value)->Heap->Prop}{z:World->Heap->Prop}{d:DefRec}{K:Params->FY}{CX:CXT}{sp:FY->Sp}{x:Str}
 (hn:l.most=some n) (S:n<=sizeLine) (U:d.params.defaults=[]) (Y:Room k callerA)
 (Z : ∀(w:World) (h:Heap),z w h->(K w.params).In h)
 (F : ∀(w:World) (mg:RJ) (fa:Addr) (h:Heap),(K w.params).In h->h.Ns mainGlobals mg->mg d.name=some (.ref fa)->
   ∃fd:FuncData,(∀(s:Shared) (u:Value),BindsTo s fd ⟨[u],[]⟩ [(x,u)])/\
    ∀base:Heap,(K w.params).In base->base.Ns mainGlobals mg->FnOk l.prog w (K w.params) mg base CX k fa fd [x] (sp<|K w.params))
 (a0 : ∀(K:FY) (H:Hp) (a:Addr) (ns:List Int),ns.length<=n->BL H->SqL K H a (ns.map V.int)->sp K [.ref a] H (λv _=>v = .bl true) λ_ _ _=>False)
 (a1 : ∀(H:Hp) (s:Shared) (e:Value) (s':Shared),CX [] H s (λ_ _ _=>False) e s'->False) :
 PySem.W.WalkO q I O z l.row.toRowW d [] (λf vs=>PySem.call f vs):=
 nv (K:=K) (CX:=λ_=>CX) (sp:=λw=>sp<|K w.params) hn S U Y Z F (λw H a ns h1 h2 h3=>a0 (K w.params) H a ns h1 h2 h3) λ_ H s e s'=>a1 H s e s'
def defArgs(s:Stmt):Arguments:=match s with
 | .FunctionDef _ a _ _ _ _ _ _ _ _=>a
 | _=>{posonlyargs:=[],args:=[],vararg:=none,kwonlyargs:=[],kw_defaults:=[],kwarg:=none,defaults:=[]}
def defBody(s:Stmt):List Stmt:=match s with
 | .FunctionDef _ _ b _ _ _ _ _ _ _=>b
 | _=>[]
def defScope(s:Stmt):Scope:=match s with
 | .FunctionDef _ _ _ _ _ _ sc _ _ _=>sc
 | _=>{kind:= .function,names:=[],isGenerator:=false,isCoroutine:=false}
abbrev CX0:CXT:=λ_ _ _ _ _ _=>False
abbrev E0:XK:=λ_ _ _=>False
theorem Kb:J2 CX0 X E0:=λ_ _ _ _ _ _ _ h=>h.elim
structure Fun(K:FY)(x qual:Str)(st:Stmt)(f:Addr)(fd:FuncData):Prop where
 ex : ∃(oc:Value) (od:Option Addr) (kV doc pm:Value) (an:Option Addr) (cdv ct:Value) (osl:Array (Option Value)),
  fd=Ij x qual (defArgs st) (defBody st) (defScope st) .none kV doc pm an cdv ct/\K.lookup f=some ⟨oc,od,.func fd,osl⟩/\Lu K cdv qual=true
 kp:Hh K (.ref f)=true
section
variable{P:Program}{w:World}{K:FY}{mg:RJ}{base:Heap}
theorem Fun.ok{x qual:Str}{st:Stmt}{f:Addr}{fd:FuncData}{N ps:List Str}{k:Nat}{sp:Sp}(F:Fun K x qual st f fd)(S:FnScope N ps (defScope st))(len : ∀vs H Q E,sp vs H Q E->vs.length=ps.length)
 (z : ∀(cdv:Value) (A:Around) (outer:List Env) (s:Shared) (H:Hp) (vs:List V) (Q:VK) (E:XK),Room k (A.deeper<|envOfC qual (defScope st) s.heap.objs.size f cdv)->sp vs H Q E->
   ∃t,PSs (rD CX0 P w K mg base N qual (defScope st) f cdv A outer s H E).nox (defBody st) t/\t {nx:=λ_ H'=>Q .non H',rt:=Q} (start N vs) H):FnOk P w K mg base CX0 (k+1) f fd ps sp:=by
 obtain⟨oc,od,kV,doc,pm,an,cdv,ct,osl,rfl,lk,I⟩:=F.ex;refine CV lk I S len λA outer s H vs Q E O U=>?_;obtain⟨t,h,q⟩:=z cdv A outer s H vs Q E O U;exact⟨t,h.nox,q⟩
theorem Fun.binds{x qual:Str}{st:Stmt}{f:Addr}{fd:FuncData}{ps:List Str}(F:Fun K x qual st f fd)
 (h : ∀(kV doc pm:Value) (an:Option Addr) (cdv ct:Value) (us:List Value),us.length=ps.length->bindArgs (Ij x qual (defArgs st) (defBody st) (defScope st) .none kV doc pm an cdv ct) ⟨us,[]⟩=pure (ps.zip us)):Binds K fd ps []:=by
 obtain⟨oc,od,kV,doc,pm,an,cdv,ct,osl,rfl,lk,z⟩:=F.ex;exact .all<|h kV doc pm an cdv ct
theorem VU{x qual:Str}{st:Stmt}{f:Addr}{oc:Value}{od an:Option Addr}{osl:Array (Option Value)}{kV doc pm cdv ct:Value}(l:K.lookup f=some ⟨oc,od,.func<|Ij x qual (defArgs st) (defBody st) (defScope st) .none kV doc pm an cdv ct,osl⟩)
 (c:Lu K cdv qual=true) (k:Hh K (.ref f)=true):Fun K x qual st f (Ij x qual (defArgs st) (defBody st) (defScope st) .none kV doc pm an cdv ct):=⟨⟨oc,od,kV,doc,pm,an,cdv,ct,osl,rfl,l,c⟩,k⟩
end
def Same(H H':Hp):Prop:=∀b o,H b=some o->H' b=some o
theorem Same.refl(H:Hp):Same H H:=λ_ _ h=>h
theorem Same.trans(a:Same H H1)(b:Same H1 H2):Same H H2:=λc o h=>b c o<|a c o h
theorem Same.free(e:Same H H')(h:H' l=Option.none):H l=Option.none:=by
 cases q:H l with
 | none=>rfl
 | some o=>
  rw[e l o q]at h;cases h
theorem Same.seq{K:FY}{H H':Hp}{a:Addr}{xs:List V}(e:Same H H')(h:SqL K H a xs):SqL K H' a xs:=by
 rcases h with(h | ⟨o,h⟩) | h
 ·exact .inl<|.inl<|e _ _ h
 ·exact .inl<|.inr ⟨o,e _ _ h⟩
 ·exact .inr h
def XE(cells:List (Str×Addr)):List (Str×NameKind)->List (Str×Addr)->List (Str×Addr)
 | [],acc=>acc
 | (n,k)::r,acc=>XE cells r<|if k==GY then (match cells.lookup n with | some c=>(n,c)::acc | none=>acc)else acc
theorem yc(f:Str×NameKind->List (Str×Addr)->Sem (ForInStep<|List<|Str×Addr))
 (I : ∀name kind O,f (name,kind) O=if kind==GY then (do let a <- cellOf env name;pure (.yield ((name,a)::O)))else pure (.yield O)) :
 ∀(names:List (Str×NameKind)) (acc:List (Str×Addr)),(∀n,(n,GY)∈names->∃c,env.cells.lookup n=some c)->
  forIn names acc f=(pure (XE env.cells names acc):Sem _)
 | [],acc,_=>by rw[List.forIn_nil];rfl
 | (n,k)::r,acc,h=>by
  rw[List.forIn_cons,I];have S : ∀n,(n,GY)∈r->∃c,env.cells.lookup n=some c:=λm hm=>h m<|Gn _ hm;unfold XE;by_cases z:(k==GY)=true
  ·rw[RY z,RY z]
   have Y:k=GY:=by simpa using z
   subst Y;obtain⟨c,U⟩:=h n Gu;have e:cellOf env n=pure c:=by unfold cellOf;rw[U]
   rw[e,U];exact yc f I r _ S
  ·rw[EQ z,EQ z]
   exact yc f I r acc S
theorem Xs(h : ∀n,(n,GY)∈scope.names->∃c,env.cells.lookup n=some c) :
 closureFor scope env=pure (XE env.cells scope.names []):=by
 simp only[closureFor];rw[yc (env:=env) _ (λname kind z=>by cases hk:kind==GY<;>simp[hk]) scope.names [] h];rfl
theorem xV
 (z:Q {scope:=scope,locals:=s.heap.objs.size,globals:=globals,cells:=cellsFrom (s.heap.objs.size+1) scope.names cl,qual:=qual,func:=none,code:=env.code,frame:=env.frame,builtins:=env.builtins}
   {s with heap:=pushCells (s.heap.push {cls:= .type "dict",data:= .dict #[]}) scope.names}) :
 wpAny M A (newFunctionEnv scope globals cl [] qual none .none (some env)) Q E s:=by
 simp only[newFunctionEnv,Option.isSome_some,if_true];refine FZ (wpAny_alloc ?_);refine FZ (wpAny_layCells _ (λname kind cells=>by cases hkc:kind==IU<;>simp[hkc]) _ _ _ _ ?_);rw[show({s with heap:=s.heap.push {cls:= .type "dict",data:= .dict #[]}}:Shared).heap.objs.size=s.heap.objs.size+1 from Hi ..];exact FZ (Gf (Gf z))
theorem VF : ∀{names:List (Str×NameKind)} {acc:List (Str×Addr)},(n,c)∈XE cells names acc->(n,c)∈acc\/((n,GY)∈names/\cells.lookup n=some c)
 | [],acc,h=> .inl h
 | (m,k)::r,acc,h=>by
  unfold XE at h;rcases VF h with g | ⟨h1,h2⟩
  ·clear h
   by_cases z:(k==GY)=true
   ·rw[RY z]at g
    have I:k=GY:=by simpa using z
    subst I;cases e:cells.lookup m with
    | none=>rw[e]at g;exact .inl g
    | some O=>
     rw[e]at g;rcases Gr.mp g with g | g
     ·cases g;exact .inr ⟨Gu,e⟩
     ·exact .inl g
   ·rw[EQ z]at g;exact .inl g
  ·exact .inr ⟨Gn _ h1,h2⟩
theorem ZE : ∀{names:List (Str×NameKind)} {acc:List (Str×Addr)},((acc.lookup n).isSome=true\/((n,GY)∈names/\(cells.lookup n).isSome=true))->((XE cells names acc).lookup n).isSome=true
 | [],acc,h=>by
  rcases h with h | ⟨h,_⟩
  ·exact h
  ·cases h
 | (m,k)::r,acc,h=>by
  unfold XE;apply ZE;by_cases z:(k==GY)=true
  ·rw[RY z]
   have O:k=GY:=by simpa using z
   subst O;cases e:cells.lookup m with
   | none=>
    rcases h with h | ⟨h1,h2⟩
    ·exact .inl h
    ·rcases Gr.mp h1 with h1 | h1
     ·cases h1;rw[e]at h2;cases h2
     ·exact .inr ⟨h1,h2⟩
   | some S=>
    dsimp only;by_cases I:n=m
    ·subst I;left;simp
    ·rcases h with h | ⟨h1,h2⟩
     ·left;rw[HA];split<;>simp_all
     ·rcases Gr.mp h1 with h1 | h1
      ·cases h1;exact absurd rfl I
      ·exact .inr ⟨h1,h2⟩
  ·rw[EQ z]
   rcases h with h | ⟨h1,h2⟩
   ·exact .inl h
   ·rcases Gr.mp h1 with h1 | h1
    ·cases h1;exact absurd rfl z
    ·exact .inr ⟨h1,h2⟩
theorem xj : ∀{names:List (Str×NameKind)} {k:Nat} {acc:List (Str×Addr)},(n,c)∈cellsFrom k names acc->(n,c)∈acc\/(k<=c/\(n,IU)∈names)
 | [],_,_,h=> .inl h
 | (m,kd)::r,k,acc,h=>by
  unfold cellsFrom at h;split at h
  ·rename_i z
   have I:kd=IU:=by simpa using z
   subst I;rcases xj h with h | ⟨h1,h2⟩
   ·rcases Gr.mp h with h | h
    ·cases h;exact .inr ⟨Gh _,Gu⟩
    ·exact .inl h
   ·exact .inr ⟨by omega,Gn _ h2⟩
  ·rcases xj h with h | ⟨h1,h2⟩
   ·exact .inl h
   ·exact .inr ⟨h1,Gn _ h2⟩
theorem kG : ∀{names:List (Str×NameKind)} {k:Nat} {acc:List (Str×Addr)},(∀p∈acc,∀q∈acc,p.2=q.2->p.1=q.1)->(∀p∈acc,p.2<k)->
 ∀p∈cellsFrom k names acc,∀q∈cellsFrom k names acc,p.2=q.2->p.1=q.1
 | [],_,_,h,_=>h
 | (m,kd)::r,k,acc,h,hl=>by
  unfold cellsFrom;split
  ·refine kG (λp z q I e=>?_) (λp z=>?_)
   ·rcases Gr.mp z with rfl | z<;>rcases Gr.mp I with rfl | I
    ·rfl
    ·have O:k=q.2:=e
     exact absurd (O ▸ hl q I)<|Hn _
    ·have O:p.2=k:=e
     exact absurd (O ▸ hl p z)<|Hn _
    ·exact h p z q I e
   ·rcases Gr.mp z with rfl | z
    ·exact Ic _
    ·exact HD<|hl p z
  ·exact kG h hl
theorem ZU : ∀{names:List (Str×NameKind)} {h:Heap} {acc:List (Str×Addr)} {n:Str} {c:Addr},(n,c)∈cellsFrom h.objs.size names acc->(n,c)∈acc\/(pushCells h names).IsCell c none
 | [],_,_,_,_,hm=> .inl hm
 | (m,kd)::r,h,acc,n,c,hm=>by
  unfold cellsFrom at hm;unfold pushCells;split at hm
  ·rename_i z
   rw[RY z];have e:h.objs.size+1=(h.push {cls:= .type "cell",data:= .cell none}).objs.size:=(Hi ..).symm;rw[e]at hm;rcases ZU hm with hm | hm
   ·rcases Gr.mp hm with hm | hm
    ·cases hm
     have I:(h.push {cls:= .type "cell",data:= .cell none}).IsCell h.objs.size none:=⟨{cls:= .type "cell",data:= .cell none},Gv _ rfl,rfl⟩;exact .inr (I.keeps λb o q=>MF _ _ b o q)
    ·exact .inl hm
   ·exact .inr hm
  ·rename_i z
   rw[EQ z];exact ZU hm
theorem yo{α:Type}{l:List (Str×α)}(nd:(l.map (·.1)).Nodup) : ∀{n:Str} {a:α},(n,a)∈l->l.lookup n=some a:=by
 induction l with
 | nil=>intro n a h;cases h
 | cons p r z=>
  intro n a h;obtain⟨m,b⟩:=p;rw[GQ,Hg]at nd;rw[HA];rcases Gr.mp h with h | h
  ·cases h;simp
  ·have I:(n==m)=false:=by
    have:n≠m:=λe=>nd.1 (by rw[<- e];exact GO.mpr ⟨(n,a),h,rfl⟩);simpa using this
   rw[I];exact z nd.2 h
theorem yB(scope:Scope)(env:Env)(x:Str):(relabel scope env).names.lookup x =
 (scope.names.lookup x).map λk=>if (k==GY && env.scope.kind == .function && env.kindOf x==some .cell)then IU else k:=by
 unfold relabel;dsimp only;generalize scope.names=l
 induction l with
 | nil=>rfl
 | cons p r I=>
  obtain⟨n,k⟩:=p;rw[GQ];cases hx:x==n with
  | true=>
   have e:x=n:=by simpa using hx
   subst e;rw[HA,HA];dsimp only;by_cases z:(k==GY && env.scope.kind == .function && env.kindOf x==some .cell)=true
   ·rw[RY z,beq_self_eq_true];dsimp only[Na];rw[RY z]
   ·rw[EQ z,beq_self_eq_true];dsimp only[Na];rw[EQ z]
  | false=>
   have : ∀O,LC x ((n,O)::(r.map λx=>match x with | (n,k)=>if (k==GY && env.scope.kind == .function && env.kindOf n==some .cell)=true then (n,IU)else (n,k)))=LC x (r.map λx=>match x with | (n,k)=>if (k==GY && env.scope.kind == .function && env.kindOf n==some .cell)=true then (n,IU)else (n,k)):=λO=>by rw[HA,hx]
   rw[HA (k:=n),hx];dsimp only;split
   ·rw[this];exact I
   ·rw[this];exact I
def vh(scope:Scope)(env:Env)(L:Addr):Env:=
 {scope:=relabel scope env,locals:=L,globals:=env.globals,cells:=cellsFrom (L+1) scope.names<|XE env.cells scope.names [],qual:=env.qual,func:=none,code:=env.code,frame:=env.frame,builtins:=env.builtins}
def jn(X:Cx)(scope:Scope)(N':List Str)(fp:List Addr)(s2:Shared)(H2:Hp):Cx:=
 {X with N:=N',s₀:=s2,H₀:=H2,env:=vh scope X.env<|s2.heap.objs.size+1,outer:=X.stack,stack:=X.stack,ex:=fp,fn:=λx=>scope.names.lookup x==some .cell,pn:=[],xe:=λ_ _=>False}
structure CompOk(X:Cx)(scope:Scope)(fr:List (Str×Nat)):Prop where
 kind:scope.kind = .function
 nd:(scope.names.map (·.1)).Nodup
 free : ∀p∈scope.names,p.2=GY->X.env.kindOf p.1=some .cell\/X.env.kindOf p.1=some .free
 fr : ∀p∈fr,scope.names.lookup p.1=some .free/\X.N[p.2]? = some p.1
def pull(own:List Str)(fr:List (Str×Nat))(σ:St):St:=own.map (λ_=>none)++fr.map λp=>(σ[p.2]?).join
abbrev Yv:Obj:={cls:= .type "list",data:= .seq #[]}
abbrev mQ:Obj:={cls:= .type "dict",data:= .dict #[]}
theorem iM{X:Cx}{pins:RW}{σ:St}{H2:Hp}{s2:Shared}{scope:Scope}{own:List Str}{fr:List (Str×Nat)}{fp:List Addr}(I:Inv X pins σ H2 s2)(ok:CompOk X scope fr)
 (a2 : ∀b∈fp,FpOk X pins H2 b) (ap : ∀b∈fp,∃o,s2.heap.get? b=some o) :
 Inv (jn X scope (own++fr.map (·.1)) fp s2 H2) [] (pull own fr σ) (upd H2 s2.heap.objs.size<|.lst []) {s2 with heap:=pushCells ((s2.heap.push Yv).push mQ) scope.names}:=by
 have z1:(s2.heap.push Yv).objs.size=s2.heap.objs.size+1:=Hi ..;have z2:((s2.heap.push Yv).push mQ).objs.size=s2.heap.objs.size+2:=by rw[Hi,z1]
 have Y : ∀n c,(n,c)∈XE X.env.cells scope.names []->(n,GY)∈scope.names/\X.env.cells.lookup n=some c:=λn c h=>(VF h).resolve_left ⋯;have a8 : ∀n c,X.env.cells.lookup n=some c->c<s2.heap.objs.size:=λn c h=>by obtain⟨v,q⟩:=I.cell n c h;exact q.lt
 have ar : ∀p∈XE X.env.cells scope.names [],p.2<s2.heap.objs.size+1+1:=λp S=>by exact HD<|HD<|a8 p.1 p.2 (Y p.1 p.2 S).2
 have hC:(vh scope X.env<|s2.heap.objs.size+1).cells=cellsFrom (s2.heap.objs.size+2) scope.names (XE X.env.cells scope.names []):=rfl;have cells : ∀x c,(vh scope X.env<|s2.heap.objs.size+1).cells.lookup x=some c->((x,GY)∈scope.names/\X.env.cells.lookup x=some c)\/(s2.heap.objs.size+2<=c/\(x,IU)∈scope.names):=λx c h=>by
  rcases xj (mem_of_lookup h)with h | h
  ·exact .inl<|Y x c h
  ·exact .inr h
 have a9 : ∀x,(x,GY)∈scope.names->∃c,X.env.cells.lookup x=some c/\(vh scope X.env<|s2.heap.objs.size+1).cells.lookup x=some c:=λx hx=>by
  obtain⟨c,Z⟩:=I.ok.has x<|ok.free (x,.free) hx rfl;have h1:((XE X.env.cells scope.names []).lookup x).isSome=true:=ZE<|.inr ⟨hx,by rw[Z];rfl⟩;have h2:=LK scope.names (s2.heap.objs.size+2) (XE X.env.cells scope.names [])<|.inr h1;obtain⟨c',ad⟩:=HR.mp h2;refine⟨c,Z,?_⟩;rcases cells x c' ad with⟨_,q⟩ | ⟨_,q⟩
  ·rw[Z]at q;cases q;exact ad
  ·exact absurd ((yo ok.nd q).symm.trans (yo ok.nd hx)) ⋯
 have keep : ∀b o,s2.heap.get? b=some o->(pushCells ((s2.heap.push Yv).push mQ) scope.names).get? b=some o:=λb o e=>
  MF _ _ b o (Gb _<|Gb _ e)
 have al : ∀b∈fp,b<s2.heap.objs.size:=λb O=>by obtain⟨o,e⟩:=ap b O;exact GE e
 have fresh:H2 s2.heap.objs.size=none:=I.hok.fresh<|Gh _;have am : ∀c,s2.heap.objs.size<c->(upd H2 s2.heap.objs.size<|.lst []) c=none:=λc Z=>by rw[zB (II Z)];exact I.hok.fresh<|Nk Z
 obtain⟨m0,ax⟩ : ∃m,(pushCells ((s2.heap.push Yv).push mQ) scope.names).Ns (s2.heap.objs.size+1) m:=by have q:=(Heap.Ns.new (s2.heap.push Yv) (.type "dict")).keeps (λb o e=>MF scope.names _ b o e);rw[z1]at q;exact⟨_,q⟩
 refine⟨⟨I.ok.mod,ok.kind,I.ok.glob,I.ok.blt,MT _,λx y c h1 h2=>?_,λx hx=>?_,λx c hf h=>?_,I.ok.hd,I.ok.frames,.inl rfl,λb O=>⟨?_,λx c h z=>?_⟩,λb o e=>I.bs b o e,?_,λb o e O=>?_,λb O hs=>?_,I.stack,I.stkFree⟩,
  rfl,I.bare,Un.laid keep (Gh _) fresh,⟨m0,ax,λi x v e1 U e3=>?_⟩,λx c h=>?_,?_,λx c h=>?_,λp S=>?_,?_,?_⟩
 ·have q:=kG (names:=scope.names) (k:=s2.heap.objs.size+2) (acc:=XE X.env.cells scope.names []) (λp S q hq e=>I.ok.inj p.1 q.1 p.2 (Y _ _ S).2 (by rw[e];exact(Y _ _ hq).2)) ar
  exact q (x,c) (mem_of_lookup h1) (y,c) (mem_of_lookup h2) rfl
 ·have a0:(relabel scope X.env).names.lookup x=some .cell\/(relabel scope X.env).names.lookup x=some .free:=hx
  have:scope.names.lookup x=some .cell\/scope.names.lookup x=some .free:=by
   rw[yB]at a0;cases e:scope.names.lookup x with
   | none=>rw[e]at a0;simp at a0
   | some k=>
    rw[e]at a0;cases k<;>simp at a0 ⊢
  rcases this with h | h
  ·exact HR.mp<|LK scope.names _ _<|.inl h
  ·obtain⟨c,_,h2⟩:=a9 x<|mem_of_lookup h;exact⟨c,h2⟩
 ·have bd:(scope.names.lookup x==some .cell)=true:=hf
  have be:scope.names.lookup x=some .cell:=by simpa using bd
  rcases cells x c h with⟨q,_⟩ | ⟨q,_⟩
  ·exact absurd ((yo ok.nd q).symm.trans be) ⋯
  ·exact HE (Hr _ 2) q
 ·exact Hb<|HD<|al b O
 ·rcases cells x c h with⟨_,q⟩ | ⟨q,_⟩
  ·exact(a2 b O).2.2.2.2.1 x c q z
  ·exact absurd (GK (al b O)<|HE (Hr _ 2)<|z ▸ q)<|Hn _
 ·exact HE I.ok.bsz I.sz
 ·rcases (a2 b O).2.2.2.1 with q | q
  ·exact I.ok.noex b o e q
  ·exact absurd (GK (GE e)<|HE I.ok.bsz q)<|Hn _
 ·rcases Gr.mp (I.stkSub b hs)with q | q
  ·exact(a2 b O).2.1 q
  ·exact(a2 b O).2.2.1 q
 ·have hi:i<(own++fr.map (·.1)).length:=(Gq.mp e1).1
  by_cases a5:i<own.length
  ·unfold pull at U
   rw[Hx (by simpa using a5)]at U;simp[GZ,a5]at U
  ·have hj : ∃p,fr[i - own.length]? = some p/\p.1=x/\(σ[p.2]?).join=some v:=by
    unfold pull at U;have a1:(own++fr.map (·.1))[i]? = some x:=e1;rw[Hj ⋯,GZ]at a1;rw[Hj (by simpa using a5),GZ,Gw]at U;cases q:fr[i - own.length]? with
    | none=>rw[q]at a1;cases a1
    | some p=>
     rw[q]at a1 U;exact⟨p,rfl,by simpa using a1,by simpa using U⟩
   obtain⟨p,S,bg,a3⟩:=hj;obtain⟨g1,g2⟩:=ok.fr p<|He S;rw[bg]at g1 g2;have hσ:σ[p.2]? = some (some v):=by
    cases q:σ[p.2]? with
    | none=>rw[q]at a3;cases a3
    | some o=>rw[q]at a3;simpa using a3
   have an:=ok.free (x,.free) (mem_of_lookup g1) rfl;obtain⟨m,hn,hl⟩:=I.loc;obtain⟨u,ru,lk⟩:=hl p.2 x v g2 hσ (by rcases an with k | k;exact .inr<|.inl k;exact .inr<|.inr k);refine⟨u,ru,.inr ?_⟩;obtain⟨c,bn,bv⟩:=a9 x<|mem_of_lookup g1;have bx:s2.heap.IsCell c (some u):=by
    rcases lk with⟨k,_⟩ | ⟨_,c',e,z⟩
    ·rcases an with k' | k'<;>rw[k]at k'<;>cases k'
    ·rw[bn]at e;cases e;exact z
   refine⟨?_,c,bv,bx.keeps keep⟩;show(relabel scope X.env).names.lookup x=some .cell\/(relabel scope X.env).names.lookup x=some .free;rw[yB,g1];dsimp only[Na];split
   ·exact .inl rfl
   ·exact .inr rfl
 ·rcases xj (mem_of_lookup h)with q | q
  ·obtain⟨v,w'⟩:=I.cell x c (Y x c q).2
   exact⟨v,w'.keeps keep⟩
  ·have q2:=mem_of_lookup h
   have q3:(x,c)∈cellsFrom ((s2.heap.push Yv).push mQ).objs.size scope.names (XE X.env.cells scope.names []):=by rw[z2];exact q2
   rcases ZU q3 with q4 | q4
   ·obtain⟨v,w'⟩:=I.cell x c (Y x c q4).2
    exact⟨v,w'.keeps keep⟩
   ·exact⟨none,q4⟩
 ·exact am _<|Ic _
 ·rcases cells x c h with⟨_,q⟩ | ⟨q,_⟩
  ·rw[zB (Hb<|a8 x c q)];exact I.freeC x c q
  ·exact am c<|GK (HD<|Ic _) q
 ·exact absurd (show p∈([]:RW)from S) ⋯
 ·refine I.hok.laid keep (Gh _) ⟨HN _,[],0,.nil,?_⟩
  exact MF _ _ _ _<|Gb _<|Gv _ rfl
 ·show(pull own fr σ).length=(own++fr.map (·.1)).length
  simp[pull]
theorem yz(I:Nat->Shared->Prop)
 (a1 : ∀n s,I n s->wpAny (model prog w) A (pyNext it) (λr z=>match r with
   | none=>R (.ok .next) z
   | some v=>wpAny (model prog w) A (letOwnedTupleGo target it v) (λ_ z=>wpAny (model prog w) A (assign target env v) (λ_ S=>
    wpAny (model prog w) A (forIn ifs true λc r=>if r=true then do let ok <- isTrue c env (eval c env);pure (MN ok)else pure (MN r)) (λok O=>
     if ok=true then wpAny (model prog w) A (eval elt env) (λx U=>
      wpAny (model prog w) A (call (.builtin "list.append") [acc,x]) (λ_ Y=>∃m,m<n/\I m Y) (λ_ _=>False) U) (λ_ _=>False) O
     else ∃m,m<n/\I m O) (λ_ _=>False) S) (λ_ _=>False) z) (λ_ _=>False) z) (λ_ _=>False) s)
 (n:Nat) (h:I n s) :
 codeAny (model prog w) A (.compLoop (.ListComp elt [⟨target,iter,ifs,0⟩] scope pos) 0 it acc env) R s:=by
 refine codeAny_loop rfl I (λn s hI=>?_) n h;show wpAny _ A ((compTurn (.ListComp elt [⟨target,iter,ifs,0⟩] scope pos) 0 it acc env).onRaise (λx=>do noteFrame x env;theTreesLotGoes x)) _ _ s;refine wpAny_noted ?_;rw[compTurn_list];refine FZ<|NY<|FZ<|IR (a1 n s hI) (λr z Z=>?_) λ_ _ h'=>h'.elim;cases r with
 | none=>exact Gf Z
 | some v=>
  refine FZ<|IR Z (λ_ a7 a3=>?_) λ_ _ h'=>h'.elim;refine FZ<|IR a3 (λ_ S h₂=>FZ<|IR h₂ (λok O h₃=>?_) λ_ _ h'=>h'.elim) λ_ _ h'=>h'.elim;cases ok with
  | false=>exact Gf ⟨rfl,h₃⟩
  | true=>
   exact FZ<|FZ<|IR h₃ (λx U h₄=>FZ<|IR h₄ (λ_ Y h₅=>Gf<|Gf ⟨rfl,h₅⟩) λ_ _ h'=>h'.elim) λ_ _ h'=>h'.elim
def sf(X:Cx)(ifs:List Expr)(t:TT):Prop:=
 ∀(pins:RW) (s:Shared) (σ:St) (H:Hp) (Q:Bool->Hp->Prop),Inv X pins σ H s->t σ H Q->
  wpAny (model X.prog X.w) X.A (forIn ifs true λc r=>if r=true then do let ok <- isTrue c X.env (eval c X.env);pure (MN ok)else pure (MN r)) (TP X pins σ Q) X.xe s
def BV:TT:=λ_ H Q=>Q true H
theorem QP:sf X [] BV:=λ_ _ _ H _ I h=>wpAny_tests_nil ⟨H,I,h⟩
theorem Vw(h:PT X c t):sf X [c] t:=λpins s σ H Q I z=>wpAny_tests_one<|h pins s σ H Q I z
def CW(J:It)(g:TG)(tt:TT)(te:TE)(D:Addr)(Q:VK)(W:Nat->Nat->List V->St->Hp->Prop):Prop:=
 ∀i m ys σ H,W i m ys σ H->H D=some (.lst ys)/\((J.stop i H/\Q (.ref D) H)\/(J.go i H/\ys.length<sizeLine/\∀x H',J.yld i H x H'->g x σ H' λz H2=>tt z H2 λb I=>
  if b=true then te z I λv O=>O D=some (.lst ys)/\∃m',m'<m/\W (i+1) m' (ys++[v]) z (upd O D<|.lst<|ys++[v])else ∃m',m'<m/\W (i+1) m' ys z I))
def lP(X:Cx)(pins:RW)(H:Hp)(L:Addr):Prop:=
 H L=none/\L≠X.env.locals/\X.s₀.heap.objs.size<=L/\(∀x c,X.env.cells.lookup x=some c->c≠L)/\∀p∈X.pn++pins,p.1≠L
theorem lz
 (hc:X.calm=true) (I:Inv X pins σ H2 s2) (ok:CompOk X scope fr) (T:Turn X.prog X.w X.K tg J fp it tn) (st:tn 0 s2.heap) (U : ∀b∈fp,FpOk X pins H2 b)
 (hg:PG (jn X scope (own++fr.map (·.1)) fp s2 H2) tg g) (ht:sf (jn X scope (own++fr.map (·.1)) fp s2 H2) ifs tt) (he:PE (jn X scope (own++fr.map (·.1)) fp s2 H2) elt te)
 (hW : ∀D,H2 D=none->∃W:Nat->Nat->List V->St->Hp->Prop,(∃m,W 0 m [] (pull own fr σ) (upd H2 D<|.lst []))/\CW J g tt te D Q W) :
 wpAny (model X.prog X.w) X.A (newList []) (λacc s₃=>wpAny (model X.prog X.w) X.A (newFunctionEnv scope X.env.globals (XE X.env.cells scope.names []) [] X.env.qual none .none (some X.env)) (λa8 s₄=>
  codeAny (model X.prog X.w) X.A (.compStart (.ListComp elt [⟨tg,iter,ifs,0⟩] scope pos) 0 (.ref it) acc {a8 with scope:=relabel scope X.env})
   (λr s'=>(∃f,r = .ok f)/\∃D H',acc = .ref D/\Inv X pins σ H' s'/\Q (.ref D) H'/\(∃m,s'.heap.Ns a8.locals m)/\lP X pins H' a8.locals) s₄) E s₃) E s2:=by
 have as : ∀b∈fp,∃o,s2.heap.get? b=some o:=λb O=>by obtain⟨o,e,_⟩:=T.obj 0 _ st b O;exact⟨o,e⟩
 have I0:=iM (own:=own) I ok U as;obtain⟨W,⟨m0,w0⟩,cw⟩:=hW _ I.fresh;refine HZ<|xV ?_;have z1:(s2.heap.push Yv).objs.size=s2.heap.objs.size+1:=Hi ..;show codeAny _ _ (.compStart _ 0 (.ref it) (.ref s2.heap.objs.size) {scope:=relabel scope X.env,locals:=(s2.heap.push Yv).objs.size,globals:=X.env.globals,cells:=cellsFrom ((s2.heap.push Yv).objs.size+1) scope.names<|XE X.env.cells scope.names [],qual:=X.env.qual,func:=none,code:=X.env.code,frame:=X.env.frame,builtins:=X.env.builtins})
  (λr s'=>(∃f,r = .ok f)/\∃D H',GX s2.heap.objs.size = .ref D/\Inv X pins σ H' s'/\Q (.ref D) H'/\(∃m,s'.heap.Ns (s2.heap.push Yv).objs.size m)/\lP X pins H' (s2.heap.push Yv).objs.size) {s2 with heap:=pushCells ((s2.heap.push Yv).push mQ) scope.names}
 rw[z1];have ax:tn 0 (pushCells ((s2.heap.push Yv).push mQ) scope.names):=T.keep 0 _ _ st λb _ o e=>MF _ _ b o<|Gb _<|Gb _ e;have c7 : ∀b∈fp,b<s2.heap.objs.size:=λb O=>by obtain⟨o,e⟩:=as b O;exact GE e
 have a9 : ∀{H':Hp},(∀b∈fp,H' b=none)->∀b∈fp,FpOk (jn X scope (own++fr.map (·.1)) fp s2 H2) [] H' b:=λhn b O=>
  ⟨hn b O,(I0.ok.exf b O).1,I0.ok.exfs b O,.inl O,(I0.ok.exf b O).2,λp hp=>absurd (show p∈([]:RW)from hp) ⋯⟩
 have b0:codeAny (model X.prog X.w) X.A (.compLoop (.ListComp elt [⟨tg,iter,ifs,0⟩] scope pos) 0 (.ref it) (.ref s2.heap.objs.size)<|vh scope X.env<|s2.heap.objs.size+1)
  (λr s'=>(∃f,r = .ok f)/\∃D H',GX s2.heap.objs.size = .ref D/\Inv X pins σ H' s'/\Q (.ref D) H'/\(∃m,s'.heap.Ns (s2.heap.objs.size+1) m)/\lP X pins H' (s2.heap.objs.size+1)) {s2 with heap:=pushCells ((s2.heap.push Yv).push mQ) scope.names}:=by
  refine yz (λn s'=>∃i ys σ' H',Inv (jn X scope (own++fr.map (·.1)) fp s2 H2) [] σ' H' s'/\tn i s'.heap/\(∀b∈fp,H' b=none)/\W i n ys σ' H') ?_ m0
   ⟨0,[],_,_,I0,ax,λb O=>by rw[zB (Hb<|c7 b O)];exact(U b O).1,w0⟩
  rintro n s3 ⟨i,ys,σ3,H3,I3,st3,be,w3⟩;obtain⟨hD,c8⟩:=cw i n ys σ3 H3 w3;rcases c8 with⟨stop,qn⟩ | ⟨go,hz,step⟩
  ·refine thn (T.done (jn X scope (own++fr.map (·.1)) fp s2 H2) rfl rfl rfl hc i [] s3 σ3 H3 _ I3 (a9 be) st3 stop) λr s4 S=>?_
   obtain⟨hr,Y⟩:=S;subst hr;refine⟨⟨_,rfl⟩,_,H3,rfl,I.call' (ch:=fp) Y.os Y.base Y.hok Y.bare<|λb O=>⟨(U b O).2.2.2.1,(U b O).2.1,(U b O).2.2.2.2.1,(U b O).2.2.2.2.2⟩,qn,?_,Y.free,?_,?_,?_,?_⟩
   ·obtain⟨m,hn,_⟩:=Y.loc
    exact⟨m,hn⟩
   ·exact II<|HD I.lt
   ·exact Nat.le_succ_of_le I.sz
   ·intro x c e z
    obtain⟨v,q⟩:=I.cell x c e;exact absurd (HD q.lt) (by rw[z];exact Hn _)
   ·intro p hp z
    exact absurd (HD<|GE (I.pin p hp).1) (by rw[z];exact Hn _)
  ·refine thn (T.item (jn X scope (own++fr.map (·.1)) fp s2 H2) rfl rfl rfl hc i [] s3 σ3 H3 _ I3 (a9 be) st3 go) λr s4 S=>?_
   obtain⟨u,hr,h4⟩:=S;subst hr;refine thn h4 λ_ s5 S=>?_;obtain⟨x,H5,I5,r5,y5,al,ci⟩:=S;have cj:=I5.pinned (a9 ci)<|T.obj _ _ al;refine thn (hg _ s5 σ3 H5 x u _ cj r5<|step x H5 y5) λ_ s6 S=>?_;obtain⟨σ6,H6,I6,q6⟩:=S;refine thn (ht _ s6 σ6 H6 _ I6 q6) λb s7 S=>?_;obtain⟨H7,I7,q7⟩:=S;have after : ∀{σ8:St} {H8:Hp} {Z:Shared},Inv (jn X scope (own++fr.map (·.1)) fp s2 H2) ([]++X8 fp s5.heap) σ8 H8 Z->tn (i+1) Z.heap/\∀b∈fp,H8 b=none:=λ{σ8 H8 Z} I8=>by refine⟨T.keep _ _ _ al λb O o e=>(I8.pin (b,o)<|GF _<|GF _<|yn O e).1,λb O=>?_⟩;obtain⟨o,e,d⟩:=T.obj _ _ al b O;exact(I8.pin (b,o)<|GF _<|GF _<|yn O e).2.1
   cases b with
   | false=>
    rw[EQ GA]at q7 ⊢;obtain⟨m',hm,w7⟩:=q7;exact⟨m',hm,i+1,ys,σ6,H7,I7.unpinned,(after I7).1,(after I7).2,w7⟩
   | true=>
    rw[RY rfl]at q7 ⊢;refine thn (he _ s7 σ6 H7 _ I7 q7) λv8 Z S=>?_;obtain⟨x8,H8,I8,r8,bm,m',hm,w8⟩:=S;obtain⟨z8,bn,n8,rv,d4,e8⟩:=I8.lstM bm;refine LS F.slot_list_append ⟨_,e8,rfl⟩ F.entry_list_append (F.args_list_append_2 _ _) (PySem.list_append _ bn.toArray n8 v8<|by rw[Gp];omega) ⟨e8,?_⟩;have I9:=I8.lset (its':=bn++[v8]) (f:=(·.push v8)) (t':=Z.toks) bm e8 ⋯ (rv.append<|.cons r8 .nil) (by rw[Hv,Lj];omega);exact⟨m',hm,i+1,ys++[x8],σ6,_,I9.unpinned,(after I9).1,(after I9).2,w8⟩
 exact codeAny_compStart_list b0<|T.self _ 0 _ _ _ ax b0
def aN(wi:TI)(own:List Str)(fr:List (Str×Nat))(g:TG)(tt:TT)(te:TE):TE:=λσ H Q=>wi σ H λJ H1=>∀D,H1 D=none->
 ∃W:Nat->Nat->List V->St->Hp->Prop,(∃m,W 0 m [] (pull own fr σ) (upd H1 D<|.lst []))/\CW J g tt te D Q W
section
variable{X:Cx}{scope:Scope}{own:List Str}{fr:List (Str×Nat)}{elt tg iter:Expr}{ifs:List Expr}{pos:Pos}{wi:TI}{g:TG}{tt:TT}{te:TE}
theorem V3
 (z:X.calm=true) (ok:CompOk X scope fr) (hi:PI X tg iter wi) (O : ∀fp s2 H2,PG (jn X scope (own++fr.map (·.1)) fp s2 H2) tg g)
 (S : ∀fp s2 H2,sf (jn X scope (own++fr.map (·.1)) fp s2 H2) ifs tt) (U : ∀fp s2 H2,PE (jn X scope (own++fr.map (·.1)) fp s2 H2) elt te)
 (I:Inv X pins σ H s) (h:aN wi own fr g tt te σ H Q)
 (Y : ∀D H' s' L,Inv X pins σ H' s'->Q (.ref D) H'->(∃m,s'.heap.Ns L m)->lP X pins H' L->
   compPost (model X.prog X.w) X.A X.xe use R (.ref D) L (.ok .next) s')
 (Z : ∀x,foldedSetIterable iter X.env x=pure x:=by intro _;rfl) :
 wpAny (model X.prog X.w) X.A (comprehension (.ListComp elt [⟨tg,iter,ifs,0⟩] scope pos) scope X.env (firstIterPos [⟨tg,iter,ifs,0⟩] pos) (newList []) false (eval iter X.env) use) R X.xe s:=by
 refine wpAny_comprehension_free rfl Z (Xs λn hn=>I.ok.has n<|ok.free (n,.free) hn rfl) ok.kind (λx hx e=>by rw[<- e];exact yo ok.nd<|show(x.1,x.2)∈scope.names from hx) ?_;refine thn (hi pins s σ H _ I h) λv s1 h1=>thn h1 λal s2 h2=>?_;obtain⟨it,fp,tn,J,H2,e,I2,T,a1,f2,hW⟩:=h2;subst e;refine thn (lz (own:=own) (Q:=Q) (E:=X.xe) z I2 ok T a1 f2 (O fp s2 H2) (S fp s2 H2) (U fp s2 H2) hW) λacc s3 h3=>thn h3 λa5 s4 h4=>MQ h4 λr s' h5=>?_;obtain⟨⟨f,hr⟩,D,H',ea,I',q,hn,y⟩:=h5;subst hr;subst ea;have q2:=Y D H' s' a5.locals I' q hn y;cases use<;>exact q2
theorem Yn(z:X.calm=true)(ok:CompOk X scope fr)(hi:PI X tg iter wi)(O : ∀fp s2 H2,PG (jn X scope (own++fr.map (·.1)) fp s2 H2) tg g)
 (S : ∀fp s2 H2,sf (jn X scope (own++fr.map (·.1)) fp s2 H2) ifs tt) (U : ∀fp s2 H2,PE (jn X scope (own++fr.map (·.1)) fp s2 H2) elt te)
 (Y : ∀x,foldedSetIterable iter X.env x=pure x:=by intro _;rfl) :
 PE X (.ListComp elt [⟨tg,iter,ifs,0⟩] scope pos) (aN wi own fr g tt te):=by
 intro pins s σ H Q I h;rw[eval_ListComp];refine V3 (use:=none) z ok hi O S U I h (λD H' s' L Z q hn y=>?_) Y;obtain⟨m,hm⟩:=hn;obtain⟨y1,y2,y3,y4,y5⟩:=y;refine⟨m,hm,λh' sb=>⟨.ref D,H',Z.turned (t':=s'.toks) (it:=L) (λb o hb e=>sb.extBut b o hb e) y1 y2 (.inr y3) y4 y5,rfl,q⟩⟩
theorem vP(O:X.N.Nodup)(S:X.N[i]? = some y)(U:Loc X.env.scope y)(Y:X.fn y=true\/X.env.scope.names.lookup y=some .local)
 (Z:X.calm=true) (ok:CompOk X scope fr) (hi:PI X tg iter wi) (hg : ∀fp s2 H2,PG (jn X scope (own++fr.map (·.1)) fp s2 H2) tg g)
 (ht : ∀fp s2 H2,sf (jn X scope (own++fr.map (·.1)) fp s2 H2) ifs tt) (he : ∀fp s2 H2,PE (jn X scope (own++fr.map (·.1)) fp s2 H2) elt te)
 (hs : ∀x,foldedSetIterable iter X.env x=pure x:=by intro _;rfl) :
 PS X (.Assign [.Name y py] (.ListComp elt [⟨tg,iter,ifs,0⟩] scope pos) spos) (Wf (aN wi own fr g tt te)<|ya i):=by
 have z : ∃b:Bool,swapsWith (.ListComp elt [⟨tg,iter,ifs,0⟩] scope pos) (some (.Name y py)) spos.line X.env=pure b:=⟨_,rfl⟩;obtain⟨b,z⟩:=z;cases b with
 | false=>
  have e1:swapsWithSole [.Name y py] (.ListComp elt [⟨tg,iter,ifs,0⟩] scope pos) spos.line X.env=swapsWith (.ListComp elt [⟨tg,iter,ifs,0⟩] scope pos) (some (.Name y py)) spos.line X.env:=rfl;exact JI (Yn Z ok hi hg ht he hs) (bQ O S U Y) (by rw[e1];exact z)
 | true=>
  intro pins s σ H D I h;rw[exec_Assign_Name_used _ _ _ _ z];refine FZ<|NY<|FZ ?_;show wpAny _ X.A (do let _ <- comprehension (.ListComp elt [⟨tg,iter,ifs,0⟩] scope pos) scope X.env _ (newList []) false (eval iter X.env) (some (assign (.Name y py) X.env))) _ _ s;refine FZ<|thn (V3 (R:=λ_ s'=>SP X pins D .next s') (use:=some (assign (.Name y py) X.env)) Z ok hi hg ht he I h (λDa H' s' L I' q hn yg=>?_) hs) λ_ s' q=>Gf<|Gf q;obtain⟨y1,y2,y3,y4,y5⟩:=yg;obtain⟨m,hm⟩:=hn;show wpAny _ _ (assign (.Name y py) X.env<|.ref Da) _ _ _;refine wpAny_assign_Name<|XR I' O S U (v:= .ref Da) rfl (λal am an=>?_) Y;obtain⟨a,sb,ha⟩:=an;have ar:L≠a:=by
   rcases ha with e | e
   ·rw[e];exact y2
   ·exact GN<|y4 _ _ e
  refine⟨m,hm.sameBut sb ar,λh' as=>⟨_,_,am.turned (t':=al.toks) (it:=L) (λb o z e=>as.extBut b o z e) y1 y2 (.inr y3) y4 y5,q⟩⟩
end
inductive Sk where
 | L | T
 deriving DecidableEq
end L2
namespace DL
open PySem L2
inductive D where
 | non | bl (b:Bool) | int (i:Int) | str (x:Str) | tup (xs:List D) | lst (xs:List D)
 | exc (c:Str) (n:Option Int)
 | dic (ks vs:List D)
 | dct (ks:List (List Int)) (vs:List D)
inductive Cell where
 | no | val (d:D) | own (ds:List D) | nest (rows:List (List D))
abbrev Ctx:=List Cell
abbrev CO (a : Type) := Ctx -> Option a
def lim:Nat:=2500
def jG:D->Option (Sk×List D)
 | .tup ds=>some (.T,ds)
 | .lst ds=>some (.L,ds)
 | _=>none
def zO(f:CO D):CO (Sk×List D):=λγ=>(f γ).bind jG
def jR(f:CO (List D)):CO D:=λγ=>(f γ).map D.lst
def jQ(f:CO (List D)):CO (Sk×List D):=λγ=>(f γ).map λds=>(Sk.L,ds)
def YQ:Option Cell->Option D
 | some (.val d)=>some d
 | _=>none
def yd:Option Cell->Option (Sk×List D)
 | some (.val d)=>jG d
 | some (.own ds)=>some (.L,ds)
 | _=>none
noncomputable def zc(i:Nat):CO D:=λγ=>YQ γ[i]?
noncomputable def zh(i:Nat):CO (Sk×List D):=λγ=>yd γ[i]?
noncomputable def zq(d:D):CO D:=λ_=>some d
def zv(F:D->D->Option D)(fa fb:CO D):CO D:=λγ=>(fa γ).bind λx=>(fb γ).bind λy=>F x y
def asB:D->Option Bool
 | .bl b=>some b
 | _=>none
def asI:D->Option Int
 | .int i=>some i
 | _=>none
def sB(f:CO D):CO Bool:=λγ=>(f γ).bind asB
def Yi(f g:CO Bool):CO Bool:=λγ=>(f γ).bind λb=>if b=true then g γ else some false
def Wr(f g:CO Bool):CO Bool:=λγ=>(f γ).bind λb=>if b=true then some true else g γ
def ke(f:CO Bool):CO Bool:=λγ=>(f γ).map λb=> !b
def rY(f g:CO D):CO D:=λγ=>((f γ).bind asB).bind λb=>if b=true then g γ else some (.bl false)
def sZ(f:CO D):CO D:=λγ=>((f γ).bind asB).map λb=> .bl (!b)
def ak(c:CO Bool)(f g:CO D):CO D:=λγ=>(c γ).bind λb=>if b=true then f γ else g γ
def zF:CO (List D):=λ_=>some []
def zb(f:CO D)(g:CO (List D)):CO (List D):=λγ=>(f γ).bind λx=>(g γ).map λr=>x::r
def j3(f:CO (List D)):CO D:=λγ=>(f γ).bind λds=>if ds.length<=lim then some (.tup ds)else none
def kf(f:CO (List D)):CO (List D):=λγ=>(f γ).bind λds=>if ds.length<=lim then some ds else none
inductive Res where
 | val (d:D) | own (ds:List D)
inductive Fl where
 | next (γ:Ctx) | brk (γ:Ctx) | cont (γ:Ctx) | ret (r:Res)
def qT:CO Fl:=λγ=>some (.next γ)
def zI(F G:CO Fl):CO Fl:=λγ=>(F γ).bind λz=>match z with
 | .next γ'=>G γ'
 | f=>some f
def qW(f:CO D):CO Fl:=λγ=>(f γ).map λd=> .ret (.val d)
def vH(f:CO (List D)):CO Fl:=λγ=>(f γ).map λd=> .ret (.own d)
def Xt:Option Cell->Option Fl
 | some (.val d)=>some (.ret<|.val d)
 | some (.own ds)=>some (.ret<|.own ds)
 | _=>none
def Zm(i:Nat):CO Fl:=λγ=>Xt γ[i]?
def gw:CO Fl:=λγ=>some (.cont γ)
def XW:CO Fl:=λ_=>none
def sIf(k:CO Bool)(F G:CO Fl):CO Fl:=λγ=>(k γ).bind λb=>if b=true then F γ else G γ
def jk(i:Nat)(f:CO D):CO Fl:=λγ=>(f γ).map λd=> .next (γ.set i<|.val d)
def kx(i:Nat)(f:CO (List D)):CO Fl:=λγ=>(f γ).map λds=> .next (γ.set i<|.own ds)
def qx:Option Cell->Option (List D)
 | some (.own ds)=>some ds
 | _=>none
def qt(i:Nat)(f:CO D):CO Fl:=λγ=>(qx γ[i]?).bind λds=>(f γ).bind λd=>if ds.length<lim then some (.next<|γ.set i<|.own<|ds++[d])else none
def z9(n:Nat)(ds:List D):Ctx:=ds.map Cell.val++Ge (n - ds.length) Cell.no
noncomputable def js(n:Nat)(F:CO Fl)(ds:List D):Option Res:=(F<|z9 n ds).bind λz=>match z with
 | .ret r=>some r
 | .next _=>some (.val .non)
 | _=>none
def mf:Res->D
 | .val d=>d
 | .own ds=> .lst ds
def zG(F:List D->Option Res)(g:CO (List D)):CO D:=λγ=>(g γ).bind λds=>(F ds).map mf
def rZ:Res->Option (List D)
 | .own ds=>some ds
 | _=>none
def jE(F:List D->Option Res)(g:CO (List D)):CO (List D):=λγ=>(g γ).bind λds=>(F ds).bind rZ
def xM(lo:Int)(n:Nat):List D:=(Ga n).map λ(i:Nat)=>D.int<|lo+(i:Int)
def wY(ds es:List D):List D:=(ds.zip es).map λp=>D.tup [p.1,p.2]
def zJ(f:CO (Sk×List D)):CO (List D):=λγ=>(f γ).map (·.2)
def inR(i:Int):Bool:=decide<|i.natAbs<2 ^ 62
def zU(f:CO D):CO (List D):=λγ=>((f γ).bind asI).bind λn=>if inR n=true then some (xM 0 n.toNat)else none
def xX(f g:CO D):CO (List D):=λγ=>((f γ).bind asI).bind λm=>((g γ).bind asI).bind λn=>if inR m=true/\inR n=true then some (xM m (n - m).toNat)else none
def K7(f g:CO D):CO (List D):=λγ=>((f γ).bind jG).bind λm=>((g γ).bind jG).map λn=>wY m.2 n.2
inductive Tg where
 | nm (i:Nat) | tp (is:List Nat)
def qI:List Nat->List D->Ctx->Ctx
 | i::is,d::ds,γ=>qI is ds<|γ.set i<|.val d
 | _,_,γ=>γ
def qV:Tg->D->CO Ctx
 | .nm i,d,γ=>some (γ.set i<|.val d)
 | .tp is,.tup ds,γ=>if ds.length=is.length then some (qI is ds γ)else none
 | _,_,_=>none
def xk(T:Tg)(F:CO Fl):List D->CO Fl
 | [],γ=>some (.next γ)
 | d::ds,γ=>(qV T d γ).bind λγ1=>(F γ1).bind λI=>match I with
  | .next z=>xk T F ds z
  | .cont z=>xk T F ds z
  | .brk z=>some (.next z)
  | .ret r=>some (.ret r)
def yJ(src:CO (List D))(T:Tg)(F:CO Fl):CO Fl:=λγ=>(src γ).bind λds=>xk T F ds γ
def xJ:Cell->Cell
 | .own _=> .no
 | .nest _=> .no
 | c=>c
def zW(n:Nat)(fr:List Nat)(γ:Ctx):Ctx:=Ge n Cell.no++fr.map λj=>xJ<|γ[j]?.getD .no
def zL(T:Tg)(k:CO Bool)(f:CO D)(γ:Ctx):List D->Option (List D)
 | []=>some []
 | d::ds=>(qV T d γ).bind λγ1=>(k γ1).bind λb=>if b=true then (f γ1).bind λe=>(zL T k f γ ds).map λr=>e::r else zL T k f γ ds
def zH(src:CO (List D))(T:Tg)(n:Nat)(fr:List Nat)(k:CO Bool)(f:CO D):CO (List D):=λγ=>(src γ).bind λds=>if ds.length<=lim then zL T k f (zW n fr γ) ds else none
def z6:CO Bool:=λ_=>some true
def Tg.idx:Tg->List Nat
 | .nm i=>[i]
 | .tp is=>is
def dI(g:Int->Int->D):D->D->Option D
 | .int i,.int j=>some (g i j)
 | _,_=>none
def dIc(c:Int->Int->Bool)(g:Int->Int->D):D->D->Option D
 | .int i,.int j=>if c i j=true then some (g i j)else none
 | _,_=>none
def wt:D->D->Option D:=dI λi j=> .int (i - j)
def wy(i j:Int):Bool:=decide (i.natAbs<2 ^ 64) || decide (j.natAbs<2 ^ 64)
def mT(_ j:Int):Bool:=decide (0<j) && decide (j.natAbs<1073741824)
def yb:D->D->Option D:=dIc mT λi j=> .int (i/j)
def AH(_ j:Int):Bool:=decide<|0<j
def jV:D->D->Option D:=dIc AH λi j=> .int (i%j)
def AG(i j:Int):Bool:=decide (0<=j) && decide (j.natAbs<=1000000) && decide (i.natAbs<2 ^ 64)
def rB:D->D->Option D:=dIc AG λi j=> .int (i ^ j.toNat)
def dLt:D->D->Option D:=dI λi j=> .bl (decide<|i<j)
def dLe:D->D->Option D:=dI λi j=> .bl (decide<|i<=j)
def dGt:D->D->Option D:=dI λi j=> .bl (decide<|j<i)
def dGe:D->D->Option D:=dI λi j=> .bl (decide<|j<=i)
def ju:D->D->Option D
 | .int i,.int j=>some (.int<|i+j)
 | .tup xs,.tup ys=>if xs.length+ys.length<=lim then some (.tup<|xs++ys)else none
 | _,_=>none
def qm:D->D->Option D
 | .int i,.int j=>if wy i j=true then some (.int<|i*j)else none
 | .tup xs,.int j=>if xs.length*j.toNat<=lim/\inR j=true then some (.tup (Ge j.toNat xs).flatten)else none
 | _,_=>none
def QF(f g:CO (Sk×List D)):CO (List D):=λγ=>(f γ).bind λa=>(g γ).bind λb=>
 match a.1,b.1 with
 | .L,.L=>if a.2.length+b.2.length<=lim then some (a.2++b.2)else none
 | _,_=>none
def gu(f:CO (Sk×List D))(g:CO D):CO (List D):=λγ=>(f γ).bind λa=>((g γ).bind asI).bind λj=>
 match a.1 with
 | .L=>if a.2.length*j.toNat<=lim/\inR j=true then some (Ge j.toNat a.2).flatten else none
 | _=>none
def ixD(n:Nat)(i:Int):Option Nat:=if 0<=i/\i<n then some i.toNat else if i<0/\0<=i+n then some (i+n).toNat else none
def sIx(f:CO (Sk×List D))(g:CO D):CO D:=λγ=>(f γ).bind λa=>((g γ).bind asI).bind λi=>(ixD a.2.length i).bind λk=>a.2[k]?
def wo(i:Nat)(g f:CO D):CO Fl:=λγ=>(f γ).bind λd=>(qx γ[i]?).bind λds=>((g γ).bind asI).bind λk=>(ixD ds.length k).map λj=> .next (γ.set i<|.own<|ds.set j d)
def YN(n dflt:Nat):Option Int->Nat
 | none=>dflt
 | some i=>if i<0 then (i+n).toNat else min i.toNat n
def V2(xs:List D)(lo hi:Option Int):List D:=(xs.drop<|YN xs.length 0 lo).take (YN xs.length xs.length hi - YN xs.length 0 lo)
def Vj:CO (Option Int):=λ_=>some none
def sBd(f:CO D):CO (Option Int):=λγ=>((f γ).bind asI).map some
def K8(f:CO D)(l h:CO (Option Int)):CO D:=λγ=>(f γ).bind λd=>(l γ).bind λlo=>(h γ).bind λhi=>match d with
 | .tup xs=>some (.tup<|V2 xs lo hi)
 | _=>none
def Jk(f:CO (Sk×List D)):CO D:=λγ=>(f γ).map λa=> .int a.2.length
inductive Ty where
 | int | bool | str | tuple | list
 deriving DecidableEq
@[simp] def Ao:D->Bool
 | .int _=>true
 | .bl _=>true
 | _=>false
@[simp] def CM:D->Bool
 | .bl _=>true
 | _=>false
@[simp] def Am:D->Bool
 | .str _=>true
 | _=>false
@[simp] def Al:D->Bool
 | .tup _=>true
 | _=>false
@[simp] def An:D->Bool
 | .lst _=>true
 | _=>false
def mM:Ty->D->Bool
 | .int=>Ao
 | .bool=>CM
 | .str=>Am
 | .tuple=>Al
 | .list=>An
def sIs(T:Ty)(f:CO D):CO D:=λγ=>(f γ).map λd=> .bl (mM T d)
@[simp] def eqN:D->Bool
 | .non=>true
 | _=>false
@[simp] def eqB(a:Bool):D->Bool
 | .bl b=>a==b
 | .int b=>(if a then 1 else 0)==b
 | _=>false
@[simp] def eqI(a:Int):D->Bool
 | .bl b=>a==(if b then 1 else 0)
 | .int b=>a==b
 | _=>false
@[simp] def eqS(a:Str):D->Bool
 | .str b=>a==b
 | _=>false
@[simp] def eqX(a:Str)(i:Option Int):D->Bool
 | .exc b j=>a==b && i==j
 | _=>false
mutual
def eqD:D->D->Bool
 | .non,y=>eqN y
 | .bl a,y=>eqB a y
 | .int a,y=>eqI a y
 | .str a,y=>eqS a y
 | .tup xs,y=>match y with
  | .tup ys=>eqDs xs ys
  | _=>false
 | .lst xs,y=>match y with
  | .lst ys=>eqDs xs ys
  | _=>false
 | .exc a i,y=>eqX a i y
 | .dic a b,y=>match y with
  | .dic c d=>eqDs a c && eqDs b d
  | _=>false
 | .dct a b,y=>match y with
  | .dct c d=>a==c && eqDs b d
  | _=>false
def eqDs:List D->List D->Bool
 | [],[]=>true
 | x::xs,y::ys=>eqD x y && eqDs xs ys
 | _,_=>false
end
mutual
def deep:D->Nat
 | .tup xs=>deeps xs+1
 | .lst xs=>deeps xs+1
 | _=>0
def deeps:List D->Nat
 | []=>0
 | x::xs=>max (deep x)<|deeps xs
end
mutual
def okS:D->Bool
 | .str x=>x.cps.all (· < 0x110000)
 | .exc _ _=>false
 | .dic _ _=>false
 | .dct _ _=>false
 | .tup xs=>okSs xs
 | .lst xs=>okSs xs
 | _=>true
def okSs:List D->Bool
 | []=>true
 | x::xs=>okS x && okSs xs
end
def okD(d:D):Bool:=decide (deep d<=20) && okS d
def dEq(x y:D):Option D:=if okD x=true/\okD y=true then some (.bl<|eqD x y)else none
def dNe(x y:D):Option D:=if okD x=true/\okD y=true then some (.bl<|!eqD x y)else none
def AD:D->D->Option D
 | x,.non=>some (.bl<|match x with | .non=>true | _=>false)
 | _,_=>none
def zP(f:CO (Sk×List D)):CO D:=λγ=>(f γ).map λa=> .tup a.2
def QD(f:CO (Sk×List D)):CO (List D):=λγ=>(f γ).map λa=>a.2
def fD:List D->Option Int
 | []=>some 0
 | .int i::r=>(fD r).map λs=>i+s
 | _::_=>none
def lW(f:CO (Sk×List D)):CO D:=λγ=>(f γ).bind λa=>(fD a.2).map D.int
def BQ:D->Option Bool
 | .non=>some false
 | .bl b=>some b
 | .int i=>some (i != 0)
 | _=>none
def w5:List D->Option (List Bool)
 | []=>some []
 | d::r=>(BQ d).bind λb=>(w5 r).map λs=>b::s
def Be(f:CO (Sk×List D)):CO D:=λγ=>(f γ).bind λa=>(w5 a.2).map λs=> .bl (s.all id)
def om(f:CO (Sk×List D)):CO D:=λγ=>(f γ).bind λa=>(w5 a.2).map λs=> .bl (s.any id)
def vJ(f:CO D):CO D:=λγ=>(f γ).bind λd=>match d with
 | .int i=>some (.int i)
 | .bl b=>some (.int<|if b then 1 else 0)
 | _=>none
def gp(f:CO (Sk×List D)):CO Bool:=λγ=>(f γ).map λa=> !a.2.isEmpty
def rX(f:CO D):CO D:=λγ=>((f γ).bind asI).map λi=> .int (-i)
def XX(F G:D->D->Option D)(fa fb fc:CO D):CO D:=λγ=>(fa γ).bind λx=>(fb γ).bind λy=>((F x y).bind asB).bind λb=>if b=true then (fc γ).bind λz=>G y z else some (.bl false)
def gr(T:Tg)(f:CO D):CO Fl:=λγ=>(f γ).bind λd=>(qV T d γ).map .next
end DL
namespace L2
open PySem PySem.Spec PyProof.Rows
def ItAt(k:Sk)(h:Heap)(i l:Addr)(n:Nat):Prop:=match k with
 | .L=>h.IsListIter i l n
 | .T=>h.IsTupleIter i l n
def SqAt(k:Sk)(h:Heap)(l:Addr)(xs:Array Value):Prop:=match k with
 | .L=>h.IsList l xs
 | .T=>h.IsTuple l xs
def itO(k:Sk)(l:Addr):Obj:=match k with
 | .L=>{cls:= .type "list_iterator",data:= .fields #[.ref l,.int 0 0]}
 | .T=>{cls:= .type "tuple_iterator",data:= .fields #[.ref l,.int 0 0]}
theorem ItAt.at(x:ItAt k h i l n)(e : ∀o,h.get? i=some o->h'.get? i=some o):ItAt k h' i l n:=by cases k<;>exact let ⟨o,z,r⟩:=x;⟨o,e _ z,r⟩
theorem SqAt.at(x:SqAt k h l xs)(e : ∀o,h.get? l=some o->h'.get? l=some o):SqAt k h' l xs:=by cases k<;>exact let ⟨o,z,r⟩:=x;⟨o,e _ z,r⟩
theorem ItAt.obj(x:ItAt k h i l n) : ∃o,h.get? i=some o/\∀v,o.data ≠ .cell v:=by cases k<;>exact let ⟨o,I,_,d⟩:=x;⟨o,I,λv z=>by rw[d]at z;cases z⟩
theorem SqAt.lt(x:SqAt k h l xs):l<h.objs.size:=by cases k<;>exact let ⟨o,z,_⟩:=x;GE z
theorem Kz(k:Sk)(h:Heap)(l:Addr):ItAt k (h.push<|itO k l) h.objs.size l 0:=by cases k<;>exact⟨_,Gv _ rfl,rfl,rfl⟩
section
variable{prog:Program}{w:World}{A:Around}{E:RQ}{s:Shared}
theorem VO(z:SqAt k s.heap l xs)(I:Q (.ref s.heap.objs.size) {s with heap:=s.heap.push (itO k l)}):wpAny (model prog w) A (pyIter<|.ref l) Q E s:=by
 cases k
 ·exact MY z I
 ·exact MO z I
theorem yX(O:ItAt k s.heap it l i)(S:SqAt k s.heap l items)(hx:items[i]? = some x)
 (U : ∀h',ItAt k h' it l (i+1)->LH it s.heap h'->Q x {s with heap:=h'}):wpAny (model prog w) A (Ha<|.ref it) Q E s:=by
 cases k with
 | L=>exact wpAny_nextOf_list_item O S hx U
 | T=>
  have I:s.heap.IsTupleIter it l i:=O;obtain⟨o,z,Y,hd⟩:=id I;obtain⟨ol,Z,_,nl,a0⟩:=(show s.heap.IsTuple l items from S);unfold Ha;refine FZ (HJ (name:=Ho "__next__") I.typeIs ME (HY ME I.typeIs entry_tupleiter_next ?_ (args_tupleiter_next _)));refine FZ (m:=field (.ref it) 0) (HI z hd (x:= .ref l) rfl ?_);show wpAny _ _ (if (GX l==HK)=true then _ else _) _ _ s;rw[EQ (show ¬((GX l==HK)=true)from GA)];refine FZ (m:=field (.ref it) 1) (HI z hd (x:= .int i 0) rfl ?_);refine FZ (m:=seqItems? (.ref l)) (IK Z a0 ?_);simp only[Ih,hx];refine FZ (wpAny_setField z hd ⋯ (Gf ⟨x,rfl,Gf (U _ ?_ (LH.update ..))⟩));show Heap.IsTupleIter _ it l (i+1);exact⟨_,Nf _ z (Obj.isFreed_of_fields (NN hd _)),(Obj.cls_mapFields ..).trans Y,by rw[NN hd];simp[rawInt]⟩
theorem QV(z:A.handled=none)(S:ItAt k s.heap it l i)(U:SqAt k s.heap l items)(hx:items[i]? = none)
 (Y : ∀h' e,Heap.ExtBut it s.heap h'->(∃o,h'.get? e=some o/\o.cls = .type "StopIteration")->E (.ref e) {s with heap:=h'}):wpAny (model prog w) A (Ha (.ref it)) Q E s:=by
 cases k with
 | L=>exact wpAny_nextOf_list_end z S U hx Y
 | T=>
  have I:s.heap.IsTupleIter it l i:=S;obtain⟨o,O,hc,hd⟩:=id I;obtain⟨ol,Z,_,nl,a0⟩:=(show s.heap.IsTuple l items from U);unfold Ha;refine FZ (HJ (name:=Ho "__next__") I.typeIs ME (HY ME I.typeIs entry_tupleiter_next ?_ (args_tupleiter_next _)));refine FZ (m:=field (.ref it) 0) (HI O hd (x:= .ref l) rfl ?_);show wpAny _ _ (if (GX l==HK)=true then _ else _) _ _ s;rw[EQ (show ¬((GX l==HK)=true)from GA)];refine FZ (m:=field (.ref it) 1) (HI O hd (x:= .int i 0) rfl ?_);refine FZ (m:=seqItems? (.ref l)) (IK Z a0 ?_);simp only[Ih,hx];refine FZ (LR (FZ (wpAny_setField O hd ⋯ ?_)));refine FZ (m:=newExc (.type "StopIteration") []) ?_;simp only[newExc,newTuple];refine FZ (HZ ?_ (by size_fits));refine FZ (m:=firstArgMember _ _) (wpAny_of_eq (a:=HK) (by first | rfl | (simp only[firstArgMember];rfl)) ?_);refine HZ ?_ (by size_fits);simp only[raiseNew];refine FZ (wpAny_handled ?_)
  first | rw[show A.in1.handled=none from z] | rw[z]
  exact FZ<|Gf<|wpAny_throw<|Y _ _ (((LH.update ..).extBut.push _).push _) ⟨_,Gv _ rfl,rfl⟩
theorem aq{k1 k2:Sk}{z TI TO O S l1 l2:Addr}{n1 n2:Nat}{xs ys:Array Value}{x y a b:Value}{Q:RQ}(D:ZipApart z TI TO O S l1 l2)
 (hz:IsZip s.heap z TI TO .none) (bi:IsPair s.heap TI (.ref O) (.ref S)) (bl:IsPair s.heap TO a b)
 (h1:ItAt k1 s.heap O l1 n1) (h2:ItAt k2 s.heap S l2 n2) (bm:SqAt k1 s.heap l1 xs) (bn:SqAt k2 s.heap l2 ys) (hx:xs[n1]? = some x) (hy:ys[n2]? = some y)
 (hQ : ∀h',IsZip h' z TI TO (rawInt s.heap.objs.size)->IsPair h' TO x y->ItAt k1 h' O l1 (n1+1)->ItAt k2 h' S l2 (n2+1)->IsPair h' s.heap.objs.size x y->h'.objs.size=s.heap.objs.size+1->
   (∀c o,c≠z->c≠TO->c≠O->c≠S->s.heap.get? c=some o->h'.get? c=some o)->Q (.ref s.heap.objs.size) {s with heap:=h'}) :
 wpAny (model prog w) A (Builtin.«zip.__next__» ⟨[.ref z],[]⟩) (λc0 s'=>∃v,c0 = .done (.ret v)/\Q v s') E s:=by
 refine FZ (m:=field (.ref z) 2)<|HI hz rfl (x:= .bool false) rfl ?_;refine FZ (m:=field (.ref z) 3)<|HI hz rfl (x:= .ref TI) rfl ?_;refine FZ<|IK bi rfl ?_;refine FZ (m:=Hz<|.ref z) ?_;unfold Hz;refine FZ<|HI hz rfl (x:= .none) rfl<|Gf ?_;simp only[if_true];refine FZ<|LR<|FZ<|HI hz rfl (x:= .ref TO) rfl ?_;refine FZ<|Ib hz ⋯ λg1 am U=>?_;replace am:IsZip g1 z TI TO .ellipsis:=am;refine FZ ?_;simp only[List.zipIdx_cons,List.zipIdx_nil,List.forIn_cons,List.forIn_nil];refine FZ<|FZ<|NZ ?_;refine FZ (m:=Ha<|.ref O)<|yX (h1.at λo e=>U.extBut _ _ D.i1z e) (bm.at λo e=>U.extBut _ _ D.l1z e) hx λg2 c6 Z=>Gf ?_;have b9:IsPair g2 TO a b:=Z.extBut _ _ D.TOi1<|U.extBut _ _ D.TOz bl;refine FZ<|IK b9 rfl<|FZ<|NK b9 λg3 an a0=>?_;replace an:IsPair g3 TO x b:=an;refine FZ<|Ng<|Gf<|FZ<|FZ<|NZ ?_;refine FZ (m:=Ha<|.ref S)<|yX (h2.at λo e=>a0.extBut _ _ D.TOi2.symm<|Z.extBut _ _ D.i12.symm<|U.extBut _ _ D.i2z e) (bn.at λo e=>a0.extBut _ _ D.l2TO<|Z.extBut _ _ D.l2i1<|U.extBut _ _ D.l2z e) hy λg4 c9 a3=>Gf ?_;have bb:IsPair g4 TO x b:=a3.extBut _ _ D.TOi2 an;refine FZ<|IK bb rfl<|FZ<|NK bb λI a9 a4=>?_;replace a9:IsPair I TO x y:=a9;refine FZ<|Ng<|Gf<|Gf<|FZ<|IK a9 rfl<|FZ<|wpAny_newTuple ?_;have hsz:I.objs.size=s.heap.objs.size:=by rw[a4.1,a3.1,a0.1,Z.1,U.1]
 have bd:IsZip I z TI TO .ellipsis:=a4.extBut _ _ D.TOz.symm (a3.extBut _ _ D.i2z.symm (a0.extBut _ _ D.TOz.symm (Z.extBut _ _ D.i1z.symm am)));have ca : ∀c o,c≠z->c≠TO->c≠O->c≠S->s.heap.get? c=some o->I.get? c=some o:=λc o Y c2 c3 c4 e=>a4.extBut _ _ c2 (a3.extBut _ _ c4 (a0.extBut _ _ c2 (Z.extBut _ _ c3 (U.extBut _ _ Y e))));have cb:ItAt k1 I O l1 (n1+1):=c6.at λo e=>a4.extBut _ _ D.TOi1.symm (a3.extBut _ _ D.i12 (a0.extBut _ _ D.TOi1.symm e));have cd:ItAt k2 I S l2 (n2+1):=c9.at λo e=>a4.extBut _ _ D.TOi2.symm e;have be:z<I.objs.size:=GE bd;refine FZ (m:=Iu (.ref z) (.ref I.objs.size)) ?_;unfold Iu;have ce:IsZip (I.push {cls:= .type "tuple",data:= .seq #[x,y]}) z TI TO .ellipsis:=Gb _ bd;refine FZ (Ib ce ⋯ λg7 as ax=>?_);replace as:IsZip g7 z TI TO (rawInt I.objs.size):=as;refine Ib as ⋯ λg8 ad b0=>?_;replace ad:IsZip g8 z TI TO (rawInt I.objs.size):=ad;have up : ∀c o,c≠z->I.get? c=some o->g8.get? c=some o:=λc o Y e=>b0.extBut _ _ Y (ax.extBut _ _ Y (Gb _ e));have bf:IsPair g8 I.objs.size x y:=b0.extBut _ _ (II be) (ax.extBut _ _ (II be) (Gv _ rfl));have bg:g8.objs.size=I.objs.size+1:=by rw[b0.1,ax.1,Hi]
 rw[hsz]at ad bf bg;refine Gf ⟨_,rfl,?_⟩;show Q (.ref I.objs.size) _;rw[hsz];exact hQ g8 ad (up _ _ D.TOz a9) (cb.at λo e=>up _ o D.i1z e) (cd.at λo e=>up _ o D.i2z e) bf bg λc o Y c2 c3 c4 e=>up c o Y<|ca c o Y c2 c3 c4 e
theorem fK{k1 k2:Sk}{z TI TO S Z l1 l2:Addr}{n1 n2:Nat}{xs ys:Array Value}{a b:Value}{Q:Fin->Shared->Prop}(hh:A.handled=none)(D:ZipApart z TI TO S Z l1 l2)
 (hz:IsZip s.heap z TI TO .none) (b9:IsPair s.heap TI (.ref S) (.ref Z)) (bb:IsPair s.heap TO a b)
 (h1:ItAt k1 s.heap S l1 n1) (h2:ItAt k2 s.heap Z l2 n2) (an:SqAt k1 s.heap l1 xs) (bd:SqAt k2 s.heap l2 ys) (be:xs[n1]? = none\/ys[n2]? = none)
 (hE : ∀h' e,(∀c o,c≠z->c≠TO->c≠S->c≠Z->s.heap.get? c=some o->h'.get? c=some o)->(∃o,h'.get? e=some o/\o.cls = .type "StopIteration")->E (.ref e) {s with heap:=h'}) :
 wpAny (model prog w) A (Builtin.«zip.__next__» ⟨[.ref z],[]⟩) Q E s:=by
 refine FZ (m:=field (.ref z) 2) (HI hz rfl (x:= .bool false) rfl ?_);refine FZ (m:=field (.ref z) 3) (HI hz rfl (x:= .ref TI) rfl ?_);refine FZ (IK b9 rfl ?_);refine FZ (m:=Hz (.ref z)) ?_;unfold Hz;refine FZ (HI hz rfl (x:= .none) rfl (Gf ?_));simp only[if_true];refine FZ (LR (FZ (HI hz rfl (x:= .ref TO) rfl ?_)));refine FZ (Ib hz ⋯ λg1 a5 I=>?_);replace a5:IsZip g1 z TI TO .ellipsis:=a5;refine FZ ?_;simp only[List.zipIdx_cons,List.zipIdx_nil,List.forIn_cons,List.forIn_nil];refine FZ (FZ (NZ ?_));have ap : ∀{g e:_} {oe:Obj},IsZip g z TI TO .ellipsis->(∀c o,c≠z->c≠TO->c≠S->c≠Z->s.heap.get? c=some o->g.get? c=some o)->g.get? e=some oe->oe.cls = .type "StopIteration"->
  wpAny (model prog w) A (setField (.ref z) 0 .none) (λ_ s'=>E (.ref e) s') E {s with heap:=g}:=λ{g e oe} ar hk U a1=>by
  have bl:e≠z:=λq=>by subst q;rw[ar]at U;cases U;simp at a1
  exact Ib ar ⋯ λg3 _ Y=>hE g3 e (λc o c1 c2 c3 c4 q=>Y.extBut _ _ c1<|hk c o c1 c2 c3 c4 q) ⟨oe,Y.extBut _ _ bl U,a1⟩
 cases hx:xs[n1]? with
 | none=>
  refine FZ (m:=Ha<|.ref S)<|QV hh (h1.at λo e=>I.extBut _ _ D.i1z e) (an.at λo e=>I.extBut _ _ D.l1z e) hx λg2 e O he=>?_;obtain⟨oe,U,a1⟩:=he;exact ap (O _ _ D.i1z.symm a5) (λc o c1 _ c3 _ q=>O _ _ c3<|I.extBut _ _ c1 q) U a1
 | some x=>
  have hy:ys[n2]? = none:=by rcases be with h | h;rw[hx]at h;cases h;exact h
  refine FZ (m:=Ha<|.ref S)<|yX (h1.at λo e=>I.extBut _ _ D.i1z e) (an.at λo e=>I.extBut _ _ D.l1z e) hx λg2 bn O=>Gf ?_;have ax:IsPair g2 TO a b:=O.extBut _ _ D.TOi1<|I.extBut _ _ D.TOz bb;refine FZ<|IK ax rfl<|FZ<|NK ax λg3 bv Y=>?_;refine FZ<|Ng<|Gf<|FZ<|FZ<|NZ ?_;refine FZ (m:=Ha<|.ref Z)<|QV hh (h2.at λo e=>Y.extBut _ _ D.TOi2.symm<|O.extBut _ _ D.i12.symm<|I.extBut _ _ D.i2z e) (bd.at λo e=>Y.extBut _ _ D.l2TO<|O.extBut _ _ D.l2i1<|I.extBut _ _ D.l2z e) hy λg4 e b0 he=>?_;obtain⟨oe,U,a1⟩:=he;exact ap (b0 _ _ D.i2z.symm<|Y.extBut _ _ D.TOz.symm<|O.extBut _ _ D.i1z.symm a5) (λc o c1 c2 c3 c4 q=>b0 _ _ c4<|Y.extBut _ _ c2<|O.extBut _ _ c3<|I.extBut _ _ c1 q) U a1
end
def vS(a b:Value):Obj:={cls:= .type "tuple",data:= .seq #[a,b]}
def BN(TI TO:Addr):Obj:={cls:= .type "zip",data:= .fields #[.none,.bool false,.bool false,.ref TI,.ref TO]}
def Jh(z I:Sk)(h:Heap)(O l2:Addr):Heap:=
 HC (HC (HC (HC (HC h<|itO z O)<|itO I l2)<|vS (.ref h.objs.size)<|.ref<|h.objs.size+1)<|vS .none .none) (BN (h.objs.size+2)<|h.objs.size+3)
theorem fJ(I O:Sk)(z l2:Addr)(xs ys:Array Value) :
 Meets (Builtin.«zip.__new__» ⟨[.type "zip",.ref z,.ref l2],[]⟩) (λ_ R s=>SqAt I s.heap z xs/\SqAt O s.heap l2 ys/\
  R (.ok<|.ret<|.ref<|s.heap.objs.size+4) {s with heap:=Jh I O s.heap z l2}):=
 .of_wp λprog w A R s h=>by
  obtain⟨S,g,d,tk,os⟩:=s;obtain⟨U,Y,h⟩:=h;have a1:=sub_zip;have Z:SqAt I (Shared.heap ⟨S,g,d,tk,os⟩) z xs:=U;have a0:SqAt O (Shared.heap ⟨S.push<|itO I z,g,d,tk,os⟩) l2 ys:=Y.at λo e=>Gb _ e
  wp_walk using VO Z,VO a0
  refine⟨_,rfl,?_⟩;simp only[Jh,vS,BN,Hi]at h ⊢;exact h
section
variable{X:Cx}{pins:RW}{σ:St}{H:Hp}{s:Shared}{h':Heap}
theorem Inv.turnLaid{t':Nat}{fp:List Addr}{a:Addr}{o:HO}(I:Inv X pins σ H s)(k : ∀b u,b∉fp->s.heap.get? b=some u->h'.get? b=some u)(U : ∀b∈fp,FpOk X pins H b)
 (Y:s.heap.objs.size<=a) (new:ObjOk X.prog X.w (upd H a o) h' a o):Inv X pins σ (upd H a o) {s with heap:=h',toks:=t'}:=by
 have ha:H a=none:=I.hok.fresh Y;have Z : ∀b u,H b=some u->b∉fp:=λb u e z=>by rw[(U b z).1]at e;cases e
 have a0 : ∀b u,s.heap.get? b=some u->b≠a:=λb u e=>Hb<|GK (GE e) Y;refine I.step (g':=s.gens) (d':=s.drawn) (ch:=fp) (λb O=>⟨(U b O).2.2.2.1,(U b O).2.1,(U b O).2.2.2.2.1,(U b O).2.2.2.2.2⟩) (λb u _ _ S e _=>k b u S e) (λb u _ _ S e _=>⟨u.slots,k b u S e⟩)
  (λb u _ e n=>by rw[zB (a0 b u e)];exact n) (λb u S e=>⟨u,k b u S e⟩) (λb xs e=>by rw[zB (jS e ha)];exact e) (λb ob xs e=>by rw[zB (jS e ha)];exact e)
  (λb ps e=>⟨#[],by rw[zB (jS e ha),e];simp⟩) (λm hm=>?_) (λb u e=>?_) I.bare
 ·obtain⟨ob,es,ep,ho,r⟩:=hm
  refine⟨ob,es,ep,k _ ob (λz=>(U _ z).2.1 rfl) ho,r⟩
 ·by_cases O:b=a
  ·subst O;rw[zD]at e;cases e;exact new
  ·rw[zB O]at e
   refine(I.hok b u e).stay (λc v S q=>k c v ?_ q) (λc q=>by rw[zB (jS q ha)];exact q) λc xs q=>by rw[zB (jS q ha)];exact q
   rcases S with z | z
   ·rw[z];exact Z b u e
   ·exact Z c _ z
theorem Inv.turnedL{t':Nat}{fp:List Addr}(I:Inv X pins σ H s)(k : ∀b u,b∉fp->s.heap.get? b=some u->h'.get? b=some u)(S : ∀b∈fp,FpOk X pins H b):Inv X pins σ H {s with heap:=h',toks:=t'}:=by
 have Y : ∀b u,H b=some u->b∉fp:=λb u e z=>by rw[(S b z).1]at e;cases e
 refine I.step (g':=s.gens) (d':=s.drawn) (ch:=fp) (λb U=>⟨(S b U).2.2.2.1,(S b U).2.1,(S b U).2.2.2.2.1,(S b U).2.2.2.2.2⟩) (λb u _ _ O e _=>k b u O e) (λb u _ _ O e _=>⟨u.slots,k b u O e⟩)
  (λb u _ e n=>n) (λb u O e=>⟨u,k b u O e⟩) (λb xs e=>e) (λb ob xs e=>e)
  (λb ps e=>⟨#[],by rw[e];simp⟩) (λm hm=>?_) (λb u e=>?_) I.bare
 ·obtain⟨ob,es,Z,ho,r⟩:=hm
  refine⟨ob,es,Z,k _ ob (λz=>(S _ z).2.1 rfl) ho,r⟩
 ·refine(I.hok b u e).stay (λc v O q=>k c v ?_ q) (λc q=>q) λc xs q=>q
  rcases O with z | z
  ·rw[z];exact Y b u e
  ·exact Y c _ z
end
def SqK(k:Sk)(K:FY)(H:Hp)(a:Addr)(xs:List V):Prop:=match k with
 | .L=>SqL K H a xs
 | .T=>SqT K H a xs
theorem Inv.sq(I:Inv X pins σ H s)(h:SqK k X.K H a xs) :
 ∃O:List Value,Vals xs O/\SqAt k s.heap a O.toArray/\xs.length<=sizeLine:=by
 cases k with
 | L=>obtain⟨O,r,p,z⟩:=I.list h;exact⟨O,r,p.isList,z⟩
 | T=>obtain⟨O,r,p,z⟩:=I.tuple h;exact⟨O,r,p,z⟩
theorem Inv.sq_inj(I:Inv X pins σ H s)(h:SqK k X.K H a xs)(h':SqK k X.K H a ys):xs=ys:=by
 cases k with
 | L=>exact I.list_inj h h'
 | T=>exact I.tuple_inj h h'
def Itz(z I:Sk)(K:FY)(a b:Addr):It:=
 ⟨λi H=>∃xs ys,SqK z K H a xs/\SqK I K H b ys/\i<xs.length/\i<ys.length,
  λi H x H'=>∃p u v,x = .ref p/\H p=none/\H'=upd H p (.tup [u,v])/\(∀xs,SqK z K H a xs->xs[i]? = some u)/\(∀ys,SqK I K H b ys->ys[i]? = some v),
  λi H=>∃xs ys,SqK z K H a xs/\SqK I K H b ys/\(xs.length<=i\/ys.length<=i)⟩
theorem fS{P:Program}{w:World}{K:FY}{elts:List Expr}{x1:Nat}{tpos:Pos}(k1 k2:Sk){z TI TO Z i2 a b:Addr}(D:ZipApart z TI TO Z i2 a b) :
 Turn P w K (.Tuple elts x1 tpos) (Itz k1 k2 K a b) [z,TI,TO,Z,i2] z (λi h=>IsZip h z TI TO .none/\IsPair h TI (.ref Z) (.ref i2)/\(∃c d,IsPair h TO c d)/\ItAt k1 h Z a i/\ItAt k2 h i2 b i) where
 mem:=by simp
 obj:=λi h ⟨S,Y,⟨c,d,a8⟩,h1,h2⟩ y hy=>by
  simp only[Gr,Hd,or_false]at hy;rcases hy with rfl | rfl | rfl | rfl | rfl
  ·exact⟨_,S,λv q=>by cases q⟩
  ·exact⟨_,Y,λv q=>by cases q⟩
  ·exact⟨_,a8,λv q=>by cases q⟩
  ·exact h1.obj
  ·exact h2.obj
 keep:=λi h h' ⟨S,Y,⟨c,d,a8⟩,h1,h2⟩ k=>
  ⟨k z ⋯ _ S,k TI ⋯ _ Y,⟨c,d,k TO ⋯ _ a8⟩,h1.at λo e=>k Z ⋯ o e,h2.at λo e=>k i2 ⋯ o e⟩
 item:=by
  rintro X hP hw hK hc i pins s σ H E I hf ⟨S,Y,⟨c,d,a8⟩,h1,h2⟩ ⟨xs,ys,am,an,bg,bi⟩;subst hP hw hK;obtain⟨bl,as,p1,z1⟩:=I.sq am;obtain⟨bm,b0,p2,z2⟩:=I.sq an;have hx:xs[i]? = some xs[i]:=Gd bg;have hy:ys[i]? = some ys[i]:=Gd bi;obtain⟨u1,bn,bv⟩:=as.get hx;obtain⟨u2,bx,c0⟩:=b0.get hy;have hT:s.TypeIs (.ref z) "zip":=⟨_,S,rfl⟩;unfold pyNext;refine FZ (LZ (HJ (name:=Ho "__next__") hT Nv (HY Nv hT F.entry_zip_next
   (aq D S Y a8 h1 h2 p1 p2 (x:=u1) (y:=u2) (by simpa using bn) (by simpa using bx) λg a1 a2 a3 a4 a5 a6 a7=>Gf ⟨_,rfl,?_⟩) (F.args_zip_next_1 _))))
  refine wpAny_letOwnedTupleGo_zip a1 λg2 c6 a9=>?_;have lt : ∀{c o},s.heap.get? c=some o->s.heap.objs.size≠c:=λe=>II<|GE e;have c7:IsPair g2 s.heap.objs.size u1 u2:=a9.extBut _ _ (lt S) a5;have kk : ∀U u,U ∉ [z,TI,TO,Z,i2]->s.heap.get? U=some u->g2.get? U=some u:=λU u O e=>by simp only[Gr,Hd,or_false,not_or]at O;exact a9.extBut _ _ O.1<|a7 U u O.1 O.2.2.1 O.2.2.2.1 O.2.2.2.2 e
  have I1:Inv X pins σ (upd H s.heap.objs.size<|.tup [xs[i],ys[i]]) {s with heap:=g2,toks:=s.toks}:=
   I.turnLaid (fp:=[z,TI,TO,Z,i2]) kk hf (Gh _) ⟨by show 2<=sizeLine;decide,[u1,u2],.cons bv<|.cons c0 .nil,⟨_,c7,rfl,_,rfl⟩⟩
  have c9:H s.heap.objs.size=none:=I.fresh;refine⟨.ref s.heap.objs.size,_,I1,rfl,⟨_,_,_,rfl,c9,rfl,λci b9=>by rw[I.sq_inj b9 am];exact hx,λcj b9=>by rw[I.sq_inj b9 an];exact hy⟩,?_,λU O=>?_⟩
  ·exact⟨c6,a9.extBut _ _ D.TIz<|a7 _ _ D.TIz D.TITO D.TIi1 D.TIi2 Y,⟨_,_,a9.extBut _ _ D.TOz a2⟩,a3.at λo e=>a9.extBut _ _ D.i1z e,a4.at λo e=>a9.extBut _ _ D.i2z e⟩
  ·have ca:U≠s.heap.objs.size:=by
    simp only[Gr,Hd,or_false]at O;rcases O with rfl | rfl | rfl | rfl | rfl
    ·exact(lt S).symm
    ·exact(lt Y).symm
    ·exact(lt a8).symm
    ·obtain⟨o,e,_⟩:=h1.obj;exact(lt e).symm
    ·obtain⟨o,e,_⟩:=h2.obj;exact(lt e).symm
   rw[zB ca];exact(hf U O).1
 done:=by
  rintro X hP hw hK hc i pins s σ H E I hf ⟨S,Y,⟨c,d,a8⟩,h1,h2⟩ ⟨xs,ys,am,an,hi⟩;subst hP hw hK;obtain⟨bl,as,p1,z1⟩:=I.sq am;obtain⟨bm,b0,p2,z2⟩:=I.sq an;have hT:s.TypeIs (.ref z) "zip":=⟨_,S,rfl⟩;have l1:=as.length;have l2:=b0.length;unfold pyNext;refine FZ (LZ (HJ (name:=Ho "__next__") hT Nv (HY Nv hT F.entry_zip_next
   (fK (show X.A.handled=none from I.ok.hd hc) D S Y a8 h1 h2 p1 p2 (by rcases hi with q | q;left;simp;omega;right;simp;omega) λg e hk he=>?_) (F.args_zip_next_1 _))))
  obtain⟨o,ho,cf⟩:=he;refine FZ (Nm (T:="StopIteration") (b:=true) ⟨o,ho,cf⟩ isSubtype_stop (Gf ⟨rfl,?_⟩));refine I.turnedL (t':=s.toks) (fp:=[z,TI,TO,Z,i2]) (λU u O e=>?_) hf;simp only[Gr,Hd,or_false,not_or]at O;exact hk U u O.1 O.2.2.1 O.2.2.2.1 O.2.2.2.2 e
 self:=λ_ _ _ _ _ st h=>wpAny_pyIter_zip st.1 h
def FM(K:FY)(ta:TA):TI:=λσ H R=>ta σ H λvs H1=>∃z I a b,vs=[.ref a,.ref b]/\(∃xs,SqK z K H1 a xs)/\(∃ys,SqK I K H1 b ys)/\R (Itz z I K a b) H1
theorem ur{X:Cx}{e1 S:Expr}{ta:TA}{p pos:Pos}{elts:List Expr}{x1:Nat}{tpos:Pos}(hg:Gl X "zip")(hm:X.mg "zip" = none)(ha:PA X [e1,S] ta)
 (hv:bootBuiltins "zip" = some (.type "zip")) (hs:starEach [e1,S] X.env=[(false,eval e1 X.env),(false,eval S X.env)]:=by rfl) (a1:starEach [S] X.env=[(false,eval S X.env)]:=by rfl) :
 PI X (.Tuple elts x1 tpos) (.Call (.Name "zip" p) [e1,S] [] pos) (FM X.K ta):=by
 intro pins s σ H R I h;refine Call_ (xP I hg hm hv<|Hw (thn (ha pos pins s σ H _ I h) λus s1 hZ=>?_) (by rw[hs,a1])<|by rw[a1];rfl);obtain⟨vs,H1,U,r1,q1⟩:=hZ;obtain⟨z,O,a,b,e,⟨xs,an⟩,⟨ys,ap⟩,q⟩:=q1;subst e;obtain⟨w1,w2,eu,as,ax⟩:=sg r1;subst eu;cases as;cases ax;obtain⟨b0,bl,p1,z1⟩:=U.sq an;obtain⟨b9,bm,p2,z2⟩:=U.sq ap;have la:=p1.lt;have lb:=p2.lt;refine callType_new F.called_zip ⋯ (F.typeCall_zip_2 _ _) (F.newCall_zip_2 _ _) (λobj=>F.args_object_init_3 obj _ _) F.entry_zip_new (fJ z O a b b0.toArray b9.toArray) ⟨p1,p2,?_⟩;have keep : ∀c o,s1.heap.get? c=some o->(Jh z O s1.heap a b).get? c=some o:=λc o e=>
  Gb _ (Gb _<|Gb _<|Gb _<|Gb _ e)
 have y1:(HC s1.heap<|itO z a).objs.size=s1.heap.objs.size+1:=Hi ..;have y2:(HC (HC s1.heap<|itO z a)<|itO O b).objs.size=s1.heap.objs.size+2:=by rw[Hi,y1]
 have y3:(HC (HC (HC s1.heap<|itO z a)<|itO O b)<|vS (.ref s1.heap.objs.size)<|.ref<|s1.heap.objs.size+1).objs.size=s1.heap.objs.size+3:=by rw[Hi,y2]
 have y4:(HC (HC (HC (HC s1.heap<|itO z a)<|itO O b)<|vS (.ref s1.heap.objs.size)<|.ref<|s1.heap.objs.size+1)<|vS .none .none).objs.size=s1.heap.objs.size+4:=by rw[Hi,y3]
 have g0:ItAt z (Jh z O s1.heap a b) s1.heap.objs.size a 0:=(Kz z s1.heap a).at λo e=>Gb _<|Gb _<|Gb _<|Gb _ e;have g1:ItAt O (Jh z O s1.heap a b) (s1.heap.objs.size+1) b 0:=by have q:=Kz O (HC s1.heap<|itO z a) b;rw[y1]at q;exact q.at λo e=>Gb _<|Gb _<|Gb _ e
 have g2:IsPair (Jh z O s1.heap a b) (s1.heap.objs.size+2) (.ref s1.heap.objs.size) (.ref<|s1.heap.objs.size+1):=by have q:_=some (vS (.ref s1.heap.objs.size)<|.ref<|s1.heap.objs.size+1):=Gv (HC (HC s1.heap<|itO z a)<|itO O b) (o:=vS (.ref s1.heap.objs.size)<|.ref<|s1.heap.objs.size+1) rfl;rw[y2]at q;exact Gb _<|Gb _ q
 have g3:IsPair (Jh z O s1.heap a b) (s1.heap.objs.size+3) .none .none:=by have q:_=some (vS .none .none):=Gv (HC (HC (HC s1.heap<|itO z a)<|itO O b)<|vS (.ref s1.heap.objs.size)<|.ref<|s1.heap.objs.size+1) (o:=vS .none .none) rfl;rw[y3]at q;exact Gb _ q
 have g4:IsZip (Jh z O s1.heap a b) (s1.heap.objs.size+4) (s1.heap.objs.size+2) (s1.heap.objs.size+3) .none:=by have q:=Gv (HC (HC (HC (HC s1.heap<|itO z a)<|itO O b)<|vS (.ref s1.heap.objs.size)<|.ref<|s1.heap.objs.size+1)<|vS .none .none) (o:=BN (s1.heap.objs.size+2)<|s1.heap.objs.size+3) rfl;rw[y4]at q;exact q
 refine⟨⟨_,g4,rfl⟩,wpAny_pyIter_zip (s:={s1 with heap:=Jh z O s1.heap a b}) g4 ?_⟩;have I2:Inv X pins σ H1 {s1 with heap:=Jh z O s1.heap a b,toks:=s1.toks}:=U.kept keep;have nn : ∀m:Nat,s1.heap.objs.size≠s1.heap.objs.size+m+1:=λm=>by omega
 have Y : ∀m:Nat,a≠s1.heap.objs.size+m:=λm=>Hb<|GK la<|Hr _ m;have Z : ∀m:Nat,b≠s1.heap.objs.size+m:=λm=>Hb<|GK lb<|Hr _ m;have ne : ∀m n:Nat,m≠n->(s1.heap.objs.size+m:Nat)≠s1.heap.objs.size+n:=λm n h=>by omega
 have D:ZipApart (s1.heap.objs.size+4) (s1.heap.objs.size+2) (s1.heap.objs.size+3) s1.heap.objs.size (s1.heap.objs.size+1) a b:=
  ⟨ne 2 4 ⋯,ne 3 4 ⋯,ne 0 4 ⋯,ne 1 4 ⋯,ne 2 3 ⋯,ne 2 0 ⋯,ne 2 1 ⋯,ne 3 0 ⋯,ne 3 1 ⋯,ne 0 1 ⋯,
   Y 4,Y 3,Y 0,Y 1,Z 4,Z 3,Z 0,Z 1⟩
 refine⟨_,[s1.heap.objs.size+4,s1.heap.objs.size+2,s1.heap.objs.size+3,s1.heap.objs.size,s1.heap.objs.size+1],_,_,H1,rfl,I2,fS z O D,⟨g4,g2,⟨_,_,g3⟩,g0,g1⟩,λc hc=>?_,q⟩;have a7:s1.heap.objs.size<=c:=by
  simp only[Gr,Hd,or_false]at hc;rcases hc with rfl | rfl | rfl | rfl | rfl
  ·exact Hr _ _
  ·exact Hr _ _
  ·exact Hr _ _
  ·exact Gh _
  ·exact Hr _ _
 exact U.fpOk a7<|U.hok.fresh a7
def Itk(k:Sk)(K:FY)(a:Addr):It:=match k with
 | .L=>Itl K a
 | .T=>Itt K a
def FN(K:FY)(tl:TE):TI:=λσ H R=>tl σ H λx H1=>∃a k,x = .ref a/\(∃xs,SqK k K H1 a xs)/\R (Itk k K a) H1
theorem bM(S:PE X l tl):PI X tg l (FN X.K tl):=by
 intro pins s σ H R I h;refine thn (S pins s σ H _ I h) λv s1 U=>?_;obtain⟨x,H1,z,Y,Z⟩:=U;obtain⟨a,k,e,⟨xs,hq⟩,q⟩:=Z;subst e;cases Y;have O : ∀b ∈ [s1.heap.objs.size],FpOk X pins H1 b:=λb hb=>by
  have e:b=s1.heap.objs.size:=by simpa using hb
  subst e;exact z.fpOk (Gh _)<|z.hok.fresh<|Gh _
 obtain⟨a2,rv,p,hz⟩:=z.sq hq;cases k with
 | L=>exact MY p ⟨s1.heap.objs.size,[s1.heap.objs.size],_,_,H1,rfl,z.kept (t':=s1.toks) λb o e=>Gb _ e,aB a _,⟨_,Gv _ rfl,rfl,rfl⟩,O,q⟩
 | T=>exact MO p ⟨s1.heap.objs.size,[s1.heap.objs.size],_,_,H1,rfl,z.kept (t':=s1.toks) λb o e=>Gb _ e,Wc a _,⟨_,Gv _ rfl,rfl,rfl⟩,O,q⟩
section
variable{κ:Type} [DecidableEq κ]
def Y8(kvs:List (κ×V))(k:κ):Option V:=(kvs.find? λz=>decide<|z.1=k).map (·.2)
def ao(kvs:List (κ×V))(k:κ)(v:V):List (κ×V):=
 if (kvs.any λz=>decide<|z.1=k)=true then kvs.map (λz=>if z.1=k then (z.1,v)else z)else kvs++[(k,v)]
theorem J7{p:κ×V}{r:List (κ×V)}{k:κ}(e:p.1=k):Y8 (p::r) k=some p.2:=by simp[Y8,IW,e]
theorem Y7{p:κ×V}{r:List (κ×V)}{k:κ}(e : ¬p.1=k):Y8 (p::r) k=Y8 r k:=by simp[Y8,IW,e]
theorem ZG(kvs:List (κ×V))(k:κ)(v:V):(ao kvs k v).length<=kvs.length+1:=by
 unfold ao;split
 ·rw[Gw];omega
 ·rw[Hv,GJ,Hu];omega
theorem RelO.isSome_eq(r:RelO o u):o.isSome=u.isSome:=by
 cases o with
 | none=>cases u with
  | none=>rfl
  | some _=>exact(show False from r).elim
 | some _=>cases u with
  | none=>exact(show False from r).elim
  | some _=>rfl
theorem KV.val{kvs:List (κ×V)}{vs:List (κ×Value)}(r:KV kvs vs)(k:κ):RelO (Y8 kvs k) (valueAt vs k):=by
 unfold KV at r
 induction r with
 | nil=>exact IH
 | @cons p q ps I h t S=>
  obtain⟨h1,h2⟩:=h;by_cases e:p.1=k
  ·have O:q.1=k:=h1.symm.trans e
   have b:valueAt (q::I) k=some q.2:=by simp[valueAt,IW,O]
   rw[J7 e,b];exact h2
  ·have O : ¬q.1=k:=λz=>e (h1.trans z)
   have b:valueAt (q::I) k=valueAt I k:=by simp[valueAt,IW,O]
   rw[Y7 e,b];exact S
theorem KV.any(r:KV kvs vs)(k:κ):(kvs.any λz=>decide<|z.1=k)=vs.any λz=>decide (z.1=k):=by
 unfold KV at r
 induction r with
 | nil=>rfl
 | cons h t I=>rw[Lr,Lr,I,h.1]
theorem KV.repl(r:KV kvs vs)(k:κ)(O:RelV y u) :
 KV (kvs.map λI=>if I.1=k then (I.1,y)else I) (vs.map λI=>if I.1=k then (I.1,u)else I):=by
 unfold KV at r ⊢
 induction r with
 | nil=>exact .nil
 | @cons p q ps U h t S=>
  rw[GQ,GQ];refine .cons ?_ S;obtain⟨h1,h2⟩:=h;by_cases e:p.1=k
  ·rw[RY e,RY (h1.symm.trans e)];exact⟨h1,O⟩
  ·rw[EQ e,EQ (λz=>e<|h1.trans z)];exact⟨h1,h2⟩
theorem KV.put(r:KV kvs vs)(k:κ)(z:RelV y u):KV (ao kvs k y) (stored vs k u):=by
 unfold ao stored;rw[r.any k];by_cases e:(vs.any λI=>decide<|I.1=k)=true
 ·rw[RY e,RY e];exact r.repl k z
 ·rw[EQ e,EQ e];exact Paired.snoc r ⟨rfl,z⟩
theorem KV.length(r:KV kvs vs):kvs.length=vs.length:=Paired.length r
end
theorem iH(r:RelV (kV k) u):(qL P w).is k u=true:=by
 cases k with
 | inl i=>obtain⟨t,e⟩:=(show ∃t,u=MZ i t from r);subst e;exact Yu P w i t
 | inr x=>obtain⟨t,e⟩:=(show ∃t,u=NC x t from r);subst e;exact Yt P w x t
theorem Ky : ∀{ks:List Key} {us:List Value},Vals (ks.map kV) us->ItemsAre (qL P w) ks us
 | [],_,r=>by rw[List.map_nil]at r;cases r;exact .nil
 | k::ks,_,r=>by
  rw[GQ]at r;cases r with
  | cons h t=>exact .cons (iH h)<|Ky t
abbrev KT(H:Hp):List (List Key×V)->List (List Key×Addr×Value)->Prop:=Paired λp q=>p.1=q.1/\H q.2.1=some (.tup (p.1.map kV))/\RelV p.2 q.2.2
theorem KT.val{H:Hp}{kvs:List (List Key×V)}{xs:List (List Key×Addr×Value)}(r:KT H kvs xs)(k:List Key):RelO (Y8 kvs k) ((atKey xs k).map (·.2)):=by
 induction r with
 | nil=>exact IH
 | @cons p q ps I h t S=>
  obtain⟨h1,_,h2⟩:=h;by_cases e:p.1=k
  ·have O:q.1=k:=h1.symm.trans e
   have b:atKey (q::I) k=some q.2:=by simp[atKey,IW,O]
   rw[J7 e,b];exact h2
  ·have O : ¬q.1=k:=λz=>e (h1.trans z)
   have b:atKey (q::I) k=atKey I k:=by simp[atKey,IW,O]
   rw[Y7 e,b];exact S
section
variable{P:Program}{w:World}{H:Hp}{h:Heap}{a:Addr}
theorem tG(ok:HOk P w H h)(e:Rd H a u):ObjOk P w H h a u:=e.ok ok
theorem iZ(ok:HOk P w H h)(e:Rd H a (.dK kvs)):kvs.length<=sizeLine/\(a==sysModules)=false/\∃vs,KV kvs vs/\h.DictOf (qL P w) a vs:=
 show ObjOk P w H h a (.dK kvs)from tG ok e
theorem Ec(ok:HOk P w H h)(e:H a=some (.dK kvs)):kvs.length<=sizeLine/\(a==sysModules)=false/\∃vs,KV kvs vs/\h.DictOf (qL P w) a vs:=iZ ok<|.inl e
theorem cM(ok:HOk P w H h)(e:H a=some (.tup<|ks.map kV)):(tupleKind<|qL P w).is h ks a:=by obtain⟨_,z,r,o,h1,h2,n,I⟩:=(show ObjOk P w H h a (.tup<|ks.map kV)from ok a _ e);exact⟨o,z.toArray,n,h1,(Prod.mk.inj h2).1,I,by simpa using Ky r⟩
theorem rh(ok:HOk P w H h)(e:Rd H a (.dT kvs)):kvs.length<=sizeLine/\(a==sysModules)=false/\
 ∃xs,KT H kvs xs/\h.DictOfH (tupleKind<|qL P w) a xs:=by
 obtain⟨z,y,xs,r,o,es,O,h1,h2,S,U,Y⟩:=(show ObjOk P w H h a (.dT kvs)from tG ok e);refine⟨z,y,xs,r,o,es,O,h1,h2,S,U,λx hx=>?_,Y⟩;have all : ∀{l:List (List Key×V)} {m:List (List Key×Addr×Value)},KT H l m->∀x∈m,(tupleKind<|qL P w).is h x.1 x.2.1:=by
  intro l m q
  induction q with
  | nil=>intro x hx;exact nomatch hx
  | @cons p q ps qs I t Z=>
   intro x hx;rcases Gr.mp hx with e | hx
   ·subst e
    exact cM ok (by rw[<- I.1];exact I.2.1)
   ·exact Z x hx
 exact all r x hx
end
def Ba(H:Hp)(a:Addr)(y:V)(r:Option V):Prop:=
 (∃kvs k,Rd H a (.dK kvs)/\y=kV k/\r=Y8 kvs k)\/∃kvs k b,Rd H a (.dT kvs)/\y = .ref b/\H b=some (.tup<|k.map kV)/\r=Y8 kvs k
section
variable{X:Cx}{pins:RW}{σ:St}{H:Hp}{s:Shared}{a:Addr}{y v:V}{u r:Value}{o:Option V}{A:Around}{E:RQ}
theorem Inv.big(I:Inv X pins σ H s):sysModules<s.heap.objs.size:=by have h:mainGlobals<s.heap.objs.size:=(I.mod.glob.keeps I.bk).lt;exact Nat.lt_trans ⋯ h
theorem dS(hu:A.units+1<cLine)(I:Inv X pins σ H s)(g:Ba H a y (some v))(Z:RelV y u)(h : ∀w' s',Inv X pins σ H s'->RelV v w'->Q w' s') :
 wpAny (model X.prog X.w) A (getItem (.ref a) u) Q E s:=by
 rcases g with⟨kvs,k,e,O,l⟩ | ⟨kvs,k,b,e,O,eb,l⟩
 ·subst O
  obtain⟨z,hd,vs,S,U⟩:=iZ I.hok e;obtain⟨w',hw,Y⟩:=RelO.some_of (v:=v) (o:=valueAt vs k) (by rw[l];exact S.val k);exact wpAny_getItem_of (iH Z) U.mapOf hw<|h w' _ (I.tok _) Y
 ·subst O
  cases (show u=GX b from Z);obtain⟨z,hd,xs,S,U⟩:=rh I.hok e;obtain⟨w',hw,Y⟩:=RelO.some_of (v:=v) (o:=(atKey xs k).map (·.2)) (by rw[l];exact S.val k);obtain⟨p,hp,a3⟩:=Option.map_eq_some_iff.mp hw;refine wpAny_getItem_heap (MP hu) (cM I.hok eb) U hp ?_;rw[a3];exact h w' _ (I.tok _) Y
theorem FQ(Z:A.units+1<cLine)(I:Inv X pins σ H s)(g:Ba H a y o)(Y:RelV y u)(h : ∀s',Inv X pins σ H s'->Q (.bool o.isSome) s') :
 wpAny (model X.prog X.w) A (compareOp .In u<|.ref a) Q E s:=by
 rcases g with⟨kvs,k,e,O,l⟩ | ⟨kvs,k,b,e,O,eb,l⟩
 ·subst O
  obtain⟨z,hd,vs,S,U⟩:=iZ I.hok e;refine wpAny_in_of (iH Y) hd U.mapOf ?_;rw[<- (S.val k).isSome_eq,<- l];exact h _<|I.tok _
 ·subst O
  cases (show u=GX b from Y);obtain⟨z,hd,xs,S,U⟩:=rh I.hok e;refine wpAny_in_heap (MP Z) (cM I.hok eb) hd U ?_;have q:=(S.val k).isSome_eq;rw[Option.isSome_map]at q;rw[<- q,<- l];exact h _<|I.tok _
theorem rA(I:Inv X pins σ H s)(O:Mut (H a))(S:LH a s.heap h')(U : ∃q,h'.get? a=some q)(new:ObjOk X.prog X.w (upd H a ob) h' a ob) :
 Inv X pins σ (upd H a ob) {s with heap:=h',toks:=t'}:=
 I.write (x:=a) (e:=a) O (.inl rfl) (λb q Y z=>(S.2 b Y).trans z) U new
theorem Az(z:kvs.length<=sizeLine)(hd:(a==sysModules)=false)(I:KV kvs vs)(O:h'.DictOf (qL P w) a vs) :
 ObjOk P w H' h' a (.dK kvs):=⟨z,hd,vs,I,O⟩
end
def BM(i:Expr):Prop:=∀z I,subscripted i false z I=operate [z,I] (getItem z I)
theorem aO{prog:Program}{w:World}{A:Around}{E:RQ}{s:Shared}{env:Env}{value z:Expr}{pos:Pos}{T id:String}{Q:RQ}
 (hl:typeLookup (.type T) "__getitem__" = pure (some (.builtin id))) (hs:BM z)
 (h:wpAny (model prog w) A (eval value env) (λo U=>wpAny (model prog w) A (eval z env) (λi I=>I.TypeIs o T/\wpAny (model prog w) A (getItem o i) Q E I) E U) E s) :
 wpAny (model prog w) A (eval (.Subscript value z pos) env) Q E s:=by
 refine Subscript_<|IR h (λo U h₁=>IR h₁ (λi I O=>?_) λ_ _ x=>x) λ_ _ x=>x;obtain⟨Y,O⟩:=O;unfold subscriptTail;refine FZ ?_;rw[getitemInPython_of_ne Y.not_modules];refine FZ<|wpAny_specialOf Y hl ?_;have S:wpAny (model prog w) A (subscripted z false o i) (λr Z=>wpAny (model prog w) A (letTemporaryGo value o r >>= λ_=>pure r) Q E Z) E I:=by rw[hs o i];exact wpAny_operating<|IR O (λr Z h₃=>FZ<|wpAny_letTemporaryGo<|Gf h₃) λ_ _ x=>x
 first
  | exact Gf<|FZ S
  | exact FZ<|Gf<|FZ S
  | exact FZ S
theorem YK(I:Inv X pins σ H s)(g:Ba H a y o):s.TypeIs (.ref a) "dict":=by
 rcases g with⟨kvs,k,e,_,_⟩ | ⟨kvs,k,b,e,_,_,_⟩
 ·obtain⟨_,_,vs,_,z⟩:=iZ I.hok e
  exact z.typeIs
 ·obtain⟨_,_,xs,_,z⟩:=rh I.hok e
  exact z.typeIs
def Ca(td ty:TE):TE:=λσ H Q=>td σ H λx H1=>ty σ H1 λy H2=>∃a v,x = .ref a/\Ba H2 a y (some v)/\Q v H2
def Fz(ty td:TE):TE:=λσ H Q=>ty σ H λy H1=>td σ H1 λx H2=>∃a o,x = .ref a/\Ba H2 a y o/\Q (.bl o.isSome) H2
section
variable{X:Cx}{o i e value:Expr}{pos pos' tpos:Pos}{td ty tv:TE}
theorem oX(O:X.A.units+1<cLine)(S:PE X o td)(hi:PE X i ty)(U:BM i):PE X (.Subscript o i pos) (Ca td ty):=by intro pins s σ H Q I h;refine aO PySem.F.slot_dict_getitem.lookup U<|thn (S pins s σ H _ I h) λu s1 ⟨x,H1,Y,Z,q1⟩=>thn (hi pins s1 σ H1 _ Y q1) λiv s2 ⟨y,H2,z,ry,a,v,ex,g,q2⟩=>?_;subst ex;obtain rfl:u=GX a:=Z;exact⟨YK z g,dS O z g ry λw' s3 I3 a4=>⟨v,H2,I3,a4,q2⟩⟩
theorem uD(z:X.A.units+1<cLine)(hi:PE X i ty)(O:PE X o td):PC X .In i o (Fz ty td):=by intro pins s σ H Q I h;refine thn (hi pins s σ H _ I h) λiv s1 ⟨y,H1,S,U,Y⟩=>thn (O pins s1 σ H1 _ S Y) λu s2 ⟨x,H2,Z,rx,a,ov,ex,g,q2⟩=>?_;subst ex;obtain rfl:u=GX a:=rx;exact FQ z Z g U λs3 I3=>⟨.bl ov.isSome,H2,I3,rfl,q2⟩
end
theorem lg(h:Heap)(z:sysModules<h.objs.size):ObjOk P w H (h.push {cls:= .type "dict",data:= .dict #[]}) h.objs.size (.dK []):=
 ⟨HN _,beq_eq_false_iff_ne.mpr<|GN<|Hb z,[],.nil,Heap.DictOf.new h⟩
end L2
namespace DL
open PySem PySem.Spec PyProof.Rows L2
def xNames:List Str:=["NoPrime","Nought","NoTable","NoWidths","NoRow","Unlike","TooMany","NoTurn","NoLine","Nothing","NoArrow","NoText","NoRoom"]
def xCls(K:FY)(c:Str):Option Addr:=match Ml K mainGlobals c with
 | some (some (.ref C))=>some C
 | _=>none
def nq(K:FY)(C:Addr):Bool:=
 ["int","bool","str","tuple","list"].all (λt=>Ir K (.ref C) (.type t)==some false) && Ir K (.ref C) (.type "ValueError")==some true &&
 GS K (.ref C) "__getattribute__" == some (some (.builtin "BaseException.__getattribute__")) && GS K (.ref C) "__getattr__" == some none &&
 GS K (.ref C) "__class__" == some (some (.builtin "object.__class__")) && Md K C (.type "object")==some true && Md K C (.type "BaseException")==some true &&
 Mu K (.builtin "object.__class__") "__get__" == some (some (.builtin "getset_descriptor.__get__")) && PySem.W.takesIn K (.builtin "object.__class__")==some true &&
 (PySem.W.clsIn K C).any (λz=> !z.hasDel) && Mq K (.ref C)==some (.type "type")
def xAll(K:FY):Bool:=match xCls K "SplitError" with
 | some S=>xNames.all λc=>match xCls K c with
  | some C=>nq K C && Ir K (.ref C) (.ref S)==some true && xNames.all λz=>match xCls K z with
   | some I=>Ir K (.ref C) (.ref I)==some (c==z)
   | none=>false
  | none=>false
 | none=>false
def XObj(h:Heap)(a:Addr)(C:Addr):Prop:=∃o vs,h.get? a=some o/\o.cls = .ref C/\o.data = .fields vs
structure XRep(K:FY)(H:Hp)(c:Str)(n:Option Int)(a:Addr):Prop where
 all:xAll K=true
 mem:c∈xNames
 ex : ∃C φ,xCls K c=some C/\H a=some (.ext φ)/\(∀h,φ h->XObj h a C)/\
  match n with
  | none=>True
  | some i=>∃d,(∀h,φ h->∃o,h.get? a=some o/\o.dict=some d)/\H d=some (.xd [(if c==("NoRoom" : Str)then "room" else "at",.int i)])
theorem XRep.mono{K:FY}{H H':Hp}{c:Str}{n:Option Int}{a:Addr}(e : ∀b o,H b=some o->H' b=some o)(h:XRep K H c n a):XRep K H' c n a:=by
 obtain⟨h1,h2,C,φ,I,g2,O,z⟩:=h;refine⟨h1,h2,C,φ,I,e _ _ g2,O,?_⟩;cases n with
 | none=>exact z
 | some i=>obtain⟨d,S,U⟩:=z;exact⟨d,S,e _ _ U⟩
theorem ni{K:FY}{c:Str}{C:Addr}(h:xAll K=true)(O:c∈xNames)(e:xCls K c=some C) : ∃S,xCls K "SplitError" = some S/\nq K C=true/\Ir K (.ref C) (.ref S)=some true/\
 ∀z I,z∈xNames->xCls K z=some I->Ir K (.ref C) (.ref I)=some (c==z):=by
 unfold xAll at h;split at h
 ·rename_i S U
  have h1:=Ld.mp h c O;rw[e]at h1;simp only[Gs,beq_iff_eq]at h1;refine⟨S,U,h1.1.1,h1.1.2,λz I Y Z=>?_⟩;have h2:=Ld.mp h1.2 z Y;rw[Z]at h2;exact beq_iff_eq.mp h2
 ·cases h
abbrev St:=L2.St
def Ah:D->Option Key
 | .int i=>some (.inl i)
 | .str x=>some (.inr x)
 | _=>none
def Ku:List D->Option (List Key)
 | []=>some []
 | d::ds=>(Ah d).bind λk=>(Ku ds).map λr=>k::r
def DRp(H:Hp)(a:Addr)(ks:List D)(xs:List V):Prop:=∃kk,Ku ks=some kk/\kk.length=xs.length/\H a=some (.dK<|kk.zip xs)
def nI(k:List Int):Int:=reduceHash<|Builtin.Tuple.tupleHashOf<|k.map hashInt
def nc(o:Obj)(xs:List (List Int×Addr×Value)):Prop:=o.ExactDict/\∃es z,o.data = .dict es z/\es.toList=xs.map (λx=>⟨nI x.1,.ref x.2.1,x.2.2⟩)/\(xs.map (·.1)).Nodup
def atO(a:Addr)(o:Obj):HO:= .ext λh=>h.get? a=some o
def DRt(K:FY)(H:Hp)(a:Addr)(ks:List (List Int))(ys:List V):Prop:=
 (a==sysModules)=false/\∃o xs,H a=some (atO a o)/\nc o xs/\xs.map (·.1)=ks/\xs.length<=sizeLine/\(∀x∈xs,SqT K H x.2.1<|x.1.map V.int)/\Vals ys (xs.map (·.2.2))
mutual
def Rep(K:FY)(H:Hp):D->V->Prop
 | .non,v=>v = .non
 | .bl b,v=>v = .bl b
 | .int i,v=>v = .int i
 | .str x,v=>v = .str x
 | .tup ds,v=>∃a xs,v = .ref a/\SqT K H a xs/\Reps K H ds xs
 | .lst ds,v=>∃a xs,v = .ref a/\SqL K H a xs/\Reps K H ds xs
 | .exc c n,v=>∃a,v = .ref a/\XRep K H c n a
 | .dic ks vs,v=>∃a xs,v = .ref a/\DRp H a ks xs/\Reps K H vs xs
 | .dct ks vs,v=>∃a xs,v = .ref a/\DRt K H a ks xs/\Reps K H vs xs
def Reps(K:FY)(H:Hp):List D->List V->Prop
 | [],xs=>xs=[]
 | d::ds,xs=>∃x r,xs=x::r/\Rep K H d x/\Reps K H ds r
end
theorem sameT{K:FY}{H H':Hp}{a:Addr}{xs:List V}(e:Same H H')(h:SqT K H a xs):SqT K H' a xs:=by
 rcases h with(h | ⟨o,h⟩) | h
 ·exact .inl<|.inl<|e _ _ h
 ·exact .inl<|.inr ⟨o,e _ _ h⟩
 ·exact .inr h
theorem XU{k:Sk}{K:FY}{H H':Hp}{a:Addr}{xs:List V}(e:Same H H')(h:SqK k K H a xs):SqK k K H' a xs:=by
 cases k
 ·exact e.seq h
 ·exact sameT e h
mutual
theorem Rep.mono{K:FY}{H H':Hp}(e:Same H H') : ∀{d:D} {v:V},Rep K H d v->Rep K H' d v
 | .non,_,h=>h
 | .bl _,_,h=>h
 | .int _,_,h=>h
 | .str _,_,h=>h
 | .tup ds,v,h=>by obtain⟨a,xs,e1,h1,h2⟩:=(show ∃a xs,v = .ref a/\SqT K H a xs/\Reps K H ds xs from h);exact(show ∃a xs,v = .ref a/\SqT K H' a xs/\Reps K H' ds xs from⟨a,xs,e1,sameT e h1,Reps.mono e h2⟩)
 | .lst ds,v,h=>by obtain⟨a,xs,e1,h1,h2⟩:=(show ∃a xs,v = .ref a/\SqL K H a xs/\Reps K H ds xs from h);exact(show ∃a xs,v = .ref a/\SqL K H' a xs/\Reps K H' ds xs from⟨a,xs,e1,e.seq h1,Reps.mono e h2⟩)
 | .exc c n,v,h=>by obtain⟨a,e1,h1⟩:=(show ∃a,v = .ref a/\XRep K H c n a from h);exact(show ∃a,v = .ref a/\XRep K H' c n a from⟨a,e1,h1.mono e⟩)
 | .dic ks vs,v,h=>by obtain⟨a,xs,e1,⟨kk,z,g2,I⟩,h2⟩:=(show ∃a xs,v = .ref a/\DRp H a ks xs/\Reps K H vs xs from h);exact(show ∃a xs,v = .ref a/\DRp H' a ks xs/\Reps K H' vs xs from⟨a,xs,e1,⟨kk,z,g2,e _ _ I⟩,Reps.mono e h2⟩)
 | .dct ks vs,v,h=>by obtain⟨a,xs,e1,⟨z,o,zs,g2,I,O,S,g6,U⟩,h2⟩:=(show ∃a xs,v = .ref a/\DRt K H a ks xs/\Reps K H vs xs from h);exact(show ∃a xs,v = .ref a/\DRt K H' a ks xs/\Reps K H' vs xs from⟨a,xs,e1,⟨z,o,zs,e _ _ g2,I,O,S,λx hx=>sameT e<|g6 x hx,U⟩,Reps.mono e h2⟩)
theorem Reps.mono{K:FY}{H H':Hp}(e:Same H H') : ∀{ds:List D} {xs:List V},Reps K H ds xs->Reps K H' ds xs
 | [],_,h=>h
 | d::ds,xs,h=>by obtain⟨x,r,e1,h1,h2⟩:=(show ∃x r,xs=x::r/\Rep K H d x/\Reps K H ds r from h);exact(show ∃x r,xs=x::r/\Rep K H' d x/\Reps K H' ds r from⟨x,r,e1,Rep.mono e h1,Reps.mono e h2⟩)
end
section
variable{K:FY}{H:Hp}
theorem Reps.nil:Reps K H [] []:=(show([]:List V)=[]from rfl)
theorem Reps.cons(h:Rep K H d x)(t:Reps K H ds xs):Reps K H (d::ds) (x::xs):=⟨x,xs,rfl,h,t⟩
theorem Reps.inv_nil(h:Reps K H [] xs):xs=[]:=h
theorem Reps.inv_cons(h:Reps K H (d::ds) xs) : ∃x r,xs=x::r/\Rep K H d x/\Reps K H ds r:=h
theorem Reps.length : ∀{ds:List D} {xs:List V},Reps K H ds xs->xs.length=ds.length
 | [],xs,h=>by rw[h.inv_nil];rfl
 | d::ds,xs,h=>by obtain⟨x,r,e,_,t⟩:=h.inv_cons;rw[e,GJ,GJ,Reps.length t]
theorem Reps.get : ∀{ds:List D} {xs:List V} {i:Nat} {d:D},Reps K H ds xs->ds[i]? = some d->∃x,xs[i]? = some x/\Rep K H d x
 | [],_,_,_,_,e=>by simp at e
 | c::ds,xs,0,d,h,e=>by obtain⟨x,r,e1,h1,_⟩:=h.inv_cons;simp at e;subst e;exact⟨x,by rw[e1];rfl,h1⟩
 | c::ds,xs,i+1,d,h,e=>by obtain⟨x,r,e1,_,t⟩:=h.inv_cons;obtain⟨y,z,g2⟩:=Reps.get (i:=i) (d:=d) t (by simpa using e);exact⟨y,by rw[e1];simpa using z,g2⟩
theorem Reps.getV{ds:List D}{xs:List V}{i:Nat}{x:V}(h:Reps K H ds xs)(e:xs[i]? = some x) : ∃d,ds[i]? = some d/\Rep K H d x:=by
 have hi:i<ds.length:=by rw[<- h.length];exact(Gq.mp e).1
 obtain⟨y,e1,r⟩:=h.get<|Gd hi;rw[e]at e1;cases e1;exact⟨_,Gd hi,r⟩
theorem Reps.append : ∀{ds es:List D} {xs ys:List V},Reps K H ds xs->Reps K H es ys->Reps K H (ds++es) (xs++ys)
 | [],_,xs,_,h,g=>by rw[h.inv_nil];exact g
 | d::ds,es,xs,ys,h,g=>by obtain⟨x,r,e,h1,t⟩:=h.inv_cons;rw[e];exact Reps.cons h1<|Reps.append t g
theorem Reps.drop : ∀{ds:List D} {xs:List V} (n:Nat),Reps K H ds xs->Reps K H (ds.drop n) (xs.drop n)
 | _,_,0,h=>h
 | [],xs,n+1,h=>by rw[h.inv_nil];exact Reps.nil
 | d::ds,xs,n+1,h=>by obtain⟨x,r,e,_,t⟩:=h.inv_cons;rw[e];exact Reps.drop n t
theorem Reps.take : ∀{ds:List D} {xs:List V} (n:Nat),Reps K H ds xs->Reps K H (ds.take n) (xs.take n)
 | _,_,0,h=>by simp;exact Reps.nil
 | [],xs,n+1,h=>by rw[h.inv_nil];exact Reps.nil
 | d::ds,xs,n+1,h=>by obtain⟨x,r,e,h1,t⟩:=h.inv_cons;rw[e];exact Reps.cons h1<|Reps.take n t
theorem Reps.set : ∀{ds:List D} {xs:List V} {d:D} {x:V} (i:Nat),Reps K H ds xs->Rep K H d x->Reps K H (ds.set i d) (xs.set i x)
 | [],xs,_,_,_,h,_=>by rw[h.inv_nil];exact Reps.nil
 | c::ds,xs,d,x,0,h,g=>by obtain⟨y,r,e,_,t⟩:=h.inv_cons;rw[e];exact Reps.cons g t
 | c::ds,xs,d,x,i+1,h,g=>by obtain⟨y,r,e,h1,t⟩:=h.inv_cons;rw[e];exact Reps.cons h1<|Reps.set i t g
end
structure Ext(H0 H H0' H':Hp):Prop where
 s0:Same H0 H0'
 s1:Same H H'
 sub:Same H0' H'
 new : ∀a,H0 a=none->H a≠none->H0' a=none
theorem Ext.refl(s:Same H0 H):Ext H0 H H0 H:=⟨Same.refl _,Same.refl _,s,λ_ h _=>h⟩
theorem Ext.trans(a:Ext H0 H H1 G1)(b:Ext H1 G1 H2 G2):Ext H0 H H2 G2:=
 ⟨a.s0.trans b.s0,a.s1.trans b.s1,b.sub,λc h1 h2=>b.new c (a.new c h1 h2) (by
  cases q:H c with
  | none=>exact absurd q h2
  | some o=>rw[a.s1 c o q];simp)⟩
theorem z5(h:H p=none)(o:HO):Same H (upd H p o):=λb u q=>by rw[zB (jS q h)];exact q
theorem ji(s:Same H0 H)(h:H p=none):H0 p=none:=s.free h
theorem aW(s:Same H0 H):Same (upd H0 p o) (upd H p o):=λb u q=>by
 by_cases e:b=p
 ·subst e;rw[zD]at q ⊢;exact q
 ·rw[zB e]at q ⊢;exact s b u q
theorem Ext.alloc(s:Same H0 H)(h:H p=none)(o:HO):Ext H0 H (upd H0 p o) (upd H p o):=
 ⟨z5 (ji s h) o,z5 h o,aW s,λa h1 h2=>by rw[zB (λe=>h2<|by rw[e];exact h)];exact h1⟩
theorem Ext.hide(s:Same H0 H)(h:H p=none)(o:HO):Ext H0 H H0 (upd H p o):=
 ⟨Same.refl _,z5 h o,s.trans<|z5 h o,λa h1 _=>h1⟩
theorem Ext.show(e:Ext H0 H H0' H')(h1:H a=none)(h2:H0' a=none)(O:H' a=some o)(s:Same H0 H):Ext H0 H (upd H0' a o) H':=
 ⟨e.s0.trans<|z5 h2 o,e.s1,λb u q=>by
  by_cases z:b=a
  ·subst z;rw[zD]at q;rw[O];exact q
  ·rw[zB z]at q;exact e.sub b u q,λb S I=>by
  rw[zB (λz=>I<|by rw[z];exact h1)];exact e.new b S I⟩
structure Nest(K:FY)(H0 H:Hp)(rows:List (List D))(a:Addr)(bs:List Addr):Prop where
 a0:H0 a=none
 ha:H a=some (.lst<|bs.map V.ref)
 nd:(a::bs).Nodup
 len:bs.length=rows.length
 row : ∀(k:Nat) b row,bs[k]? = some b->rows[k]? = some row->H0 b=none/\∃xs,H b=some (.lst xs)/\Reps K H0 row xs
theorem Nest.at{K:FY}{H0 H:Hp}{rows:List (List D)}{a:Addr}{bs:List Addr}(n:Nest K H0 H rows a bs){b:Addr}(z:b∈a::bs):H0 b=none/\∃xs,H b=some (.lst xs):=by
 rcases Gr.mp z with rfl | z
 ·exact⟨n.a0,_,n.ha⟩
 ·obtain⟨k,I⟩:=List.getElem?_of_mem z
  have O:=(Gq.mp I).1;rw[n.len]at O;obtain⟨h1,xs,h2,_⟩:=n.row k b _ I<|Gd O;exact⟨h1,xs,h2⟩
theorem Nest.move{K:FY}{H0 H H0' H':Hp}{rows:List (List D)}{a:Addr}{bs:List Addr}(n:Nest K H0 H rows a bs)(s:Same H0 H0')(z : ∀b∈a::bs,H0' b=none)(h : ∀b∈a::bs,H' b=H b):Nest K H0' H' rows a bs:=
 ⟨z a Gu,by rw[h a Gu];exact n.ha,n.nd,n.len,λk b row I S=>by obtain⟨_,xs,h2,U⟩:=n.row k b row I S;have O:b∈a::bs:=Gn _<|He I;exact⟨z b O,xs,by rw[h b O];exact h2,U.mono s⟩⟩
def NestOk(K:FY)(H0 H:Hp)(σ:St)(γ:Ctx):Prop:=
 (∀(i:Nat) rows,γ[i]? = some (.nest rows)->∃a bs,σ[i]? = some (some (.ref a))/\Nest K H0 H rows a bs/\∀(j:Nat) ds c,γ[j]? = some (.own ds)->σ[j]? = some (some (.ref c))->c∉a::bs)/\
 ∀(i j:Nat) z r2,γ[i]? = some (.nest z)->γ[j]? = some (.nest r2)->i=j
theorem NestOk.nil0{K:FY}{H0 H:Hp}{σ:St}{γ:Ctx}(h : ∀(i:Nat) rows,γ[i]? ≠ some (.nest rows)):NestOk K H0 H σ γ:=⟨λi rows e=>absurd e<|h i rows,λi j z r2 e=>absurd e<|h i z⟩
theorem NestOk.move{K:FY}{H0 H H0' H':Hp}{σ:St}{γ:Ctx}(n:NestOk K H0 H σ γ)(s:Same H0 H0')(h : ∀(i:Nat) rows a bs,γ[i]? = some (.nest rows)->σ[i]? = some (some (.ref a))->Nest K H0 H rows a bs->(∀(j:Nat) ds c,γ[j]? = some (.own ds)->σ[j]? = some (some (.ref c))->c∉a::bs)->∀b∈a::bs,H0' b=none/\H' b=H b):NestOk K H0' H' σ γ:=
 ⟨λi rows e=>by obtain⟨a,bs,h1,h2,z⟩:=n.1 i rows e;exact⟨a,bs,h1,h2.move s (λb I=>(h i rows a bs e h1 h2 z b I).1)<|λb I=>(h i rows a bs e h1 h2 z b I).2,z⟩,n.2⟩
theorem NestOk.ext{K:FY}{H0 H H0' H':Hp}{σ:St}{γ:Ctx}(n:NestOk K H0 H σ γ)(e:Ext H0 H H0' H'):NestOk K H0' H' σ γ:=
 n.move e.s0 λi rows a bs _ _ h2 _ b z=>by obtain⟨I,xs,g2⟩:=h2.at z;exact⟨e.new b I (by rw[g2];simp),by rw[e.s1 b _ g2,g2]⟩
structure RC(K:FY)(H0 H:Hp)(σ:St)(γ:Ctx):Prop where
 sub:Same H0 H
 len:σ.length=γ.length
 val : ∀(i:Nat) d,γ[i]? = some (.val d)->∃v,σ[i]? = some (some v)/\Rep K H0 d v
 own : ∀(i:Nat) ds,γ[i]? = some (.own ds)->∃a xs,σ[i]? = some (some (.ref a))/\H0 a=none/\H a=some (.lst xs)/\Reps K H0 ds xs
 ne : ∀(i j:Nat) a ds es,γ[i]? = some (.own ds)->γ[j]? = some (.own es)->σ[i]? = some (some (.ref a))->σ[j]? = some (some (.ref a))->i=j
 nst:NestOk K H0 H σ γ
theorem RC.ext{K:FY}{H0 H H0' H':Hp}{σ:St}{γ:Ctx}(r:RC K H0 H σ γ)(e:Ext H0 H H0' H'):RC K H0' H' σ γ:=
 ⟨e.sub,r.len,λi d h=>let ⟨v,h1,h2⟩:=r.val i d h;⟨v,h1,h2.mono e.s0⟩,
  λi ds h=>let ⟨a,xs,h1,h2,z,I⟩:=r.own i ds h;⟨a,xs,h1,e.new a h2 (by rw[z];simp),e.s1 _ _ z,I.mono e.s0⟩,r.ne,r.nst.ext e⟩
def tV(K:FY)(f:CO D):TE:=λσ H Q=>∃H0 γ d,RC K H0 H σ γ/\f γ=some d/\∀v H' H0',Ext H0 H H0' H'->Rep K H0' d v->Q v H'
def tQ(K:FY)(f:CO (Sk×List D)):TE:=λσ H Q=>∃H0 γ k ds,RC K H0 H σ γ/\f γ=some (k,ds)/\∀a xs H' H0',Ext H0 H H0' H'->SqK k K H' a xs->(k = .T->SqT K H0' a xs)->Reps K H0' ds xs->Q (.ref a) H'
def tO(K:FY)(f:CO (List D)):TE:=λσ H Q=>∃H0 γ ds,RC K H0 H σ γ/\f γ=some ds/\
 ∀a xs H' H0',Ext H0 H H0' H'->H a=none->H0' a=none->H' a=some (.lst xs)->Reps K H0' ds xs->Q (.ref a) H'
def tT(K:FY)(f:CO Bool):TT:=λσ H Q=>∃H0 γ b,RC K H0 H σ γ/\f γ=some b/\∀H' H0',Ext H0 H H0' H'->Q b H'
def tA(K:FY)(f:CO (List D)):TA:=λσ H Q=>∃H0 γ ds,RC K H0 H σ γ/\f γ=some ds/\∀vs H' H0',Ext H0 H H0' H'->Reps K H0' ds vs->Q vs H'
abbrev PV(X:Cx)(e:Expr)(f:CO D):Prop:=PE X e (tV X.K f)
abbrev PQ(X:Cx)(e:Expr)(f:CO (Sk×List D)):Prop:=PE X e (tQ X.K f)
abbrev PO(X:Cx)(e:Expr)(f:CO (List D)):Prop:=PE X e (tO X.K f)
abbrev PTD(X:Cx)(e:Expr)(f:CO Bool):Prop:=PT X e (tT X.K f)
abbrev PWD(X:Cx)(e:Expr)(f:CO Bool):Prop:=PW X e (tT X.K f)
abbrev PAD(X:Cx)(es:List Expr)(f:CO (List D)):Prop:=PA X es (tA X.K f)
theorem j9(h:PE X e t)(i : ∀σ H Q,t' σ H Q->t σ H Q):PE X e t':=λpins s σ H Q I q=>h pins s σ H Q I<|i σ H Q q
theorem Wy(h:PT X e t)(i : ∀σ H Q,t' σ H Q->t σ H Q):PT X e t':=λpins s σ H Q I q=>h pins s σ H Q I<|i σ H Q q
theorem tP(h:PW X e t)(i : ∀σ H Q,t' σ H Q->t σ H Q):PW X e t':=λz pins s σ H Q I q=>h z pins s σ H Q I<|i σ H Q q
theorem uG(h:PA X es t)(i : ∀σ H Q,t' σ H Q->t σ H Q):PA X es t':=λpos pins s σ H Q I q=>h pos pins s σ H Q I<|i σ H Q q
theorem xI{X:Cx}{st:Stmt}{t t':TS}(h:PS X st t)(i : ∀D σ H,t' D σ H->t D σ H):PS X st t':=λpins s σ H D I q=>h pins s σ H D I<|i D σ H q
theorem mq{X:Cx}{st:List Stmt}{t t':TS}(h:PSs X st t)(i : ∀D σ H,t' D σ H->t D σ H):PSs X st t':=λpins s σ H D I q=>h pins s σ H D I<|i D σ H q
theorem Ka(h:PI X tg e t)(i : ∀σ H R,t' σ H R->t σ H R):PI X tg e t':=λpins s σ H R I q=>h pins s σ H R I<|i σ H R q
theorem kF(h:n<=lim):n<=sizeLine:=HE h ⋯
section
variable{X:Cx}{e a b c:Expr}{pos:Pos}
theorem PV.q(h:PV X e f):PQ X e (zO f):=j9 h λσ H Q U=>by
 obtain⟨H0,γ,k,ds,rc,I,q⟩:=U;unfold zO at I;cases e1:f γ with
 | none=>rw[e1]at I;cases I
 | some d=>
  rw[e1]at I;refine⟨H0,γ,d,rc,e1,λv H' H0' ext r=>?_⟩;cases d with
  | tup es=>
   obtain⟨O,S⟩:k = .T/\ds=es:=by simp[jG]at I;exact⟨I.1.symm,I.2.symm⟩
   subst O S;obtain⟨a,xs,rfl,h1,h2⟩:=(show ∃a xs,v = .ref a/\SqT X.K H0' a xs/\Reps X.K H0' ds xs from r);exact q a xs H' H0' ext (sameT ext.sub h1) (λ_=>h1) h2
  | lst es=>
   obtain⟨O,S⟩:k = .L/\ds=es:=by simp[jG]at I;exact⟨I.1.symm,I.2.symm⟩
   subst O S;obtain⟨a,xs,rfl,h1,h2⟩:=(show ∃a xs,v = .ref a/\SqL X.K H0' a xs/\Reps X.K H0' ds xs from r);exact q a xs H' H0' ext (ext.sub.seq h1) (λz=>nomatch z) h2
  | _=>simp[jG]at I
theorem PO.v(h:PO X e f):PV X e (jR f):=j9 h λσ H Q S=>by
 obtain⟨H0,γ,d,rc,z,q⟩:=S;unfold jR at z;cases e1:f γ with
 | none=>rw[e1]at z;cases z
 | some ds=>
  rw[e1]at z;cases z;refine⟨H0,γ,ds,rc,e1,λa xs H' H0' ext h1 h2 U r=>?_⟩;exact q _ _ _ (ext.show h1 h2 U rc.sub) (show ∃I O,V.ref a = .ref I/\SqL X.K _ I O/\Reps X.K _ ds O from⟨a,xs,rfl,SqL.of zD,r.mono<|z5 h2 _⟩)
theorem PO.q(h:PO X e f):PQ X e (jQ f):=j9 h λσ H Q O=>by
 obtain⟨H0,γ,k,ds,rc,I,q⟩:=O;unfold jQ at I;cases e1:f γ with
 | none=>rw[e1]at I;cases I
 | some es=>
  rw[e1]at I;cases I;exact⟨H0,γ,_,rc,e1,λa xs H' H0' ext h1 h2 S r=>q a xs H' H0' ext (SqL.of S) (λz=>nomatch z) r⟩
theorem tU(i:Nat)(h:PE X e (Jz i)):PV X e (zc i):=j9 h λσ H Q I=>by
 obtain⟨H0,γ,d,rc,z,q⟩:=I;unfold zc at z;cases e1:γ[i]? with
 | none=>rw[e1]at z;cases z
 | some c=>
  rw[e1]at z;cases c with
  | val d'=>
   cases z;obtain⟨v,h1,h2⟩:=rc.val i d e1;exact⟨v,h1,q v H H0 (Ext.refl rc.sub) h2⟩
  | no=>cases z
  | own ds=>cases z
  | nest rows=>cases z
theorem uk(i:Nat)(h:PE X e (Jz i)):PQ X e (zh i):=j9 h λσ H Q Y=>by
 obtain⟨H0,γ,k,ds,rc,I,q⟩:=Y;unfold zh at I;cases e1:γ[i]? with
 | none=>rw[e1]at I;cases I
 | some c=>
  rw[e1]at I;cases c with
  | no=>cases I
  | nest rows=>cases I
  | own es=>
   cases I;obtain⟨a,xs,h1,h2,Z,h4⟩:=rc.own i ds e1;exact⟨_,h1,q a xs H H0 (Ext.refl rc.sub) (SqL.of Z) (λz=>nomatch z) h4⟩
  | val d=>
   obtain⟨v,h1,h2⟩:=rc.val i d e1;refine⟨v,h1,?_⟩;cases d with
   | tup es=>
    obtain⟨S,U⟩:k = .T/\ds=es:=by simp[yd,jG]at I;exact⟨I.1.symm,I.2.symm⟩
    subst S U;obtain⟨a,xs,rfl,O,g2⟩:=(show ∃a xs,v = .ref a/\SqT X.K H0 a xs/\Reps X.K H0 ds xs from h2);exact q a xs H H0 (Ext.refl rc.sub) (sameT rc.sub O) (λ_=>O) g2
   | lst es=>
    obtain⟨S,U⟩:k = .L/\ds=es:=by simp[yd,jG]at I;exact⟨I.1.symm,I.2.symm⟩
    subst S U;obtain⟨a,xs,rfl,O,g2⟩:=(show ∃a xs,v = .ref a/\SqL X.K H0 a xs/\Reps X.K H0 ds xs from h2);exact q a xs H H0 (Ext.refl rc.sub) (rc.sub.seq O) (λz=>nomatch z) g2
   | _=>simp[yd,jG]at I
theorem wJ(h:PE X e (tC v))(r : ∀H,Rep X.K H d v):PV X e (zq d):=j9 h λσ H Q z=>by obtain⟨H0,γ,d',rc,I,q⟩:=z;cases I;exact q v H H0 (Ext.refl rc.sub)<|r H0
theorem zf:PV X (.Constant (.int i) j pos) (zq<|.int i):=wJ uB λ_=>(show V.int i = .int i from rfl)
theorem uc:PV X (.Constant (.bool x) j pos) (zq<|.bl x):=wJ Cr λ_=>(show V.bl x = .bl x from rfl)
theorem X5:PV X (.Constant .none j pos) (zq .non):=wJ uz λ_=>(show V.non = .non from rfl)
theorem Zp:PV X (.Constant (.str x) j pos) (zq<|.str x):=wJ mC λ_=>(show V.str x = .str x from rfl)
def Snd(K:FY)(r:R2)(F:D->D->Option D):Prop:=∀H0 H x y dx z d Q,Same H0 H->Rep K H0 dx x->Rep K H0 z y->F dx z=some d->(∀v H' H0',Ext H0 H H0' H'->Rep K H0' d v->Q v H')->r x y H Q
theorem bind_some(h:o.bind f=some y) : ∃x,o=some x/\f x=some y:=by
 cases o with
 | none=>cases h
 | some x=>exact⟨x,rfl,h⟩
theorem Yo{K:FY}{r:R2}{F:D->D->Option D}{fa fb:CO D}(O:Snd K r F) : ∀σ H Q,tV K (zv F fa fb) σ H Q->tOp r (tV K fa) (tV K fb) σ H Q:=λσ H Q S=>by obtain⟨H0,γ,d,rc,z,q⟩:=S;obtain⟨x,e1,z⟩:=bind_some z;obtain⟨y,U,z⟩:=bind_some z;refine⟨H0,γ,x,rc,e1,λY H1 Z x1 r1=>⟨Z,γ,y,rc.ext x1,U,λv2 H2 a2 I r2=>?_⟩⟩;exact O a2 H2 Y v2 x y d Q I.sub (r1.mono I.s0) r2 z λv H' H0' x3 r3=>q v H' H0' (x1.trans<|I.trans x3) r3
theorem JE(z:OpR X (binaryOp op) r)(I:Snd X.K r F)(ha:PV X a fa)(O:PV X b fb):PV X (.BinOp a op b pos) (zv F fa fb):=
 j9 (oV z ha O) (Yo I)
theorem ub(z:OpR X (compareOp op) r)(I:Snd X.K r F)(ha:PV X a fa)(O:PV X b fb)(hm:behindInMarks op b=false):PV X (.Compare a [op] [b] pos) (zv F fa fb):=
 j9 (oY z ha O hm) (Yo I)
theorem Xw{d:D}{b:Bool}(h:asB d=some b):d = .bl b:=by cases d<;>simp[asB]at h;rw[h]
theorem Zt(I:OpR X (compareOp op) r)(O:Snd X.K r F)(ha:PV X a fa)(S:PV X b fb)(hm:behindInMarks op b=false):PTD X (.Compare a [op] [b] pos) (sB<|zv F fa fb):=
 Wy (Yk I ha S hm) λσ H Q U=>by obtain⟨H0,γ,k,rc,z,q⟩:=U;obtain⟨d,e1,z⟩:=bind_some z;refine Yo O σ H _ ⟨H0,γ,d,rc,e1,λv H' H0' x r=>?_⟩;rw[Xw z]at r;exact⟨k,r,q H' H0' x⟩
theorem k6{f:CO D}(h:PV X e f)(O : ∀I,isTrue e X.env I=(do let v <- I;standAt e.pos;holding [v] (truthy v)):=by intro _;rfl):PTD X e (sB f):=
 Wy (ug h O) λσ H Q S=>by obtain⟨H0,γ,k,rc,z,q⟩:=S;obtain⟨d,e1,z⟩:=bind_some z;refine⟨H0,γ,d,rc,e1,λv H' H0' x r=>?_⟩;rw[Xw z]at r;exact⟨k,r,q H' H0' x⟩
theorem Vr(h:PTD X a f):PWD X (.BoolOp .And [a] pos) f:=ou h
theorem bw(h:PTD X a f):PWD X (.BoolOp .Or [a] pos) f:=tK h
theorem bz{f g:CO Bool}{xH:List Expr}(ha:PTD X a f)(I:PWD X (.BoolOp .And (b::xH) pos) g):PWD X (.BoolOp .And (a::b::xH) pos) (Yi f g):=
 tP (tM ha I) λσ H Q O=>by
  obtain⟨H0,γ,k,rc,z,q⟩:=O;obtain⟨c,e1,z⟩:=bind_some z;refine⟨H0,γ,c,rc,e1,λH' H0' x=>?_⟩;cases c with
  | true=>rw[RY rfl]at z ⊢;exact⟨H0',γ,k,rc.ext x,z,λH2 S U=>q H2 S<|x.trans U⟩
  | false=>rw[EQ GA]at z ⊢;cases z;exact q H' H0' x
theorem Vq{f g:CO Bool}{xH:List Expr}(ha:PTD X a f)(I:PWD X (.BoolOp .Or (b::xH) pos) g):PWD X (.BoolOp .Or (a::b::xH) pos) (Wr f g):=
 tP (Ck ha I) λσ H Q O=>by
  obtain⟨H0,γ,k,rc,z,q⟩:=O;obtain⟨c,e1,z⟩:=bind_some z;refine⟨H0,γ,c,rc,e1,λH' H0' x=>?_⟩;cases c with
  | true=>rw[RY rfl]at z ⊢;cases z;exact q H' H0' x
  | false=>rw[EQ GA]at z ⊢;exact⟨H0',γ,k,rc.ext x,z,λH2 S U=>q H2 S<|x.trans U⟩
theorem Zr(ha:PTD X a f):PTD X (.UnaryOp .Not a pos) (ke f):=
 Wy (uh ha) λσ H Q I=>by
  obtain⟨H0,γ,k,rc,z,q⟩:=I;unfold ke at z;cases e1:f γ with
  | none=>rw[e1]at z;cases z
  | some c=>rw[e1]at z;cases z;exact⟨H0,γ,c,rc,e1,λH' H0' x=>q H' H0' x⟩
theorem gH(h:PWD X e f):PTD X e f:=h.pt
theorem tW(h:PV X a f):PV X (.BoolOp op [a] pos) f:=ux h
theorem ud{f g:CO D}{xH:List Expr}(ha:PV X a f)(I:PV X (.BoolOp .And (b::xH) pos) g):PV X (.BoolOp .And (a::b::xH) pos) (rY f g):=
 j9 (uC ha I) λσ H Q O=>by
  obtain⟨H0,γ,d,rc,z,q⟩:=O;obtain⟨c,e1,z⟩:=bind_some z;obtain⟨S,U,e1⟩:=bind_some e1;refine⟨H0,γ,S,rc,U,λv H' H0' x r=>?_⟩;rw[Xw e1]at r;refine⟨c,r,?_⟩;cases c with
  | true=>rw[RY rfl]at z ⊢;exact⟨H0',γ,d,rc.ext x,z,λY H2 Z x2 r2=>q Y H2 Z (x.trans x2) r2⟩
  | false=>rw[EQ GA]at z ⊢;cases z;exact q _ H' H0' x (show V.bl false = .bl false from rfl)
theorem tX(ha:PV X a f):PV X (.UnaryOp .Not a pos) (sZ f):=
 j9 (uy ha) λσ H Q O=>by
  obtain⟨H0,γ,d,rc,z,q⟩:=O;unfold sZ at z;cases e1:f γ with
  | none=>rw[e1]at z;cases z
  | some I=>
   rw[e1]at z;refine⟨H0,γ,I,rc,e1,λv H' H0' x r=>?_⟩;cases I with
   | bl c=>cases z;exact⟨c,r,q _ H' H0' x<|show V.bl (!c) = .bl (!c)from rfl⟩
   | _=>cases z
theorem yj(U:PTD X c k)(ha:PV X a f)(Y:PV X b g):PV X (.IfExp c a b pos) (ak k f g):=
 j9 (pe_ifExp U ha Y) λσ H Q Z=>by
  obtain⟨H0,γ,d,rc,z,q⟩:=Z;obtain⟨t,e1,z⟩:=bind_some z;refine⟨H0,γ,t,rc,e1,λH' H0' x=>?_⟩;cases t with
  | true=>rw[RY rfl]at z ⊢;exact⟨H0',γ,d,rc.ext x,z,λI H2 O S r2=>q I H2 O (x.trans S) r2⟩
  | false=>rw[EQ GA]at z ⊢;exact⟨H0',γ,d,rc.ext x,z,λI H2 O S r2=>q I H2 O (x.trans S) r2⟩
theorem pd:PAD X [] zF:=uG j1 λσ H Q z=>by obtain⟨H0,γ,ds,rc,I,q⟩:=z;cases I;exact q [] H H0 (Ext.refl rc.sub) Reps.nil
theorem hV(ha:PV X e f)(S:PAD X es g)(U:starEach (e::es) X.env=(false,eval e X.env)::starEach es X.env:=by rfl):PAD X (e::es) (zb f g):=
 uG (zZ ha S U) λσ H Q Y=>by
  obtain⟨H0,γ,ds,rc,z,q⟩:=Y;obtain⟨x,e1,z⟩:=bind_some z;cases I:g γ with
  | none=>rw[I]at z;cases z
  | some r=>
   rw[I]at z;cases z;exact⟨H0,γ,x,rc,e1,λv H1 Z x1 r1=>⟨Z,γ,r,rc.ext x1,I,λvs H2 a1 O r2=>q (v::vs) H2 a1 (x1.trans O)<|Reps.cons (r1.mono O.s0) r2⟩⟩
theorem jf(h:PAD X es f):PV X (.Tuple es x1 pos) (j3 f):=
 j9 (uw h) λσ H Q U=>by
  obtain⟨H0,γ,d,rc,z,q⟩:=U;obtain⟨ds,e1,z⟩:=bind_some z;by_cases I:ds.length<=lim
  ·rw[RY I]at z;cases z
   refine⟨H0,γ,ds,rc,e1,λvs H1 Y x1 O=>⟨kF (by rw[O.length];exact I),λp S=>?_⟩⟩;exact q _ _ _ (x1.trans<|Ext.alloc x1.sub S _) (show ∃a xs,V.ref p = .ref a/\SqT X.K _ a xs/\Reps X.K _ ds xs from⟨p,vs,rfl,SqT.of zD,O.mono<|z5 (ji x1.sub S) _⟩)
  ·rw[EQ I]at z;cases z
theorem kU(h:PAD X es f):PO X (.List es pos) (kf f):=
 j9 (uA h) λσ H Q Y=>by
  obtain⟨H0,γ,d,rc,I,q⟩:=Y;obtain⟨ds,e1,I⟩:=bind_some I;by_cases S:ds.length<=lim
  ·rw[RY S]at I;cases I
   refine⟨H0,γ,_,rc,e1,λvs H1 Z x1 U=>⟨kF (by rw[U.length];exact S),λp O=>?_⟩⟩;exact q p vs _ Z (x1.trans<|Ext.hide x1.sub O _) (by
    cases z:H p with
    | none=>rfl
    | some o=>rw[x1.s1 p o z]at O;cases O) (ji x1.sub O) zD U
  ·rw[EQ S]at I;cases I
end
def gG(kvs:List (Key×V))(ps:List (Key×V)):List (Key×V):=ps.foldl (λacc z=>ao acc z.1 z.2) kvs
theorem qw:entryFor table "dict.update.loop" = some Builtin.«dict.update.loop» :=entryFor_of_tree (by kernel_rfl)
theorem qu(args:Args):(Code.builtin "dict.update.loop" args).quiet=true:=Code.quiet_builtin _ ⋯
end DL
namespace L2
open PySem PySem.Spec PyProof.Rows
structure M2(X:Cx)(o:Expr)(m:Str)(apos:Pos)(e f:Expr)(cpos:Pos):Prop where
 base:attributeBase o m X.env (eval o X.env)=eval o X.env
 few:((backTo cpos<|starEach [e,f] X.env).all (λx=> !x.1) && (backToKw cpos<|keywordEach [] X.env).all (λx=>x.1.isSome)
  && decide (([e,f]:List Expr).length+([]:List Keyword).length+(if ([]:List Keyword).isEmpty then 0 else 1)<30))=true
 line:(apos.endLine==cpos.line)=true
 trees:backTo cpos (starEach [e,f] X.env)=[(false,eval e X.env),(false,eval f X.env)]
end L2
namespace DL
open PySem L2
def qZ(ds:List D):List D:=(Ga ds.length).map λ(i:Nat)=>D.tup [.int i,ds[i]?.getD .non]
def QE(f:CO D):CO (List D):=λγ=>(f γ).bind λd=>match d with
 | .tup ds=>some (qZ ds)
 | _=>none
def YC:List D->Option (List Int)
 | []=>some []
 | .int i::r=>(YC r).map λl=>i::l
 | _::_=>none
def kJ(T:Tg)(f:CO (List D))(γ:Ctx):List D->Option (List<|List D)
 | []=>some []
 | d::ds=>(qV T d γ).bind λγ1=>(f γ1).bind λe=>(kJ T f γ ds).map λr=>e::r
def yO(src:CO (List D))(T:Tg)(n:Nat)(fr:List Nat)(f:CO (List D)):CO (List<|List D):=λγ=>(src γ).bind λds=>if ds.length<=lim then kJ T f (zW n fr γ) ds else none
def jM:Cell->Bool
 | .nest _=>true
 | _=>false
def Ye(i:Nat)(f:CO (List<|List D)):CO Fl:=λγ=>(f γ).bind λrows=>if γ.any jM=false then some (.next<|γ.set i<|.nest rows)else none
def qR:Option Cell->Option (List<|List D)
 | some (.nest rows)=>some rows
 | _=>none
def kQ(γ:Ctx)(j i:Nat)(r:List D):Ctx:=(γ.set j .no).set i (.own r)
def qQ(j i:Nat)(g f:CO D)(γ:Ctx):List (List D)->Option (List<|List D)
 | []=>some []
 | r::rs=>(f<|kQ γ j i r).bind λd=>((g<|kQ γ j i r).bind asI).bind λk=>(ixD r.length k).bind λm=>(qQ j i g f γ rs).map λt=>r.set m d::t
def vK(j i:Nat)(g f:CO D):CO Fl:=λγ=>(qR γ[j]?).bind λrows=>if i=j\/γ.length<=i then none else (qQ j i g f γ rows).map λz=> .next ((γ.set j<|.nest z).set i .no)
def Bc(i:Nat)(F:CO Fl):CO Fl:=λγ=>(qx γ[i]?).bind λds=>F<|γ.set i<|.val<|.lst ds
def Ws(i:Nat)(F:CO Fl):CO Fl:=λγ=>(qR γ[i]?).bind λrows=>F<|γ.set i<|.val<|.lst<|rows.map D.lst
def nM:List D->Option (List Str)
 | []=>some []
 | .str x::r=>(nM r).map λl=>x::l
 | _::_=>none
def xK(x:Str):Bool:=decide<|x.length<=1000
def JD(f g:CO D):CO D:=λγ=>(f γ).bind λd=>((g γ).bind asI).bind λi=>match d with
 | .str z=>if xK z=true then (ixD z.cps.toList.length i).bind λk=>z.cps.toList[k]?.map λc=> .str ⟨#[c]⟩else none
 | _=>none
def oi(f:CO D):CO D:=λγ=>(f γ).bind λd=>match d with
 | .str z=>if xK z=true then some (.int z.length)else none
 | _=>none
def oh(f g:CO D):CO D:=λγ=>((f γ).bind asI).bind λi=>((g γ).bind asI).map λj=> .int (if j<i then j else i)
abbrev Xn:=Str×Option Int
def xNo:CO Xn:=λ_=>none
def BO(c:Str):CO Xn:=λ_=>some (c,none)
def xIf(k:CO Bool)(G H:CO Xn):CO Xn:=λγ=>(k γ).bind λb=>if b=true then G γ else H γ
def FS(c:Str):Str:=if c==("NoRoom" : Str)then "room" else "at"
def QC(f:CO D)(g:CO (Sk×List D)):CO D:=λγ=>(f γ).bind λd=>(g γ).bind λa=>(asI d).bind λi=>(YC a.2).map λl=> .bl (!decide (i∈l))
def QG(j:Nat)(g:CO D)(γ:Ctx):Option (List (List D)×Nat×List D):=(qR γ[j]?).bind λR=>((g γ).bind asI).bind λi=>(ixD R.length i).bind λk=>(R[k]?).map λrow=>(R,k,row)
end DL
namespace DL
open PySem L2
open PySem.W (KasT kas_sort)
def XT(z:Str):List D:=z.cps.toList.map λc=>D.str ⟨#[c]⟩
def lX(f:CO D):CO (List D):=λγ=>(f γ).bind λd=>match d with
 | .str z=>if xK z=true then some (XT z)else none
 | _=>none
def ba(f:CO D):CO (List D):=λγ=>(f γ).bind λd=>match d with
 | .str z=>if xK z=true then some (qZ<|XT z)else none
 | _=>none
def Vk(f:CO D):CO (List D):=λγ=>(f γ).bind λd=>match d with
 | .lst ds=>some (qZ ds)
 | _=>none
def EK(f:CO D)(g:CO (Sk×List D)):CO D:=λγ=>(f γ).bind λd=>(g γ).bind λa=>match d with
 | .str x=>(nM a.2).map λl=> .bl (l.any λy=>y==x)
 | _=>none
def Cs:D->Option (Int×Int)
 | .tup [.int a,.int b]=>some (a,b)
 | _=>none
def mD:List D->Option (List<|Int×Int)
 | []=>some []
 | d::r=>(Cs d).bind λp=>(mD r).map λl=>p::l
def yY(x y:Int×Int):Bool:=if x.1=y.1 then decide (x.2<y.2)else decide (x.1<y.1)
def xn{α:Type}(lt:Nat->Nat->Bool):KasT α->α
 | .ret a=>a
 | .ask i j k=>xn lt<|k<|lt i j
def xy(ps:List (Int×Int)):List Nat:=if ps.length<2 then Ga ps.length else (xn (λi j=>yY (ps.getD i (0,0))<|ps.getD j (0,0))<|kas_sort ps.length).toList
def sQ(ds:List D):Option (List D):=(mD ds).bind λps=>if ds.length<64 then some ((xy ps).map λi=>ds.getD i .non)else none
def lY(f:CO (Sk×List D)):CO (List D):=λγ=>(f γ).bind λa=>match a.1 with
 | .L=>sQ a.2
 | _=>none
end DL
namespace DL
open PySem L2
def Yg(i:Nat)(f:CO (List D)):CO Fl:=λγ=>(qx γ[i]?).bind λds=>(f γ).bind λes=>if ds.length+es.length<=lim then some (.next<|γ.set i<|.own<|ds++es)else none
def bh(F G:List D->Option Res)(g:CO (List D)):CO (List D):=λγ=>(g γ).bind λl=>match l with
 | [p,.str z,t,b]=>((if z=("r" : Str)then F else G) [p,t,b]).bind rZ
 | _=>none
def yx:List D->Option (List Int)
 | []=>some []
 | .int i::r=>(yx r).map λl=>i::l
 | _::_=>none
def dP(ds es:List D):Option D:=match yx ds with
 | some ns=>if ds.length=es.length/\ns.Nodup/\ds.length<=lim then some (.dic ds es)else none
 | none=>none
def VT:List D->List D->Int->Option D
 | k::ks,v::vs,i=>match k with
  | .int j=>if j=i then some v else VT ks vs i
  | _=>VT ks vs i
 | _,_,_=>none
open PySem.Spec PyProof.Rows
structure RS(K:FY)(E0 E H0 H:Hp)(σ:St)(γ:Ctx):Prop where
 rc:RC K H0 H σ γ
 ext:Ext E0 E H0 H
 fresh : ∀(i:Nat) ds a,γ[i]? = some (.own ds)->σ[i]? = some (some (.ref a))->E a=none
 fr2 : ∀(i:Nat) rows a xs,γ[i]? = some (.nest rows)->σ[i]? = some (some (.ref a))->H a=some (.lst xs)->E a=none/\∀b,V.ref b∈xs->E b=none
def Sat(K:FY)(E0 E:Hp)(D:Ends):Fl->Prop
 | .next γ=>∀σ H H0,RS K E0 E H0 H σ γ->D.nx σ H
 | .brk γ=>∀σ H H0,RS K E0 E H0 H σ γ->D.bk σ H
 | .cont γ=>∀σ H H0,RS K E0 E H0 H σ γ->D.ct σ H
 | .ret (.val d)=>∀v H H0,Ext E0 E H0 H->Rep K H0 d v->D.rt v H
 | .ret (.own es)=>∀a xs H H0,Ext E0 E H0 H->E a=none->H0 a=none->H a=some (.lst xs)->Reps K H0 es xs->D.rt (.ref a) H
def tS(K:FY)(F:CO Fl):TS:=λD σ H=>∃E0 E H0 γ z,RS K E0 E H0 H σ γ/\F γ=some z/\Sat K E0 E D z
abbrev PSD(X:Cx)(st:Stmt)(F:CO Fl):Prop:=PS X st (tS X.K F)
abbrev ff(X:Cx)(sts:List Stmt)(F:CO Fl):Prop:=PSs X sts (tS X.K F)
section
variable{K:FY}{E0 E H0 H H0' H':Hp}{σ:St}{γ:Ctx}
theorem RS.step(r:RS K E0 E H0 H σ γ)(e:Ext H0 H H0' H'):RS K E0 E H0' H' σ γ:=⟨r.rc.ext e,r.ext.trans e,r.fresh,λi rows a xs h1 h2 I=>by obtain⟨O,bs,z,g2,_⟩:=r.rc.nst.1 i rows h1;rw[h2]at z;cases z;have:=e.s1 a _ g2.ha;rw[I]at this;cases this;exact r.fr2 i rows a _ h1 h2 g2.ha⟩
theorem zA{α:Type}{l:List α}{i j:Nat}{x y:α}(h:(l.set i x)[j]? = some y):(j=i/\y=x/\i<l.length)\/(j≠i/\l[j]? = some y):=by
 by_cases e:i=j
 ·subst e
  by_cases z:i<l.length
  ·rw[GD z]at h;cases h;exact .inl ⟨rfl,rfl,z⟩
  ·rw[List.set_eq_of_length_le ⋯]at h
   exact absurd (Gq.mp h).1 z
 ·rw[Gg e]at h;exact .inr ⟨GN e,h⟩
theorem NestOk.setVal{i:Nat}{d:D}{v:V}(n:NestOk K H0 H σ γ):NestOk K H0 H (σ.set i<|some v) (γ.set i<|.val d):=
 ⟨λj rows e=>by
  rcases zA e with⟨_,z,_⟩ | ⟨O,z⟩
  ·cases z
  ·obtain⟨a,bs,h1,h2,S⟩:=n.1 j rows z
   refine⟨a,bs,by rw[Gg (GN O)];exact h1,h2,λk ds c e1 I=>?_⟩;rcases zA e1 with⟨_,z,_⟩ | ⟨U,z1⟩
   ·cases z
   ·rw[Gg (GN U)]at I;exact S k ds c z1 I,
 λj k Y r2 e1 I=>by
  rcases zA e1 with⟨_,z,_⟩ | ⟨_,z1⟩
  ·cases z
  ·rcases zA I with⟨_,z,_⟩ | ⟨_,z2⟩
   ·cases z
   ·exact n.2 j k Y r2 z1 z2⟩
theorem RC.setVal{i:Nat}{d:D}{v:V}(r:RC K H0 H σ γ)(h:Rep K H0 d v):RC K H0 H (σ.set i<|some v) (γ.set i<|.val d):=by
 refine⟨r.sub,by simp[r.len],λj d' e=>?_,λj ds e=>?_,λj k a ds es e1 Z S U=>?_,r.nst.setVal⟩
 ·rcases zA e with⟨rfl,z,Y⟩ | ⟨I,z⟩
  ·cases z;exact⟨v,GD (by rw[r.len];exact Y),h⟩
  ·obtain⟨v',O,g2⟩:=r.val j d' z
   exact⟨v',by rw[Gg (GN I)];exact O,g2⟩
 ·rcases zA e with⟨rfl,z,Y⟩ | ⟨I,z⟩
  ·cases z
  ·obtain⟨a,xs,O,g2⟩:=r.own j ds z
   exact⟨a,xs,by rw[Gg (GN I)];exact O,g2⟩
 ·rcases zA e1 with⟨_,z,_⟩ | ⟨I,z1⟩
  ·cases z
  ·rcases zA Z with⟨_,z,_⟩ | ⟨hk,z2⟩
   ·cases z
   ·rw[Gg (GN I)]at S
    rw[Gg (GN hk)]at U;exact r.ne j k a ds es z1 z2 S U
theorem RS.setVal{i:Nat}{d:D}{v:V}(r:RS K E0 E H0 H σ γ)(h:Rep K H0 d v):RS K E0 E H0 H (σ.set i<|some v) (γ.set i<|.val d):=
 ⟨r.rc.setVal h,r.ext,λj ds a e1 I=>by
  rcases zA e1 with⟨_,z,_⟩ | ⟨O,z⟩
  ·cases z
  ·rw[Gg (GN O)]at I;exact r.fresh j ds a z I,
 λj rows a xs e1 I S=>by
  rcases zA e1 with⟨_,z,_⟩ | ⟨O,z⟩
  ·cases z
  ·rw[Gg (GN O)]at I;exact r.fr2 j rows a xs z I S⟩
theorem kE : ∀{z bs:List Addr},z.map V.ref=bs.map V.ref->z=bs
 | [],[],_=>rfl
 | [],_::_,h=>by cases h
 | _::_,[],h=>by cases h
 | a::z,b::bs,h=>by rw[GQ,GQ]at h;injection h with h1 h2;injection h1 with h1;rw[h1,kE h2]
theorem RS.setOwn{i:Nat}{es:List D}{a:Addr}{xs:List V}{G0 G:Hp}(r:RS K E0 E G0 G σ γ)(e:Ext G0 G H0 H)(h1:G a=none)(h2:H0 a=none)(h3:H a=some (.lst xs))(h4:Reps K H0 es xs) :
 RS K E0 E H0 H (σ.set i<|some (.ref a)) (γ.set i<|.own es):=by
 have rc:=r.rc.ext e;have no : ∀(j:Nat) ds,γ[j]? = some (.own ds)->¬σ[j]? = some (some (.ref a)):=λj ds g z=>by obtain⟨b,ys,I,g2,g3,_⟩:=r.rc.own j ds g;rw[z]at I;cases I;rw[h1]at g3;cases g3
 refine⟨⟨rc.sub,by simp[rc.len],λj d' g=>?_,λj ds g=>?_,λj k b ds fs e1 U Y Z=>?_,⟨λj rows g=>?_,λj k r1 r2 I g2=>?_⟩⟩,r.ext.trans e,λj ds b I g2=>?_,λj rows b xs I g2 g3=>?_⟩
 ·rcases zA g with⟨_,z,_⟩ | ⟨O,z⟩
  ·cases z
  ·obtain⟨v',I,g2⟩:=rc.val j d' z
   exact⟨v',by rw[Gg (GN O)];exact I,g2⟩
 ·rcases zA g with⟨rfl,z,S⟩ | ⟨O,z⟩
  ·cases z;exact⟨a,xs,GD (by rw[rc.len];exact S),h2,h3,h4⟩
  ·obtain⟨b,ys,I,g2⟩:=rc.own j ds z
   exact⟨b,ys,by rw[Gg (GN O)];exact I,g2⟩
 ·rcases zA e1 with⟨rfl,z,S⟩ | ⟨O,z1⟩
  ·rcases zA U with⟨rfl,_,_⟩ | ⟨hk,z2⟩
   ·rfl
   ·rw[GD (by rw[rc.len];exact S)]at Y
    rw[Gg (GN hk)]at Z;cases Y;exact absurd Z<|no k fs z2
  ·rcases zA U with⟨rfl,z,S⟩ | ⟨hk,z2⟩
   ·rw[GD (by rw[rc.len];exact S)]at Z
    rw[Gg (GN O)]at Y;cases Z;exact absurd Y<|no j ds z1
   ·rw[Gg (GN O)]at Y
    rw[Gg (GN hk)]at Z;exact rc.ne j k b ds fs z1 z2 Y Z
 ·rcases zA g with⟨_,z,_⟩ | ⟨O,z⟩
  ·cases z
  ·obtain⟨b,bs,I,g2,g3⟩:=r.rc.nst.1 j rows z
   obtain⟨b',a2,f1,f2,f3⟩:=rc.nst.1 j rows z;rw[I]at f1;cases f1;have eb:a2.map V.ref=bs.map V.ref:=by have:=e.s1 b _ g2.ha;rw[f2.ha]at this;injection this with this;injection this
   have ad:a2=bs:=kE eb;subst ad;refine⟨b,a2,by rw[Gg (GN O)];exact I,f2,λk ds c e1 U=>?_⟩;rcases zA e1 with⟨rfl,_,S⟩ | ⟨hk,z1⟩
   ·rw[GD (by rw[rc.len];exact S)]at U;cases U
    intro hm;obtain⟨_,am,q⟩:=g2.at hm;rw[h1]at q;cases q
   ·rw[Gg (GN hk)]at U;exact f3 k ds c z1 U
 ·rcases zA I with⟨_,z,_⟩ | ⟨_,z1⟩
  ·cases z
  ·rcases zA g2 with⟨_,z,_⟩ | ⟨_,z2⟩
   ·cases z
   ·exact rc.nst.2 j k r1 r2 z1 z2
 ·rcases zA I with⟨rfl,z,S⟩ | ⟨O,z⟩
  ·rw[GD (by rw[rc.len];exact S)]at g2;cases g2
   cases q:E a with
   | none=>rfl
   | some o=>rw[r.ext.s1 a o q]at h1;cases h1
  ·rw[Gg (GN O)]at g2;exact r.fresh j ds b z g2
 ·rcases zA I with⟨_,z,_⟩ | ⟨O,z⟩
  ·cases z
  ·rw[Gg (GN O)]at g2;exact(r.step e).fr2 j rows b xs z g2 g3
theorem RS.rewrite{i:Nat}{ds es:List D}{a:Addr}{xs ys:List V}(r:RS K E0 E H0 H σ γ)(hi:γ[i]? = some (.own ds))(S:σ[i]? = some (some (.ref a)))(h4:Reps K H0 es ys) :
 RS K E0 E H0 (upd H a<|.lst ys) σ (γ.set i<|.own es):=by
 obtain⟨a',ad,g1,g2,g3,g4⟩:=r.rc.own i ds hi;rw[S]at g1;cases g1;have an:i<γ.length:=(Gq.mp hi).1;refine⟨⟨λb o q=>?_,by simp[r.rc.len],λj d' g=>?_,λj fs g=>?_,λj k b fs gs e1 I Z e4=>?_,⟨λj rows g=>?_,λj k r1 r2 e1 I=>?_⟩⟩,⟨r.ext.s0,λb o q=>?_,λb o q=>?_,r.ext.new⟩,λj fs b e1 I=>?_,λj rows b zs e1 I Z=>?_⟩
 ·rw[zB (λz=>by rw[z,g2]at q;cases q)];exact r.rc.sub b o q
 ·rcases zA g with⟨_,z,_⟩ | ⟨hj,z⟩
  ·cases z
  ·exact r.rc.val j d' z
 ·rcases zA g with⟨rfl,z,hl⟩ | ⟨hj,z⟩
  ·cases z;exact⟨a,ys,S,g2,zD,h4⟩
  ·obtain⟨b,zs,O,U,Y,f4⟩:=r.rc.own j fs z
   refine⟨b,zs,O,U,?_,f4⟩;rw[zB (λq=>hj<|r.rc.ne j i a fs ds z hi (by rw[O,q]) S)];exact Y
 ·have c1 : ∃fs',γ[j]? = some (.own fs'):=by
   rcases zA e1 with⟨q,_,_⟩ | ⟨_,z⟩
   ·exact⟨ds,by rw[q];exact hi⟩
   ·exact⟨fs,z⟩
  have c2 : ∃fs',γ[k]? = some (.own fs'):=by
   rcases zA I with⟨q,_,_⟩ | ⟨_,z⟩
   ·exact⟨ds,by rw[q];exact hi⟩
   ·exact⟨gs,z⟩
  obtain⟨O,z1⟩:=c1;obtain⟨U,z2⟩:=c2;exact r.rc.ne j k b O U z1 z2 Z e4
 ·rcases zA g with⟨_,z,_⟩ | ⟨hj,z⟩
  ·cases z
  ·obtain⟨b,bs,O,U,Y⟩:=r.rc.nst.1 j rows z
   have a3:=Y i ds a hi S;refine⟨b,bs,O,U.move (Same.refl _) (λc hc=>(U.at hc).1)<|λc hc=>zB λq=>a3<|q ▸ hc,λk fs c e1 I=>?_⟩;rcases zA e1 with⟨q,_,_⟩ | ⟨_,z1⟩
   ·rw[q,S]at I;cases I;exact a3
   ·exact Y k fs c z1 I
 ·rcases zA e1 with⟨_,z,_⟩ | ⟨_,z1⟩
  ·cases z
  ·rcases zA I with⟨_,z,_⟩ | ⟨_,z2⟩
   ·cases z
   ·exact r.rc.nst.2 j k r1 r2 z1 z2
 ·rw[zB (λz=>by rw[z,r.fresh i ds a hi S]at q;cases q)];exact r.ext.s1 b o q
 ·rw[zB (λz=>by rw[z,g2]at q;cases q)];exact r.ext.sub b o q
 ·rcases zA e1 with⟨q,_,_⟩ | ⟨_,z⟩
  ·rw[q]at I;exact r.fresh i ds b hi I
  ·exact r.fresh j fs b z I
 ·rcases zA e1 with⟨_,z,_⟩ | ⟨hj,z⟩
  ·cases z
  ·obtain⟨b',bs,O,U,Y⟩:=r.rc.nst.1 j rows z
   rw[I]at O;cases O;rw[zB (show b≠a from λq=>Y i ds a hi S<|by rw[q];exact Gu)]at Z;exact r.fr2 j rows b zs z I Z
end
section
variable{X:Cx}{e a b c:Expr}{pos:Pos}{st:Stmt}{xH:List Stmt}
theorem jZ:ff X [] qT:=mq oG λD σ H z=>by obtain⟨E0,E,H0,γ,U,I,O,S⟩:=z;cases O;exact S σ H H0 I
theorem ze{F G:CO Fl}(h1:PSD X st F)(h2:ff X xH G):ff X (st::xH) (zI F G):=mq (Vu h1 h2) λD σ H S=>by
 obtain⟨E0,E,H0,γ,U,Y,z,I⟩:=S;obtain⟨O,e1,z⟩:=bind_some z;refine⟨E0,E,H0,γ,O,Y,e1,?_⟩;cases O with
 | next γ'=>exact λσ' H' H0' Z=>⟨E0,E,H0',γ',U,Z,z,I⟩
 | brk γ'=>cases z;exact I
 | cont γ'=>cases z;exact I
 | ret r=>cases z;cases r<;>exact I
theorem zm(h1:PSD X st F):ff X [st] F:=vO h1
theorem zx(h:o.map f=some y) : ∃x,o=some x/\f x=y:=by
 cases o with
 | none=>cases h
 | some x=>exact⟨x,rfl,by simpa using h⟩
theorem zV{f:CO D}(h:PV X e f):PSD X (.Return (some e) pos) (qW f):=xI (JH h) λD σ H O=>by obtain⟨E0,E,H0,γ,U,I,z,S⟩:=O;obtain⟨d,e1,z⟩:=zx z;subst z;exact⟨H0,γ,d,I.rc,e1,λv H' H0' x r=>S v H' H0' (I.ext.trans x) r⟩
theorem qO{f:CO (List D)}(h:PO X e f):PSD X (.Return (some e) pos) (vH f):=xI (JH h) λD σ H O=>by
 obtain⟨E0,E,H0,γ,Y,z,I,S⟩:=O;obtain⟨ds,e1,I⟩:=zx I;subst I;refine⟨H0,γ,ds,z.rc,e1,λa xs H' H0' x h1 h2 U r=>S a xs H' H0' (z.ext.trans x) ?_ h2 U r⟩;cases q:E a with
 | none=>rfl
 | some o=>rw[z.ext.s1 a o q]at h1;cases h1
theorem yk(i:Nat)(h:PE X e (Jz i)):PSD X (.Return (some e) pos) (Zm i):=xI (JH h) λD σ H S=>by
 obtain⟨E0,E,H0,γ,Z,I,z,O⟩:=S;unfold Zm at z;cases e1:γ[i]? with
 | none=>rw[e1]at z;cases z
 | some c=>
  rw[e1]at z;cases c with
  | no=>cases z
  | val d=>
   cases z;obtain⟨v,h1,h2⟩:=I.rc.val i d e1;exact⟨v,h1,O v H H0 I.ext h2⟩
  | nest rows=>cases z
  | own ds=>
   cases z;obtain⟨a,xs,h1,h2,U,Y⟩:=I.rc.own i ds e1;exact⟨_,h1,O a xs H H0 I.ext (I.fresh i ds a e1 h1) h2 U Y⟩
theorem X7:PSD X (.Continue pos) gw:=xI Yl λD σ H ⟨E0,E,H0,γ,S,z,I,O⟩=>by cases I;exact O σ H H0 z
theorem bF:PSD X st XW:=xI gQ λD σ H ⟨E0,E,H0,γ,I,O,z,S⟩=>by cases z
theorem xu{k:CO Bool}{F G:CO Fl}{x y:List Stmt}(U:PTD X c k)(ha:ff X x F)(Y:ff X y G):PSD X (.If c x y pos) (sIf k F G):=xI (Co U ha Y) λD σ H Z=>by
 obtain⟨E0,E,H0,γ,O,I,z,S⟩:=Z;obtain⟨t,e1,z⟩:=bind_some z;refine⟨H0,γ,t,I.rc,e1,λH' H0' x=>?_⟩;cases t with
 | true=>rw[RY rfl]at z ⊢;exact⟨E0,E,H0',γ,O,I.step x,z,S⟩
 | false=>rw[EQ GA]at z ⊢;exact⟨E0,E,H0',γ,O,I.step x,z,S⟩
theorem oH(i:Nat){f:CO D}(h:PS X st (Wf (tV X.K f)<|ya i)):PSD X st (jk i f):=xI h λD σ H O=>by obtain⟨E0,E,H0,γ,U,I,z,S⟩:=O;obtain⟨d,e1,z⟩:=zx z;subst z;exact⟨H0,γ,d,I.rc,e1,λv H' H0' x r=>S _ _ H0'<|(I.step x).setVal r⟩
theorem QM(i:Nat){f:CO (List D)}(h:PS X st (Wf (tO X.K f)<|ya i)):PSD X st (kx i f):=xI h λD σ H O=>by obtain⟨E0,E,H0,γ,Y,I,z,S⟩:=O;obtain⟨ds,e1,z⟩:=zx z;subst z;exact⟨H0,γ,ds,I.rc,e1,λa xs H' H0' x h1 h2 U r=>S _ _ H0'<|I.setOwn x h1 h2 U r⟩
theorem xS(h:qx o=some ds):o=some (.own ds):=by
 cases o with
 | none=>cases h
 | some c=>cases c<;>simp[qx]at h;rw[h]
theorem Wz(i:Nat){f:CO D}(h:PE X e (tBM X.K "list" bu (Jz i) (w6 (tV X.K f) rW)))(Y:swapsWith e none pos.line X.env=pure false:=by rfl):PSD X (.Expr e pos) (qt i f):=
 xI (bH h Y) λD σ H Z=>by
  obtain⟨E0,E,H0,γ,fl,I,z,a0⟩:=Z;obtain⟨ds,e1,z⟩:=bind_some z;obtain⟨d,e2,z⟩:=bind_some z;have e1:=xS e1;by_cases O:ds.length<lim
  ·rw[RY O]at z;cases z
   obtain⟨a,xs,h1,h2,S,U⟩:=I.rc.own i ds e1;refine⟨_,h1,.inl ⟨rfl,_,SqL.of S⟩,H0,γ,d,I.rc,e2,λv H' H0' x r=>?_⟩;have a2:=I.step x;have a3:=x.s1 _ _ S;refine⟨a,xs,v,rfl,rfl,a3,?_,?_⟩
   ·exact GK (by rw[U.length];exact O)<|kF<|Gh _
   ·exact a0 _ _ H0'<|a2.rewrite (xs:=xs) e1 h1<|(U.mono x.s0).append (Reps.cons r Reps.nil)
  ·rw[EQ O]at z;cases z
end
def Fm(K:FY)(H0 H:Hp)(Q:VK):Res->Prop
 | .val d=>∀v H' H0',Ext H0 H H0' H'->Rep K H0' d v->Q v H'
 | .own es=>∀a xs H' H0',Ext H0 H H0' H'->H a=none->H0' a=none->H' a=some (.lst xs)->Reps K H0' es xs->Q (.ref a) H'
def spF(K:FY)(n:Nat)(F:List D->Option Res):Sp:=λvs H Q _=>∃H0 ds r,Same H0 H/\Reps K H0 ds vs/\ds.length=n/\F ds=some r/\Fm K H0 H Q r
theorem spF.len{K:FY}{n:Nat}{F:List D->Option Res}{ps:List Str}(hn:ps.length=n) : ∀vs H Q E,spF K n F vs H Q E->vs.length=ps.length:=λvs H Q E h=>by obtain⟨H0,ds,r,_,h1,h2,_⟩:=h;rw[h1.length,h2,hn]
section
variable{P:Program}{w:World}{K:FY}{mg:RJ}{base:Heap}
theorem gz(s:Same H0 H)(h:Reps K H0 ds vs)(hn:ds.length<=N.length):RS K H0 H H0 H (start N vs) (z9 N.length ds):=by
 have z:=h.length;refine⟨⟨s,by simp[L2.start,z9,z],λi d e=>?_,λi es e=>?_,λi j a es fs e _ _ _=>?_,NestOk.nil0 λi rows e=>?_⟩,Ext.refl s,λi es a e _=>?_,λi rows a xs e _ _=>?_⟩
 all_goals unfold z9 at e
 ·by_cases hi:i<ds.length
  ·rw[Hx (by simpa using hi),GZ]at e
   cases e1:ds[i]? with
   | none=>rw[e1]at e;cases e
   | some d'=>
    rw[e1]at e;cases e;obtain⟨x,I,g2⟩:=h.get e1;refine⟨x,?_,g2⟩;unfold L2.start;rw[Hx (by simp;omega),GZ,I];rfl
  ·rw[Hj (by simpa using hi),LN]at e
   split at e<;>cases e
 all_goals
  by_cases hi:i<ds.length
  ·rw[Hx (by simpa using hi),GZ]at e
   cases e1:ds[i]? with
   | none=>rw[e1]at e;cases e
   | some d'=>rw[e1]at e;cases e
  ·rw[Hj (by simpa using hi),LN]at e
   split at e<;>cases e
theorem Au{x qual:Str}{st:Stmt}{f:Addr}{fd:FuncData}{N ps:List Str}{k:Nat}{F:CO Fl}(U:L2.Fun K x qual st f fd)(S:FnScope N ps (defScope st))
 (Y : ∀(cdv:Value) (A:Around) (outer:List Env) (s:Shared) (H:Hp) (E:XK),Room k (A.deeper<|envOfC qual (defScope st) s.heap.objs.size f cdv)->ff (rD CX0 P w K mg base N qual (defScope st) f cdv A outer s H E).nox (defBody st) F) :
 FnOk P w K mg base CX0 (k+1) f fd ps (spF K ps.length<|js N.length F):=by
 refine U.ok S (spF.len rfl)<|λcdv A outer s H vs Q E Z h=>⟨_,Y cdv A outer s H E Z,?_⟩;obtain⟨H0,ds,r,s0,h1,h2,h3,I⟩:=h;obtain⟨O,e1,z⟩:=bind_some h3;have a2:ps.length<=N.length:=by have:=congrArg List.length S.pre;rw[Lb]at this;omega
 refine⟨H0,H,H0,z9 N.length ds,O,gz s0 h1 ⋯,e1,?_⟩;cases O with
 | ret r'=>cases z;cases r<;>exact I
 | next γ=>cases z;exact λσ' H' H0' rs=>I .non H' H0' rs.ext (show V.non = .non from rfl)
 | brk γ=>cases z
 | cont γ=>cases z
end
section
variable{X:Cx}{es:List Expr}{pos p:Pos}{k:Nat}{f:Addr}{fd:FuncData}{ps:List Str}{x:Str}{F:List D->Option Res}{g:CO (List D)}
theorem oB{A0:List Expr}(G:FnOk X.prog X.w X.K X.mg X.base CX0 k f fd ps (spF X.K ps.length F))(ha:PAD X es g)(U : ∀γ ds,g γ=some ds->ds.length=ps.length)
 (Y : ∀{t:TA},PA X es t->PE X (.Call (.Name x p) es [] pos) (fZ (spF X.K ps.length F) [] E0 t)):PV X (.Call (.Name x p) es [] pos) (zG F g):=
 j9 (Y ha) λσ H Q Z=>by
  obtain⟨H0,γ,d,rc,z,q⟩:=Z;obtain⟨ds,e1,z⟩:=bind_some z;obtain⟨r,e2,z⟩:=zx z;refine⟨H0,γ,ds,rc,e1,λvs H1 a1 x1 r1=>⟨a1,ds,r,x1.sub,by simpa using r1,U γ ds e1,e2,?_⟩⟩;subst z;cases r with
  | val d=>exact λv H' H0' I r2=>q v H' H0' (x1.trans I) r2
  | own fs=>
   refine λa xs H' H0' I h1 h2 h3 r2=>q _ H' _ (x1.trans<|I.show h1 h2 h3 x1.sub) ?_;exact(show ∃O S,V.ref a = .ref O/\SqL X.K _ O S/\Reps X.K _ fs S from⟨a,xs,rfl,SqL.of zD,r2.mono<|z5 h2 _⟩)
theorem oQ(G:FnOk X.prog X.w X.K X.mg X.base CX0 k f fd ps (spF X.K ps.length F))(ha:PAD X es g)(O : ∀γ ds,g γ=some ds->ds.length=ps.length)
 (S : ∀{t:TA},PA X es t->PE X (.Call (.Name x p) es [] pos) (fZ (spF X.K ps.length F) [] E0 t)):PO X (.Call (.Name x p) es [] pos) (jE F g):=
 j9 (S ha) λσ H Q U=>by
  obtain⟨H0,γ,fs,rc,I,q⟩:=U;obtain⟨ds,e1,I⟩:=bind_some I;obtain⟨r,Y,I⟩:=bind_some I;refine⟨H0,γ,ds,rc,e1,λvs H1 Z x1 r1=>⟨Z,ds,r,x1.sub,by simpa using r1,O γ ds e1,Y,?_⟩⟩;cases r with
  | val d=>cases I
  | own gs=>
   cases I;exact λa xs H' H0' x2 h1 h2 h3 r2=>q a xs H' H0' (x1.trans x2) (by
    cases z:H a with
    | none=>rfl
    | some o=>rw[x1.s1 a o z]at h1;cases h1) h2 h3 r2
end
structure Walk(K:FY)(H0 Hs:Hp)(J:It)(ds:List D):Prop where
 go : ∀i H1,Same Hs H1->i<ds.length->J.go i H1
 stop : ∀H1,Same Hs H1->J.stop ds.length H1
 yld : ∀i H1 x H1',Same Hs H1->i<ds.length->J.yld i H1 x H1'->∃d,ds[i]? = some d/\∀G0,Same H0 G0->Same G0 H1->∃G0',Ext G0 H1 G0' H1'/\Rep K G0' d x
theorem Walk.weak{K:FY}{H0 Hs z:Hp}{J:It}{ds:List D}(w:Walk K H0 Hs J ds)(s:Same Hs z):Walk K H0 z J ds:=
 ⟨λi H1 h=>w.go i H1<|s.trans h,λH1 h=>w.stop H1<|s.trans h,λi H1 x H1' h=>w.yld i H1 x H1'<|s.trans h⟩
theorem J6{k:Sk}{K:FY}{H0 Hs:Hp}{a:Addr}{xs:List V}{ds:List D}(h:SqK k K Hs a xs)(r:Reps K H0 ds xs):Walk K H0 Hs (Itk k K a) ds:=by
 have O:=r.length;refine⟨λi H1 s hi=>?_,λH1 s=>?_,λi H1 x H1' s hi y=>?_⟩
 ·have hx:i<xs.length:=by omega
  cases k with
  | L=>exact⟨xs,xs[i],s.seq h,Gd hx⟩
  | T=>exact⟨xs,xs[i],sameT s h,Gd hx⟩
 ·cases k with
  | L=>exact⟨xs,s.seq h,by omega⟩
  | T=>exact⟨xs,sameT s h,by omega⟩
 ·have e:H1'=H1/\xs[i]? = some x:=by
   cases k with
   | L=>exact⟨y.1,y.2 xs<|s.seq h⟩
   | T=>exact⟨y.1,y.2 xs<|sameT s h⟩
  obtain⟨e1,z⟩:=e;subst e1;obtain⟨d,hd,I⟩:=r.getV z;exact⟨d,hd,λG0 s1 s2=>⟨G0,Ext.refl s2,I.mono s1⟩⟩
theorem vN(lo:Int)(n:Nat):(xM lo n).length=n:=by simp[xM]
theorem Ju{K:FY}{H0 Hs:Hp}(lo:Int)(n:Nat):Walk K H0 Hs (Itr lo n) (xM lo n):=by
 refine⟨λi H1 s hi=>?_,λH1 s=>?_,λi H1 x H1' s hi y=>?_⟩
 ·rw[vN]at hi;exact hi
 ·rw[vN];exact Gh _
 ·rw[vN]at hi
  obtain⟨e1,z⟩:=y;subst e1 z;exact⟨.int<|lo+i,by simp[xM,hi],λG0 s1 s2=>⟨G0,Ext.refl s2,(show V.int (lo+i) = .int (lo+i)from rfl)⟩⟩
theorem fM{I O:Sk}{K:FY}{H0 Hs:Hp}{a b:Addr}{xs ys:List V}{ds es:List D}(h1:SqK I K Hs a xs)(S:Reps K H0 ds xs)(h2:SqK O K Hs b ys)(r2:Reps K H0 es ys) :
 Walk K H0 Hs (Itz I O K a b) (wY ds es):=by
 have l1:=S.length;have l2:=r2.length;have Z:(wY ds es).length=min ds.length es.length:=by simp[wY]
 refine⟨λi H1 s hi=>?_,λH1 s=>?_,λi H1 x H1' s hi y=>?_⟩
 ·exact⟨xs,ys,XU s h1,XU s h2,by omega,by omega⟩
 ·refine⟨xs,ys,XU s h1,XU s h2,?_⟩
  rw[Z];omega
 ·obtain⟨p,u,v,e1,z,e2,g1,g2⟩:=y
  obtain⟨d,hd,hr⟩:=S.getV<|g1 xs<|XU s h1;obtain⟨c,hc,a4⟩:=r2.getV<|g2 ys<|XU s h2;refine⟨.tup [d,c],?_,λG0 s1 s2=>⟨upd G0 p<|.tup [u,v],?_,?_⟩⟩
  ·have a5:(ds.zip es)[i]? = some (d,c):=List.getElem?_zip_eq_some.mpr ⟨hd,hc⟩
   simp[wY,a5]
  ·rw[e2];exact Ext.alloc s2 z _
  ·rw[e1]
   exact(show ∃U Y,V.ref p = .ref U/\SqT K _ U Y/\Reps K _ [d,c] Y from⟨p,[u,v],rfl,SqT.of zD,Reps.cons ((hr.mono s1).mono (z5 (ji s2 z) _))<|Reps.cons ((a4.mono s1).mono (z5 (ji s2 z) _)) Reps.nil⟩)
def tIc(K:FY)(src:CO (List D)):TI:=λσ H R=>∃H0 γ ds,RC K H0 H σ γ/\src γ=some ds/\∀J H' H0',Ext H0 H H0' H'->Walk K H0' H' J ds->R J H'
def tIf(K:FY)(src:CO (List D)):TI:=λσ H R=>∃H0 γ ds,RC K H0 H σ γ/\src γ=some ds/\∀J H' H0',Ext H0 H H0' H'->Walk K H0' H0' J ds->R J H'
abbrev PIC(X:Cx)(tg e:Expr)(src:CO (List D)):Prop:=PI X tg e (tIc X.K src)
abbrev PIF(X:Cx)(tg e:Expr)(src:CO (List D)):Prop:=PI X tg e (tIf X.K src)
section
variable{X:Cx}{tg e a b:Expr}{pos p:Pos}
theorem PIF.c(h:PIF X tg e src):PIC X tg e src:=Ka h λσ H R ⟨H0,γ,ds,rc,z,q⟩=>⟨H0,γ,ds,rc,z,λJ H' H0' x w=>q J H' H0' x<|w.weak x.sub⟩
theorem zX(h:PQ X e f):PIC X tg e (zJ f):=Ka (bM h) λσ H R z=>by obtain⟨H0,γ,ds,rc,I,q⟩:=z;obtain⟨⟨k,es⟩,e1,O⟩:=zx I;subst O;exact⟨H0,γ,k,es,rc,e1,λa xs H' H0' x h1 _ r=>⟨a,k,rfl,⟨xs,h1⟩,q _ H' H0' x<|J6 h1 r⟩⟩
theorem QQ(h:PV X e f):PIF X tg e (zJ<|zO f):=Ka (bM h) λσ H R O=>by
 obtain⟨H0,γ,ds,rc,S,q⟩:=O;obtain⟨⟨k,es⟩,e1,z⟩:=zx S;subst z;obtain⟨d,U,e1⟩:=bind_some e1;refine⟨H0,γ,d,rc,U,λv H' H0' x r=>?_⟩;cases d with
 | tup fs=>
  obtain⟨z,I⟩:k = .T/\es=fs:=by simp[jG]at e1;exact⟨e1.1.symm,e1.2.symm⟩
  subst z I;obtain⟨a,xs,rfl,h1,h2⟩:=(show ∃a xs,v = .ref a/\SqT X.K H0' a xs/\Reps X.K H0' es xs from r);exact⟨a,.T,rfl,⟨xs,sameT x.sub h1⟩,q _ H' H0' x<|J6 (k:= .T) h1 h2⟩
 | lst fs=>
  obtain⟨z,I⟩:k = .L/\es=fs:=by simp[jG]at e1;exact⟨e1.1.symm,e1.2.symm⟩
  subst z I;obtain⟨a,xs,rfl,h1,h2⟩:=(show ∃a xs,v = .ref a/\SqL X.K H0' a xs/\Reps X.K H0' es xs from r);exact⟨a,.L,rfl,⟨xs,x.sub.seq h1⟩,q _ H' H0' x<|J6 (k:= .L) h1 h2⟩
 | _=>simp[jG]at e1
theorem jw(h:asI d=some i):d = .int i:=by cases d<;>simp[asI]at h;rw[h]
theorem ZM(h:inR i=true) : -(2 ^ 62)<=i/\i<2 ^ 62:=by unfold inR at h;have h:=of_decide_eq_true h;omega
theorem WE(O:Gl X "range")(hm:X.mg "range" = none)(ha:PV X a f)(I:starEach [a] X.env=[(false,eval a X.env)]:=by rfl):PIF X tg (.Call (.Name "range" p) [a] [] pos) (zU f):=
 Ka (bO O hm (zZ ha j1 I) I) λσ H R S=>by
  obtain⟨H0,γ,ds,rc,z,q⟩:=S;obtain⟨n,e1,z⟩:=bind_some z;obtain⟨d,U,e1⟩:=bind_some e1;by_cases hn:inR n=true
  ·rw[RY hn]at z;cases z
   refine⟨H0,γ,d,rc,U,λv H' H0' x r=>?_⟩;rw[jw e1]at r;obtain⟨h1,h2⟩:=ZM hn;exact⟨n,by rw[show v = .int n from r],h1,h2,q _ H' H0' x<|Ju 0 n.toNat⟩
  ·rw[EQ hn]at z;cases z
theorem WD(U:Gl X "range")(hm:X.mg "range" = none)(ha:PV X a f)(Y:PV X b g)(S:starEach [a,b] X.env=[(false,eval a X.env),(false,eval b X.env)]:=by rfl)(I:starEach [b] X.env=[(false,eval b X.env)]:=by rfl) :
 PIF X tg (.Call (.Name "range" p) [a,b] [] pos) (xX f g):=
 Ka (bN U hm (zZ ha (zZ Y j1 I)<|by rw[S,I]) S I) λσ H R Z=>by
  obtain⟨H0,γ,ds,rc,z,q⟩:=Z;obtain⟨m,e1,z⟩:=bind_some z;obtain⟨d,e0,e1⟩:=bind_some e1;obtain⟨n,O,z⟩:=bind_some z;obtain⟨c,e2,O⟩:=bind_some O;by_cases hn:inR m=true/\inR n=true
  ·rw[RY hn]at z;cases z
   refine⟨H0,γ,d,rc,e0,λv H' H0' x r=>⟨H0',γ,c,rc.ext x,e2,λv2 H2 a3 x2 r2=>?_⟩⟩;rw[jw e1]at r;rw[jw O]at r2;obtain⟨h1,h2⟩:=ZM hn.1;obtain⟨h3,h4⟩:=ZM hn.2;exact⟨m,n,by rw[show v = .int m from r,show v2 = .int n from r2],⟨h1,h2,h3,h4⟩,q _ H2 a3 (x.trans x2)<|Ju m (n - m).toNat⟩
  ·rw[EQ hn]at z;cases z
theorem aT{K:FY}{H:Hp}{d:D}{v:V}{k:Sk}{ds:List D}(r:Rep K H d v)(e:jG d=some (k,ds)) : ∃a xs,v = .ref a/\SqK k K H a xs/\Reps K H ds xs:=by
 cases d with
 | tup fs=>simp[jG]at e;obtain⟨e1,z⟩:=e;subst e1 z;exact r
 | lst fs=>simp[jG]at e;obtain⟨e1,z⟩:=e;subst e1 z;exact r
 | _=>simp[jG]at e
theorem oS{f g:CO D}{elts:List Expr}{x1:Nat}{tpos:Pos}(hg:Gl X "zip")(hm:X.mg "zip" = none)(ha:PV X a f)(hb:PV X b g)(U:starEach [a,b] X.env=[(false,eval a X.env),(false,eval b X.env)]:=by rfl)(O:starEach [b] X.env=[(false,eval b X.env)]:=by rfl) :
 PIF X (.Tuple elts x1 tpos) (.Call (.Name "zip" p) [a,b] [] pos) (K7 f g):=
 Ka (ur hg hm (zZ ha (zZ hb j1 O)<|by rw[U,O]) PyProof.Rows.boot_zip U O) λσ H R hZ=>by obtain⟨H0,γ,ds,rc,z,q⟩:=hZ;obtain⟨⟨k1,m⟩,e1,z⟩:=bind_some z;obtain⟨d,e0,e1⟩:=bind_some e1;obtain⟨⟨k2,n⟩,S,z⟩:=zx z;obtain⟨c,e2,S⟩:=bind_some S;subst z;refine⟨H0,γ,d,rc,e0,λv H' H0' x r=>⟨H0',γ,c,rc.ext x,e2,λv2 H2 a9 I r2=>?_⟩⟩;obtain⟨a1,xs,rfl,Y,g2⟩:=aT (r.mono I.s0) e1;obtain⟨a2,ys,rfl,Z,g4⟩:=aT r2 S;exact⟨k1,k2,a1,a2,rfl,⟨xs,XU I.sub Y⟩,⟨ys,XU I.sub Z⟩,q _ H2 a9 (x.trans I)<|fM Y g2 Z g4⟩
end
def setAll:List Nat->List V->St->St
 | i::is,v::vs,σ=>setAll is vs<|σ.set i<|some v
 | _,_,σ=>σ
def gs:List Nat->TGs
 | []=>EU
 | i::is=>As (ya i)<|gs is
def gOf(K:FY):Tg->TG
 | .nm i=>ya i
 | .tp is=>ET K is.length<|gs is
theorem df : ∀{is:List Nat} {vs:List V} {σ:St} {H:Hp} {Q:St->Hp->Prop},vs.length=is.length->Q (setAll is vs σ) H->gs is vs σ H Q
 | [],[],_,_,_,_,q=>⟨rfl,q⟩
 | i::is,v::vs,σ,H,Q,hl,q=>⟨v,vs,rfl,df (by simpa using hl) q⟩
 | [],_::_,_,_,_,hl,_=>by simp at hl
 | _::_,[],_,_,_,hl,_=>by simp at hl
theorem RS.setAll{K:FY}{E0 E H0 H:Hp} : ∀{is:List Nat} {ds:List D} {vs:List V} {σ:St} {γ:Ctx},RS K E0 E H0 H σ γ->Reps K H0 ds vs->RS K E0 E H0 H (setAll is vs σ) (qI is ds γ)
 | [],ds,vs,σ,γ,r,h=>by cases ds<;>cases vs<;>exact r
 | i::is,[],vs,σ,γ,r,h=>by rw[h.inv_nil];exact r
 | i::is,d::ds,vs,σ,γ,r,h=>by obtain⟨x,t,e,h1,h2⟩:=h.inv_cons;subst e;show RS K E0 E H0 H (DL.setAll is t<|σ.set i<|some x) (qI is ds<|γ.set i<|.val d);exact RS.setAll (r.setVal h1) h2
theorem RC.setAll{K:FY}{H0 H:Hp} : ∀{is:List Nat} {ds:List D} {vs:List V} {σ:St} {γ:Ctx},RC K H0 H σ γ->Reps K H0 ds vs->RC K H0 H (setAll is vs σ) (qI is ds γ)
 | [],ds,vs,σ,γ,r,h=>by cases ds<;>cases vs<;>exact r
 | i::is,[],vs,σ,γ,r,h=>by rw[h.inv_nil];exact r
 | i::is,d::ds,vs,σ,γ,r,h=>by obtain⟨x,t,e,h1,h2⟩:=h.inv_cons;subst e;show RC K H0 H (DL.setAll is t<|σ.set i<|some x) (qI is ds<|γ.set i<|.val d);exact RC.setAll (r.setVal h1) h2
theorem vj{K:FY}{H0 H:Hp}{T:Tg}{d:D}{v:V}{σ:St}{γ γ1:Ctx}{Q:St->Hp->Prop}(s:Same H0 H)(h:Rep K H0 d v)(e:qV T d γ=some γ1)
 (q : ∀z,(RC K H0 H σ γ->RC K H0 H z γ1)->(∀E0 E,RS K E0 E H0 H σ γ->RS K E0 E H0 H z γ1)->Q z H):gOf K T v σ H Q:=by
 cases T with
 | nm i=>cases e;exact q _ (λr=>r.setVal h) λE0 E r=>r.setVal h
 | tp is=>
  cases d with
  | tup ds=>
   simp only[qV]at e;by_cases I:ds.length=is.length
   ·rw[RY I]at e;cases e
    obtain⟨a,xs,rfl,h1,h2⟩:=(show ∃a xs,v = .ref a/\SqT K H0 a xs/\Reps K H0 ds xs from h);have hx:xs.length=is.length:=by rw[h2.length,I]
    exact⟨a,xs,rfl,sameT s h1,hx,df hx<|q _ (λr=>r.setAll h2) λE0 E r=>r.setAll h2⟩
   ·rw[EQ I]at e;cases e
  | _=>simp[qV]at e
theorem Ext.rebase{E0 E z H0 H B:Hp}(e:Ext E0 E z B)(x:Ext z E H0 H):Ext E0 E H0 H:=
 ⟨e.s0.trans x.s0,x.s1,x.sub,λa h1 h2=>x.new a (e.new a h1 h2) h2⟩
theorem Ext.base{E0 E z B:Hp}(e:Ext E0 E z B):Ext z E z B:=⟨Same.refl _,e.s1,e.sub,λa h _=>h⟩
theorem Sat.rebase{K:FY}{E0 E I B:Hp}{D:Ends}{z:Fl}(e:Ext E0 E I B)(h:Sat K E0 E D z):Sat K I E D z:=by
 cases z with
 | next γ=>exact λσ H H0 r=>h σ H H0 ⟨r.rc,e.rebase r.ext,r.fresh,r.fr2⟩
 | brk γ=>exact λσ H H0 r=>h σ H H0 ⟨r.rc,e.rebase r.ext,r.fresh,r.fr2⟩
 | cont γ=>exact λσ H H0 r=>h σ H H0 ⟨r.rc,e.rebase r.ext,r.fresh,r.fr2⟩
 | ret r=>
  cases r with
  | val d=>exact λv H H0 x q=>h v H H0 (e.rebase x) q
  | own es=>exact λa xs H H0 x h1 h2 O q=>h a xs H H0 (e.rebase x) h1 h2 O q
section
variable{X:Cx}{tg iter:Expr}{body:List Stmt}{pos:Pos}
theorem oJ{src:CO (List D)}{T:Tg}{F:CO Fl}(hp:PassesOwn (model X.prog X.w) X.A X.env X.xe)(hc:X.calm=true)(hi:PIF X tg iter src)(hg:PG X tg (gOf X.K T))(hb:ff X body F)
 (hs : ∀x,foldedSetIterable iter X.env x=pure x:=by intro _;rfl):PSD X (.For tg iter body [] pos) (yJ src T F):=
 xI (mx hp hc hi hg hb hs) λD σ H hZ=>by
  obtain⟨E0,E,H0,γ,I,O,z,U⟩:=hZ;obtain⟨ds,e1,z⟩:=bind_some z;refine⟨H0,γ,ds,O.rc,e1,λJ H1 S x1 wk=>?_⟩;have Z:=O.step x1;have ex:=Z.ext;refine⟨λi m σ H=>m=ds.length - i/\i<=ds.length/\∃H0 γ I,RS X.K S E H0 H σ γ/\xk T F (ds.drop i) γ=some I/\Sat X.K S E D I,⟨_,rfl,HN _,S,γ,I,⟨Z.rc,ex.base,Z.fresh,Z.fr2⟩,z,U.rebase ex⟩,?_⟩;rintro i m σ H ⟨rfl,hi,H0,γ,I,O,z,U⟩;have a2:Same S H:=O.ext.s0.trans O.ext.sub;by_cases Y:i<ds.length
  ·refine .inr ⟨wk.go i H a2 Y,λσ H=>i+1<=ds.length/\∃H0 γ I,RS X.K S E H0 H σ γ/\xk T F (ds.drop<|i+1) γ=some I/\Sat X.K S E D I,λσ' H' n=>⟨ds.length - (i+1),by omega,rfl,n.1,n.2⟩,λx H' y=>?_⟩
   obtain⟨d,hd,hx⟩:=wk.yld i H x H' a2 Y y;obtain⟨G0,xg,rg⟩:=hx H0 O.ext.s0 O.rc.sub;have am:ds.drop i=d::ds.drop (i+1):=by
    have an:d=ds[i]:=by rw[Gd Y]at hd;exact(Hy hd).symm
    rw[an];exact IP Y
   rw[am]at z;simp only[xk]at z;obtain⟨γ1,eb,z⟩:=bind_some z;obtain⟨f1,eF,z⟩:=bind_some z;refine vj xg.sub rg eb λσ1 _ as=>⟨S,E,G0,γ1,f1,as S E<|O.step xg,eF,?_⟩;cases f1 with
   | next γ2=>exact λσ2 H2 a3 r2=>⟨Y,a3,γ2,I,r2,z,U⟩
   | cont γ2=>exact λσ2 H2 a3 r2=>⟨Y,a3,γ2,I,r2,z,U⟩
   | brk γ2=>cases z;exact U
   | ret r=>cases z;cases r<;>exact U
  ·have e:i=ds.length:=by omega
   subst e;rw[Mf]at z;cases z;exact .inl ⟨wk.stop H a2,U σ H H0 O⟩
end
theorem qh(h:(zW n fr γ)[i]? = some c):c = .no\/(∃d j,c = .val d/\n<=i/\fr[i - n]? = some j/\γ[j]? = some (.val d)):=by
 unfold zW at h;by_cases hi:i<n
 ·rw[Hx (by simpa using hi),LN,RY hi]at h
  exact .inl (Hy h).symm
 ·rw[Hj (by simpa using hi),GZ,List.length_replicate]at h
  cases e:fr[i - n]? with
  | none=>rw[e]at h;cases h
  | some j=>
   rw[e]at h;have h':xJ (γ[j]?.getD .no)=c:=by simpa using h
   cases e2:γ[j]? with
   | none=>rw[e2]at h';exact .inl h'.symm
   | some z=>
    rw[e2]at h';cases z with
    | no=>exact .inl h'.symm
    | own ds=>exact .inl h'.symm
    | nest rows=>exact .inl h'.symm
    | val d=>exact .inr ⟨d,j,h'.symm,by omega,rfl,e2⟩
theorem RC.pull{K:FY}{H0 H:Hp}{σ:St}{γ:Ctx}{own:List Str}{fr:List (Str×Nat)}(r:RC K H0 H σ γ):RC K H0 H (L2.pull own fr σ) (zW own.length (fr.map (·.2)) γ):=by
 refine⟨r.sub,by simp[L2.pull,zW],λi d h=>?_,λi ds h=>?_,λi j a ds es h _ _ _=>?_,NestOk.nil0 λi rows h=>?_⟩
 ·rcases qh h with z | ⟨d',j,z,hi,I,O⟩
  ·cases z
  ·cases z
   obtain⟨v,h1,h2⟩:=r.val j d O;refine⟨v,?_,h2⟩;rw[GZ]at I;cases q:fr[i - own.length]? with
   | none=>rw[q]at I;cases I
   | some p=>
    rw[q]at I;have S:p.2=j:=by simpa using I
    unfold L2.pull;rw[Hj (by simpa using hi),GZ,Gw,q];simp[S,h1]
 ·rcases qh h with z | ⟨d',j,z,_⟩<;>cases z
 ·rcases qh h with z | ⟨d',j,z,_⟩<;>cases z
 ·rcases qh h with z | ⟨d',j,z,_⟩<;>cases z
theorem RC.weak{K:FY}{H0 H:Hp}{σ:St}{γ γ':Ctx}(r:RC K H0 H σ γ)(I:γ'.length=γ.length)(O : ∀(i:Nat) d,γ'[i]? = some (.val d)->γ[i]? = some (.val d))(z : ∀(i:Nat) ds,γ'[i]? ≠ some (.own ds))(S : ∀(i:Nat) rows,γ'[i]? ≠ some (.nest rows)):RC K H0 H σ γ':=
 ⟨r.sub,by rw[I];exact r.len,λi d h=>r.val i d<|O i d h,λi ds h=>absurd h<|z i ds,λi j a ds es h _ _ _=>absurd h<|z i ds,NestOk.nil0 S⟩
theorem RC.upd{K:FY}{H0 H:Hp}{σ:St}{γ:Ctx}{D:Addr}{o:HO}(r:RC K H0 H σ γ)(O:H0 D=none)(I : ∀(i:Nat) ds,γ[i]? ≠ some (.own ds))(S : ∀(i:Nat) rows,γ[i]? ≠ some (.nest rows)):RC K H0 (upd H D o) σ γ:=
 ⟨λb u q=>by rw[zB (λz=>by rw[z,O]at q;cases q)];exact r.sub b u q,r.len,r.val,λi ds h=>absurd h<|I i ds,λi j a ds es h _ _ _=>absurd h<|I i ds,NestOk.nil0 S⟩
theorem Zk : ∀{is:List Nat} {ds:List D} {γ:Ctx},(qI is ds γ).length=γ.length
 | [],ds,γ=>by cases ds<;>rfl
 | i::is,[],γ=>rfl
 | i::is,d::ds,γ=>by show(qI is ds<|γ.set i<|.val d).length=_;rw[Zk];simp
theorem Zl : ∀{is:List Nat} {ds:List D} {γ:Ctx} {i:Nat},i∉is->(qI is ds γ)[i]? = γ[i]?
 | [],ds,γ,i,_=>by cases ds<;>rfl
 | j::is,[],γ,i,_=>rfl
 | j::is,d::ds,γ,i,h=>by show(qI is ds<|γ.set j<|.val d)[i]? = _;rw[Zl (λz=>h<|Gn _ z),Gg (λz=>h<|by rw[<- z];exact Gu)]
theorem KU(h:qV T d γ=some γ1):γ1.length=γ.length/\∀i,i∉T.idx->γ1[i]? = γ[i]? :=by
 cases T with
 | nm j=>cases h;exact⟨by simp,λi hi=>Gg<|λz=>hi<|by simp[Tg.idx,z]⟩
 | tp is=>
  cases d with
  | tup ds=>
   simp only[qV]at h;by_cases I:ds.length=is.length
   ·rw[RY I]at h;cases h;exact⟨Zk,λi hi=>Zl hi⟩
   ·rw[EQ I]at h;cases h
  | _=>simp[qV]at h
section
variable{K:FY}{own:List Str}{fr:List (Str×Nat)}{src:CO (List D)}{T:Tg}{k:CO Bool}{f:CO D}
theorem vg(hT : ∀i∈T.idx,i<own.length)(c0 : ∀σ H Q,tT K k σ H Q->tt σ H Q) : ∀σ H Q,tO K (zH src T own.length (fr.map (·.2)) k f) σ H Q->aN (tIc K src) own fr (gOf K T) tt (tV K f) σ H Q:=λσ H Q hZ=>by
 obtain⟨H0,γ,ds,rc,S,q⟩:=hZ;obtain⟨items,e1,S⟩:=bind_some S;by_cases hl:items.length<=lim
 ·rw[RY hl]at S
  refine⟨H0,γ,items,rc,e1,λJ H1 a5 x1 wk D Z=>?_⟩;have a7 : ∀(i:Nat) es,(zW own.length (fr.map (·.2)) γ)[i]? ≠ some (.own es):=λi es h=>by rcases qh h with z | ⟨d',j,z,_⟩<;>cases z
  have a8 : ∀(i:Nat) rows,(zW own.length (fr.map (·.2)) γ)[i]? ≠ some (.nest rows):=λi es h=>by rcases qh h with z | ⟨d',j,z,_⟩<;>cases z
  have ar:a5 D=none:=ji x1.sub Z;have c2:H D=none:=by
   cases z:H D with
   | none=>rfl
   | some o=>rw[x1.s1 D o z]at Z;cases Z
  refine⟨λi m ys σ' H'=>m=items.length - i/\i<=items.length/\ys.length<=i/\H' D=some (.lst ys)/\∃H0' a0 a2,RC K H0' H' σ' (zW own.length (fr.map (·.2)) γ)/\H0' D=none/\Ext a5 H1 H0' H'/\Reps K H0' a0 ys/\zL T k f (zW own.length (fr.map (·.2)) γ) (items.drop i)=some a2/\ds=a0++a2,
   ⟨_,rfl,HN _,Gh _,zD,a5,[],ds,((rc.ext x1).pull).upd ar a7 a8,ar,Ext.hide x1.sub Z _,Reps.nil,S,rfl⟩,?_⟩
  rintro i m ys σ' H' ⟨rfl,hi,hy,a3,H0',a0,a2,a9,ax,U,r',I,rfl⟩;refine⟨a3,?_⟩;by_cases Y:i<items.length
  ·refine .inr ⟨wk.go i H' U.s1 Y,?_,λx ac y=>?_⟩
   ·have:=kF<|Gh lim;omega
   obtain⟨d,hd,hx⟩:=wk.yld i H' x ac U.s1 Y y;obtain⟨G0,O,rg⟩:=hx H0' U.s0 a9.sub;have c4:items.drop i=d::items.drop (i+1):=by
    have c5:d=items[i]:=by rw[Gd Y]at hd;exact(Hy hd).symm
    rw[c5];exact IP Y
   rw[c4]at I;simp only[zL]at I;obtain⟨γ1,eb,I⟩:=bind_some I;obtain⟨b,ek,I⟩:=bind_some I;have c7:G0 D=none:=O.new D ax (by rw[a3];simp);have b9:ac D=some (.lst ys):=O.s1 _ _ a3;obtain⟨bl,bg⟩:=KU eb;have bb : ∀{σ2:St} {G2 H2:Hp},RC K G2 H2 σ2 γ1->RC K G2 H2 σ2 (zW own.length (fr.map (·.2)) γ):=λr=>r.weak bl.symm (λj d' hj=>by
    by_cases hm:j∈T.idx
    ·rcases qh hj with z | ⟨d2,j2,_,hn,_⟩
     ·cases z
     ·exact absurd (hT j hm) ⋯
    ·rw[bg j hm];exact hj) a7 a8
   refine vj O.sub rg eb λσ1 bi _=>c0 σ1 ac _ ⟨G0,γ1,b,bi<|a9.ext O,ek,λH3 ad x3=>?_⟩;have al:=(bi<|a9.ext O).ext x3;have xa:=U.trans<|O.trans x3;have bn:ad D=none:=x3.new D c7 (by rw[b9];simp);have am:H3 D=some (.lst ys):=x3.s1 _ _ b9;cases b with
   | true=>
    dsimp only;rw[RY rfl]at I ⊢;obtain⟨e,ee,I⟩:=bind_some I;obtain⟨xH,er,I⟩:=zx I;refine⟨ad,γ1,e,al,ee,λv H4 bv x4 r4=>?_⟩;have an:bv D=none:=x4.new D bn (by rw[am];simp);have cf:H4 D=some (.lst ys):=x4.s1 _ _ am;have xb:=xa.trans x4;refine⟨cf,items.length - (i+1),by omega,rfl,Y,by rw[Hv,Lj];omega,zD,bv,a0++[e],xH,(bb<|al.ext x4).upd an a7 a8,an,?_,(r'.mono<|(O.trans<|x3.trans x4).s0).append (Reps.cons r4 Reps.nil),er,?_⟩
    ·exact⟨xb.s0,λc o z=>by rw[zB (λw=>by rw[w,Z]at z;cases z)];exact xb.s1 c o z,λc o z=>by rw[zB (λw=>by rw[w,an]at z;cases z)];exact xb.sub c o z,xb.new⟩
    ·rw[<- I];simp
   | false=>
    dsimp only;rw[EQ GA]at I ⊢;exact⟨items.length - (i+1),by omega,rfl,Y,by omega,am,ad,a0,a2,bb al,bn,xa,r'.mono<|(O.trans x3).s0,I,rfl⟩
  ·have e:i=items.length:=by omega
   subst e;rw[Mf]at I;cases I;rw[Mp]at q;exact .inl ⟨wk.stop H' U.s1,q D ys H' H0' (x1.trans U) c2 ax a3 r'⟩
 ·rw[EQ hl]at S;cases S
end
section
variable{X:Cx}{scope:Scope}{own:List Str}{fr:List (Str×Nat)}{elt tg iter c:Expr}{pos:Pos}{src:CO (List D)}{T:Tg}{k:CO Bool}{f:CO D}
theorem oP(z:X.calm=true)(ok:CompOk X scope fr)(I : ∀i∈T.idx,i<own.length)(hi:PIC X tg iter src)(O : ∀fp s2 H2,PG (jn X scope (own++fr.map (·.1)) fp s2 H2) tg<|gOf X.K T)
 (S : ∀fp s2 H2,PV (jn X scope (own++fr.map (·.1)) fp s2 H2) elt f) (U : ∀x,foldedSetIterable iter X.env x=pure x:=by intro _;rfl) :
 PO X (.ListComp elt [⟨tg,iter,[],0⟩] scope pos) (zH src T own.length (fr.map (·.2)) z6 f):=
 j9 (Yn z ok hi O (λ_ _ _=>QP) S U) (vg I λσ H Q ⟨H0,γ,b,rc,Y,q⟩=>by cases Y;exact q H H0<|Ext.refl rc.sub)
theorem bK(z:X.calm=true)(ok:CompOk X scope fr)(I : ∀i∈T.idx,i<own.length)(hi:PIC X tg iter src)(O : ∀fp s2 H2,PG (jn X scope (own++fr.map (·.1)) fp s2 H2) tg<|gOf X.K T)
 (S : ∀fp s2 H2,PTD (jn X scope (own++fr.map (·.1)) fp s2 H2) c k) (U : ∀fp s2 H2,PV (jn X scope (own++fr.map (·.1)) fp s2 H2) elt f) (Y : ∀x,foldedSetIterable iter X.env x=pure x:=by intro _;rfl) :
 PO X (.ListComp elt [⟨tg,iter,[c],0⟩] scope pos) (zH src T own.length (fr.map (·.2)) k f):=
 j9 (Yn z ok hi O (λfp s2 H2=>Vw<|S fp s2 H2) U Y) (vg I λσ H Q h=>h)
theorem gS(z:X.N.Nodup)(I:X.N[i]? = some y)(O:Loc X.env.scope y)(S:X.fn y=true\/X.env.scope.names.lookup y=some .local)
 (U:X.calm=true) (ok:CompOk X scope fr) (Y : ∀i∈T.idx,i<own.length) (hi:PIC X tg iter src) (Z : ∀fp s2 H2,PG (jn X scope (own++fr.map (·.1)) fp s2 H2) tg<|gOf X.K T)
 (he : ∀fp s2 H2,PV (jn X scope (own++fr.map (·.1)) fp s2 H2) elt f) (hs : ∀x,foldedSetIterable iter X.env x=pure x:=by intro _;rfl) :
 PS X (.Assign [.Name y py] (.ListComp elt [⟨tg,iter,[],0⟩] scope pos) spos) (Wf (tO X.K<|zH src T own.length (fr.map (·.2)) z6 f)<|ya i):=
 xI (vP z I O S U ok hi Z (λ_ _ _=>QP) he hs) λD σ H h=>vg Y (λσ H Q hZ=>by obtain⟨H0,γ,b,rc,ef,q⟩:=hZ;cases ef;exact q H H0<|Ext.refl rc.sub) σ H _ h
theorem WA(z:X.N.Nodup)(I:X.N[i]? = some y)(O:Loc X.env.scope y)(S:X.fn y=true\/X.env.scope.names.lookup y=some .local)
 (U:X.calm=true) (ok:CompOk X scope fr) (Y : ∀i∈T.idx,i<own.length) (hi:PIC X tg iter src) (Z : ∀fp s2 H2,PG (jn X scope (own++fr.map (·.1)) fp s2 H2) tg<|gOf X.K T)
 (hk : ∀fp s2 H2,PTD (jn X scope (own++fr.map (·.1)) fp s2 H2) c k) (he : ∀fp s2 H2,PV (jn X scope (own++fr.map (·.1)) fp s2 H2) elt f) (hs : ∀x,foldedSetIterable iter X.env x=pure x:=by intro _;rfl) :
 PS X (.Assign [.Name y py] (.ListComp elt [⟨tg,iter,[c],0⟩] scope pos) spos) (Wf (tO X.K<|zH src T own.length (fr.map (·.2)) k f)<|ya i):=
 xI (vP z I O S U ok hi Z (λfp s2 H2=>Vw<|hk fp s2 H2) he hs) λD σ H h=>vg Y (λσ H Q h=>h) σ H _ h
end
theorem jh{K:FY}{H:Hp}{i:Int}{v:V}(h:Rep K H (.int i) v):v = .int i:=h
theorem gj{K:FY}{g:Int->Int->D}{z:Int->Int->V}(O : ∀H i j,Rep K H (g i j)<|z i j):Snd K (rI0 z) (dI g):=λH0 H x y dx S d Q s U Y I q=>by cases dx<;>cases S<;>simp[dI]at I;subst I;exact⟨_,_,jh U,jh Y,q _ H H0 (Ext.refl s)<|O H0 _ _⟩
theorem aQ{K:FY}{C:Int->Int->Prop}{c:Int->Int->Bool}{g:Int->Int->D}{z:Int->Int->V}(O : ∀i j,c i j=true->C i j)(S : ∀H i j,Rep K H (g i j)<|z i j):Snd K (rI C z) (dIc c g):=λH0 H x y dx U d Q s Y Z I q=>by cases dx<;>cases U<;>simp[dIc]at I;obtain⟨e1,e2⟩:=I;subst e2;exact⟨_,_,jh Y,jh Z,O _ _ e1,q _ H H0 (Ext.refl s)<|S H0 _ _⟩
theorem nP{K:FY}:Snd K (rI0 λi j=> .int (i - j)) wt:=gj λ_ _ _=>rfl
theorem lD(h:wy i j=true):CMul i j:=by unfold wy at h;rw[Ia,decide_eq_true_eq,decide_eq_true_eq]at h;unfold CMul;omega
theorem nX{K:FY}:Snd K (rI Fp λi j=> .int (i/j)) yb:=aQ (λi j h=>by unfold mT at h;rw[Gs,decide_eq_true_eq,decide_eq_true_eq]at h;exact⟨h.1,by omega⟩) λ_ _ _=>rfl
theorem nV{K:FY}:Snd K (rI (λ_ j=>0<j) λi j=> .int (i%j)) jV:=aQ (λi j h=>by unfold AH at h;exact of_decide_eq_true h) λ_ _ _=>rfl
theorem nQ{K:FY}:Snd K (rI Fo λi j=> .int (i ^ j.toNat)) rB:=aQ (λi j h=>by unfold AG at h;rw[Gs,Gs,decide_eq_true_eq,decide_eq_true_eq,decide_eq_true_eq]at h;exact⟨h.1.1,by omega,h.2⟩) λ_ _ _=>rfl
theorem sS{K:FY}:Snd K (rI0 λi j=> .bl (decide<|i<j)) dLt:=gj λ_ _ _=>rfl
theorem sT{K:FY}:Snd K (rI0 λi j=> .bl (decide<|i<=j)) dLe:=gj λ_ _ _=>rfl
theorem sU{K:FY}:Snd K (rI0 λi j=> .bl (decide<|j<i)) dGt:=gj λ_ _ _=>rfl
section
variable{X:Cx}
def mh(K:FY):R2:=λx y H Q=>∃a b xs ys,x = .ref a/\y = .ref b/\SqT K H a xs/\SqT K H b ys/\xs.length+ys.length<=sizeLine/\
 (xs=[]->Q (.ref b) H)/\(ys=[]->Q (.ref a) H)/\∀p,H p=none->Q (.ref p) (upd H p<|.tup<|xs++ys)
theorem ia:OpR X (binaryOp .Add) (mh X.K):=by
 intro pins s σ H x y v u Q I rx ry h;obtain⟨a,b,xs,ys,rfl,rfl,ha,hb,U,q0,q1,q2⟩:=h;cases rx;cases ry;obtain⟨O,r,Y,z1⟩:=I.tuple ha;obtain⟨ad,r2,Z,z2⟩:=I.tuple hb;by_cases S:xs=[]
 ·have e1:O=[]:=(r.nil_iff).mpr S
  obtain⟨⟨cls,dd,data,sl⟩,ho,hc,n,hd⟩:=id Y;obtain⟨⟨ar,am,data2,an⟩,a2,a3,n2,a4⟩:=id Z;simp only at hc hd a3 a4;subst hc hd a3 a4;exact Of ⟨_,ho,rfl⟩ ⟨_,a2,rfl⟩ Og seq_tuple_add MK MI (Mx _ _)
   (tuple_addW0 a b O.toArray ad.toArray n n2 dd am sl an<|by simp[e1]) ⟨ho,a2,⟨.ref b,H,I,rfl,q0 S⟩⟩
 ·have e1:O ≠ []:=λz=>S ((r.nil_iff).mp z)
  refine HT.cat_tup Y Z e1 (λz=>⟨.ref a,H,I,rfl,q1<|(r2.nil_iff).mp z⟩) (λ_=>?_) (by rw[<- r.length,<- r2.length];exact U);refine⟨.ref s.heap.objs.size,_,I.laid (t':=s.toks) (o:= .tup (xs++ys)) (λc ob q=>Gb _ q) (Gh _) ?_,rfl,q2 _<|I.hok.fresh<|Gh _⟩;exact⟨by rw[Hv];exact U,_,r.append r2,IsTupD.new _ _⟩
def tJ(K:FY):R2:=λx y H Q=>∃l b xs zs,x = .ref l/\y = .ref b/\SqL K H l xs/\SqL K H b zs/\xs.length+zs.length<=sizeLine/\∀p,H p=none->Q (.ref p) (upd H p<|.lst<|xs++zs)
theorem ib:OpR X (binaryOp .Add) (tJ X.K):=by
 intro pins s σ H x y v u Q I rx ry h;obtain⟨l,b,xs,zs,rfl,rfl,hH,hB,hz,q⟩:=h;cases rx;cases ry;obtain⟨z,r,⟨o,n,e,S,U,Y⟩,z1⟩:=I.list hH;obtain⟨O,r2,⟨o2,n2,Z,d1,d2,d3⟩,z2⟩:=I.list hB;have l1:=r.length;have l2:=r2.length;obtain⟨cls,dct,dt,sl⟩:=o;obtain⟨ap,ar,as,a9⟩:=o2;simp only at S U Y d1 d2 d3;subst S U Y d1 d2 d3;have ac:EP X pins σ Q (.ref s.heap.objs.size) {s with heap:=s.heap.push {cls:= .type "list",data:= .seq (z++O).toArray}}:=
  ⟨.ref _,_,I.lnew (t':=s.toks) (r.append r2) (by rw[Hv];omega),rfl,q _ I.fresh⟩
 have ea:z.toArray++O.toArray=(z++O).toArray:=by simp
 refine Of ⟨_,e,rfl⟩ ⟨_,Z,rfl⟩ noFill_list_add seq_list_add PySem.F.slot_list_add PySem.F.entry_list_add (PySem.F.args_list_add_2 _ _)
  (list_addW l b z.toArray O.toArray n n2 none none sl a9<|by rw[Gp,Gp];omega) ⟨e,Z,?_⟩
 rw[ea];exact ac
end
def kB(scope sc:Scope):Scope:={scope with names:=scope.names.map λp=>if p.2==GY && sc.kind == .function && sc.names.lookup p.1==some .cell then (p.1,IU)else (p.1,p.2)}
theorem Wu(scope:Scope)(env:Env):relabel scope env=kB scope env.scope:=by unfold relabel kB;rfl
structure SX(X:Cx)(sc:Scope)(N T:List Str)(k:Nat):Prop where
 esc:X.env.scope=sc
 eN:X.N=N
 nd:N.Nodup
 calm:X.calm=true
 room:Room k X.A
 fn : ∀x∈T,X.fn x=true\/sc.names.lookup x=some .local
def wB(sc:Scope)(N:List Str)(i:Nat)(x:Str):Bool:=
 decide (N[i]? = some x) && (decide (sc.names.lookup x=some .local) || decide (sc.names.lookup x=some .cell) || decide (sc.names.lookup x=some .free)) && !(x==("__debug__" : Str)) && !(x==("__classdict__" : Str))
def kX(sc:Scope)(N T:List Str)(i:Nat)(x:Str):Bool:=decide (x∈T) && decide (N[i]? = some x) && (decide (sc.names.lookup x=some .local) || decide (sc.names.lookup x=some .cell))
def yD(sc:Scope)(x:Str):Bool:=decide (sc.names.lookup x=some .globalImplicit) && !(x==("__name__" : Str)) && !(x==("__debug__" : Str))
section
variable{X:Cx}{sc:Scope}{N T:List Str}{k:Nat}{i:Nat}{x:Str}{pos:Pos}
theorem SX.var(h:SX X sc N T k)(c:wB sc N i x=true):PE X (.Name x pos) (Jz i):=by
 unfold wB at c;simp only[Gs,Ia,decide_eq_true_eq,IX]at c;obtain⟨⟨⟨h1,h2⟩,z⟩,I⟩:=c;refine uv (by rw[h.eN];exact h1) ?_ z I;unfold Vis;rw[h.esc];rcases h2 with(h2 | h2) | h2
 ·exact .inl h2
 ·exact .inr<|.inl h2
 ·exact .inr<|.inr h2
theorem SX.loc(h:SX X sc N T k)(c:kX sc N T i x=true):X.N[i]? = some x/\L2.Loc X.env.scope x/\(X.fn x=true\/X.env.scope.names.lookup x=some .local):=by
 unfold kX at c;simp only[Gs,Ia,decide_eq_true_eq]at c;refine⟨by rw[h.eN];exact c.1.2,?_,?_⟩
 ·unfold L2.Loc;rw[h.esc];exact c.2
 ·rw[h.esc];exact h.fn x c.1.1
theorem SX.ndX(h:SX X sc N T k):X.N.Nodup:=by rw[h.eN];exact h.nd
theorem SX.tgt(h:SX X sc N T k)(i:Nat)(c:kX sc N T i x=true):PG X (.Name x pos) (ya i):=by obtain⟨h1,h2,z⟩:=h.loc c;exact bQ h.ndX h1 h2 z
theorem SX.tgts(h:SX X sc N T k)(g:PGs X es (gs is))(hn:(assignEach es X.env).length=is.length:=by rfl)(z:(assignEach es X.env).findIdx? (·.1)=none:=by rfl):PG X (.Tuple es j pos) (gOf X.K<|.tp is):=
 uu h.calm g hn z
theorem SX.set(h:SX X sc N T k)(i:Nat)(c:kX sc N T i x=true)(z:PE X e te)(I:swapsWith e (some (.Name x pos')) pos.line X.env=pure false:=by rfl):PS X (.Assign [.Name x pos'] e pos) (Wf te<|ya i):=by obtain⟨h1,h2,O⟩:=h.loc c;exact uj h.ndX h1 h2 z I O
theorem SX.gl(h:SX X sc N T k)(c:yD sc x=true):Gl X x/\x ≠ "__name__"/\(x==("__debug__" : Str))=false:=by
 unfold yD at c;simp only[Gs,decide_eq_true_eq,IX]at c;refine⟨?_,?_,c.2⟩
 ·show X.env.scope.names.lookup x=_
  rw[h.esc];exact c.1.1
 ·intro e;rw[e]at c;simp at c
def YO(sc scope:Scope)(N:List Str)(fr:List (Str×Nat)):Bool:=
 decide (scope.kind = .function) && decide ((scope.names.map (·.1)).Nodup) && scope.names.all (λp=> !(p.2==GY) || decide (sc.names.lookup p.1=some .cell) || decide (sc.names.lookup p.1=some .free)) &&
 fr.all λp=>decide (scope.names.lookup p.1=some .free) && decide (N[p.2]? = some p.1)
def Cd(own:List Str)(scope:Scope)(fr:List (Str×Nat)):Bool:=decide ((own++fr.map (·.1)).Nodup) && own.all (λx=>decide (scope.names.lookup x=some .local) || decide (scope.names.lookup x=some .cell))
theorem SX.compOk(h:SX X sc N T k)(c:YO sc scope N fr=true):CompOk X scope fr:=by
 unfold YO at c;simp only[Gs,decide_eq_true_eq,Ld,Ia,IX]at c;obtain⟨⟨⟨O,S⟩,U⟩,I⟩:=c;refine⟨O,S,λp z Y=>?_,λp z=>⟨(I p z).1,by rw[h.eN];exact(I p z).2⟩⟩;have e:X.env.kindOf p.1=sc.names.lookup p.1:=by show X.env.scope.names.lookup p.1=_;rw[h.esc]
 rw[e];rcases U p z with(q | q) | q
 ·rw[Y]at q;exact absurd q ⋯
 ·exact .inl q
 ·exact .inr q
theorem ZD(scope sc:Scope)(x:Str):(kB scope sc).names.lookup x=(scope.names.lookup x).map λk=>if (k==GY && sc.kind == .function && sc.names.lookup x==some .cell)then IU else k:=by
 unfold kB;dsimp only;generalize scope.names=l
 induction l with
 | nil=>rfl
 | cons p r I=>
  obtain⟨n,O⟩:=p;rw[GQ];cases hx:x==n with
  | true=>
   have e:x=n:=by simpa using hx
   subst e;dsimp only;split
   ·rename_i z;rw[HA,HA,beq_self_eq_true];dsimp only[Na];rw[RY z]
   ·rename_i z;rw[HA,HA,beq_self_eq_true];dsimp only[Na];rw[EQ z]
  | false=>
   dsimp only;split
   ·rw[HA,HA,hx];exact I
   ·rw[HA,HA,hx];exact I
theorem SX.comp(h:SX X sc N T k)(c:Cd own scope fr=true) :
 SX (jn X scope (own++fr.map (·.1)) fp s2 H2) (kB scope sc) (own++fr.map (·.1)) own k:=by
 unfold Cd at c;simp only[Gs,decide_eq_true_eq,Ld,Ia]at c;refine⟨?_,rfl,c.1,h.calm,h.room,λx hx=>?_⟩
 ·show relabel scope X.env=_
  rw[Wu,h.esc]
 ·rcases c.2 x hx with q | q
  ·right;rw[ZD,q];rfl
  ·left
   show(scope.names.lookup x==some .cell)=true;rw[q];rfl
end
mutual
def toP:D->PyData
 | .non=> .none
 | .bl b=> .bool b
 | .int i=> .int i
 | .str x=> .str x
 | .tup ds=> .tuple (toPs ds)
 | .lst ds=> .list (toPs ds)
 | .exc _ _=> .none
 | .dic _ _=> .none
 | .dct _ _=> .none
def toPs:List D->List PyData
 | []=>[]
 | d::ds=>toP d::toPs ds
end
theorem okS_exc(h:okS (.exc c n)=true):False:=by simp[okS]at h
theorem okS_dic(h:okS (.dic ks vs)=true):False:=by simp[okS]at h
theorem okS_dct(h:okS (.dct ks vs)=true):False:=by simp[okS]at h
mutual
theorem eqv_toP : ∀x y:D,okS x=true->okS y=true->IS (toP x) (toP y)=eqD x y
 | .non,y,_,h=>by cases y<;>first | exact(okS_exc h).elim | exact(okS_dic h).elim | exact(okS_dct h).elim | simp[toP,IS,eqD]
 | .bl a,y,_,h=>by cases y<;>first | exact(okS_exc h).elim | exact(okS_dic h).elim | exact(okS_dct h).elim | simp[toP,IS,eqD]
 | .int a,y,_,h=>by cases y<;>first | exact(okS_exc h).elim | exact(okS_dic h).elim | exact(okS_dct h).elim | simp[toP,IS,eqD]
 | .str a,y,_,h=>by cases y<;>first | exact(okS_exc h).elim | exact(okS_dic h).elim | exact(okS_dct h).elim | simp[toP,IS,eqD]
 | .exc c n,y,h,_=>(okS_exc h).elim
 | .dic c n,y,h,_=>(okS_dic h).elim
 | .dct c n,y,h,_=>(okS_dct h).elim
 | .tup xs,y,h1,h2=>by
  cases y with
  | tup ys=>simp only[okS]at h1 h2;simp only[toP,IS,eqD];exact eqvs_toP xs ys h1 h2
  | exc c n=>exact(okS_exc h2).elim
  | dic c n=>exact(okS_dic h2).elim
  | dct c n=>exact(okS_dct h2).elim
  | _=>simp[toP,IS,eqD]
 | .lst xs,y,h1,h2=>by
  cases y with
  | lst ys=>simp only[okS]at h1 h2;simp only[toP,IS,eqD];exact eqvs_toP xs ys h1 h2
  | exc c n=>exact(okS_exc h2).elim
  | dic c n=>exact(okS_dic h2).elim
  | dct c n=>exact(okS_dct h2).elim
  | _=>simp[toP,IS,eqD]
theorem eqvs_toP : ∀xs ys:List D,okSs xs=true->okSs ys=true->Nx (toPs xs) (toPs ys)=eqDs xs ys
 | [],ys,_,_=>by cases ys<;>simp[toPs,Nx,eqDs]
 | x::xs,ys,h1,h2=>by
  cases ys with
  | nil=>simp[toPs,Nx,eqDs]
  | cons y ys=>
   simp only[okSs,Gs]at h1 h2;simp only[toPs,Nx,eqDs];rw[eqv_toP x y h1.1 h2.1,eqvs_toP xs ys h1.2 h2.2]
end
mutual
theorem lay_toP : ∀x:D,okS x=true->(toP x).canLay0=true
 | .non,_=>by simp[toP,LV]
 | .bl a,_=>by simp[toP,LV]
 | .int a,_=>by simp[toP,LV]
 | .str a,h=>by simpa[toP,LV,okS,PyData.strOk]using h
 | .tup xs,h=>by simp only[okS]at h;simp only[toP,LV];exact lays_toP xs h
 | .lst xs,h=>by simp only[okS]at h;simp only[toP,LV];exact lays_toP xs h
 | .exc c n,h=>(okS_exc h).elim
 | .dic c n,h=>(okS_dic h).elim
 | .dct c n,h=>(okS_dct h).elim
theorem lays_toP : ∀xs:List D,okSs xs=true->NI (toPs xs)=true
 | [],_=>by simp[toPs,NI]
 | x::xs,h=>by simp only[okSs,Gs]at h;simp only[toPs,NI];rw[lay_toP x h.1,lays_toP xs h.2];rfl
end
mutual
theorem depth_toP : ∀x:D,(toP x).depth=deep x
 | .non=>by simp[toP,Lg,deep]
 | .bl a=>by simp[toP,Lg,deep]
 | .int a=>by simp[toP,Lg,deep]
 | .str a=>by simp[toP,Lg,deep]
 | .exc c n=>by simp[toP,Lg,deep]
 | .dic c n=>by simp[toP,Lg,deep]
 | .dct c n=>by simp[toP,Lg,deep]
 | .tup xs=>by simp only[toP,Lg,deep];rw[depths_toP xs]
 | .lst xs=>by simp only[toP,Lg,deep];rw[depths_toP xs]
theorem depths_toP : ∀xs:List D,Mi (toPs xs)=deeps xs
 | []=>by simp[toPs,Mi,deeps]
 | x::xs=>by simp only[toPs,Mi,deeps];rw[depth_toP x,depths_toP xs]
end
theorem xA(h:okD d=true):okS d=true:=by unfold okD at h;rw[Gs]at h;exact h.2
theorem kY(h:okD d=true):SeqAt.shaped (toP d)=true:=by unfold okD at h;rw[Gs,decide_eq_true_eq]at h;unfold SeqAt.shaped;rw[lay_toP d h.2,Bool.true_and,depth_toP];exact decide_eq_true ⋯
section
variable{X:Cx}{pins:RW}{σ:St}{H0 H:Hp}{s:Shared}
mutual
theorem reads_of(I:Inv X pins σ H s)(sub:Same H0 H) : ∀{d:D} {v:V} {u:Value},okS d=true->Rep X.K H0 d v->RelV v u->∃z,Reads s.heap u (toP d) z
 | .non,v,u,_,h,r=>by cases (show v = .non from h);cases r;exact⟨_,.none⟩
 | .bl b,v,u,_,h,r=>by cases (show v = .bl b from h);cases r;exact⟨_,.bool b⟩
 | .int i,v,u,_,h,r=>by cases (show v = .int i from h);obtain⟨t,rfl⟩:=r;exact⟨_,.int i t⟩
 | .str x,v,u,_,h,r=>by cases (show v = .str x from h);obtain⟨t,rfl⟩:=r;exact⟨_,.str x t⟩
 | .exc c n,v,u,o,_,_=>(okS_exc o).elim
 | .dic c n,v,u,o,_,_=>(okS_dic o).elim
 | .dct c n,v,u,o,_,_=>(okS_dct o).elim
 | .tup ds,v,u,o,h,r=>by obtain⟨a,xs,rfl,h1,h2⟩:=(show ∃a xs,v = .ref a/\SqT X.K H0 a xs/\Reps X.K H0 ds xs from h);cases r;simp only[okS]at o;obtain⟨Z,O,⟨ob,S,U,n,hd⟩,hz⟩:=I.tuple<|sameT sub h1;obtain⟨z,Y⟩:=readsAll_of I sub o h2 O;exact⟨z,.tuple S U hd<|by simpa using Y⟩
 | .lst ds,v,u,o,h,r=>by obtain⟨a,xs,rfl,h1,h2⟩:=(show ∃a xs,v = .ref a/\SqL X.K H0 a xs/\Reps X.K H0 ds xs from h);cases r;simp only[okS]at o;obtain⟨Z,O,p,hz⟩:=I.list<|sub.seq h1;obtain⟨ob,S,U,n,hd⟩:=p.isList;obtain⟨z,Y⟩:=readsAll_of I sub o h2 O;exact⟨_,.list S U hd<|by simpa using Y⟩
theorem readsAll_of(I:Inv X pins σ H s)(sub:Same H0 H) : ∀{ds:List D} {xs:List V} {us:List Value},okSs ds=true->Reps X.K H0 ds xs->Vals xs us->∃z,ReadsAll s.heap us (toPs ds) z
 | [],xs,us,_,h,r=>by rw[h.inv_nil]at r;cases r;exact⟨_,.nil⟩
 | d::ds,xs,us,o,h,r=>by
  obtain⟨x,t,e,h1,h2⟩:=h.inv_cons;subst e;simp only[okSs,Gs]at o;cases r with
  | cons O r2=>
   obtain⟨z,S⟩:=reads_of I sub o.1 h1 O;obtain⟨bs,U⟩:=readsAll_of I sub o.2 h2 r2;exact⟨_,.cons S U⟩
end
end
def EN(K:FY):R2:=λx y H Q=>∃H0 dx z,Same H0 H/\Rep K H0 dx x/\Rep K H0 z y/\okD dx=true/\okD z=true/\Q (.bl<|eqD dx z) H
def EM(K:FY):R2:=λx y H Q=>∃H0 dx z,Same H0 H/\Rep K H0 dx x/\Rep K H0 z y/\okD dx=true/\okD z=true/\Q (.bl<|!eqD dx z) H
theorem mE(S:X.A.units+64<cLine):OpR X (compareOp .Eq) (EN X.K):=by intro pins s σ H x y v u Q I U Y h;obtain⟨H0,dx,dy,sub,Z,r2,z,O,q⟩:=h;obtain⟨as,ra⟩:=reads_of I sub (xA z) Z U;obtain⟨bs,rb⟩:=reads_of I sub (xA O) r2 Y;exact eq_dataH ra rb (kY z) (kY O) S ⟨.bl _,H,I,by rw[eqv_toP _ _ (xA z) (xA O)];rfl,q⟩
theorem uN(S:X.A.units+64<cLine):OpR X (compareOp .NotEq) (EM X.K):=by intro pins s σ H x y v u Q I U Y h;obtain⟨H0,dx,dy,sub,Z,r2,z,O,q⟩:=h;obtain⟨as,ra⟩:=reads_of I sub (xA z) Z U;obtain⟨bs,rb⟩:=reads_of I sub (xA O) r2 Y;exact ne_dataH ra rb (kY z) (kY O) S ⟨.bl _,H,I,by rw[eqv_toP _ _ (xA z) (xA O)];rfl,q⟩
theorem aS{K:FY}:Snd K (EN K) dEq:=λH0 H x y dx I d Q s O S z q=>by
 unfold dEq at z;split at z
 ·rename_i h;cases z;exact⟨H0,dx,I,s,O,S,h.1,h.2,q _ H H0 (Ext.refl s) rfl⟩
 ·cases z
theorem nT{K:FY}:Snd K (EM K) dNe:=λH0 H x y dx I d Q s O S z q=>by
 unfold dNe at z;split at z
 ·rename_i h;cases z;exact⟨H0,dx,I,s,O,S,h.1,h.2,q _ H H0 (Ext.refl s) rfl⟩
 ·cases z
theorem SX.u64(h:SX X sc N T k):X.A.units+64<cLine:=by have:=h.room.un;omega
section
variable{X:Cx}{sc:Scope}{N T:List Str}{k:Nat}{a b c:Expr}{pos p:Pos}{fa fb fc:CO D}
theorem xt(ha:PV X a fa)(z:PV X b fb):PV X (.BinOp a .Sub b pos) (zv wt fa fb):=JE uH nP ha z
theorem k5(ha:PV X a fa)(z:PV X b fb):PV X (.BinOp a .FloorDiv b pos) (zv yb fa fb):=JE pf nX ha z
theorem jH(ha:PV X a fa)(z:PV X b fb):PV X (.BinOp a .Mod b pos) (zv jV fa fb):=JE uO nV ha z
theorem bA(ha:PV X a fa)(z:PV X b fb):PV X (.BinOp a .Pow b pos) (zv rB fa fb):=JE uK nQ ha z
theorem bD(h:SX X sc N T k)(ha:PV X a fa)(z:PV X b fb):PV X (.Compare a [.Eq] [b] pos) (zv dEq fa fb):=ub (mE h.u64) aS ha z<|JN b
theorem Vt(ha:PV X a fa)(z:PV X b fb):PTD X (.Compare a [.Gt] [b] pos) (sB<|zv dGt fa fb):=Zt Cv sU ha z<|JN b
theorem kT(h:SX X sc N T k)(ha:PV X a fa)(z:PV X b fb):PTD X (.Compare a [.Eq] [b] pos) (sB<|zv dEq fa fb):=Zt (mE h.u64) aS ha z<|JN b
theorem Zs(h:SX X sc N T k)(ha:PV X a fa)(z:PV X b fb):PTD X (.Compare a [.NotEq] [b] pos) (sB<|zv dNe fa fb):=Zt (uN h.u64) nT ha z<|JN b
theorem Yj{K:FY}{H:Hp}{d:D}(h:Rep K H d .non):d = .non:=by
 cases d with
 | non=>rfl
 | bl b=>exact V.noConfusion (show V.non = .bl b from h)
 | int b=>exact V.noConfusion (show V.non = .int b from h)
 | str b=>exact V.noConfusion (show V.non = .str b from h)
 | tup b=>obtain⟨a,xs,e,_⟩:=h;cases e
 | lst b=>obtain⟨a,xs,e,_⟩:=h;cases e
 | exc c n=>obtain⟨a,e,_⟩:=h;cases e
 | dic c n=>obtain⟨a,xs,e,_⟩:=h;cases e
 | dct c n=>obtain⟨a,xs,e,_⟩:=h;cases e
theorem nW{K:FY}:Snd K (λx y H Q=>y = .non/\Q (.bl<|decide<|x = .non) H) AD:=λH0 H x y dx O d Q s z S I q=>by
 cases O with
 | non=>
  refine⟨S,?_⟩;cases dx with
  | non=>cases I;rw[show x=V.non from z];exact q _ H H0 (Ext.refl s) (by simp;rfl)
  | _=>
   cases I;refine q _ H H0 (Ext.refl s) ?_;have : ¬x=V.non:=λe=>by rw[e]at z;exact D.noConfusion<|Yj z
   rw[decide_eq_false this];rfl
 | _=>cases dx<;>cases I
theorem oE(ha:PV X a fa)(z:PV X b fb):PTD X (.Compare a [.Is] [b] pos) (sB<|zv AD fa fb):=Zt uP nW ha z<|JN b
theorem xW{K:FY}{H:Hp}{ds:List D}{v:V}(h:Rep K H (.tup ds) v) : ∃a xs,v = .ref a/\SqT K H a xs/\Reps K H ds xs:=h
theorem cE{K:FY}{H:Hp}{ds:List D}{v:V}(h:Rep K H (.lst ds) v) : ∃a xs,v = .ref a/\SqL K H a xs/\Reps K H ds xs:=h
theorem qY{K:FY}{H:Hp}{ds:List D}{a:Addr}{xs:List V}(h1:SqT K H a xs)(h2:Reps K H ds xs):Rep K H (.tup ds) (.ref a):=⟨a,xs,rfl,h1,h2⟩
theorem Zn{K:FY}{H:Hp}{ds:List D}{a:Addr}{xs:List V}(h1:SqL K H a xs)(h2:Reps K H ds xs):Rep K H (.lst ds) (.ref a):=⟨a,xs,rfl,h1,h2⟩
theorem nY{K:FY}:Snd K (λx y H Q=>rI0 (λi j=> .int (i+j)) x y H Q\/mh K x y H Q) ju:=λH0 H x y dx dy d Q s S U I q=>by
 cases dx<;>cases dy<;>simp[ju]at I
 ·subst I;exact .inl ⟨_,_,jh S,jh U,q _ H H0 (Ext.refl s) rfl⟩
 ·rename_i ds es
  obtain⟨hl,rfl⟩:=I;obtain⟨a,xs,rfl,h1,h2⟩:=xW S;obtain⟨b,ys,rfl,Y,z⟩:=xW U;refine .inr ⟨a,b,xs,ys,rfl,rfl,sameT s h1,sameT s Y,kF (by rw[h2.length,z.length];exact hl),λe=>?_,λe=>?_,λp Z=>?_⟩
  ·have O:ds=[]:=by
    have:=h2.length;rw[e]at this;exact Hq this.symm
   subst O;exact q _ H H0 (Ext.refl s)<|qY Y z
  ·have O:es=[]:=by
    have:=z.length;rw[e]at this;exact Hq this.symm
   subst O;exact q _ H H0 (Ext.refl s) (by rw[Mp];exact qY h1 h2)
  ·exact q _ _ _ (Ext.alloc s Z _)<|qY (SqT.of zD)<|(h2.append z).mono (z5 (ji s Z) _)
theorem zY(ha:PV X a fa)(z:PV X b fb):PV X (.BinOp a .Add b pos) (zv ju fa fb):=JE (op_add.or ia) nY ha z
end
theorem Y6(O:A.handled=none)(k:Sk)(I z:Addr)(S:z≠I)(items:Array Value) :
 Walks P w A I [I,z] [I] items.size (λi v=>items[i]? = some v) (λi h=>ItAt k h I z i/\SqAt k h z items):=by
 cases k
 ·exact Walks.list O I z S items
 ·exact Walks.tuple O I z S items
theorem Zv(zs:List Int) : ∀n,preSum (λi=>zs.getD i 0) n=(zs.take n).sum
 | 0=>by simp[preSum]
 | n+1=>by
  have z:=Zv zs n;simp only[preSum,z];by_cases h:n<zs.length
  ·rw[List.take_succ_eq_append_getElem h,List.sum_append]
   simp[h]
  ·rw[Ip ⋯,Ip ⋯]
   simp[h]
section
variable{X:Cx}{pins:RW}{σ:St}{H:Hp}{s:Shared}
theorem eD(hc:X.calm=true):Jt X (.builtin "sum") (λxs H Q=>∃p k ys zs,xs=[.ref p]/\SqK k X.K H p ys/\ys=(zs:List Int).map V.int/\Q (.int zs.sum) H):=by
 intro pins s σ H vs us Q I rv h;obtain⟨p,k,ys,zs,rfl,hq,rfl,q⟩:=h;obtain⟨u,rfl,O⟩:=yE rv;cases O;obtain⟨z,r,S,hz⟩:=I.sq hq;have lt:=S.lt;have U:=r.length;rw[Gw]at U;refine call_sum_walkG<|VO S ⟨_,[_,p],[_],z.toArray.size,_,_,λi=>zs.getD i 0,rfl,Y6 (A:=X.A.in1) (I.ok.hd hc) k _ p (Hb lt) z.toArray,⟨Kz k _ p,S.at λo e=>Gb _ e⟩,?_,?_,?_⟩
 ·intro b Y
  rw[Hi];simp only[Gr,Hd,or_false]at Y;rcases Y with rfl | rfl
  ·exact Ic _
  ·exact HD lt
 ·intro i v hv
  have Z:z[i]? = some v:=by simpa using hv
  have hi:i<zs.length:=by rw[U];exact(Gq.mp Z).1
  obtain⟨u,e1,O⟩:=r.get (i:=i) (x:= .int zs[i]) (by simp[hi]);rw[Z]at e1;cases e1;obtain⟨t,rfl⟩:=O;exact⟨t,by simp[hi]⟩
 ·intro h' tk t' hk
  have e:preSum (λi=>zs.getD i 0) z.toArray.size=zs.sum:=by rw[Zv,Ip (by rw[Gp,U];exact Gh _)]
  refine⟨.int zs.sum,H,I.kept (t':=tk)<|λb u e=>hk b u ?_ (Gb _ e),⟨t',by rw[e]⟩,q⟩;simp only[Gr,Hd,or_false];exact Hb<|GE e
def sy:V->Option Bool
 | .non=>some false
 | .bl b=>some b
 | .int i=>some (i != 0)
 | _=>none
theorem fV(r:RelV x u)(e:sy x=some b)(q:Q b s):wpAny (model P w) A (truthy u) Q E s:=by
 cases x with
 | non=>cases r;cases e;exact λ_ _ _=>q
 | bl c=>cases r;cases e;exact IL q
 | int i=>obtain⟨t,rfl⟩:=r;cases e;exact PyProof.Rows.truthy_int q
 | _=>cases e
def aE:List V->Option (List Bool)
 | []=>some []
 | x::r=>(sy x).bind λb=>(aE r).map λl=>b::l
theorem XN : ∀{xs:List V} {bs:List Bool},aE xs=some bs->bs.length=xs.length/\∀(i:Nat) x,xs[i]? = some x->sy x=some (bs.getD i false)
 | [],bs,h=>by cases h;exact⟨rfl,λi x e=>by simp at e⟩
 | y::xs,bs,h=>by
  obtain⟨b,e1,h⟩:=bind_some h;obtain⟨l,z,h⟩:=zx h;subst h;obtain⟨h1,h2⟩:=XN z;refine⟨by simp[h1],λi x e=>?_⟩;cases i with
  | zero=>simp at e;subst e;simpa using e1
  | succ i=>simpa using h2 i x (by simpa using e)
theorem eY(bs:List Bool):(Ga bs.length).any (λi=>bs.getD i false)=bs.any id:=by
 rw[IY];simp only[NX,Gc,id_eq];constructor
 ·rintro⟨i,hi,h⟩
  rw[Gj,Gd hi]at h;exact⟨_,Lc hi,h⟩
 ·rintro⟨b,z,h⟩
  obtain⟨i,hi,e⟩:=List.mem_iff_getElem.mp z;refine⟨i,hi,?_⟩;rw[Gj,Gd hi,MM,e];exact h
theorem eH(Z:X.calm=true):Jt X (.builtin "any") (λxs H Q=>∃p k ys bs,xs=[.ref p]/\SqK k X.K H p ys/\aE ys=some bs/\Q (.bl (bs.any id)) H):=by
 intro pins s σ H vs us Q I rv h;obtain⟨p,k,ys,bs,rfl,hq,ht,q⟩:=h;obtain⟨u,rfl,O⟩:=yE rv;cases O;obtain⟨z,r,S,hz⟩:=I.sq hq;have lt:=S.lt;have U:=r.length;obtain⟨a3,a4⟩:=XN ht;refine call_any_walk<|VO S ⟨_,[_,p],[_],z.toArray.size,_,_,λi=>bs.getD i false,rfl,Y6 (A:=X.A.in1) (I.ok.hd Z) k _ p (Hb lt) z.toArray,⟨Kz k _ p,S.at λo e=>Gb _ e⟩,?_,?_⟩
 ·intro i v s' Q' E' hv hQ
  have Y:z[i]? = some v:=by simpa using hv
  have hi:i<ys.length:=by rw[U];exact(Gq.mp Y).1
  obtain⟨u,e1,O⟩:=r.get (i:=i) (x:=ys[i]) (by simp[hi]);rw[Y]at e1;cases e1;exact fV O (a4 i ys[i] (by simp[hi])) hQ
 ·intro h' tk hk
  have e:(Ga z.toArray.size).any (λi=>bs.getD i false)=bs.any id:=by rw[Gp,<- U,<- a3];exact eY bs
  refine⟨.bl<|bs.any id,H,I.kept (t':=tk)<|λb u e=>hk b u ?_ (Gb _ e),by rw[e];rfl,q⟩;simp only[Gr,Hd,or_false];exact Hb<|GE e
end
section
variable{X:Cx}{sc:Scope}{N T:List Str}{k:Nat}{e a b c:Expr}{pos p p2:Pos}{f g:CO D}{fq:CO (Sk×List D)}
theorem sP{K:FY}{H:Hp}{k:Sk}{a:Addr}{xs:List V}(h:SqK k K H a xs):SqL K H a xs\/SqT K H a xs:=by
 cases k
 ·exact .inl h
 ·exact .inr h
theorem xN(h:SX X sc N T k)(c:yD sc "len" = true)(z:X.mg "len" = none)(O:PQ X e fq)(I:starEach [e] X.env=[(false,eval e X.env)]:=by rfl):PV X (.Call (.Name "len" p) [e] [] pos) (Jk fq):=
 j9 (yT KQ (h.gl c).1 z PySem.boot_len (zZ O j1 I) ⋯ ⋯ I rfl) λσ H Q S=>by obtain⟨H0,γ,d,rc,U,q⟩:=S;obtain⟨⟨kk,ds⟩,e1,Y⟩:=zx U;subst Y;refine⟨H0,γ,kk,ds,rc,e1,λa xs H' H0' ext h1 h2 r=>⟨a,xs,rfl,sP h1,?_⟩⟩;exact q _ H' H0' ext (show V.int xs.length = .int ds.length by rw[r.length])
theorem jB(h:SX X sc N T k)(c:yD sc "tuple" = true)(z:X.mg "tuple" = none)(S:PQ X e fq)(I:starEach [e] X.env=[(false,eval e X.env)]:=by rfl):PV X (.Call (.Name "tuple" p) [e] [] pos) (zP fq):=
 j9 (Zw Xu (h.gl c).1 z PyProof.Rows.boot_tuple (zZ S j1 I) ⋯ ⋯ I rfl) λσ H Q U=>by
  obtain⟨H0,γ,d,rc,Y,q⟩:=U;obtain⟨⟨kk,ds⟩,e1,Z⟩:=zx Y;subst Z;refine⟨H0,γ,kk,ds,rc,e1,λa xs H' H0' ext h1 h2 r=>⟨a,xs,rfl,?_⟩⟩;cases kk with
  | L=>exact .inl ⟨h1,λl O=>q _ _ _ (ext.trans<|Ext.alloc ext.sub O _)<|qY (SqT.of zD)<|r.mono<|z5 (ji ext.sub O) _⟩
  | T=>exact .inr ⟨h1,q _ H' H0' ext (qY (h2 rfl) r)⟩
theorem xB{H H':Hp}(s:Same H H'){a:Addr}(h:H' a=none):H a=none:=by
 cases z:H a with
 | none=>rfl
 | some o=>rw[s a o z]at h;cases h
theorem bJ(h:SX X sc N T k)(c:yD sc "list" = true)(z:X.mg "list" = none)(S:PQ X e fq)(O:starEach [e] X.env=[(false,eval e X.env)]:=by rfl):PO X (.Call (.Name "list" p) [e] [] pos) (QD fq):=
 j9 (Zw KP (h.gl c).1 z PyProof.Rows.boot_list (zZ S j1 O) ⋯ ⋯ O rfl) λσ H Q U=>by obtain⟨H0,γ,d,rc,Y,q⟩:=U;obtain⟨⟨kk,ds⟩,e1,Z⟩:=zx Y;subst Z;refine⟨H0,γ,kk,ds,rc,e1,λa xs H' H0' ext h1 h2 r=>⟨a,xs,rfl,sP h1,λl I=>?_⟩⟩;exact q l xs _ H0' (ext.trans<|Ext.hide ext.sub I _) (xB ext.s1 I) (ji ext.sub I) zD r
theorem XQ : ∀{ds:List D} {n:Int},fD ds=some n->∃zs:List Int,ds=zs.map D.int/\n=zs.sum
 | [],n,h=>by cases h;exact⟨[],rfl,rfl⟩
 | d::ds,n,h=>by
  cases d with
  | int i=>
   obtain⟨s,e,h⟩:=zx h;obtain⟨zs,rfl,rfl⟩:=XQ e;exact⟨i::zs,rfl,by rw[<- h];simp⟩
  | _=>cases h
theorem X3{K:FY}{H:Hp} : ∀{zs:List Int} {xs:List V},Reps K H (zs.map D.int) xs->xs=zs.map V.int
 | [],xs,h=>h.inv_nil
 | z::zs,xs,h=>by obtain⟨x,r,e,h1,h2⟩:=Reps.inv_cons h;rw[e,jh h1,X3 h2];rfl
theorem mi(h:SX X sc N T k)(c:yD sc "sum" = true)(z:X.mg "sum" = none)(U:PQ X e fq)(S:starEach [e] X.env=[(false,eval e X.env)]:=by rfl):PV X (.Call (.Name "sum" p) [e] [] pos) (lW fq):=
 j9 (yT (eD h.calm) (h.gl c).1 z PyProof.Rows.boot_sum (zZ U j1 S) ⋯ ⋯ S rfl) λσ H Q Y=>by obtain⟨H0,γ,d,rc,I,q⟩:=Y;obtain⟨⟨kk,ds⟩,e1,I⟩:=bind_some I;obtain⟨n,Z,e3⟩:=zx I;subst e3;obtain⟨zs,O,rfl⟩:=XQ Z;have O:ds=zs.map D.int:=O;subst O;exact⟨H0,γ,kk,_,rc,e1,λa xs H' H0' ext h1 h2 r=>⟨a,kk,xs,zs,rfl,h1,X3 r,q _ H' H0' ext rfl⟩⟩
theorem nG{K:FY}{H:Hp}{d:D}{x:V}{b:Bool}(h:Rep K H d x)(e:BQ d=some b):sy x=some b:=by
 cases d with
 | non=>cases (show x = .non from h);exact e
 | bl c=>cases (show x = .bl c from h);exact e
 | int i=>cases (show x = .int i from h);exact e
 | _=>cases e
theorem Vg{K:FY}{H:Hp} : ∀{ds:List D} {xs:List V} {bs:List Bool},Reps K H ds xs->w5 ds=some bs->aE xs=some bs
 | [],xs,bs,h,e=>by rw[h.inv_nil];exact e
 | d::ds,xs,bs,h,e=>by obtain⟨x,r,z,h1,h2⟩:=h.inv_cons;obtain⟨b,e1,e⟩:=bind_some e;obtain⟨l,I,e⟩:=zx e;subst z e;show(sy x).bind _=_;rw[nG h1 e1];show((aE r).map λl=>b::l)=_;rw[Vg h2 I];rfl
theorem mn(h:SX X sc N T k)(c:yD sc "any" = true)(z:X.mg "any" = none)(S:PQ X e fq)(O:starEach [e] X.env=[(false,eval e X.env)]:=by rfl):PV X (.Call (.Name "any" p) [e] [] pos) (om fq):=
 j9 (yT (eH h.calm) (h.gl c).1 z PyProof.Rows.boot_any (zZ S j1 O) ⋯ ⋯ O rfl) λσ H Q U=>by obtain⟨H0,γ,d,rc,I,q⟩:=U;obtain⟨⟨kk,ds⟩,e1,I⟩:=bind_some I;obtain⟨bs,Y,Z⟩:=zx I;subst Z;exact⟨H0,γ,kk,_,rc,e1,λa xs H' H0' ext h1 h2 r=>⟨a,kk,xs,bs,rfl,h1,Vg r Y,q _ H' H0' ext rfl⟩⟩
theorem QJ(h:SX X sc N T k)(c:yD sc "int" = true)(z:X.mg "int" = none)(U:PV X e f)(O:starEach [e] X.env=[(false,eval e X.env)]:=by rfl):PV X (.Call (.Name "int" p) [e] [] pos) (vJ f):=
 j9 (Zw eG (h.gl c).1 z PyProof.Rows.boot_int (zZ U j1 O) ⋯ ⋯ O rfl) λσ H Q Y=>by
  obtain⟨H0,γ,d,rc,I,q⟩:=Y;obtain⟨S,e1,I⟩:=bind_some I;refine⟨H0,γ,S,rc,e1,λv H' H0' ext r=>?_⟩;cases S with
  | int i=>cases I;exact .inl ⟨i,by rw[jh r],q _ H' H0' ext rfl⟩
  | bl b=>cases I;exact .inr ⟨b,by rw[show v = .bl b from r],q _ H' H0' ext rfl⟩
  | _=>cases I
end
end DL
namespace DL
open PySem PySem.Spec PySem.Calls PyProof.Rows PySem.W PySem.Builtin PySem.Builtin.ObjectAttr PySem.Builtin.Getset_descriptor
section
variable{prog:Program}{w:World}{A:Around}{E:RQ}{s:Shared}{K:Frag}{x C:Addr}
theorem wM(x:XObj h a C):Looks M h (typeOf<|.ref a) (.ref C):=by obtain⟨o,vs,z,I,hd⟩:=x;exact I ▸ (Looks.ld z).andThen .now
structure XGet(K:Frag)(C:Addr):Prop where
 ga:findIn K (.ref C) "__getattribute__" = some (some (.builtin "BaseException.__getattribute__"))
 gn:findIn K (.ref C) "__getattr__" = some none
 ca:findIn K (.ref C) "__class__" = some (some (.builtin "object.__class__"))
 gt:specialIn K (.builtin "object.__class__") "__get__" = some (some (.builtin "getset_descriptor.__get__"))
 tk:takesIn K (.builtin "object.__class__")=some true
 mo:mroIn K C (.type "object")=some true
 mb:mroIn K C (.type "BaseException")=some true
theorem iU(X:K.In h)(G:XGet K C):Looks M h (find (.ref x) (.ref C) "__class__") (.bind (.builtin "getset_descriptor.__get__") (.builtin "object.__class__")):=by have z:=looks_findIn (M:=M) X G.ca;have I:Looks M h (getOf (some (.builtin "object.__class__"))) (some (.builtin "getset_descriptor.__get__")):=looks_specialIn X G.gt;have O:=looks_takesIn (M:=M) X G.tk;have S:Looks M h (dataDescriptor? (some (.builtin "object.__class__")) (some (.builtin "getset_descriptor.__get__"))) (some (.builtin "getset_descriptor.__get__",.builtin "object.__class__")):=O.andThen .now;exact z.andThen (I.andThen (S.andThen (Looks.tag .now)))
theorem iV(X:K.In s.heap)(I:XObj s.heap x C)(G:XGet K C)(h:R (.ok<|.ret<|.ref C) s) :
 codeAny (model prog w) A (.call (.builtin "getset_descriptor.__get__") ⟨[.builtin "object.__class__",.ref x,tp],[]⟩) R s:=by
 obtain⟨z,g0,O,S,U⟩:=s;have Y:=wM (M:=model prog w) I;have Z:=looks_mroIn (M:=model prog w) X G.mo;refine NL KF.slot_gs.plain KF.entry_gs<|KF.slot_gs.check _ _ _ _ _ _ _ _ KF.type_class (KF.args_gs _ _ _) ?_;unfold Builtin.«getset_descriptor.__get__» descrGet;rw[dga_obj];refine FZ<|Gf ?_;unfold descrGetter descrCheckInstance descrNameAndClass isInstance;simp only[KF.owner_class]
 repeat lk
 refine And.intro (Code.quiet_builtin _ ⋯)<|MG KF.entry_class ?_;unfold Builtin.«object.__class__» shownTypeOf
 repeat lk
 exact h
theorem dC(X:K.In s.heap)(I:XObj s.heap x C)(G:XGet K C)(z:Q () s):wpAny M A (checkBuiltinCall "BaseException.__getattribute__" ⟨[.ref x,nameV],[]⟩) Q E s:=by
 obtain⟨Z,g0,d0,t0,o0⟩:=s;have O:=wM (M:=M) I;have S:=looks_mroIn (M:=M) X G.mb;have U:builtinKind "BaseException.__getattribute__" = some .slot:=by decide +kernel
 have Y:splitId "BaseException.__getattribute__" = some ("BaseException","__getattribute__"):=by decide +kernel
 have ha:=PySem.F.args_bexc_ga (.ref x) nameV;simp only[checkBuiltinCall,U,Y];refine FZ (show wpAny _ _ (isInstance (.ref x) (.type "BaseException")) _ _ _ from ?_);refine(O.andThen S).at ?_;rw[EQ ⋯];unfold argsOk at ha;cases hs:Manifest.signature? "BaseException.__getattribute__" with
 | none=>exact Gf z
 | some a3=>
  rw[hs]at ha;exact wpAny_of_eq ha z
theorem dB(X:K.In s.heap)(I:XObj s.heap x C)(G:XGet K C)(h:Q (some (.ref C)) {s with toks:=s.toks+1}):wpAny (model prog w) A (getAttr? (.ref x) "__class__") Q E s:=by obtain⟨z,g0,O,S,U⟩:=s;have Y:=wM (M:=model prog w) I;have Z:=looks_findIn (M:=model prog w) X G.ga;have L2:=looks_findIn (M:=model prog w) X G.gn;have L3:=iU (M:=model prog w) (x:=x) X G;have B:=PySem.F.attr_ValueError.ga.bind (.ref x);unfold getAttr? getAttrBy? getAttrBy;refine FZ (wpAny_mkText (FZ (LZ (HH (FZ (Y.at (FZ (Z.at ?_))))))));show wpAny _ _ (getAttrByItsOwn _ _ _ _ _ _) _ _ _;unfold getAttrByItsOwn;refine FZ (L2.at ?_);refine FZ (LZ (HH ?_));show wpAny _ _ (boundAndCalled (.builtin "BaseException.__getattribute__") (.ref x) _) _ _ _;unfold boundAndCalled;refine FZ (wpAny_of_eq B ?_);refine Od (NL PySem.F.attr_ValueError.ga.plain PySem.F.entry_bexc_ga (dC (s:=⟨z,g0,O,S+1,U⟩) X I G ?_));refine FZ (Gf ?_);refine FZ (Gf ?_);refine FZ (Y.at (FZ (L3.at ?_)));show wpAny _ _ (bindTo _ _ _ _) _ _ _;unfold bindTo;refine FZ (HH (Od (iV (s:=⟨z,g0,O,S+1,U⟩) X I G ?_)));refine Gf ?_;exact Gf (Gf h)
theorem ng(h:nq K C=true):XGet K C:=by unfold nq at h;simp only[Gs,beq_iff_eq]at h;exact⟨h.1.1.1.1.1.1.1.1.2,h.1.1.1.1.1.1.1.2,h.1.1.1.1.1.1.2,h.1.1.1.2,h.1.1.2,h.1.1.1.1.1.2,h.1.1.1.1.2⟩
theorem iE(G:XGet K C)(U:(clsIn K C).isSome=true):KitX K (.ref x) (.ref C) (λh=>XObj h x C) where
 ty:=λ_ _ _ I=>wM I
 it:=λ_ _ X _=>by
  obtain⟨Y,O⟩:=HR.mp U;unfold clsIn at O;split at O
  ·rename_i Z d' a0 a1 S
   intro A' Q' E' s' k q;unfold isType loadHead;exact FZ<|wpAny_loadPart (k _ _<|X _ _ S)<|Gf q
  ·cases O
 ne:=λh tp dd a6 n sl X a2=>by
  obtain⟨Y,O⟩:=HR.mp U;refine NS.mpr λq=>?_;have e:C=tp:=GX.inj<|beq_iff_eq.mp q;subst e;unfold clsIn at O;split at O
  ·rename_i Z d' a0 a1 S
   have z:=(X _ _ S).symm.trans a2;cases z
  ·cases O
 ca:=λX I k=>dB X I G k
theorem nh(h:nq K C=true):(clsIn K C).isSome=true:=by
 unfold nq at h;simp only[Gs]at h;have:=h.1.2;cases q:clsIn K C with
 | none=>rw[q]at this;cases this
 | some z=>rfl
end
end DL
namespace DL
open PySem PySem.Spec PyProof.Rows L2
section
variable{X:Cx}{sc:Scope}{N T:List Str}{k:Nat}{e a b c:Expr}{pos p p2:Pos}{f g:CO D}{fq:CO (Sk×List D)}
theorem ZJ(h:ixD n i=some j):ixN n i=some j:=by
 unfold ixD at h;unfold ixN;split at h
 ·rename_i h1;rw[RY h1.1,RY h1.2];exact h
 ·split at h
  ·rename_i h1 h2;rw[EQ ⋯,RY ⋯];exact h
  ·cases h
theorem zC(ha:PQ X a fq)(Y:PV X b g)(Z:wg b:=by intro _ _;rfl):PV X (.Subscript a b pos) (sIx fq g):=
 j9 (gZ (ix_list.or Aj) ha Y Z) λσ H Q hZ=>by
  obtain⟨H0,γ,d,rc,z,q⟩:=hZ;obtain⟨⟨kk,ds⟩,e1,z⟩:=bind_some z;obtain⟨i,O,z⟩:=bind_some z;obtain⟨di,e3,O⟩:=bind_some O;obtain⟨j,e4,z⟩:=bind_some z;refine⟨H0,γ,kk,ds,rc,e1,λp xs H' H0' ext h1 h2 r=>⟨H0',γ,di,rc.ext ext,e3,λv2 H2 a4 I r2=>?_⟩⟩;rw[jw O]at r2;obtain⟨x,hx,rx⟩:=r.get z;have S:atI xs i=some x:=by unfold atI;rw[r.length,ZJ e4];exact hx
  have U:=q x H2 a4 (ext.trans I)<|rx.mono I.s0;cases kk with
  | L=>exact .inl ⟨p,xs,i,x,rfl,jh r2,I.s1.seq h1,S,U⟩
  | T=>exact .inr ⟨p,xs,i,x,rfl,jh r2,sameT I.s1 h1,S,U⟩
theorem vZ{P:Program}{w:World}{A:Around}{E:RQ}{s:Shared}{t sl:Addr}{items:Array Value}{I O:Value}{lo hi:Option Int}{Q:RQ}(z:IsTup s.heap t items)(S:s.heap.IsSliceOf sl I O .none)(pl:IsPart I lo)(U:IsPart O hi)
 (hw:HT.sIx items.size 0 lo=0/\HT.sIx items.size items.size hi=items.size) (h:Q (.ref t) s):wpAny (model P w) A (getItem (.ref t)<|.ref sl) Q E s:=by
 obtain⟨os,Y,Z,a2⟩:=id S;have a0:s.TypeIs (.ref sl) "slice":=⟨os,Y,Z⟩;unfold getItem
 try with_reducible refine HH ?_
 first | refine FZ (Gf ?_) | skip
 refine FZ (wpAny_sequenceKey z.typeIs ⋯ ?_);refine FZ (HJ (name:=Ho "__getitem__") z.typeIs HU
  (HY HU z.typeIs entry_tuple_getitem ?_ (args_tuple_getitem _ _)))
 show wpAny _ _ (Builtin.Tuple.tupleItemsOf (.ref t) >>= _) _ _ s;refine FZ<|Nh z ?_;refine FZ<|LQ a0 ?_;rw[RY ⋯];refine FZ<|HT.sliceApplied_gen S pl U ?_;have a1:(((HT.sIx items.size 0 lo:Nat):Int)==0 && (1:Int)==1 && (HT.sIx items.size items.size hi - HT.sIx items.size 0 lo)==items.size)=true:=by rw[hw.1,hw.2];simp
 show wpAny _ _ (if (((HT.sIx items.size 0 lo:Nat):Int)==0 && (1:Int)==1 && (HT.sIx items.size items.size hi - HT.sIx items.size 0 lo)==items.size)=true then _ else _) _ _ s;rw[RY a1];refine FZ (m:=Le _) ?_;unfold Le;refine FZ<|LQ z.typeIs<|Gf ?_;rw[RY ⋯];exact FZ<|LR<|Gf ⟨_,rfl,Gf h⟩
def Ci(K:FY):V->Option Int->Option Int->Hp->VK->Prop:=λx lo hi H Q=>∃a xs,x = .ref a/\SqT K H a xs/\(HT.sIx xs.length 0 lo=0/\HT.sIx xs.length xs.length hi=xs.length->Q (.ref a) H)/\∀p,H p=none->Q (.ref p) (upd H p<|.tup<|rF xs lo hi)
theorem nZ:SlR X (Ci X.K):=by
 intro pins s σ H x v Y Z lo hi sl Q I z O pl S h;obtain⟨a,xs,rfl,hx,q1,q2⟩:=h;by_cases hw:HT.sIx xs.length 0 lo=0/\HT.sIx xs.length xs.length hi=xs.length
 ·cases z
  obtain⟨a2,r,U,hz⟩:=I.tuple hx;have a3:a2.toArray.size=xs.length:=by rw[Gp];exact r.length.symm
  refine⟨"tuple",_,HU.lookup,U.typeIs,?_⟩;exact vZ U O pl S (by rw[a3];exact hw) ⟨.ref a,H,I,rfl,q1 hw⟩
 ·exact sV pins s σ H (.ref a) v Y Z lo hi sl Q I z O pl S ⟨a,xs,rfl,hx,hw,q2⟩
theorem wQ(n d:Nat)(o:Option Int):YN n d o=HT.sIx n d o:=by cases o<;>rfl
theorem gA{K:FY}{H:Hp}{ds:List D}{xs:List V}(r:Reps K H ds xs)(lo hi:Option Int):Reps K H (V2 ds lo hi) (rF xs lo hi):=by unfold V2 rF;rw[<- wQ,<- wQ,r.length];exact(r.drop _).take _
theorem dX{ds:List D}{lo hi:Option Int}(h:HT.sIx ds.length 0 lo=0/\HT.sIx ds.length ds.length hi=ds.length):V2 ds lo hi=ds:=by unfold V2;rw[wQ,wQ,h.1,h.2];simp
def tB(K:FY)(f:CO (Option Int)):TO:=λσ H Q=>∃H0 γ o,RC K H0 H σ γ/\f γ=some o/\∀H' H0',Ext H0 H H0' H'->Q o H'
theorem vQ:L2.PO X none (tB X.K Vj):=λpins s σ H Q I ⟨H0,γ,o,rc,z,q⟩=>oO pins s σ H Q I (by cases z;exact q H H0<|Ext.refl rc.sub)
theorem k7(h:PV X e f):L2.PO X (some e) (tB X.K<|sBd f):=λpins s σ H Q I ⟨H0,γ,o,rc,z,q⟩=>oN h pins s σ H Q I (by
 obtain⟨i,e1,O⟩:=zx z;obtain⟨d,S,e1⟩:=bind_some e1;subst O;refine⟨H0,γ,d,rc,S,λv H' H0' x r=>?_⟩;rw[jw e1]at r;exact⟨i,jh r,q H' H0' x⟩)
theorem Zq{lo hi:Option Expr}{O S:CO (Option Int)}(ha:PV X a f)(hl:L2.PO X lo (tB X.K O))(hh:L2.PO X hi (tB X.K S)):PV X (.Subscript a (.Slice lo hi none p2) pos) (K8 f O S):=
 j9 (gY nZ ha hl hh) λσ H Q hZ=>by
  obtain⟨H0,γ,d,rc,z,q⟩:=hZ;obtain⟨U,e1,z⟩:=bind_some z;obtain⟨l,e2,z⟩:=bind_some z;obtain⟨u,e3,z⟩:=bind_some z;refine⟨H0,γ,U,rc,e1,λv H' H0' x r=>⟨H0',γ,l,rc.ext x,e2,λH2 a6 I=>⟨a6,γ,u,(rc.ext x).ext I,e3,λH3 a8 x3=>?_⟩⟩⟩;have Y:=x.trans<|I.trans x3;cases U with
  | tup ds=>
   cases z;obtain⟨a1,xs,rfl,h1,h2⟩:=xW<|r.mono (I.trans x3).s0;have ac:=h2.length;refine⟨a1,xs,rfl,sameT x3.sub h1,λhw=>?_,λp Z=>?_⟩
   ·rw[ac]at hw
    exact q _ H3 a8 Y (by rw[dX hw];exact qY h1 h2)
   ·exact q _ _ _ (Y.trans<|Ext.alloc x3.sub Z _)<|qY (SqT.of zD)<|(gA h2 _ _).mono (z5 (ji x3.sub Z) _)
  | _=>cases z
theorem QI{K:FY}{H:Hp}{ds:List D}{xs:List V}(r:Reps K H ds xs) : ∀n:Nat,Reps K H (Ge n ds).flatten (Ge n xs).flatten
 | 0=>Reps.nil
 | n+1=>by rw[Iv,Iv,IV,IV];exact r.append<|QI r n
theorem JJ(ha:PQ X a fq)(hb:PQ X b gq):PO X (.BinOp a .Add b pos) (QF fq gq):=
 j9 (oV ib ha hb) λσ H Q hZ=>by
  obtain⟨H0,γ,ds,rc,z,q⟩:=hZ;obtain⟨⟨k1,U⟩,e1,z⟩:=bind_some z;obtain⟨⟨k2,Y⟩,e2,z⟩:=bind_some z;cases k1<;>cases k2<;>try (simp at z;done)
  dsimp only at z;by_cases O:U.length+Y.length<=lim
  ·rw[RY O]at z;cases z
   refine⟨H0,γ,.L,U,rc,e1,λa1 xs H1 a8 x1 h1 h2 Z=>⟨a8,γ,.L,Y,rc.ext x1,e2,λa2 ys H2 ac I h3 h4 r2=>⟨a1,a2,xs,ys,rfl,rfl,I.s1.seq h1,h3,kF (by rw[Z.length,r2.length];exact O),λp S=>?_⟩⟩⟩;exact q p (xs++ys) _ ac (x1.trans<|I.trans<|Ext.hide I.sub S _) (xB (x1.trans I).s1 S) (ji I.sub S) zD<|(Z.mono I.s0).append r2
  ·rw[EQ O]at z;cases z
theorem uo(ha:PO X a gn)(hb:PV X b g):PO X (.BinOp a .Mult b pos) (gu (jQ gn) g):=
 j9 (oV uJ ha hb) λσ H Q hZ=>by
  obtain⟨H0,γ,ds,rc,z,q⟩:=hZ;obtain⟨⟨k1,Y⟩,e1,z⟩:=bind_some z;obtain⟨ad,e0,e1⟩:=zx e1;cases e1;obtain⟨j,S,z⟩:=bind_some z;obtain⟨dj,e3,S⟩:=bind_some S;dsimp only at z;by_cases O:Y.length*j.toNat<=lim/\inR j=true
  ·rw[RY O]at z;cases z
   refine⟨H0,γ,Y,rc,e0,λa1 xs H1 a7 x1 h1 h2 h3 Z=>⟨a7,γ,dj,rc.ext x1,e3,λv H2 a9 I r2=>?_⟩⟩;rw[jw S]at r2;obtain⟨q1,q2⟩:=ZM O.2;refine⟨a1,j,xs,rfl,jh r2,I.s1 _ _ h3,by omega,by omega,kF (by rw[Z.length];exact O.1),λp U=>?_⟩;exact q p _ _ a9 (x1.trans<|I.trans<|Ext.hide I.sub U _) (xB (x1.trans I).s1 U) (ji I.sub U) zD<|(QI Z _).mono I.s0
  ·rw[EQ O]at z;cases z
theorem jd{K:FY}{t c:String}{b:Bool}(h:(if ((LU t) == .type c)=true then some true else if PySem.W.kitMeta c=true then (fastBuiltinMro t).map (·.contains (.type c))else none)=some b):Ir K (.type t) (.type c)=some b:=h
def tyN:Ty->String
 | .int=>"int"
 | .bool=>"bool"
 | .str=>"str"
 | .tuple=>"tuple"
 | .list=>"list"
def CK:D->String
 | .non=>"NoneType"
 | .bl _=>"bool"
 | .int _=>"int"
 | .str _=>"str"
 | .tup _=>"tuple"
 | .lst _=>"list"
 | .exc _ _=>""
 | .dic _ _=>"dict"
 | .dct _ _=>"dict"
theorem Kt{K:FY}(T:Ty)(d:D)(hx : ∀c n,d ≠ .exc c n):Ir K (.type<|CK d) (.type<|tyN T)=some (mM T d):=by
 cases d with
 | non=>
  cases T with
  | int=>exact jd (t:="NoneType") (c:="int") (b:=false) ⋯
  | bool=>exact jd (t:="NoneType") (c:="bool") (b:=false) ⋯
  | str=>exact jd (t:="NoneType") (c:="str") (b:=false) ⋯
  | tuple=>exact jd (t:="NoneType") (c:="tuple") (b:=false) ⋯
  | list=>exact jd (t:="NoneType") (c:="list") (b:=false) ⋯
 | bl y=>
  cases T with
  | int=>exact jd (t:="bool") (c:="int") (b:=true) ⋯
  | bool=>exact jd (t:="bool") (c:="bool") (b:=true) ⋯
  | str=>exact jd (t:="bool") (c:="str") (b:=false) ⋯
  | tuple=>exact jd (t:="bool") (c:="tuple") (b:=false) ⋯
  | list=>exact jd (t:="bool") (c:="list") (b:=false) ⋯
 | int y=>
  cases T with
  | int=>exact jd (t:="int") (c:="int") (b:=true) ⋯
  | bool=>exact jd (t:="int") (c:="bool") (b:=false) ⋯
  | str=>exact jd (t:="int") (c:="str") (b:=false) ⋯
  | tuple=>exact jd (t:="int") (c:="tuple") (b:=false) ⋯
  | list=>exact jd (t:="int") (c:="list") (b:=false) ⋯
 | str y=>
  cases T with
  | int=>exact jd (t:="str") (c:="int") (b:=false) ⋯
  | bool=>exact jd (t:="str") (c:="bool") (b:=false) ⋯
  | str=>exact jd (t:="str") (c:="str") (b:=true) ⋯
  | tuple=>exact jd (t:="str") (c:="tuple") (b:=false) ⋯
  | list=>exact jd (t:="str") (c:="list") (b:=false) ⋯
 | tup y=>
  cases T with
  | int=>exact jd (t:="tuple") (c:="int") (b:=false) ⋯
  | bool=>exact jd (t:="tuple") (c:="bool") (b:=false) ⋯
  | str=>exact jd (t:="tuple") (c:="str") (b:=false) ⋯
  | tuple=>exact jd (t:="tuple") (c:="tuple") (b:=true) ⋯
  | list=>exact jd (t:="tuple") (c:="list") (b:=false) ⋯
 | lst y=>
  cases T with
  | int=>exact jd (t:="list") (c:="int") (b:=false) ⋯
  | bool=>exact jd (t:="list") (c:="bool") (b:=false) ⋯
  | str=>exact jd (t:="list") (c:="str") (b:=false) ⋯
  | tuple=>exact jd (t:="list") (c:="tuple") (b:=false) ⋯
  | list=>exact jd (t:="list") (c:="list") (b:=true) ⋯
 | exc c n=>exact absurd rfl<|hx c n
 | dic c n=>
  cases T with
  | int=>exact jd (t:="dict") (c:="int") (b:=false) ⋯
  | bool=>exact jd (t:="dict") (c:="bool") (b:=false) ⋯
  | str=>exact jd (t:="dict") (c:="str") (b:=false) ⋯
  | tuple=>exact jd (t:="dict") (c:="tuple") (b:=false) ⋯
  | list=>exact jd (t:="dict") (c:="list") (b:=false) ⋯
 | dct c n=>
  cases T with
  | int=>exact jd (t:="dict") (c:="int") (b:=false) ⋯
  | bool=>exact jd (t:="dict") (c:="bool") (b:=false) ⋯
  | str=>exact jd (t:="dict") (c:="str") (b:=false) ⋯
  | tuple=>exact jd (t:="dict") (c:="tuple") (b:=false) ⋯
  | list=>exact jd (t:="dict") (c:="list") (b:=false) ⋯
theorem iK{pins:RW}{σ:St}{H0 H:Hp}{s:Shared}{A:Around}{E:RQ}{Q:RQ}{d:D}{x:V}{u:Value}(I:Inv X pins σ H s)(sub:Same H0 H)(O:RelV x u)(r:Rep X.K H0 d x)(T:Ty)
 (h : ∀tk,Q (.bool (mM T d)) {s with toks:=tk}):wpAny (model X.prog X.w) A (call (.builtin "isinstance") [u,.type (tyN T)]) Q E s:=by
 cases d with
 | non=>have e:=Kt (K:=X.K) T .non<|λ_ _ z=>nomatch z;cases (show x = .non from r);cases (show u=HK from O);exact Hc PySem.W.kitx_none I.kIn IH e (λz=>nomatch z) h
 | bl y=>have e:=Kt (K:=X.K) T (.bl y)<|λ_ _ z=>nomatch z;cases (show x = .bl y from r);cases (show u=NM y from O);exact Hc PySem.W.kitx_bool I.kIn IH e (λz=>nomatch z) h
 | int i=>have e:=Kt (K:=X.K) T (.int i)<|λ_ _ z=>nomatch z;cases (show x = .int i from r);obtain⟨t,q⟩:=(show ∃t,u=MZ i t from O);cases q;exact Hc PySem.W.kitx_int I.kIn IH e (λz=>nomatch z) h
 | str y=>have e:=Kt (K:=X.K) T (.str y)<|λ_ _ z=>nomatch z;cases (show x = .str y from r);obtain⟨t,q⟩:=(show ∃t,u=NC y t from O);cases q;exact Hc PySem.W.kitx_str I.kIn IH e (λz=>nomatch z) h
 | tup ds=>
  have e:=Kt (K:=X.K) T (.tup ds)<|λ_ _ z=>nomatch z;obtain⟨a,xs,rfl,h1,h2⟩:=xW r;cases (show u=GX a from O);obtain⟨a0,rv,⟨o,U,Y,_⟩,hz⟩:=I.tuple<|sameT sub h1;exact Hc PySem.W.kitx_tuple I.kIn ⟨o,U,Y⟩ e (λz=>nomatch z) h
 | lst ds=>
  have e:=Kt (K:=X.K) T (.lst ds)<|λ_ _ z=>nomatch z;obtain⟨a,xs,rfl,h1,h2⟩:=cE r;cases (show u=GX a from O);obtain⟨a0,rv,p,hz⟩:=I.list<|sub.seq h1;obtain⟨o,U,Y,_⟩:=p.isList;exact Hc NG I.kIn ⟨o,U,Y⟩ e (λz=>nomatch z) h
 | exc c n=>
  obtain⟨a,rfl,Z⟩:=(show ∃a,x = .ref a/\XRep X.K H0 c n a from r);cases (show u=GX a from O);obtain⟨C,φ,g1,g2,g3,_⟩:=Z.ex;obtain⟨S,_,x1,_,_⟩:=ni Z.all Z.mem g1;obtain⟨p,_,_⟩:=(show ObjOk X.prog X.w H s.heap a (.ext φ)from I.hok a _<|sub _ _ g2);have e:Ir X.K (.ref C) (.type<|tyN T)=some (mM T<|.exc c n):=by
   unfold nq at x1;simp only[Gs,NJ,List.all_nil,beq_iff_eq]at x1;have t:=x1.1.1.1.1.1.1.1.1.1.1;cases T
   ·exact t.1
   ·exact t.2.1
   ·exact t.2.2.1
   ·exact t.2.2.2.1
   ·exact t.2.2.2.2.1
  exact Hc (iE (ng x1)<|nh x1) I.kIn (g3 _ p) e (λz=>nomatch z) h
 | dic ks vs=>
  have e:=Kt (K:=X.K) T (.dic ks vs)<|λ_ _ z=>nomatch z;obtain⟨a,xs,rfl,⟨kk,_,_,h1⟩,_⟩:=(show ∃a xs,x = .ref a/\DRp H0 a ks xs/\Reps X.K H0 vs xs from r);exact cT I O (.dK<|sub _ _ h1) e h
 | dct ks vs=>
  have e:=Kt (K:=X.K) T (.dct ks vs)<|λ_ _ z=>nomatch z;obtain⟨a,xs,rfl,⟨_,o,zs,h1,h2,_⟩,_⟩:=(show ∃a xs,x = .ref a/\DRt X.K H0 a ks xs/\Reps X.K H0 vs xs from r);cases (show u=GX a from O);obtain⟨U,_⟩:=(show ObjOk X.prog X.w H s.heap a (atO a o)from I.hok a _<|sub _ _ h1);exact Hc Mv I.kIn ⟨o,U,h2.1.1⟩ e (λz=>nomatch z) h
theorem tZ(T:Ty)(h:SX X sc N L k)(c:yD sc "isinstance" = true)(z:X.mg "isinstance" = none)(O:yD sc ty=true)(z2:X.mg ty=none)(Z:bootBuiltins ty=some (.type (tyN T)))(ha:PV X a f)
 (U:starEach [a,.Name ty p2] X.env=[(false,eval a X.env),(false,eval (.Name ty p2) X.env)]:=by rfl):PV X (.Call (.Name "isinstance" p) [a,.Name ty p2] [] pos) (sIs T f):=by
 intro pins s σ H Q I ⟨H0,γ,d,rc,ef,q⟩;obtain⟨Y,e1,e2⟩:=zx ef;subst e2;refine IT<|xP I (h.gl c).1 z Nu ?_ ⋯ ⋯;refine LI ?_ (by rw[U];rfl) rfl;rw[U];show wpAny _ _ (spliced ((false,eval a X.env)::backTo pos [(false,eval (.Name ty p2) X.env)])) _ _ s;refine Ii<|thn (ha pins s σ H _ I ⟨H0,γ,Y,rc,e1,λv H' H0' x r=>(show(λv H'=>∃H0',Ext H0 H H0' H'/\Rep X.K H0' Y v) v H' from⟨H0',x,r⟩)⟩) λu s1 hZ=>?_;obtain⟨x,H1,S,r1,a4,x1,rr⟩:=hZ;show wpAny _ _ (spliced ((false,eval (.Name ty p2) X.env)::[])) _ _ s1;refine Ii<|xP S (h.gl O).1 z2 Z ?_ (h.gl O).2.1 (h.gl O).2.2;refine Lp ?_;exact iK S x1.sub r1 rr T λtk=>⟨.bl _,H1,S.tok tk,rfl,q _ H1 a4 x1 rfl⟩
end
section
variable{X:Cx}{sc:Scope}{N L:List Str}{k:Nat}{e a b c:Expr}{pos p p2:Pos}{f g:CO D}{fq:CO (Sk×List D)}
theorem jm(h:SX X sc N L k)(c:yD sc "range" = true)(z:X.mg "range" = none)(ha:PV X a f)(I:starEach [a] X.env=[(false,eval a X.env)]:=by rfl):PIF X tg (.Call (.Name "range" p) [a] [] pos) (zU f):=WE (h.gl c).1 z ha I
theorem QR(h:SX X sc N L k)(c:yD sc "range" = true)(z:X.mg "range" = none)(ha:PV X a f)(I:PV X b g)(O:starEach [a,b] X.env=[(false,eval a X.env),(false,eval b X.env)]:=by rfl)(S:starEach [b] X.env=[(false,eval b X.env)]:=by rfl) :
 PIF X tg (.Call (.Name "range" p) [a,b] [] pos) (xX f g):=WD (h.gl c).1 z ha I O S
theorem yR(h:SX X sc N L k)(c:yD sc "zip" = true)(z:X.mg "zip" = none)(ha:PV X a f)(I:PV X b g)(O:starEach [a,b] X.env=[(false,eval a X.env),(false,eval b X.env)]:=by rfl)(S:starEach [b] X.env=[(false,eval b X.env)]:=by rfl) :
 PIF X (.Tuple elts x1 tpos) (.Call (.Name "zip" p) [a,b] [] pos) (K7 f g):=oS (h.gl c).1 z ha I O S
theorem bC(h:SX X sc N L k)(c:yD sc "isinstance" = true)(z:X.mg "isinstance" = none)(I:yD sc "int" = true)(z2:X.mg "int" = none)(ha:PV X a f)
 (O:starEach [a,.Name "int" p2] X.env=[(false,eval a X.env),(false,eval (.Name "int" p2) X.env)]:=by rfl):PV X (.Call (.Name "isinstance" p) [a,.Name "int" p2] [] pos) (sIs .int f):=tZ .int h c z I z2 PyProof.Rows.boot_int ha O
theorem Ww(h:SX X sc N L k)(c:yD sc "isinstance" = true)(z:X.mg "isinstance" = none)(I:yD sc "bool" = true)(z2:X.mg "bool" = none)(ha:PV X a f)
 (O:starEach [a,.Name "bool" p2] X.env=[(false,eval a X.env),(false,eval (.Name "bool" p2) X.env)]:=by rfl):PV X (.Call (.Name "isinstance" p) [a,.Name "bool" p2] [] pos) (sIs .bool f):=tZ .bool h c z I z2 PyProof.Rows.boot_bool ha O
theorem gJ(ha:PQ X a fq)(I : ∀z,isTrue a X.env z=(do let v <- z;standAt a.pos;holding [v] (truthy v)):=by intro _;rfl):PTD X a (gp fq):=
 Wy (gK ha I) λσ H Q O=>by
  obtain⟨H0,γ,t,rc,S,q⟩:=O;obtain⟨⟨kk,ds⟩,e1,U⟩:=zx S;subst U;refine⟨H0,γ,kk,ds,rc,e1,λp xs H' H0' ext h1 h2 r=>⟨!ds.isEmpty,?_,q H' H0' ext⟩⟩;have e:xs.isEmpty=ds.isEmpty:=by have:=r.length;cases xs<;>cases ds<;>simp_all
  rw[<- e];cases kk with
  | L=>exact .inl ⟨xs,h1,rfl⟩
  | T=>exact .inr<|.inl ⟨xs,h1,rfl⟩
theorem mj(ha:PV X a f):PV X (.UnaryOp .USub a pos) (rX f):=
 j9 (Cq sk ha) λσ H Q z=>by obtain⟨H0,γ,d,rc,I,q⟩:=z;obtain⟨i,e1,O⟩:=zx I;obtain⟨S,U,e1⟩:=bind_some e1;subst O;refine⟨H0,γ,S,rc,U,λv H' H0' x r=>?_⟩;rw[jw e1]at r;exact⟨i,jh r,q _ H' H0' x rfl⟩
theorem QN(i:Nat)(h:SX X sc N L k)(c:wB sc N i x=true)(ha:PV X a f)(z:starEach [a] X.env=[(false,eval a X.env)]:=by rfl)
 (I:attributeBase (.Name x np) "append" X.env (eval (.Name x np) X.env)=eval (.Name x np) X.env:=by rfl)
 (O:((backTo cpos<|starEach [a] X.env).all (λx=> !x.1) && (backToKw cpos<|keywordEach [] X.env).all (λx=>x.1.isSome)
   && decide ([a].length+([]:List Keyword).length+(if ([]:List Keyword).isEmpty then 0 else 1)<30))=true:=by rfl)
 (S:(apos.endLine==cpos.line)=true:=by rfl) (U:swapsWith (.Call (.Attribute (.Name x np) "append" apos) [a] [] cpos) none pos.line X.env=pure false:=by rfl) :
 PSD X (.Expr (.Call (.Attribute (.Name x np) "append" apos) [a] [] cpos) pos) (qt i f):=
 Wz i (oZ MH PySem.F.slot_list_append PySem.F.type_list_append cC (h.var c) (zZ ha j1 z) I O S z rfl) U
theorem jt(i:Nat){st:Stmt}{f:CO (List D)}(h:PS X st (Wf (tO X.K f)<|ya i)):PSD X st (jk i<|jR f):=xI h λD σ H O=>by obtain⟨E0,E,H0,γ,Z,z,I,S⟩:=O;obtain⟨d,e1,I⟩:=zx I;obtain⟨ds,U,e1⟩:=zx e1;subst I e1;exact⟨H0,γ,ds,z.rc,U,λa xs H' H0' x h1 h2 Y r=>S _ _ _<|(z.step<|x.show h1 h2 Y z.rc.sub).setVal (Zn (SqL.of zD)<|r.mono<|z5 h2 _)⟩
theorem psc(i:Nat)(h:SX X sc N L k)(c:kX sc N L i y=true)
 (z:X.calm=true) (ok:CompOk X scope fr) (I : ∀i∈T.idx,i<own.length) (hi:PIC X tg iter src) (O : ∀fp s2 H2,PG (jn X scope (own++fr.map (·.1)) fp s2 H2) tg<|gOf X.K T)
 (S : ∀fp s2 H2,PV (jn X scope (own++fr.map (·.1)) fp s2 H2) elt f) (U : ∀x,foldedSetIterable iter X.env x=pure x:=by intro _;rfl) :
 PS X (.Assign [.Name y py] (.ListComp elt [⟨tg,iter,[],0⟩] scope cpos) spos) (Wf (tO X.K<|zH src T own.length (fr.map (·.2)) z6 f)<|ya i):=by
 obtain⟨h1,h2,Y⟩:=h.loc c;exact gS h.ndX h1 h2 Y z ok I hi O S U
theorem Cn(i:Nat)(h:SX X sc N L k)(c:kX sc N L i y=true)
 (z:X.calm=true) (ok:CompOk X scope fr) (I : ∀i∈T.idx,i<own.length) (hi:PIC X tg iter src) (O : ∀fp s2 H2,PG (jn X scope (own++fr.map (·.1)) fp s2 H2) tg<|gOf X.K T)
 (S : ∀fp s2 H2,PTD (jn X scope (own++fr.map (·.1)) fp s2 H2) cnd kk) (U : ∀fp s2 H2,PV (jn X scope (own++fr.map (·.1)) fp s2 H2) elt f) (Y : ∀x,foldedSetIterable iter X.env x=pure x:=by intro _;rfl) :
 PS X (.Assign [.Name y py] (.ListComp elt [⟨tg,iter,[cnd],0⟩] scope cpos) spos) (Wf (tO X.K<|zH src T own.length (fr.map (·.2)) kk f)<|ya i):=by
 obtain⟨h1,h2,Z⟩:=h.loc c;exact WA h.ndX h1 h2 Z z ok I hi O S U Y
theorem Zu(i:Nat)(h:SX X sc N L k)(c:wB sc N i x=true)(hi:PV X b g)(he:PV X e f)
 (ha : ∀v,assign (.Subscript (.Name x np) b p) X.env v=(do
   let I <- holding [v] (eval (.Name x np) X.env);let U <- holding [v,I] (eval b X.env)
   standAt p
   holding [v,I,U] (setItem I U v)
   release [v,I,U] []):=by intro _;rfl)
 (hs:swapsWithSole [.Subscript (.Name x np) b p] e pos.line X.env=pure false:=by rfl) (hw:swappedStores [.Subscript (.Name x np) b p] e X.env=pure none:=by rfl)
 (h1:(assignEach [.Subscript (.Name x np) b p] X.env).map (·.2)=[assign (.Subscript (.Name x np) b p) X.env]:=by rfl) :
 PSD X (.Assign [.Subscript (.Name x np) b p] e pos) (wo i g f):=
 xI (JI he (Vx (h.var c) hi wI ha) hs hw h1) λD σ H hZ=>by obtain⟨E0,E,H0,γ,fl,rs,z,a5⟩:=hZ;obtain⟨d,e1,z⟩:=bind_some z;obtain⟨ds,O,z⟩:=bind_some z;obtain⟨kk,Y,z⟩:=bind_some z;obtain⟨dk,e4,Y⟩:=bind_some Y;obtain⟨j,e5,z⟩:=zx z;subst z;have O:=xS O;refine⟨H0,γ,d,rs.rc,e1,λv H' H0' x r=>?_⟩;have Z:=rs.step x;obtain⟨a,xs,h1,h2,h3,h4⟩:=Z.rc.own i ds O;refine⟨_,h1,H0',γ,dk,Z.rc,e4,λv2 H2 ac S r2=>?_⟩;rw[jw Y]at r2;have ad:=Z.step S;refine⟨a,xs,kk,j,rfl,jh r2,S.s1 _ _ h3,by rw[h4.length];exact ZJ e5,?_⟩;exact a5 _ _ ac<|ad.rewrite (xs:=xs) O h1<|(h4.mono S.s0).set j (r.mono S.s0)
theorem gM(O:PG X tg (gOf X.K T))(S:PV X e f)(U:swapsWithSole [tg] e pos.line X.env=pure false:=by rfl)(hw:swappedStores [tg] e X.env=pure none:=by rfl)
 (h1:(assignEach [tg] X.env).map (·.2)=[assign tg X.env]:=by rfl):PSD X (.Assign [tg] e pos) (gr T f):=
 xI (JI S O U hw h1) λD σ H Y=>by obtain⟨E0,E,H0,γ,fl,I,z,Z⟩:=Y;obtain⟨d,e1,z⟩:=bind_some z;obtain⟨γ1,e2,z⟩:=zx z;subst z;refine⟨H0,γ,d,I.rc,e1,λv H' H0' x r=>?_⟩;exact vj x.sub r e2 λσ1 _ a2=>Z σ1 H' H0'<|a2 E0 E<|I.step x
end
structure FnD(P:Program)(w:World)(K:FY)(mg:RJ)(base:Heap)(k:Nat)(x:Str)(n:Nat)(F:List D->Option Res):Prop where
 ex : ∃(f:Addr) (fd:FuncData) (ps:List Str),ps.length=n/\FnOk P w K mg base CX0 k f fd ps (spF K ps.length F)/\mg x=some (.ref f)/\Hh K (.ref f)=true/\Binds K fd ps []
structure DefAt(K:FY)(mg:RJ)(x:Str)(st:Stmt)(ps:List Str):Prop where
 ex : ∃(f:Addr) (fd:FuncData),L2.Fun K x x st f fd/\(∀us:List Value,us.length=ps.length->bindArgs fd ⟨us,[]⟩=pure (ps.zip us))/\mg x=some (.ref f)
def PAn(X:Cx)(es:List Expr)(n:Nat)(g:CO (List D)):Prop:=PAD X es g/\∀γ ds,g γ=some ds->ds.length=n
section
variable{X:Cx}{sc:Scope}{N L:List Str}{k:Nat}{e:Expr}{es:List Expr}{f:CO D}{g:CO (List D)}{n:Nat}{pos p:Pos}{x:Str}
theorem zg:PAn X [] 0 zF:=⟨pd,λγ ds h=>by cases h;rfl⟩
theorem za(ha:PV X e f)(z:PAn X es n g)(I:starEach (e::es) X.env=(false,eval e X.env)::starEach es X.env:=by rfl):PAn X (e::es) (n+1) (zb f g):=
 ⟨hV ha z.1 I,λγ ds h=>by obtain⟨y,e1,h⟩:=bind_some h;obtain⟨r,O,h⟩:=zx h;subst h;rw[GJ,z.2 γ r O]⟩
variable{j:Nat}{F:List D->Option Res}
theorem Cm(z:FnD X.prog X.w X.K X.mg X.base j x n F)(I:j<=k)(h:SX X sc N L k)(c:yD sc x=true)(ha:PAn X (e::es) n g)
 (O:starEach (e::es) X.env=(false,eval e X.env)::starEach es X.env:=by rfl) (S:(backTo pos<|starEach es X.env).any (·.1)=false:=by rfl):PV X (.Call (.Name x p) (e::es) [] pos) (zG F g):=by
 obtain⟨fa,fd,ps,hn,G,hm,U,Y⟩:=z.ex;subst hn;exact oB (A0:=[]) G ha.1 ha.2 λ{t} Z=>Zx G (h.room.mono I) (h.gl c).1 hm U Y .nil Kb Z (h.gl c).2.2 O S
theorem Cp(z:FnD X.prog X.w X.K X.mg X.base j x n F)(I:j<=k)(h:SX X sc N L k)(c:yD sc x=true)(ha:PAn X (e::es) n g)
 (O:starEach (e::es) X.env=(false,eval e X.env)::starEach es X.env:=by rfl) (S:(backTo pos<|starEach es X.env).any (·.1)=false:=by rfl):PO X (.Call (.Name x p) (e::es) [] pos) (jE F g):=by
 obtain⟨fa,fd,ps,hn,G,hm,U,Y⟩:=z.ex;subst hn;exact oQ G ha.1 ha.2 λ{t} Z=>Zx G (h.room.mono I) (h.gl c).1 hm U Y .nil Kb Z (h.gl c).2.2 O S
end
section
variable{P:Program}{w:World}{K:FY}{mg:RJ}{base:Heap}
def YL(N ps:List Str)(st:Stmt):Bool:=
 decide ((defScope st).kind = .function) && decide ((defScope st).isCoroutine=false) && decide ((defScope st).isGenerator=false) && decide N.Nodup && decide (N.take ps.length=ps) &&
 ps.all (λx=>decide ((defScope st).names.lookup x=some .local) || decide ((defScope st).names.lookup x=some .cell)) && (defScope st).names.all (λy=> !(y.2==GY))
theorem yN{N ps:List Str}{st:Stmt}(h:YL N ps st=true):FnScope N ps (defScope st):=by unfold YL at h;simp only[Gs,decide_eq_true_eq,Ld,Ia,IX]at h;obtain⟨⟨⟨⟨⟨⟨h1,h2⟩,z⟩,I⟩,O⟩,S⟩,U⟩:=h;exact⟨h1,h2,z,I,O,S,λy Y e=>by have:=U y Y;rw[e]at this;exact absurd this ⋯⟩
theorem bU{X:Cx}(hx:X.xe=λ_ _=>False):PassesOwn (model X.prog X.w) X.A X.env X.xe:=by rw[hx];exact PassesOwn.never
theorem xQ{x:Str}{st:Stmt}{N ps:List Str}{k:Nat}{F:CO Fl}(A:DefAt K mg x st ps)(hd:YL N ps st=true)
 (I : ∀X:Cx,X.prog=P->X.w=w->X.K=K->X.mg=mg->X.base=base->SX X (defScope st) N N k->X.xe=(λ_ _=>False)->ff X (defBody st) F) :
 FnD P w K mg base (k+1) x ps.length (js N.length F):=by
 obtain⟨f,fd,z,O,hm⟩:=A.ex;have S:=yN hd;refine⟨f,fd,ps,rfl,Au z S λcdv A outer s H E U=>?_,hm,z.kp,.all O⟩;exact I _ rfl rfl rfl rfl rfl ⟨rfl,rfl,S.nd,rfl,U,λ_ _=> .inl rfl⟩ rfl
theorem def_mk{h:Heap}{x:Str}{st:Stmt}{ps:List Str}{f:Addr}{oc:Value}{od an:Option Addr}{osl:Array (Option Value)}{kV doc pm cdv ct:Value}(z:K.In h)(G:h.Ns mainGlobals mg)
 (a:Ml K mainGlobals x=some (some (.ref f))) (l:K.lookup f=some ⟨oc,od,.func<|Ij x x (defArgs st) (defBody st) (defScope st) .none kV doc pm an cdv ct,osl⟩)
 (c:Lu K cdv x=true) (kp:Hh K (.ref f)=true)
 (b : ∀(kV doc pm:Value) (an:Option Addr) (cdv ct:Value) (us:List Value),us.length=ps.length->bindArgs (Ij x x (defArgs st) (defBody st) (defScope st) .none kV doc pm an cdv ct) ⟨us,[]⟩=pure (ps.zip us)):DefAt K mg x st ps:=
 ⟨f,_,VU l c kp,b kV doc pm an cdv ct,Nr z G a⟩
theorem CZ{x:Str}{st:Stmt}{f:Addr}{fd:FuncData}{N ps:List Str}{k:Nat}{F:CO Fl}(z:L2.Fun K x x st f fd)(hd:YL N ps st=true)
 (I : ∀X:Cx,X.prog=P->X.w=w->X.K=K->X.mg=mg->X.base=base->SX X (defScope st) N N k->X.xe=(λ_ _=>False)->ff X (defBody st) F) :
 FnOk P w K mg base CX0 (k+1) f fd ps (spF K ps.length<|js N.length F):=by
 have S:=yN hd;exact Au z S λcdv A outer s H E O=>I _ rfl rfl rfl rfl rfl ⟨rfl,rfl,S.nd,rfl,O,λ_ _=> .inl rfl⟩ rfl
theorem law_true{F:List D->Option Res}{H:Hp}{a:Addr}{ns:List Int}(z:SqL K H a (ns.map V.int))(I:F [.lst (ns.map D.int)]=some (.val<|.bl true)) :
 spF K 1 F [.ref a] H (λv _=>v = .bl true) λ_ _ _=>False:=by
 refine⟨H,[.lst (ns.map D.int)],.val<|.bl true,Same.refl _,Reps.cons (Zn z ?_) Reps.nil,rfl,I,λv H' H0' _ r=>r⟩;clear I z
 induction ns with
 | nil=>exact Reps.nil
 | cons n ns O=>exact Reps.cons rfl O
end
end DL
namespace DL
open PySem PySem.Spec PyProof.Rows L2
open PySem.W (KasT kas_sort kas_ask kat_run kat_snds kat_lt kat_cons kat_no kat_kind KatTups KatGo)
def AY(h:Heap)(v:Value)(k:Int):Prop:=∃x o xs m t,v = .ref x/\h.get? x=some o/\o.cls = .type "tuple"/\o.data = .seq xs m/\xs[0]? = some (.int k t)
theorem mJ : ∀{vs:List Value} {ks:Nat->Int},(∀i (hi:i<vs.length),AY h vs[i] (ks i))->∃fs,KatTups h vs fs/\fs.length=vs.length/\∀f∈fs,∃k t,f=MZ k t
 | [],ks,_=>⟨[],KatTups.nil,rfl,λf z=>by cases z⟩
 | v::vs,ks,H=>by
  obtain⟨fs,h1,h2,I⟩:=mJ (vs:=vs) (ks:=λi=>ks<|i+1) λi hi=>H (i+1) (by simpa using hi);obtain⟨x,o,xs,m,t,e1,O,S,U,Y⟩:=H 0 ⋯;have e1:v = .ref x:=e1;subst e1;exact⟨.int (ks 0) t::fs,KatTups.cons O S U Y h1,by simp[h2],λf z=>by
   rcases Gr.mp z with rfl | z
   ·exact⟨_,_,rfl⟩
   ·exact I f z⟩
end DL
namespace DL
open PySem PySem.Spec PyProof.Rows L2
open AutoSeq1 (wpAny_loadPart')
theorem wD:fillsNumberSlot (.type "tuple") "mul" = pure false:=
 PySem.fillsNumberSlot_seq (id:="tuple.__mul__") (r:=some (.builtin "tuple.__rmul__")) Mj.lookup ⋯ F.slot_tuple_rmul.lookup ⋯
theorem X4:seqRepeat? (.type "tuple")=pure (some (.builtin "tuple.__mul__")):=by unfold seqRepeat?;rw[PySem.seqSlot_of (T:="tuple") (name:="__mul__") (id:="tuple.__mul__") Mj.lookup ⋯,PySem.seqSlot_of (T:="tuple") (name:="__rmul__") (id:="tuple.__rmul__") F.slot_tuple_rmul.lookup ⋯];rfl
theorem Jq(a:Int)(t:Tok)(l:Addr)(items:Array Value)(n:Nat)(z:Option Addr)(sl:Array (Option Value)) :
 Meets (Builtin.«int.__rmul__» ⟨[.int a t,.ref l],[]⟩) (λ_ R s=>s.heap.get? l=some {cls:= .type "tuple",dict:=z,data:= .seq items n,slots:=sl}/\R (.ok (.ret Value.notImplemented)) s):=
 .of_wp λprog w A R s h=>by obtain⟨I,g,d,tk,os⟩:=s;obtain⟨O,h⟩:=h;wp_walk;exact⟨_,rfl,h⟩
theorem J9(a:Int)(t:Tok)(l:Addr)(items:Array Value)(n:Nat)(I:Option Addr)(sl:Array (Option Value))(h1 : ¬(decide (a < -(2 ^ 63)) || decide (a>=2 ^ 63))=true)(h2 : ¬(items.isEmpty || a==1)=true)
 (O : ¬(decide (a<=0) || items.isEmpty)=true) (S : ¬((items.size:Int)*a>(2 ^ 63 - 1)/8)) (U : ¬Builtin.Tuple.tupleTooMany ((items.size:Int)*a)=true) (Y:((Ge a.toNat items).foldl (· ++ ·) #[]).size<=sizeLine) :
 Meets (Builtin.«tuple.__mul__» ⟨[.ref l,.int a t],[]⟩) (λ_ R s=>s.heap.get? l=some {cls:= .type "tuple",dict:=I,data:= .seq items n,slots:=sl}/\
  R (.ok (.ret (.ref s.heap.objs.size))) {s with heap:=s.heap.push {cls:= .type "tuple",data:= .seq ((Ge a.toNat items).foldl (· ++ ·) #[])}}):=
 .of_wp λprog w A R s h=>by
  obtain⟨Z,g,d,tk,os⟩:=s;obtain⟨z,h⟩:=h
  wp_walk using IM z
  rw[EQ h1];refine FZ<|Nh (s:=⟨Z,g,d,tk,os⟩) ⟨_,z,rfl,n,rfl⟩ ?_;dsimp only;rw[EQ h2,EQ O,EQ S,EQ U];refine FZ (m:=Iq _)<|HZ ?_ Y;exact Gf ⟨_,rfl,h⟩
theorem Jj(a:Int)(t:Tok)(l:Addr)(items:Array Value)(n:Nat)(I:Option Addr)(sl:Array (Option Value))(h1 : ¬(decide (a < -(2 ^ 63)) || decide (a>=2 ^ 63))=true)(h2 : ¬(items.isEmpty || a==1)=true)
 (O:(decide (a<=0) || items.isEmpty)=true) :
 Meets (Builtin.«tuple.__mul__» ⟨[.ref l,.int a t],[]⟩) (λ_ R s=>s.heap.get? l=some {cls:= .type "tuple",dict:=I,data:= .seq items n,slots:=sl}/\
  R (.ok (.ret (.ref s.heap.objs.size))) {s with heap:=s.heap.push {cls:= .type "tuple",data:= .seq #[]}}):=
 .of_wp λprog w A R s h=>by
  obtain⟨S,g,d,tk,os⟩:=s;obtain⟨z,h⟩:=h
  wp_walk using IM z
  rw[EQ h1];refine FZ<|Nh (s:=⟨S,g,d,tk,os⟩) ⟨_,z,rfl,n,rfl⟩ ?_;dsimp only;rw[EQ h2,RY O];refine FZ (m:=Iq _)<|HZ ?_ (HN _);exact Gf ⟨_,rfl,h⟩
theorem Ji(a:Int)(t:Tok)(l:Addr)(items:Array Value)(n:Nat)(I:Option Addr)(sl:Array (Option Value))(h1 : ¬(decide (a < -(2 ^ 63)) || decide (a>=2 ^ 63))=true)(h2:(items.isEmpty || a==1)=true) :
 Meets (Builtin.«tuple.__mul__» ⟨[.ref l,.int a t],[]⟩) (λ_ R s=>s.heap.get? l=some {cls:= .type "tuple",dict:=I,data:= .seq items n,slots:=sl}/\R (.ok (.ret (.ref l))) s):=
 .of_wp λprog w A R s h=>by
  obtain⟨O,g,d,tk,os⟩:=s;obtain⟨z,h⟩:=h
  wp_walk using IM z
  rw[EQ h1];refine FZ (Nh (s:=⟨O,g,d,tk,os⟩) ⟨_,z,rfl,n,rfl⟩ ?_);dsimp only;rw[RY h2];refine FZ (m:=Le _) ?_;unfold Le;refine FZ (LQ (T:="tuple") ⟨_,z,rfl⟩ (Gf ?_));rw[RY ⋯];exact FZ (LR (Gf ⟨_,rfl,h⟩))
section
variable{X:Cx}
def tH(K:FY):R2:=λx y H Q=>∃l k xs,x = .ref l/\y = .int k/\SqT K H l xs/\ -(2 ^ 62)<=k/\k<2 ^ 62/\xs.length*k.toNat<=sizeLine/\(xs=[]\/k=1->Q (.ref l) H)/\
 ∀p,H p=none->Q (.ref p) (upd H p<|.tup (Ge k.toNat xs).flatten)
theorem pe:OpR X (binaryOp .Mult) (tH X.K):=by
 intro pins s σ H x y v u Q I rx ry h;obtain⟨l,k,xs,rfl,rfl,hq,h1,h2,hz,q1,q2⟩:=h;cases rx;obtain⟨t,rfl⟩:=ry;obtain⟨z,r,ht,z1⟩:=I.tuple hq;obtain⟨⟨cls,Y,data,sl⟩,O,hc,n,hd⟩:=id ht;simp only at hc hd;subst hc hd;have al:=r.length;have Z : ¬(decide (k < -(2 ^ 63)) || decide (k>=2 ^ 63))=true:=by simp;omega
 refine wpAny_binaryOp_repeat_ref (T:="tuple") (U:="int") ⋯ ⟨_,O,rfl⟩ (λs'=>Oe s' k t) wD F.fills_int_mul Nw X4 F.slot_int_index.lookup
  (LS Nw (Oe s k t) F.entry_int_rmul (F.args_int_rmul_2 _ _) (Jq k t l z.toArray n Y sl) ⟨O,rfl,⟨_,O,rfl⟩,?_⟩)
 have f0 : ∀m:Nat,NQ (λx1 x2=>x1++x2) #[] (Ge m z.toArray)=(Ge m z).flatten.toArray:=λm=>by have:=ZP z m [];rw[LM]at this;exact this
 by_cases g2:(z.toArray.isEmpty || k==1)=true
 ·refine LS Mj ⟨_,O,rfl⟩ Oc (NU _ _) (Ji k t l z.toArray n Y sl Z g2) ⟨O,⟨.ref l,H,I,rfl,q1 ?_⟩⟩
  rw[Ia]at g2;rcases g2 with g | g
  ·left
   have:z=[]:=by simpa using g
   exact(r.nil_iff).mp this
  ·right;simpa using g
 ·have a1:=g2
  simp only[Ia,not_or]at a1;have am:z ≠ []:=by intro e;exact a1.1 (by rw[e];rfl)
  have ap:0<z.length:=List.length_pos_iff.mpr am;by_cases S:(decide (k<=0) || z.toArray.isEmpty)=true
  ·have hk:k.toNat=0:=by
    rw[Ia]at S;rcases S with g | g
    ·have:=of_decide_eq_true g;omega
    ·exact absurd g a1.1
   refine LS Mj ⟨_,O,rfl⟩ Oc (NU _ _) (Jj k t l z.toArray n Y sl Z g2 S) ⟨O,?_⟩;refine⟨.ref s.heap.objs.size,_,I.laid (t':=s.toks) (o:= .tup (Ge k.toNat xs).flatten) (λc ob q=>Gb _ q) (Gh _) ?_,rfl,q2 _<|I.hok.fresh<|Gh _⟩;rw[hk];exact⟨HN _,[],.nil,IsTupD.new _ _⟩
  ·have hk : ¬k<=0:=by intro g;exact S (by rw[Ia];exact .inl<|decide_eq_true g)
   have hsz:z.length*k.toNat<=sizeLine:=by rw[<- al];exact hz
   have ar:((z.toArray.size:Nat):Int)*k<=(sizeLine:Int):=by
    rw[Gp];have e:((z.length*k.toNat:Nat):Int)=(z.length:Int)*k:=by rw[Int.natCast_mul,LD ⋯]
    omega
   have as:sizeLine=16777216:=LP;have an:(NQ (λx1 x2=>x1++x2) #[] (Ge k.toNat z.toArray)).size<=sizeLine:=by rw[f0,Gp,Yx,Nj];exact hsz
   refine LS Mj ⟨_,O,rfl⟩ Oc (NU _ _) (J9 k t l z.toArray n Y sl Z g2 S ⋯ (by unfold Builtin.Tuple.tupleTooMany;simp only[decide_eq_true_eq];omega) an) ⟨O,?_⟩;rw[f0];refine⟨.ref s.heap.objs.size,_,I.laid (t':=s.toks) (o:= .tup (Ge k.toNat xs).flatten) (λc ob q=>Gb _ q) (Gh _) ?_,rfl,q2 _<|I.hok.fresh<|Gh _⟩;exact⟨by rw[Yx,Nj];exact hz,_,r.rep k.toNat,IsTupD.new _ _⟩
theorem nU{K:FY}:Snd K (λx y H Q=>rI CMul (λi j=> .int (i*j)) x y H Q\/tH K x y H Q) qm:=λH0 H x y dx Y d Q s O S z q=>by
 cases dx<;>cases Y<;>simp[qm]at z
 ·obtain⟨e1,I⟩:=z
  subst I;exact .inl ⟨_,_,jh O,jh S,lD e1,q _ H H0 (Ext.refl s) rfl⟩
 ·rename_i ds j
  obtain⟨⟨Z,hj⟩,rfl⟩:=z;obtain⟨a,xs,rfl,h1,h2⟩:=xW O;obtain⟨q1,q2⟩:=ZM hj;refine .inr ⟨a,j,xs,rfl,jh S,sameT s h1,q1,q2,kF (by rw[h2.length];exact Z),λe=>?_,λp U=>?_⟩
  ·refine q _ H H0 (Ext.refl s) ?_
   rcases e with e | e
   ·have I:ds=[]:=by
     have:=h2.length;rw[e]at this;exact Hq this.symm
    subst I;rw[show(Ge j.toNat ([]:List D)).flatten=[]by simp];exact qY h1 h2
   ·subst e
    rw[show(Ge (1:Int).toNat ds).flatten=ds by simp];exact qY h1 h2
  ·exact q _ _ _ (Ext.alloc s U _)<|qY (SqT.of zD)<|(QI h2 _).mono (z5 (ji s U) _)
theorem jT(ha:PV X a fa)(z:PV X b fb):PV X (.BinOp a .Mult b pos) (zv qm fa fb):=JE (op_mul.or pe) nU ha z
end
end DL
namespace DL
open PySem PySem.Spec PyProof.Rows L2
theorem RC.lendAt{K:FY}{H0 H:Hp}{σ:St}{γ:Ctx}{i:Nat}{ds:List D}{a:Addr}{xs:List V}(r:RC K H0 H σ γ)(e:γ[i]? = some (.own ds))(h1:σ[i]? = some (some (.ref a)))(h2:H0 a=none)(h3:H a=some (.lst xs))(h4:Reps K H0 ds xs):RC K (L2.upd H0 a<|.lst xs) H σ (γ.set i<|.val<|.lst ds):=by
 refine⟨λb o q=>?_,by simp[r.len],λj d g=>?_,λj es g=>?_,λj k b es fs e1 I e3 e4=>?_,⟨λj rows g=>?_,λj k r1 r2 e1 I=>?_⟩⟩
 ·by_cases z:b=a
  ·subst z;rw[zD]at q;rw[h3];exact q
  ·rw[zB z]at q;exact r.sub b o q
 ·rcases zA g with⟨rfl,z,hl⟩ | ⟨O,z⟩
  ·cases z;exact⟨_,h1,Zn (SqL.of zD)<|h4.mono<|z5 h2 _⟩
  ·obtain⟨v,S,g2⟩:=r.val j d z
   exact⟨v,S,g2.mono<|z5 h2 _⟩
 ·rcases zA g with⟨_,z,_⟩ | ⟨O,z⟩
  ·cases z
  ·obtain⟨b,ys,S,g2,g3,g4⟩:=r.own j es z
   refine⟨b,ys,S,?_,g3,g4.mono<|z5 h2 _⟩;rw[zB (λq=>O<|r.ne j i a es ds z e (by rw[S,q]) h1)];exact g2
 ·rcases zA e1 with⟨_,z,_⟩ | ⟨O,z1⟩
  ·cases z
  ·rcases zA I with⟨_,z,_⟩ | ⟨hk,z2⟩
   ·cases z
   ·exact r.ne j k b es fs z1 z2 e3 e4
 ·rcases zA g with⟨_,z,_⟩ | ⟨O,z⟩
  ·cases z
  ·obtain⟨b,bs,f1,Y,Z⟩:=r.nst.1 j rows z
   have a8:=Z i ds a e h1;refine⟨b,bs,f1,Y.move (z5 h2 _) (λc U=>by rw[zB (λq=>a8<|by rw[<- q];exact U)];exact(Y.at U).1)<|λc U=>rfl,λk fs c e1 I=>?_⟩;rcases zA e1 with⟨_,z,_⟩ | ⟨_,z1⟩
   ·cases z
   ·exact Z k fs c z1 I
 ·rcases zA e1 with⟨_,z,_⟩ | ⟨_,z1⟩
  ·cases z
  ·rcases zA I with⟨_,z,_⟩ | ⟨_,z2⟩
   ·cases z
   ·exact r.nst.2 j k r1 r2 z1 z2
end DL
namespace L2
open PySem PySem.Spec PyProof.Rows
open AutoSeq1 (wpAny_loadPart')
section
variable{prog:Program}{w:World}{A:Around}{E:RQ}{s:Shared}
theorem W6{z it l:Addr}{n:Nat}{xs:Array Value}{x S:Value}{Q:RQ}(hz:IsEnum s.heap z it n S)(h1:ItAt .T s.heap it l n)(hl:SqAt .T s.heap l xs)(hx:xs[n]? = some x)(Z:z≠it)
 (hQ : ∀g,IsEnumOut g z it ((n:Int)+1) x s.heap.objs.size->ItAt .T g it l (n+1)->IsPair g s.heap.objs.size (.int n s.toks) x->g.objs.size=s.heap.objs.size+1->
   (∀c o,c≠z->c≠it->s.heap.get? c=some o->g.get? c=some o)->Q (.ref s.heap.objs.size) {s with heap:=g,toks:=s.toks+1}) :
 wpAny (model prog w) A (Builtin.«enumerate.__next__» ⟨[.ref z],[]⟩) (λbb s'=>∃v,bb = .done (.ret v)/\Q v s') E s:=by
 refine FZ (m:=field (.ref z) 2) (HI hz rfl (x:= .ref it) rfl ?_);refine FZ (m:=Ha (.ref it)) (yX h1 hl hx λg1 bd a4=>?_);have a5:IsEnum g1 z it n S:=a4.extBut _ _ Z hz;refine FZ (m:=field (.ref z) 3) (HI a5 rfl (x:=rawInt n) rfl ?_);refine FZ (m:=field (.ref z) 4) (HI a5 rfl (x:= .none) rfl ?_);refine FZ (m:=mkInt n) (wpAny_mkInt ?_);refine FZ (m:=setField (.ref z) 3 (rawInt ((n:Int)+1))) (Ib a5 ⋯ λg2 a6 a7=>?_);replace a6:IsEnum g2 z it ((n:Int)+1) S:=a6;refine FZ (m:=setField (.ref z) 4 .none) (Ib a6 ⋯ λU a8 a9=>?_);replace a8:IsEnum U z it ((n:Int)+1) S:=a8;refine FZ (m:=newTuple [.int n s.toks,x]) (wpAny_newTuple ?_);have a0:IsEnum (U.push {cls:= .type "tuple",data:= .seq #[.int n s.toks,x]}) z it ((n:Int)+1) S:=Gb _ a8;generalize a1:U.push {cls:= .type "tuple",data:= .seq #[.int n s.toks,x]}=O at a0;have y1:g1.objs.size=s.heap.objs.size:=a4.1;have y2:g2.objs.size=g1.objs.size:=a7.1;have y3:U.objs.size=g2.objs.size:=a9.1;have hsz:U.objs.size=s.heap.objs.size:=by rw[y3,y2,y1]
 have bi:z<s.heap.objs.size:=GE hz;have bl:IsPair O s.heap.objs.size (.int n s.toks) x:=by show O.get? _=_;rw[<- a1,<- hsz];exact Gv _ rfl
 have y4:O.objs.size=s.heap.objs.size+1:=by rw[<- a1,Hi,hsz]
 have bn : ∀c o,c≠z->c≠it->s.heap.get? c=some o->O.get? c=some o:=λc o I c2 e=>by rw[<- a1];exact Gb _<|a9.extBut _ _ I<|a7.extBut _ _ I<|a4.extBut _ _ c2 e
 have bv:ItAt .T O it l (n+1):=bd.at λo e=>by rw[<- a1];exact Gb _<|a9.extBut _ _ Z.symm<|a7.extBut _ _ Z.symm e
 refine FZ (m:=Hz<|.ref z) ?_;unfold Hz;refine FZ<|HI a0 rfl (x:= .none) rfl<|Gf ?_;simp only[if_true];refine FZ<|LR<|FZ<|HI a0 rfl (x:=S) rfl ?_;refine FZ<|Ib a0 ⋯ λg5 al ar=>?_;replace al:IsEnum g5 z it ((n:Int)+1) x:=al;rw[hsz];refine FZ (m:=Iu (.ref z)<|.ref s.heap.objs.size) ?_;unfold Iu;refine FZ<|Ib al ⋯ λg6 am as=>?_;replace am:IsEnumOut g6 z it ((n:Int)+1) x s.heap.objs.size:=am;refine Ib am ⋯ λY an ax=>?_;replace an:IsEnumOut Y z it ((n:Int)+1) x s.heap.objs.size:=an;have up : ∀c o,c≠z->O.get? c=some o->Y.get? c=some o:=λc o I e=>ax.extBut _ _ I<|as.extBut _ _ I<|ar.extBut _ _ I e;have y7:Y.objs.size=s.heap.objs.size+1:=by have q5:g5.objs.size=O.objs.size:=ar.1;have q6:g6.objs.size=g5.objs.size:=as.1;have q7:Y.objs.size=g6.objs.size:=ax.1;rw[q7,q6,q5,y4]
 exact FZ<|Ng<|Gf ⟨_,rfl,hQ Y an (bv.at λo e=>up _ o Z.symm e) (up _ _ (II bi) bl) y7 λc o I c2 e=>up c o I<|bn c o I c2 e⟩
theorem dF{z it l:Addr}{n:Nat}{xs:Array Value}{I:Value}{Q:Fin->Shared->Prop}(O:A.handled=none)(S:IsEnum s.heap z it n I)(h1:ItAt .T s.heap it l n)(U:SqAt .T s.heap l xs)(hx:xs[n]? = none)
 (Y : ∀g e,Heap.ExtBut it s.heap g->(∃o,g.get? e=some o/\o.cls = .type "StopIteration")->E (.ref e) {s with heap:=g}) :
 wpAny (model prog w) A (Builtin.«enumerate.__next__» ⟨[.ref z],[]⟩) Q E s:=
 FZ (m:=field (.ref z) 2) (HI S rfl (x:= .ref it) rfl<|FZ (m:=Ha<|.ref it)<|QV O h1 U hx Y)
end
def pY(i:Addr):Obj:={cls:= .type "enumerate",data:= .fields #[.none,.bool false,.ref i,rawInt 0,.none,.none]}
def ZR(h:Heap)(l:Addr):Heap:=HC (HC h<|itO .T l)<|pY h.objs.size
theorem dE(l:Addr)(xs:Array Value) :
 Meets (Builtin.«enumerate.__new__» ⟨[.type "enumerate",.ref l],[]⟩) (λ_ R s=>SqAt .T s.heap l xs/\R (.ok (.ret (.ref (s.heap.objs.size+1)))) {s with heap:=ZR s.heap l}):=
 .of_wp λprog w A R s h=>by
  obtain⟨S,g,d,tk,os⟩:=s;obtain⟨U,h⟩:=h;have Y:=sub_enumerate;have z:Heap.IsTuple (Shared.heap ⟨S,g,d,tk,os⟩) l xs:=U;obtain⟨o,I,O,m,hd⟩:=id z;obtain⟨cls,dct,Z,sl⟩:=o;simp only at O hd;subst O hd;simp only[ZR,pY,itO,Hi]at h
  wp_walk using IM I
  refine wpAny_stack_any λst=>Gf ?_;split
  ·rename_i c _ _ _ _ _
   cases (c==LU "enumerate")<;>(wp_walk using IM I,MO z;exact⟨_,rfl,by simpa[Hi,Ms]using h⟩)
  ·wp_walk using IM I,MO z
   exact⟨_,rfl,by simpa[Hi,Ms]using h⟩
def Ite(K:FY)(a:Addr):It:=
 ⟨λi H=>∃xs,SqK .T K H a xs/\i<xs.length,
  λi H x H'=>∃p u,x = .ref p/\H p=none/\H'=upd H p (.tup [.int i,u])/\(∀xs,SqK .T K H a xs->xs[i]? = some u),
  λi H=>∃xs,SqK .T K H a xs/\xs.length<=i⟩
theorem vd(S:IsEnum s.heap z it n old)(h:Q (.ref z) s):wpAny (model prog w) A (pyIter (.ref z)) Q E s:=by have I:s.TypeIs (.ref z) "enumerate":=⟨_,S,rfl⟩;refine wpAny_pyIter_slot I F.slot_enumerate_iter (HY F.slot_enumerate_iter I F.entry_enumerate_iter ?_ (F.args_enumerate_iter_1 _));have O:wpAny (model prog w) A.in1 (ret (.ref z)) (λO s'=>∃v,O = .done (.ret v)/\∃T m,s'.TypeIs v T/\typeLookup (.type T) "__next__" = pure (some m)/\Q v s') E s:=Gf ⟨_,rfl,"enumerate",_,I,Lv.lookup,h⟩;exact O
theorem aC{P:Program}{w:World}{K:FY}{elts:List Expr}{x1:Nat}{tpos:Pos}{z it a:Addr}(al:z≠it) :
 Turn P w K (.Tuple elts x1 tpos) (Ite K a) [z,it] z (λi h=>(∃Y,IsEnum h z it i Y)/\ItAt .T h it a i) where
 mem:=by simp
 obj:=λi h ⟨⟨Y,O⟩,h1⟩ y hy=>by
  simp only[Gr,Hd,or_false]at hy;rcases hy with rfl | rfl
  ·exact⟨_,O,λv q=>by cases q⟩
  ·exact h1.obj
 keep:=λi h h' ⟨⟨Y,O⟩,h1⟩ k=>⟨⟨Y,k z ⋯ _ O⟩,h1.at λo e=>k it ⋯ o e⟩
 item:=by
  rintro X hP hw hK hc i pins s σ H E I hf ⟨⟨Y,O⟩,h1⟩ ⟨xs,a6,ap⟩;subst hP hw hK;obtain⟨ar,a9,p1,z1⟩:=I.sq a6;have hx:xs[i]? = some xs[i]:=Gd ap;obtain⟨u1,as,ax⟩:=a9.get hx;have Z:s.TypeIs (.ref z) "enumerate":=⟨_,O,rfl⟩;unfold pyNext;refine FZ (LZ (HJ (name:=Ho "__next__") Z Lv (HY Lv Z F.entry_enumerate_next
   (W6 O h1 p1 (x:=u1) (by simpa using as) al λg a1 a2 a3 a4 a5=>Gf ⟨_,rfl,?_⟩) (F.args_enumerate_next_1 _))))
  refine wpAny_letOwnedTupleGo_enum a1 λg2 be ad=>?_;have lt : ∀{c o},s.heap.get? c=some o->s.heap.objs.size≠c:=λe=>II<|GE e;have bf:IsPair g2 s.heap.objs.size (.int i s.toks) u1:=ad.extBut _ _ (lt O) a3;have kk : ∀U u,U ∉ [z,it]->s.heap.get? U=some u->g2.get? U=some u:=λU u S e=>by simp only[Gr,Hd,or_false,not_or]at S;exact ad.extBut _ _ S.1<|a5 U u S.1 S.2 e
  have I1:Inv X pins σ (upd H s.heap.objs.size<|.tup [.int i,xs[i]]) {s with heap:=g2,toks:=s.toks+1}:=
   I.turnLaid (fp:=[z,it]) kk hf (Gh _) ⟨by show 2<=sizeLine;decide,[.int i s.toks,u1],.cons ⟨_,rfl⟩<|.cons ax .nil,⟨_,bf,rfl,_,rfl⟩⟩
  have bi:H s.heap.objs.size=none:=I.fresh;refine⟨.ref s.heap.objs.size,_,I1,rfl,⟨_,_,rfl,bi,rfl,λc2 bl=>by rw[I.sq_inj bl a6];exact hx⟩,?_,λU S=>?_⟩
  ·exact⟨⟨_,by have:=be;rwa [show((i:Int)+1)=((i+1:Nat):Int)by omega]at this⟩,a2.at λo e=>ad.extBut _ _ al.symm e⟩
  ·have bm:U≠s.heap.objs.size:=by
    simp only[Gr,Hd,or_false]at S;rcases S with rfl | rfl
    ·exact(lt O).symm
    ·obtain⟨o,e,_⟩:=h1.obj;exact(lt e).symm
   rw[zB bm];exact(hf U S).1
 done:=by
  rintro X hP hw hK hc i pins s σ H E I hf ⟨⟨Y,O⟩,h1⟩ ⟨xs,a6,hi⟩;subst hP hw hK;obtain⟨ar,a9,p1,z1⟩:=I.sq a6;have Z:s.TypeIs (.ref z) "enumerate":=⟨_,O,rfl⟩;have l1:=a9.length;unfold pyNext;refine FZ (LZ (HJ (name:=Ho "__next__") Z Lv (HY Lv Z F.entry_enumerate_next
   (dF (show X.A.handled=none from I.ok.hd hc) O h1 p1 (by simp;omega) λg e hk he=>?_) (F.args_enumerate_next_1 _))))
  obtain⟨o,ho,c0⟩:=he;refine FZ (Nm (T:="StopIteration") (b:=true) ⟨o,ho,c0⟩ isSubtype_stop (Gf ⟨rfl,?_⟩));refine I.turnedL (t':=s.toks) (fp:=[z,it]) (λU u S e=>?_) hf;simp only[Gr,Hd,or_false,not_or]at S;exact hk U u S.2 e
 self:=λ_ _ _ _ _ st h=>vd st.1.choose_spec h
def CQ(K:FY)(ta:TA):TI:=λσ H R=>ta σ H λvs H1=>∃a,vs=[.ref a]/\(∃xs,SqK .T K H1 a xs)/\R (Ite K a) H1
theorem oU{X:Cx}{e1:Expr}{ta:TA}{p pos:Pos}{elts:List Expr}{x1:Nat}{tpos:Pos}(Z:Gl X "enumerate")(hm:X.mg "enumerate" = none)(ha:PA X [e1] ta)
 (hv:bootBuiltins "enumerate" = some (.type "enumerate")) (hs:starEach [e1] X.env=[(false,eval e1 X.env)]:=by rfl) :
 PI X (.Tuple elts x1 tpos) (.Call (.Name "enumerate" p) [e1] [] pos) (CQ X.K ta):=by
 intro pins s σ H R I h;refine Call_<|xP I Z hm hv<|Hw (thn (ha pos pins s σ H _ I h) λus s1 hZ=>?_) (by rw[hs];rfl) rfl;obtain⟨vs,H1,z,r1,q1⟩:=hZ;obtain⟨a,e,⟨xs,a5⟩,q⟩:=q1;subst e;obtain⟨w1,eu,a7⟩:=yE r1;subst eu;cases a7;obtain⟨a8,ad,S,z1⟩:=z.sq a5;have la:=S.lt;refine callType_new F.called_enumerate ⋯ (F.typeCall_enumerate_1 _) (F.newCall_enumerate_1 _) (λobj=>F.args_object_init_2 obj _) F.entry_enumerate_new (dE a a8.toArray) ⟨S,?_⟩;have keep : ∀c o,s1.heap.get? c=some o->(ZR s1.heap a).get? c=some o:=λc o e=>Gb _<|Gb _ e;have y1:(HC s1.heap<|itO .T a).objs.size=s1.heap.objs.size+1:=Hi ..;have g0:ItAt .T (ZR s1.heap a) s1.heap.objs.size a 0:=(Kz .T s1.heap a).at λo e=>Gb _ e;have O:IsEnum (ZR s1.heap a) (s1.heap.objs.size+1) s1.heap.objs.size 0 .none:=by have q:=Gv (HC s1.heap<|itO .T a) (o:=pY s1.heap.objs.size) rfl;rw[y1]at q;exact q
 refine⟨⟨_,O,rfl⟩,vd (s:={s1 with heap:=ZR s1.heap a}) O ?_⟩;have I2:Inv X pins σ H1 {s1 with heap:=ZR s1.heap a,toks:=s1.toks}:=z.kept keep;refine⟨_,[s1.heap.objs.size+1,s1.heap.objs.size],_,_,H1,rfl,I2,aC<|II<|Ic _,⟨⟨_,O⟩,g0⟩,λc U=>?_,q⟩;have Y:s1.heap.objs.size<=c:=by
  simp only[Gr,Hd,or_false]at U;rcases U with rfl | rfl
  ·exact Hr _ _
  ·exact Gh _
 exact z.fpOk Y<|z.hok.fresh Y
end L2
namespace DL
open PySem PySem.Spec PyProof.Rows L2
theorem KA{K:FY}{H:Hp} : ∀{ds:List D} {xs:List V} {l:List Int},Reps K H ds xs->YC ds=some l->xs=l.map V.int
 | [],xs,l,r,e=>by cases e;rw[show xs=[]from r];rfl
 | d::ds,xs,l,r,e=>by
  obtain⟨x,r',rfl,z,r2⟩:=(show ∃x r,xs=x::r/\Rep K H d x/\Reps K H ds r from r);cases d with
  | int i=>
   obtain⟨l',e1,rfl⟩:=zx (show(YC ds).map (λl=>i::l)=some l from e);rw[KA r2 e1,show x = .int i from z];rfl
  | _=>cases e
theorem KO : ∀l:List Int,(l.map V.int).all Xi=true
 | []=>rfl
 | i::l=>by simp only[GQ,NJ,KO l,Bool.and_true];rfl
theorem cW(i:Int) : ∀l:List Int,inV (.int i) (l.map V.int)=decide (i∈l)
 | []=>rfl
 | j::l=>by
  have z:=cW i l;unfold inV at z ⊢;rw[GQ,Lr,z];have e:eqV (.int j) (.int i)=(j==i):=rfl;rw[e];by_cases h:i=j
  ·subst h
   rw[beq_self_eq_true,Bool.true_or];exact(decide_eq_true Gu).symm
  ·rw[beq_false_of_ne (GN h),Bool.false_or]
   exact decide_eq_decide.mpr ⟨λq=>Gn _ q,λq=>(Gr.mp q).resolve_left h⟩
theorem av{K:FY}{H0 Hs:Hp}{a:Addr}{xs:List V}{ds:List D}(h:SqT K Hs a xs)(r:Reps K H0 ds xs):Walk K H0 Hs (Ite K a) (qZ ds):=by
 have Y:=r.length;have Z:(qZ ds).length=ds.length:=by simp[qZ]
 refine⟨λi H1 s hi=>?_,λH1 s=>?_,λi H1 x H1' s hi y=>?_⟩
 ·exact⟨xs,sameT s h,by omega⟩
 ·exact⟨xs,sameT s h,by omega⟩
 ·obtain⟨p,u,e1,z,I,O⟩:=y
  obtain⟨d,hd,S⟩:=r.getV<|O xs<|sameT s h;refine⟨.tup [.int i,d],?_,λG0 s1 s2=>⟨upd G0 p<|.tup [.int i,u],?_,?_⟩⟩
  ·have U:i<ds.length:=by omega
   unfold qZ;rw[GZ,List.getElem?_range U,GM,hd];rfl
  ·rw[I];exact Ext.alloc s2 z _
  ·rw[e1]
   exact qY (SqT.of zD)<|Reps.cons (show V.int i = .int i from rfl)<|Reps.cons ((S.mono s1).mono (z5 (ji s2 z) _)) Reps.nil
section
variable{X:Cx}{sc:Scope}{N L:List Str}{k:Nat}{a b c:Expr}{pos p:Pos}{f fa fb fc:CO D}
theorem X9(h:SX X sc N L k)(c:yD sc "enumerate" = true)(z:X.mg "enumerate" = none)(ha:PV X a f)(O:starEach [a] X.env=[(false,eval a X.env)]:=by rfl) :
 PIF X (.Tuple elts x1 tpos) (.Call (.Name "enumerate" p) [a] [] pos) (QE f):=
 Ka (oU (h.gl c).1 z (zZ ha j1 O) boot_enumerate O) λσ H R U=>by
  obtain⟨H0,γ,ds,rc,I,q⟩:=U;obtain⟨d,Y,I⟩:=bind_some I;cases d with
  | tup es=>
   cases I;refine⟨H0,γ,_,rc,Y,λv H' H0' x r=>?_⟩;obtain⟨Z,xs,rfl,S,g2⟩:=xW r;exact⟨Z,rfl,⟨xs,sameT x.sub S⟩,q _ H' H0' x<|av S g2⟩
  | _=>cases I
theorem gF(ho:OpR X (compareOp op) r)(a2:OpR X (compareOp op') r')(s1:Snd X.K r F)(s2:Snd X.K r' G)(ha:PV X a fa)(hb:PV X b fb)(hc:PV X c fc)
 (hm:lastMarks [op,op'] [b,c]=false:=by with_unfolding_all rfl):PV X (.Compare a [op,op'] [b,c] pos) (XX F G fa fb fc):=
 j9 (hJ ho a2 ha hb hc hm) λσ H Q hZ=>by
  obtain⟨H0,γ,d,rc,I,q⟩:=hZ;obtain⟨x,e1,I⟩:=bind_some I;obtain⟨y,e2,I⟩:=bind_some I;obtain⟨k,e3,I⟩:=bind_some I;obtain⟨U,e4,Y⟩:=bind_some e3;refine⟨H0,γ,x,rc,e1,λv1 H1 ac x1 r1=>⟨ac,γ,y,rc.ext x1,e2,λZ H2 al O r2=>s1 al H2 v1 Z x y U _ O.sub (r1.mono O.s0) r2 e4 λv3 H3 a0 x3 r3=>?_⟩⟩;cases U with
  | bl k'=>
   cases Y;refine⟨k,show v3 = .bl k from r3,?_⟩;cases k with
   | true=>
    rw[RY rfl];rw[RY rfl]at I;obtain⟨z,e6,e7⟩:=bind_some I;exact⟨a0,γ,z,((rc.ext x1).ext O).ext x3,e6,λv4 H4 b9 S r4=>s2 b9 H4 Z v4 y z d _ S.sub ((r2.mono x3.s0).mono S.s0) r4 e7 λv5 H5 bg x5 r5=>q v5 H5 bg (((x1.trans O).trans x3).trans (S.trans x5)) r5⟩
   | false=>
    rw[EQ ⋯];rw[EQ ⋯]at I;cases I;exact q _ H3 a0 ((x1.trans O).trans x3) rfl
  | _=>cases Y
end
theorem yK : ∀{l:List Int} {us:List Value},Vals (l.map V.int) us->∀i,i<us.toArray.size->∃z u,us.toArray[i]? = some (.int z u)/\l[i]? = some z
 | [],us,r,i,hi=>by cases r;exact absurd hi<|GP _
 | z::l,u::us,.cons r t,i,hi=>by
  cases i with
  | zero=>
   obtain⟨tk,rfl⟩:=r;exact⟨z,tk,by simp,by simp⟩
  | succ i=>
   obtain⟨I,O,e1,S⟩:=yK t i (by simpa using hi);exact⟨I,O,by simpa using e1,by simpa using S⟩
theorem kK(h:qR o=some rows):o=some (.nest rows):=by
 cases o with
 | none=>cases h
 | some c=>cases c<;>first | cases h;rfl | cases h
def tN(K:FY)(f:CO (List<|List D)):TE:=λσ H Q=>∃H0 γ rows,RC K H0 H σ γ/\f γ=some rows/\
 ∀a bs H' H0',Ext H0 H H0' H'->(∀b∈a::bs,H b=none)->Nest K H0' H' rows a bs->Q (.ref a) H'
def Rws(K:FY)(H0 H:Hp)(rows:List (List D))(bs:List Addr):Prop:=bs.length=rows.length/\∀(k:Nat) b row,bs[k]? = some b->rows[k]? = some row->H0 b=none/\∃xs,H b=some (.lst xs)/\Reps K H0 row xs
theorem Rws.at{K:FY}{H0 H:Hp}{rows:List (List D)}{bs:List Addr}(n:Rws K H0 H rows bs){b:Addr}(O:b∈bs):H0 b=none/\∃xs,H b=some (.lst xs):=by obtain⟨k,z⟩:=List.getElem?_of_mem O;have I:=(Gq.mp z).1;rw[n.1]at I;obtain⟨h1,xs,h2,_⟩:=n.2 k b _ z<|Gd I;exact⟨h1,xs,h2⟩
theorem Rws.ext{K:FY}{H0 H H0' H':Hp}{rows:List (List D)}{bs:List Addr}(n:Rws K H0 H rows bs)(e:Ext H0 H H0' H'):Rws K H0' H' rows bs:=
 ⟨n.1,λk b row h1 h2=>by obtain⟨z,xs,g2,I⟩:=n.2 k b row h1 h2;exact⟨e.new b z (by rw[g2];simp),xs,e.s1 _ _ g2,I.mono e.s0⟩⟩
theorem Rws.add{K:FY}{H0 H:Hp}{rows:List (List D)}{bs:List Addr}{b:Addr}{row:List D}{xs:List V}(n:Rws K H0 H rows bs)(h1:H0 b=none)(h2:H b=some (.lst xs))(S:Reps K H0 row xs):Rws K H0 H (rows++[row]) (bs++[b]):=
 ⟨by simp[n.1],λk c r e1 I=>by
  rcases GB k bs.length with z | z
  ·rw[Hx z]at e1
   rw[Hx (by rw[<- n.1];exact z)]at I;exact n.2 k c r e1 I
  ·rw[Hj z]at e1
   rw[Hj (by rw[<- n.1];exact z)]at I;have O:k - bs.length=0:=by have:=(Gq.mp e1).1;simp at this;omega
   rw[O]at e1;rw[<- n.1,O]at I;cases e1;cases I;exact⟨h1,xs,h2,S⟩⟩
theorem Rws.hide{K:FY}{H0 H:Hp}{rows:List (List D)}{bs:List Addr}{z:Addr}{o:HO}(n:Rws K H0 H rows bs)(h:z∉bs):Rws K H0 (upd H z o) rows bs:=
 ⟨n.1,λk b row h1 h2=>by obtain⟨I,xs,g2,O⟩:=n.2 k b row h1 h2;exact⟨I,xs,by rw[zB (λq=>h<|by rw[<- q];exact He h1)];exact g2,O⟩⟩
section
variable{K:FY}{own:List Str}{fr:List (Str×Nat)}{src:CO (List D)}{T:Tg}{f:CO (List D)}
theorem W9(hT : ∀i∈T.idx,i<own.length){tt:TT}(c7 : ∀σ H Q,tT K z6 σ H Q->tt σ H Q) : ∀σ H Q,tN K (yO src T own.length (fr.map (·.2)) f) σ H Q->aN (tIc K src) own fr (gOf K T) tt (tO K f) σ H Q:=λσ H Q hZ=>by
 obtain⟨H0,γ,rows,rc,Y,q⟩:=hZ;obtain⟨items,e1,Y⟩:=bind_some Y;by_cases hl:items.length<=lim
 ·rw[RY hl]at Y
  refine⟨H0,γ,items,rc,e1,λJ H1 ac x1 wk D hD=>?_⟩;have al : ∀(i:Nat) es,(zW own.length (fr.map (·.2)) γ)[i]? ≠ some (.own es):=λi es h=>by rcases qh h with z | ⟨d',j,z,_⟩<;>cases z
  have am : ∀(i:Nat) es,(zW own.length (fr.map (·.2)) γ)[i]? ≠ some (.nest es):=λi es h=>by rcases qh h with z | ⟨d',j,z,_⟩<;>cases z
  have b0:ac D=none:=ji x1.sub hD;have b9 : ∀c,H1 c=none->H c=none:=λc hc=>by
   cases z:H c with
   | none=>rfl
   | some o=>rw[x1.s1 c o z]at hc;cases hc
  refine⟨λi m ys σ' H'=>m=items.length - i/\i<=items.length/\ys.length<=i/\H' D=some (.lst ys)/\∃H0' bs r1 r2,ys=bs.map V.ref/\RC K H0' H' σ' (zW own.length (fr.map (·.2)) γ)/\H0' D=none/\Ext ac H1 H0' H'/\Rws K H0' H' r1 bs/\(D::bs).Nodup/\(∀b∈bs,H1 b=none)/\kJ T f (zW own.length (fr.map (·.2)) γ) (items.drop i)=some r2/\rows=r1++r2,
   ⟨_,rfl,HN _,Gh _,zD,ac,[],[],rows,rfl,((rc.ext x1).pull).upd b0 al am,b0,Ext.hide x1.sub hD _,⟨rfl,λk b row h=>by simp at h⟩,by simp,λb S=>by simp at S,Y,rfl⟩,?_⟩
  rintro i m ys σ' H' ⟨rfl,hi,hy,a7,H0',bs,r1,r2,c9,an,bd,Z,a8,nd,be,I,rfl⟩;subst c9;refine⟨a7,?_⟩;by_cases a0:i<items.length
  ·refine .inr ⟨wk.go i H' Z.s1 a0,?_,λx ap y=>?_⟩
   ·have:=kF<|Gh lim;omega
   obtain⟨d,hd,hx⟩:=wk.yld i H' x ap Z.s1 a0 y;obtain⟨G0,O,rg⟩:=hx H0' Z.s0 an.sub;have cb:items.drop i=d::items.drop (i+1):=by
    have cd:d=items[i]:=by rw[Gd a0]at hd;exact(Hy hd).symm
    rw[cd];exact IP a0
   rw[cb]at I;simp only[kJ]at I;obtain⟨γ1,eb,I⟩:=bind_some I;obtain⟨e,ee,I⟩:=bind_some I;obtain⟨xH,er,I⟩:=zx I;have ch:G0 D=none:=O.new D bd (by rw[a7];simp);have bi:ap D=some (.lst<|bs.map V.ref):=O.s1 _ _ a7;obtain⟨bl,bg⟩:=KU eb;have ci : ∀{σ2:St} {G2 H2:Hp},RC K G2 H2 σ2 γ1->RC K G2 H2 σ2 (zW own.length (fr.map (·.2)) γ):=λr=>r.weak bl.symm (λj d' hj=>by
    by_cases hm:j∈T.idx
    ·rcases qh hj with z | ⟨d2,j2,_,hn,_⟩
     ·cases z
     ·exact absurd (hT j hm) ⋯
    ·rw[bg j hm];exact hj) al am
   refine vj O.sub rg eb λσ1 bx _=>c7 σ1 ap _ ⟨G0,γ1,true,bx<|an.ext O,rfl,λH3 c0 x3=>?_⟩;have c1:=(bx<|an.ext O).ext x3;have xa:=Z.trans<|O.trans x3;have cm:c0 D=none:=x3.new D ch (by rw[bi];simp);have ar:H3 D=some (.lst<|bs.map V.ref):=x3.s1 _ _ bi;dsimp only;rw[RY rfl];refine⟨c0,γ1,e,c1,ee,λU d5 H4 c3 x4 g1 g2 g3 g4=>?_⟩;have as:c3 D=none:=x4.new D cm (by rw[ar];simp);have cs:H4 D=some (.lst<|bs.map V.ref):=x4.s1 _ _ ar;have xb:=xa.trans x4;have ct:=((a8.ext O).ext x3).ext x4;have cv:=(a8.ext O).ext x3;have c4:D∉bs:=(Hg.mp nd).1;have c5:D≠U:=λz=>by rw[<- z,ar]at g1;cases g1
   have cw:U∉bs:=λhm=>by obtain⟨_,d6,z⟩:=cv.at hm;rw[g1]at z;cases z
   have cx:H1 U=none:=by
    cases z:H1 U with
    | none=>rfl
    | some o=>rw[xa.s1 _ _ z]at g1;cases g1
   refine⟨cs,items.length - (i+1),by omega,rfl,a0,by rw[Hv,Lj];omega,zD,c3,bs++[U],r1++[e],xH,by simp,(ci<|c1.ext x4).upd as al am,as,?_,?_,?_,?_,er,?_⟩
   ·exact⟨xb.s0,λc o z=>by rw[zB (λw=>by rw[w,hD]at z;cases z)];exact xb.s1 c o z,λc o z=>by rw[zB (λw=>by rw[w,as]at z;cases z)];exact xb.sub c o z,xb.new⟩
   ·exact(ct.add g2 g3 g4).hide (by simp[c4,c5])
   ·refine Hg.mpr ⟨by simp[c4,c5],List.nodup_append.mpr ⟨(Hg.mp nd).2,by simp,λc hc c' d0=>?_⟩⟩
    have:c'=U:=by simpa using d0
    subst this;exact λz=>cw (by rw[<- z];exact hc)
   ·intro b S
    rcases Li.mp S with z | z
    ·exact be b z
    ·have:b=U:=by simpa using z
     subst this;exact cx
   ·rw[<- I];simp
  ·have e:i=items.length:=by omega
   subst e;rw[Mf]at I;cases I;rw[Mp]at q;refine .inl ⟨wk.stop H' Z.s1,q D bs H' H0' (x1.trans Z) (λb S=>?_) ⟨bd,a7,nd,a8.1,a8.2⟩⟩;rcases Gr.mp S with rfl | S
   ·exact b9 _ hD
   ·exact b9 b<|be b S
 ·rw[EQ hl]at Y;cases Y
end
section
variable{K:FY}{E0 E H0 H:Hp}{σ:St}{γ:Ctx}
theorem wX(h:γ.any jM=false)(i:Nat)(rows:List (List D)):γ[i]? ≠ some (.nest rows):=λe=>by have hm:Cell.nest rows∈γ:=He e;have:=NR.mp h _ hm;exact this rfl
theorem RS.setNest(r:RS K E0 E G0 G σ γ)(e:Ext G0 G H0 H)(hf : ∀b∈a::bs,G b=none)(n:Nest K H0 H rows a bs)(U:γ.any jM=false) :
 RS K E0 E H0 H (σ.set i<|some (.ref a)) (γ.set i<|.nest rows):=by
 have rc:=r.rc.ext e;have ef : ∀b∈a::bs,E b=none:=λb Z=>by
  cases q:E b with
  | none=>rfl
  | some o=>have:=hf b Z;rw[r.ext.s1 b o q]at this;cases this
 refine⟨⟨rc.sub,by simp[rc.len],λj d' g=>?_,λj ds g=>?_,λj k b ds fs e1 Y e3 e4=>?_,⟨λj a0 g=>?_,λj k r1 r2 I g2=>?_⟩⟩,r.ext.trans e,λj ds b I g2=>?_,λj a0 b xs I g2 O=>?_⟩
 ·rcases zA g with⟨_,z,_⟩ | ⟨S,z⟩
  ·cases z
  ·obtain⟨v',I,g2⟩:=rc.val j d' z
   exact⟨v',by rw[Gg (GN S)];exact I,g2⟩
 ·rcases zA g with⟨_,z,_⟩ | ⟨S,z⟩
  ·cases z
  ·obtain⟨b,ys,I,g2⟩:=rc.own j ds z
   exact⟨b,ys,by rw[Gg (GN S)];exact I,g2⟩
 ·rcases zA e1 with⟨_,z,_⟩ | ⟨S,z1⟩
  ·cases z
  ·rcases zA Y with⟨_,z,_⟩ | ⟨hk,z2⟩
   ·cases z
   ·rw[Gg (GN S)]at e3
    rw[Gg (GN hk)]at e4;exact rc.ne j k b ds fs z1 z2 e3 e4
 ·rcases zA g with⟨rfl,z,hl⟩ | ⟨S,z⟩
  ·cases z
   refine⟨a,bs,GD (by rw[rc.len];exact hl),n,λk ds c e1 Y=>?_⟩;rcases zA e1 with⟨_,z,_⟩ | ⟨hk,z1⟩
   ·cases z
   ·rw[Gg (GN hk)]at Y
    obtain⟨c',ys,I,g2,O,_⟩:=r.rc.own k ds z1;rw[Y]at I;cases I;intro hm;rw[hf c hm]at O;cases O
  ·exact absurd z<|wX U j a0
 ·rcases zA I with⟨rfl,_,_⟩ | ⟨_,z1⟩
  ·rcases zA g2 with⟨rfl,_,_⟩ | ⟨_,z2⟩
   ·rfl
   ·exact absurd z2<|wX U k r2
  ·exact absurd z1<|wX U j r1
 ·rcases zA I with⟨_,z,_⟩ | ⟨S,z⟩
  ·cases z
  ·rw[Gg (GN S)]at g2;exact r.fresh j ds b z g2
 ·rcases zA I with⟨rfl,z,hl⟩ | ⟨S,z⟩
  ·rw[GD (by rw[rc.len];exact hl)]at g2;cases g2
   rw[n.ha]at O;injection O with O;injection O with O;subst O;refine⟨ef a Gu,λb Z=>?_⟩;obtain⟨c,hc,q⟩:=GO.mp Z;cases q;exact ef b<|Gn _ hc
  ·exact absurd z<|wX U j a0
theorem RS.forget(r:RS K E0 E H0 H σ γ):RS K E0 E H0 H (σ.set i v) (γ.set i .no):=by
 have O : ∀{j:Nat} {ds:List D} {b:Addr},(γ.set i .no)[j]? = some (.own ds)->γ[j]? = some (.own ds)/\(σ.set i v)[j]? = σ[j]? :=λ{j ds b} g=>by
  rcases zA g with⟨_,z,_⟩ | ⟨S,z⟩
  ·cases z
  ·exact⟨z,Gg<|GN S⟩
 have U : ∀{j:Nat} {rows:List (List D)},(γ.set i .no)[j]? = some (.nest rows)->γ[j]? = some (.nest rows)/\(σ.set i v)[j]? = σ[j]? :=λ{j rows} g=>by
  rcases zA g with⟨_,z,_⟩ | ⟨S,z⟩
  ·cases z
  ·exact⟨z,Gg<|GN S⟩
 refine⟨⟨r.rc.sub,by simp[r.rc.len],λj d' g=>?_,λj ds g=>?_,λj k b ds fs e1 Y e3 e4=>?_,⟨λj rows g=>?_,λj k r1 r2 I g2=>r.rc.nst.2 j k r1 r2 (U I).1 (U g2).1⟩⟩,r.ext,λj ds b I g2=>?_,λj rows b xs I g2 g3=>?_⟩
 ·rcases zA g with⟨_,z,_⟩ | ⟨S,z⟩
  ·cases z
  ·obtain⟨v',I,g2⟩:=r.rc.val j d' z
   exact⟨v',by rw[Gg (GN S)];exact I,g2⟩
 ·obtain⟨z1,z2⟩:=O (b:=0) g
  rw[z2];exact r.rc.own j ds z1
 ·obtain⟨z1,z2⟩:=O (b:=0) e1
  obtain⟨z3,Z⟩:=O (b:=0) Y;rw[z2]at e3;rw[Z]at e4;exact r.rc.ne j k b ds fs z1 z3 e3 e4
 ·obtain⟨z1,z2⟩:=U g
  obtain⟨a,bs,h1,h2,h3⟩:=r.rc.nst.1 j rows z1;refine⟨a,bs,by rw[z2];exact h1,h2,λk ds c e1 Y=>?_⟩;obtain⟨z3,Z⟩:=O (b:=0) e1;rw[Z]at Y;exact h3 k ds c z3 Y
 ·obtain⟨z1,z2⟩:=O (b:=0) I
  rw[z2]at g2;exact r.fresh j ds b z1 g2
 ·obtain⟨z1,z2⟩:=U I
  rw[z2]at g2;exact r.fr2 j rows b xs z1 g2 g3
theorem Km : ∀{l:List Addr} {m t:Nat} {b:Addr},l.Nodup->l[m]? = some b->l[t]? = some b->m=t
 | [],m,t,b,_,h,_=>by simp at h
 | c::l,m,t,b,nd,h1,h2=>by
  obtain⟨n1,I⟩:=Hg.mp nd;cases m with
  | zero=>
   cases t with
   | zero=>rfl
   | succ t=>
    have e1:c=b:=by simpa using h1
    have z:l[t]? = some b:=by simpa using h2
    exact absurd (He z)<|e1 ▸ n1
  | succ m=>
   cases t with
   | zero=>
    have e1:c=b:=by simpa using h2
    have z:l[m]? = some b:=by simpa using h1
    exact absurd (He z)<|e1 ▸ n1
   | succ t=>exact congrArg (· + 1) (Km (b:=b) I (by simpa using h1)<|by simpa using h2)
theorem RC.row{j i t:Nat}{R:List (List D)}{a b:Addr}{bs:List Addr}{row:List D}(r:RC K H0 H σ γ)(hj:γ[j]? = some (.nest R))(hs:σ[j]? = some (some (.ref a)))(hn:Nest K H0 H R a bs)
 (Y : ∀(k:Nat) ds c,γ[k]? = some (.own ds)->σ[k]? = some (some (.ref c))->c∉a::bs) (Z:bs[t]? = some b) (hr:R[t]? = some row) (hi:i<γ.length) :
 RC K H0 H (σ.set i<|some (.ref b)) ((γ.set j .no).set i (.own row)):=by
 obtain⟨b0,xs,b1,b2⟩:=hn.row t b row Z hr;have a0:b∈a::bs:=Gn _<|He Z;have O : ∀{k:Nat} {c:Cell},c ≠ .no->(γ.set j .no)[k]? = some c->γ[k]? = some c/\k≠j:=λ{k c} hc g=>by
  rcases zA g with⟨_,z,_⟩ | ⟨I,z⟩
  ·exact absurd z hc
  ·exact⟨z,I⟩
 refine⟨r.sub,by simp[r.len],λk d g=>?_,λk ds g=>?_,λk m c ds es e1 e2 S U=>?_,NestOk.nil0 λk rows g=>?_⟩
 ·rcases zA g with⟨_,z,_⟩ | ⟨I,z⟩
  ·cases z
  ·obtain⟨z1,_⟩:=O ⋯ z
   rw[Gg (GN I)];exact r.val k d z1
 ·rcases zA g with⟨rfl,z,hl⟩ | ⟨I,z⟩
  ·cases z
   exact⟨b,xs,GD (by rw[r.len];exact hi),b0,b1,b2⟩
  ·obtain⟨z1,_⟩:=O ⋯ z
   rw[Gg (GN I)];exact r.own k ds z1
 ·rcases zA e1 with⟨rfl,_,_⟩ | ⟨I,z1⟩
  ·rcases zA e2 with⟨rfl,_,_⟩ | ⟨hm,z2⟩
   ·rfl
   ·obtain⟨z2,_⟩:=O ⋯ z2
    rw[GD (by rw[r.len];exact hi)]at S;rw[Gg (GN hm)]at U;cases S;exact absurd a0<|Y m es b z2 U
  ·obtain⟨z1,_⟩:=O ⋯ z1
   rcases zA e2 with⟨rfl,_,_⟩ | ⟨hm,z2⟩
   ·rw[GD (by rw[r.len];exact hi)]at U
    rw[Gg (GN I)]at S;cases U;exact absurd a0<|Y k ds b z1 S
   ·obtain⟨z2,_⟩:=O ⋯ z2
    rw[Gg (GN I)]at S;rw[Gg (GN hm)]at U;exact r.ne k m c ds es z1 z2 S U
 ·rcases zA g with⟨_,z,_⟩ | ⟨I,z⟩
  ·cases z
  ·obtain⟨z1,z2⟩:=O ⋯ z
   exact z2<|r.nst.2 k j rows R z1 hj
theorem RS.nestSet(r:RS K E0 E H0 H σ γ)(O:γ[j]? = some (.nest R))(hs:σ[j]? = some (some (.ref a)))(hn:Nest K H0 H R a bs)
 (a7 : ∀(k:Nat) ds c,γ[k]? = some (.own ds)->σ[k]? = some (some (.ref c))->c∉a::bs) (Z:bs[t]? = some b) (h4:Reps K H0 row' ys) :
 RS K E0 E H0 (upd H b<|.lst ys) σ (γ.set j<|.nest<|R.set t row'):=by
 have ad:j<γ.length:=(Gq.mp O).1;have a1:b∈bs:=He Z;have a8:b≠a:=λq=>(Hg.mp hn.nd).1 (by rw[<- q];exact a1);obtain⟨b0,_⟩:=hn.at<|Gn a a1;obtain⟨ea,er⟩:=r.fr2 j R a _ O hs hn.ha;have eb:E b=none:=er b<|GO.mpr ⟨b,a1,rfl⟩;have S : ∀{k:Nat} {c:Cell},(∀rows,c ≠ .nest rows)->(γ.set j<|.nest<|R.set t row')[k]? = some c->γ[k]? = some c:=λ{k c} U g=>by
  rcases zA g with⟨_,z,_⟩ | ⟨hk,z⟩
  ·exact absurd z<|U _
  ·exact z
 refine⟨⟨λc o q=>?_,by simp[r.rc.len],λk d g=>r.rc.val k d<|S ⋯ g,λk ds g=>?_,λk m c ds es e1 e2 e3 e4=>r.rc.ne k m c ds es (S ⋯ e1) (S ⋯ e2) e3 e4,⟨λk rows g=>?_,λk m r1 r2 I g2=>?_⟩⟩,⟨r.ext.s0,λc o q=>?_,λc o q=>?_,r.ext.new⟩,λk ds c I g2=>r.fresh k ds c (S ⋯ I) g2,λk rows c xs I g2 Y=>?_⟩
 ·rw[zB (λz=>by rw[z,b0]at q;cases q)];exact r.rc.sub c o q
 ·have z:=S ⋯ g
  obtain⟨c,xs,h1,h2,h3,h5⟩:=r.rc.own k ds z;refine⟨c,xs,h1,h2,?_,h5⟩;rw[zB (λq=>a7 k ds c z h1<|by rw[q];exact Gn _ a1)];exact h3
 ·have hk:k=j:=by
   rcases zA g with⟨z,_,_⟩ | ⟨_,z⟩
   ·exact z
   ·exact r.rc.nst.2 k j rows R z O
  subst hk;rw[GD ad]at g;cases g;refine⟨a,bs,hs,⟨hn.a0,by rw[zB (GN a8)];exact hn.ha,hn.nd,by simp[hn.len],λm c row U hr=>?_⟩,λm ds c I g2=>a7 m ds c (S ⋯ I) g2⟩;by_cases hm:m=t
  ·subst hm
   rw[Z]at U;cases U;have:m<R.length:=by rw[<- hn.len];exact(Gq.mp Z).1
   rw[GD this]at hr;cases hr;exact⟨b0,ys,zD,h4⟩
  ·rw[Gg (GN hm)]at hr
   obtain⟨h1,xs,h2,h3⟩:=hn.row m c row U hr;have b9:c≠b:=λq=>by subst q;have nd:=(Hg.mp hn.nd).2;exact hm<|Km nd U Z
   exact⟨h1,xs,by rw[zB b9];exact h2,h3⟩
 ·have h1:k=j:=by
   rcases zA I with⟨z,_,_⟩ | ⟨_,z⟩
   ·exact z
   ·exact r.rc.nst.2 k j r1 R z O
  have h2:m=j:=by
   rcases zA g2 with⟨z,_,_⟩ | ⟨_,z⟩
   ·exact z
   ·exact r.rc.nst.2 m j r2 R z O
  rw[h1,h2]
 ·rw[zB (λz=>by rw[z,eb]at q;cases q)];exact r.ext.s1 c o q
 ·rw[zB (λz=>by rw[z,b0]at q;cases q)];exact r.ext.sub c o q
 ·have hk:k=j:=by
   rcases zA I with⟨z,_,_⟩ | ⟨_,z⟩
   ·exact z
   ·exact r.rc.nst.2 k j rows R z O
  subst hk;rw[hs]at g2;cases g2;rw[zB (GN a8),hn.ha]at Y;injection Y with Y;injection Y with Y;subst Y;exact⟨ea,er⟩
end
section
variable{K:FY}{E0 E H0 H:Hp}{σ:St}{γ:Ctx}
theorem RS.freeze(r:RS K E0 E H0 H σ γ)(e:γ[i]? = some (.own ds)) : ∃H0',RS K E0 E H0' H σ (γ.set i<|.val<|.lst ds):=by
 obtain⟨a,xs,h1,h2,U,Y⟩:=r.rc.own i ds e;have Z:=r.fresh i ds a e h1;obtain⟨H0',s0,S⟩ : ∃H0',H0'=upd H0 a (.lst xs)/\RC K H0' H σ (γ.set i<|.val<|.lst ds):=by refine⟨_,rfl,?_⟩;exact RC.lendAt r.rc e h1 h2 U Y
 subst s0;refine⟨_,S,⟨r.ext.s0.trans<|z5 h2 _,r.ext.s1,S.sub,λc q1 I=>?_⟩,λj es b O g2=>?_,λj rows b ys O g2 g3=>?_⟩
 ·rw[zB (λz=>by rw[z,Z]at I;exact I rfl)];exact r.ext.new c q1 I
 ·rcases zA O with⟨_,z,_⟩ | ⟨_,z⟩
  ·cases z
  ·exact r.fresh j es b z g2
 ·rcases zA O with⟨_,z,_⟩ | ⟨_,z⟩
  ·cases z
  ·exact r.fr2 j rows b ys z g2 g3
open Classical in
def YB(H0 H:Hp)(L:List Addr):Hp:=λc=>if c∈L then H c else H0 c
theorem Xb(h:c∈L):YB H0 H L c=H c:=by unfold YB;rw[RY h]
theorem vc(h:c∉L):YB H0 H L c=H0 c:=by unfold YB;rw[EQ h]
theorem XZ : ∀{rows:List (List D)} {bs:List Addr},bs.length=rows.length->(∀(k:Nat) b row,bs[k]? = some b->rows[k]? = some row->∃xs,G b=some (.lst xs)/\Reps K G row xs)->Reps K G (rows.map D.lst) (bs.map V.ref)
 | [],[],_,_=>Reps.nil
 | [],_::_,h,_=>by simp at h
 | _::_,[],h,_=>by simp at h
 | row::rows,b::bs,h,f=>by obtain⟨xs,z,g2⟩:=f 0 b row rfl rfl;exact Reps.cons (Zn (SqL.of z) g2) (XZ (by simpa using h) λk c r e1 I=>f (k+1) c r (by simpa using e1)<|by simpa using I)
theorem RS.freezeN(r:RS K E0 E H0 H σ γ)(e:γ[i]? = some (.nest rows)) : ∃H0',RS K E0 E H0' H σ (γ.set i<|.val<|.lst<|rows.map D.lst):=by
 obtain⟨a,bs,h1,hn,a2⟩:=r.rc.nst.1 i rows e;obtain⟨ea,er⟩:=r.fr2 i rows a _ e h1 hn.ha;have ef : ∀b∈a::bs,E b=none:=λb Y=>by
  rcases Gr.mp Y with rfl | Y
  ·exact ea
  ·exact er b<|GO.mpr ⟨b,Y,rfl⟩
 have s0:Same H0 (YB H0 H (a::bs)):=λc o q=>by rw[vc (λhm=>by rw[(hn.at hm).1]at q;cases q)];exact q
 have sub:Same (YB H0 H (a::bs)) H:=λc o q=>by
  by_cases hm:c∈a::bs
  ·rw[Xb hm]at q;exact q
  ·rw[vc hm]at q;exact r.rc.sub c o q
 have rp:Rep K (YB H0 H (a::bs)) (.lst<|rows.map D.lst) (.ref a):=Zn (SqL.of<|by rw[Xb Gu];exact hn.ha) (XZ hn.len λk b row I g2=>by obtain⟨_,xs,Z,U⟩:=hn.row k b row I g2;exact⟨xs,by rw[Xb (Gn _<|He I)];exact Z,U.mono s0⟩)
 have nn : ∀{j:Nat} {O:List (List D)},(γ.set i<|.val<|.lst<|rows.map D.lst)[j]? ≠ some (.nest O):=λ{j O} g=>by
  rcases zA g with⟨_,z,_⟩ | ⟨hj,z⟩
  ·cases z
  ·exact hj<|r.rc.nst.2 j i O rows z e
 have S : ∀{j:Nat} {ds:List D},(γ.set i<|.val<|.lst<|rows.map D.lst)[j]? = some (.own ds)->γ[j]? = some (.own ds):=λ{j ds} g=>by
  rcases zA g with⟨_,z,_⟩ | ⟨hj,z⟩
  ·cases z
  ·exact z
 refine⟨_,⟨sub,by simp[r.rc.len],λj d g=>?_,λj ds g=>?_,λj k c ds es e1 e2 e3 e4=>r.rc.ne j k c ds es (S e1) (S e2) e3 e4,NestOk.nil0 λj O=>nn⟩,⟨r.ext.s0.trans s0,r.ext.s1,sub,λc Z U=>?_⟩,λj ds b I g2=>r.fresh j ds b (S I) g2,λj O b ys I=>absurd I nn⟩
 ·rcases zA g with⟨rfl,z,hl⟩ | ⟨hj,z⟩
  ·cases z;exact⟨_,h1,rp⟩
  ·obtain⟨v,I,g2⟩:=r.rc.val j d z
   exact⟨v,I,g2.mono s0⟩
 ·obtain⟨b,ys,I,g2,g3,g4⟩:=r.rc.own j ds (S g)
  exact⟨b,ys,I,by rw[vc (a2 j ds b (S g) I)];exact g2,g3,g4.mono s0⟩
 ·rw[vc (λhm=>U<|ef c hm)];exact r.ext.new c Z U
end
section
variable{X:Cx}{st:Stmt}{F:CO Fl}
theorem bG(i:Nat)(h:PSD X st F):PSD X st (Bc i F):=xI h λD σ H I=>by obtain⟨E0,E,H0,γ,O,S,z,U⟩:=I;obtain⟨ds,e1,z⟩:=bind_some z;obtain⟨H0',Y⟩:=S.freeze<|xS e1;exact⟨E0,E,H0',_,O,Y,z,U⟩
theorem Vv(i:Nat)(h:PSD X st F):PSD X st (Ws i F):=xI h λD σ H I=>by obtain⟨E0,E,H0,γ,O,S,z,U⟩:=I;obtain⟨rows,e1,z⟩:=bind_some z;obtain⟨H0',Y⟩:=S.freezeN<|kK e1;exact⟨E0,E,H0',_,O,Y,z,U⟩
end
section
variable{X:Cx}{sc:Scope}{N L:List Str}{k:Nat}
theorem gN(i:Nat)(h:SX X sc N L k)(c:kX sc N L i y=true)
 (U:X.calm=true) (ok:CompOk X scope fr) (Y : ∀i∈T.idx,i<own.length) (hi:PIC X tg iter src) (Z : ∀fp s2 H2,PG (jn X scope (own++fr.map (·.1)) fp s2 H2) tg<|gOf X.K T)
 (he : ∀fp s2 H2,PO (jn X scope (own++fr.map (·.1)) fp s2 H2) elt f) (hs : ∀x,foldedSetIterable iter X.env x=pure x:=by intro _;rfl) :
 PSD X (.Assign [.Name y py] (.ListComp elt [⟨tg,iter,[],0⟩] scope cpos) spos) (Ye i<|yO src T own.length (fr.map (·.2)) f):=by
 obtain⟨h1,h2,h3⟩:=h.loc c;refine xI (vP (te:=tO X.K f) h.ndX h1 h2 h3 U ok hi Z (λ_ _ _=>QP) he hs) λD σ H I=>?_;obtain⟨E0,E,H0,γ,fl,S,z,a3⟩:=I;obtain⟨rows,e1,z⟩:=bind_some z;by_cases O:γ.any jM=false
 ·rw[RY O]at z;cases z
  exact W9 Y (λσ H Q I=>by obtain⟨H0,γ,b,rc,z,q⟩:=I;cases z;exact q H H0<|Ext.refl rc.sub) σ H _ ⟨H0,γ,rows,S.rc,e1,λa bs H' H0' x hf n=>a3 _ _ H0'<|S.setNest x hf n O⟩
 ·rw[EQ O]at z;cases z
theorem bq(z:i≠j)(c:Cell)(r:List D):((((γ.set j c).set i .no).set j .no).set i (.own r))=kQ γ j i r:=by
 unfold kQ;apply Ie;intro m;simp only[Iw,List.length_set];by_cases h1:i=m
 ·subst h1;simp
 ·by_cases h2:j=m
  ·subst h2;simp[h1]
  ·simp[h1,h2]
theorem Yr{γ:Ctx}{j i:Nat}(z:i≠j)(c I:Cell):(((γ.set j c).set i .no).set j I)=(γ.set j I).set i .no:=by rw[List.set_comm _ _ (GN z),List.set_set,List.set_comm _ _ z]
theorem JG(j i:Nat){x y:Str}{bm a0 bn:Pos}{U e:Expr}{g f:CO D}{p pos cb:Pos}(hp:PassesOwn (model X.prog X.w) X.A X.env X.xe)(hc:X.calm=true)(h:SX X sc N L k)(cj:wB sc N j x=true)(ci:wB sc N i y=true)
 (hg:PG X (.Name y bm) (ya i)) (hi:PV X U g) (he:PV X e f)
 (ha : ∀v,assign (.Subscript (.Name y a0) U p) X.env v=(do
   let ov <- holding [v] (eval (.Name y a0) X.env);let iv <- holding [v,ov] (eval U X.env)
   standAt p
   holding [v,ov,iv] (setItem ov iv v)
   release [v,ov,iv] []):=by intro _;rfl)
 (hs:swapsWithSole [.Subscript (.Name y a0) U p] e pos.line X.env=pure false:=by rfl) (hw:swappedStores [.Subscript (.Name y a0) U p] e X.env=pure none:=by rfl)
 (h1:(assignEach [.Subscript (.Name y a0) U p] X.env).map (·.2)=[assign (.Subscript (.Name y a0) U p) X.env]:=by rfl)
 (hf : ∀z,foldedSetIterable (.Name x bn) X.env z=pure z:=by intro _;rfl) :
 PSD X (.For (.Name y bm) (.Name x bn) [.Assign [.Subscript (.Name y a0) U p] e pos] [] cb) (vK j i g f):=
 xI (mx hp hc (bM<|h.var cj) hg (vO<|JI he (Vx (h.var ci) hi wI ha) hs hw h1) hf) λD σ H hZ=>by
  obtain⟨E0,E,H0,γ,fl,rs,Y,bv⟩:=hZ;obtain⟨rows,e1,Y⟩:=bind_some Y;have e1:=kK e1;by_cases an:i=j\/γ.length<=i
  ·rw[RY an]at Y;cases Y
  rw[EQ an]at Y;have a1:i≠j:=λz=>an<|.inl z;have a6:i<γ.length:=by
   rcases GB i γ.length with z | z
   ·exact z
   ·exact absurd (.inr z) an
  have c0:j<γ.length:=(Gq.mp e1).1;obtain⟨ax,e2,Y⟩:=zx Y;subst Y;obtain⟨a,bs,g1,hn,e3⟩:=rs.rc.nst.1 j rows e1;refine⟨_,g1,a,.L,rfl,⟨_,SqL.of hn.ha⟩,?_⟩;refine⟨λt m σ' H'=>m=rows.length - t/\t<=rows.length/\∃(H0':Hp) (I xH:List (List DL.D)) (S:L2.St),I.length=t/\S[j]? = some (some (V.ref a))/\(∃v,σ'=S.set i v)/\H' a=some (.lst<|bs.map V.ref)/\RS X.K E0 E H0' H' σ' ((γ.set j<|.nest<|I++rows.drop t).set i .no)/\qQ j i g f γ (rows.drop t)=some xH/\ax=I++xH,
   ⟨_,rfl,HN _,H0,[],ax,σ,rfl,g1,⟨σ[i]?.getD none,?_⟩,hn.ha,?_,e2,rfl⟩,?_⟩
  ·apply Ie
   intro m;rw[Iw];by_cases z:i=m
   ·subst z
    have:i<σ.length:=by rw[rs.rc.len];exact a6
    simp[this]
   ·simp[z]
  ·have:=rs.forget (i:=i) (v:=σ[i]?.getD none)
   have es:σ.set i (σ[i]?.getD none)=σ:=by
    apply Ie;intro m;rw[Iw];by_cases z:i=m
    ·subst z
     have:i<σ.length:=by rw[rs.rc.len];exact a6
     simp[this]
    ·simp[z]
   rw[es]at this;have ec:γ.set j (.nest rows)=γ:=by
    apply Ie;intro m;rw[Iw];by_cases z:j=m
    ·subst z;rw[RY rfl,RY c0,e1]
    ·simp[z]
   simpa[ec]using this
  rintro t m σ' H' ⟨rfl,ht,H0',I,xH,S,c2,a7,⟨v0,rfl⟩,a8,a9,O,er⟩;have ap:((γ.set j<|.nest<|I++rows.drop t).set i .no)[j]? = some (.nest<|I++rows.drop t):=by rw[Gg a1,GD c0]
  obtain⟨a',Z,q1,b9,cw⟩:=a9.rc.nst.1 j _ ap;rw[Gg a1,a7]at q1;cases q1;have cx:Z=bs:=by have:=b9.ha;rw[a8]at this;injection this with this;injection this with this;exact(kE this).symm
  subst cx;have cy:Z.length=rows.length:=by rw[b9.len];simp;omega
  by_cases c5:t<rows.length
  ·have hb:Z[t]? = some (Z[t]'⋯):=Gd ⋯
   generalize Z[t]'⋯=b at hb;have bb:rows.drop t=rows[t]::rows.drop (t+1):=IP c5;refine .inr ⟨⟨_,.ref b,SqL.of a8,by rw[GZ,hb];rfl⟩,λσ2 H2=>t+1<=rows.length/\∃(H0':Hp) (I xH:List (List DL.D)) (S:L2.St),I.length=t+1/\S[j]? = some (some (V.ref a))/\(∃v,σ2=S.set i v)/\H2 a=some (.lst<|Z.map V.ref)/\RS X.K E0 E H0' H2 σ2 ((γ.set j<|.nest<|I++rows.drop (t+1)).set i .no)/\qQ j i g f γ (rows.drop<|t+1)=some xH/\ax=I++xH,λσ2 H2 n=>⟨rows.length - (t+1),by omega,rfl,n.1,n.2⟩,λxv H2 yl=>?_⟩;obtain⟨rfl,yl⟩:=yl;have d1:xv = .ref b:=by have:=yl _<|SqL.of a8;rw[GZ,hb]at this;exact(Hy this).symm
   subst d1;rw[bb]at O;simp only[qQ]at O;obtain⟨d,f1,O⟩:=bind_some O;obtain⟨kk,f2,O⟩:=bind_some O;obtain⟨dk,f3,f2⟩:=bind_some f2;obtain⟨mm,f4,O⟩:=bind_some O;obtain⟨d6,f5,O⟩:=zx O;have d8:(I++rows.drop t)[t]? = some rows[t]:=by rw[bb,Hj ⋯,c2];simp
   have a4:(S.set i v0).set i (some (.ref b))=S.set i (some (.ref b)):=List.set_set ..;have ar:=a9.rc.row (i:=i) ap (by rw[Gg a1];exact a7) b9 cw hb d8 (by simp;exact a6);rw[bq a1,a4]at ar;show ∃_,_;refine⟨H0',kQ γ j i rows[t],d,?_,f1,λv H3 d9 x3 r3=>?_⟩
   ·rw[a4];exact ar
   have c6:=ar.ext x3;obtain⟨b',xs,p1,p2,p3,p4⟩:=c6.own i rows[t] (by unfold kQ;rw[GD (by simpa using a6)]);have dd:b'=b:=by
    rw[GD (by
     have:=ar.len;simp[kQ]at this;rw[this];exact a6)]at p1
    cases p1;rfl
   subst dd;refine⟨_,by rw[a4];exact p1,d9,kQ γ j i rows[t],dk,by rw[a4];exact c6,f3,λv2 H4 dj x4 r4=>?_⟩;rw[jw f2]at r4;refine⟨b',xs,kk,mm,rfl,jh r4,x4.s1 _ _ p3,by rw[p4.length];exact ZJ f4,?_⟩;have dl:=(a9.step x3).step x4;have bi:=dl.forget (i:=i) (v:=some (.ref b'));have dp:(((γ.set j<|.nest<|I++rows.drop t).set i .no).set i .no)=((γ.set j<|.nest<|I++rows.drop t).set i .no):=List.set_set ..;rw[dp,a4]at bi;obtain⟨a2,dq,w1,bl,dr⟩:=bi.rc.nst.1 j _ ap;rw[Gg a1,a7]at w1;cases w1;have c9:H4 a=some (.lst<|Z.map V.ref):=x4.s1 _ _<|x3.s1 _ _ a8;have dt:dq=Z:=by have:=bl.ha;rw[c9]at this;injection this with this;injection this with this;exact(kE this).symm
   subst dt;have ca:=bi.nestSet (t:=t) (row':=rows[t].set mm d) (ys:=xs.set mm v) ap (by rw[Gg a1];exact a7) bl dr hb<|(p4.mono x4.s0).set mm (r3.mono x4.s0);have dv:a≠b':=λq=>(Hg.mp bl.nd).1 (by rw[q];exact He hb);refine⟨c5,dj,I++[rows[t].set mm d],d6,S,by simp[c2],a7,⟨some (.ref b'),a4⟩,by rw[zB dv];exact c9,?_,f5,by rw[er,<- O];simp⟩;rw[a4];have eR:(I++rows.drop t).set t (rows[t].set mm d)=(I++[rows[t].set mm d])++rows.drop (t+1):=by rw[bb,List.set_append_right _ _ ⋯,show t - I.length=0 by omega,List.append_assoc];rfl
   rw[eR,Yr a1]at ca;exact ca
  ·have et:t=rows.length:=by omega
   subst et;rw[Mf]at O;cases O;rw[Mf]at a9;refine .inl ⟨⟨_,SqL.of a8,by simp[cy]⟩,?_⟩;rw[er]at bv;exact bv _ _ H0' a9
end
section
variable{X:Cx}{sc:Scope}{N L:List Str}{k:Nat}{o e a b:Expr}{apos cpos pos p:Pos}{f g:CO D}{q:CO (Sk×List D)}
theorem gk(h:xK x=true):x.length<=1000:=of_decide_eq_true h
theorem Wl(h:xK x=true):x.length<=sizeLine:=HE (gk h) ⋯
theorem gC(ha:PV X a f)(U:PV X b g)(Y:wg b:=by intro _ _;rfl):PV X (.Subscript a b pos) (JD f g):=
 j9 (gZ Ak ha U Y) λσ H Q Z=>by
  obtain⟨H0,γ,d,rc,I,q⟩:=Z;obtain⟨d1,e1,I⟩:=bind_some I;obtain⟨i,O,I⟩:=bind_some I;obtain⟨di,e3,O⟩:=bind_some O;cases d1 with
  | str z=>
   by_cases S:xK z=true
   ·have I:(if xK z=true then (ixD z.cps.toList.length i).bind λk=>z.cps.toList[k]?.map λc=>D.str ⟨#[c]⟩else none)=some d:=I
    rw[RY S]at I;obtain⟨j,e4,I⟩:=bind_some I;obtain⟨c,e5,rfl⟩:=zx I;refine⟨H0,γ,_,rc,e1,λv H' H0' x r=>⟨H0',γ,di,rc.ext x,e3,λv2 H2 a5 x2 r2=>?_⟩⟩;rw[jw O]at r2;refine⟨z,i,c,r,jh r2,Wl S,?_,q _ H2 a5 (x.trans x2) rfl⟩;unfold atI;rw[ZJ e4];exact e5
   ·have I:(if xK z=true then (ixD z.cps.toList.length i).bind λk=>z.cps.toList[k]?.map λc=>D.str ⟨#[c]⟩else none)=some d:=I
    rw[EQ S]at I;cases I
  | _=>cases I
end
section
variable{X:Cx}{sc:Scope}{N L:List Str}{k:Nat}{b:Expr}{f:CO D}
theorem tY(h:SX X sc N L k)(c:yD sc "min" = true)(z:X.mg "min" = none)(ha:PV X a f)(Y:PV X b g)(U:starEach [a,b] X.env=[(false,eval a X.env),(false,eval b X.env)]:=by rfl)(O:starEach [b] X.env=[(false,eval b X.env)]:=by rfl) :
 PV X (.Call (.Name "min" p) [a,b] [] pos) (oh f g):=
 j9 (yT (eE h.calm) (h.gl c).1 z PyProof.Rows.boot_min (zZ ha (zZ Y j1 O)<|by rw[U,O]) ⋯ ⋯ (by rw[U,O]) (by rw[O];rfl)) λσ H Q Z=>by obtain⟨H0,γ,d,rc,I,q⟩:=Z;obtain⟨i,e1,I⟩:=bind_some I;obtain⟨d1,e0,e1⟩:=bind_some e1;obtain⟨j,S,I⟩:=zx I;obtain⟨d2,e2,S⟩:=bind_some S;subst I;refine⟨H0,γ,d1,rc,e0,λv H' H0' x r=>⟨H0',γ,d2,rc.ext x,e2,λv2 H2 a4 x2 r2=>⟨i,j,?_,q _ H2 a4 (x.trans x2) rfl⟩⟩⟩;rw[jw e1]at r;rw[jw S]at r2;rw[jh r,jh r2]
end
def Cz(c:Xn)(od:Option Addr)(H0:Hp):Prop:=match c.2 with
 | none=>od=none
 | some i=>∃d,od=some d/\H0 d=some (.xd [(FS c.1,.int i)])
def spX(K:FY)(n:Nat)(G:List D->Option Xn):Sp:=λvs H _ E=>∃H0 ds c,Same H0 H/\Reps K H0 ds vs/\ds.length=n/\G ds=some c/\
 ∀C H' H0' od,xAll K=true->c.1∈xNames->xCls K c.1=some C->Cz c od H0'->Ext H0 H H0' H'->E (.ref C) od H'
section ap
variable(γ:Ctx)
@[simp] theorem vo(f):zO f γ=(f γ).bind jG:=rfl
@[simp] theorem K1(f):jR f γ=(f γ).map D.lst:=rfl
@[simp] theorem YV(f):jQ f γ=(f γ).map λds=>(Sk.L,ds):=rfl
@[simp] theorem xD(i):zc i γ=YQ γ[i]? :=rfl
@[simp] theorem jY(i):zh i γ=yd γ[i]? :=rfl
@[simp] theorem ko(d):zq d γ=some d:=rfl
@[simp] theorem V6(F a b):zv F a b γ=(a γ).bind λx=>(b γ).bind λy=>F x y:=rfl
@[simp] theorem Fi(f):sB f γ=(f γ).bind asB:=rfl
@[simp] theorem EF(f g):Yi f g γ=(f γ).bind λb=>if b=true then g γ else some false:=rfl
@[simp] theorem V5(f g):Wr f g γ=(f γ).bind λb=>if b=true then some true else g γ:=rfl
@[simp] theorem Er(f):ke f γ=(f γ).map λb=> !b:=rfl
@[simp] theorem Fg(f g):rY f g γ=((f γ).bind asB).bind λb=>if b=true then g γ else some (.bl false):=rfl
@[simp] theorem EY(f):sZ f γ=((f γ).bind asB).map λb=> .bl (!b):=rfl
@[simp] theorem mW(c f g):ak c f g γ=(c γ).bind λb=>if b=true then f γ else g γ:=rfl
@[simp] theorem vw:zF γ=some []:=rfl
@[simp] theorem x9(f g):zb f g γ=(f γ).bind λx=>(g γ).map λr=>x::r:=rfl
@[simp] theorem KZ(f):j3 f γ=(f γ).bind λds=>if ds.length<=lim then some (.tup ds)else none:=rfl
@[simp] theorem Eu(f):kf f γ=(f γ).bind λds=>if ds.length<=lim then some ds else none:=rfl
@[simp] theorem Es:qT γ=some (.next γ):=rfl
@[simp] theorem K0(f):qW f γ=(f γ).map λd=> .ret (.val d):=rfl
@[simp] theorem eW(f):vH f γ=(f γ).map λd=> .ret (.own d):=rfl
@[simp] theorem Eo(i):Zm i γ=Xt γ[i]? :=rfl
@[simp] theorem EC:gw γ=some (.cont γ):=rfl
@[simp] theorem rQ(k F G):sIf k F G γ=(k γ).bind λb=>if b=true then F γ else G γ:=rfl
@[simp] theorem vn(i f):jk i f γ=(f γ).map λd=> .next (γ.set i<|.val d):=rfl
@[simp] theorem YU(i f):kx i f γ=(f γ).map λds=> .next (γ.set i<|.own ds):=rfl
@[simp] theorem Jd(i f):qt i f γ=(qx γ[i]?).bind λds=>(f γ).bind λd=>if ds.length<lim then some (.next<|γ.set i<|.own<|ds++[d])else none:=rfl
@[simp] theorem we(F g):zG F g γ=(g γ).bind λds=>(F ds).map mf:=rfl
@[simp] theorem BK(F g):jE F g γ=(g γ).bind λds=>(F ds).bind rZ:=rfl
@[simp] theorem xm(f):zJ f γ=(f γ).map (·.2):=rfl
@[simp] theorem vq(f):zU f γ=((f γ).bind asI).bind λn=>if inR n=true then some (xM 0 n.toNat)else none:=rfl
@[simp] theorem AO(f g):xX f g γ=((f γ).bind asI).bind λm=>((g γ).bind asI).bind λn=>if inR m=true/\inR n=true then some (xM m (n - m).toNat)else none:=rfl
@[simp] theorem AL(f g):K7 f g γ=((f γ).bind jG).bind λm=>((g γ).bind jG).map λn=>wY m.2 n.2:=rfl
@[simp] theorem K2(src T F):yJ src T F γ=(src γ).bind λds=>xk T F ds γ:=rfl
@[simp] theorem xc(src T n fr k f):zH src T n fr k f γ=(src γ).bind λds=>if ds.length<=lim then zL T k f (zW n fr γ) ds else none:=rfl
@[simp] theorem EX:z6 γ=some true:=rfl
@[simp] theorem ED(f g):QF f g γ=(f γ).bind λa=>(g γ).bind λb=>match a.1,b.1 with
 | .L,.L=>if a.2.length+b.2.length<=lim then some (a.2++b.2)else none
 | _,_=>none:=rfl
@[simp] theorem Ep(f g):gu f g γ=(f γ).bind λa=>((g γ).bind asI).bind λj=>match a.1 with
 | .L=>if a.2.length*j.toNat<=lim/\inR j=true then some (Ge j.toNat a.2).flatten else none
 | _=>none:=rfl
@[simp] theorem vx(f g):sIx f g γ=(f γ).bind λa=>((g γ).bind asI).bind λi=>(ixD a.2.length i).bind λk=>a.2[k]? :=rfl
@[simp] theorem BD(i g f):wo i g f γ=(f γ).bind λd=>(qx γ[i]?).bind λds=>((g γ).bind asI).bind λk=>(ixD ds.length k).map λj=> .next (γ.set i<|.own<|ds.set j d):=rfl
@[simp] theorem EZ:Vj γ=some none:=rfl
@[simp] theorem EE(f):sBd f γ=((f γ).bind asI).map some:=rfl
@[simp] theorem AN(f l h):K8 f l h γ=(f γ).bind λd=>(l γ).bind λlo=>(h γ).bind λhi=>match d with
 | .tup xs=>some (.tup<|V2 xs lo hi)
 | _=>none:=rfl
@[simp] theorem Fb(f):Jk f γ=(f γ).map λa=> .int a.2.length:=rfl
@[simp] theorem FT(T f):sIs T f γ=(f γ).map λd=> .bl (mM T d):=rfl
@[simp] theorem yt(f):zP f γ=(f γ).map λa=> .tup a.2:=rfl
@[simp] theorem AQ(f):QD f γ=(f γ).map λa=>a.2:=rfl
@[simp] theorem AM(f):lW f γ=(f γ).bind λa=>(fD a.2).map D.int:=rfl
@[simp] theorem Fh(f):Be f γ=(f γ).bind λa=>(w5 a.2).map λs=> .bl (s.all id):=rfl
@[simp] theorem Ff(f):om f γ=(f γ).bind λa=>(w5 a.2).map λs=> .bl (s.any id):=rfl
@[simp] theorem eX(f):vJ f γ=(f γ).bind λd=>match d with
 | .int i=>some (.int i)
 | .bl b=>some (.int<|if b then 1 else 0)
 | _=>none:=rfl
@[simp] theorem Ek(f):gp f γ=(f γ).map λa=> !a.2.isEmpty:=rfl
theorem jI(F G):zI F G γ=(F γ).bind λz=>match z with
 | .next γ'=>G γ'
 | f=>some f:=rfl
end ap
@[simp] theorem eQ(ds):jG (.tup ds)=some (.T,ds):=rfl
@[simp] theorem AK(ds):jG (.lst ds)=some (.L,ds):=rfl
@[simp] theorem jb(d):YQ (some (.val d))=some d:=rfl
@[simp] theorem z7(d):yd (some (.val d))=jG d:=rfl
@[simp] theorem ZV(d):yd (some (.own d))=some (.L,d):=rfl
@[simp] theorem ZW(d):qx (some (.own d))=some d:=rfl
@[simp] theorem rJ(d):Xt (some (.val d))=some (.ret<|.val d):=rfl
@[simp] theorem rK(d):Xt (some (.own d))=some (.ret<|.own d):=rfl
@[simp] theorem EW(b):asB (.bl b)=some b:=rfl
@[simp] theorem qg(b):asI (.int b)=some b:=rfl
@[simp] theorem QH(d):mf (.val d)=d:=rfl
@[simp] theorem Bg(d):mf (.own d) = .lst d:=rfl
@[simp] theorem Vo(d):rZ (.own d)=some d:=rfl
@[simp] theorem Bv(i j):wt (.int i) (.int j)=some (.int<|i - j):=rfl
@[simp] theorem BA(i j):ju (.int i) (.int j)=some (.int<|i+j):=rfl
@[simp] theorem By(i j):jV (.int i) (.int j)=if 0<j then some (.int<|i%j)else none:=by show(if AH i j=true then _ else _)=_;simp[AH]
@[simp] theorem Bz(i j):yb (.int i) (.int j)=if 0<j/\j<1073741824 then some (.int<|i/j)else none:=by
 show(if mT i j=true then _ else _)=_;have e:(mT i j=true)=(0<j/\j<1073741824):=by unfold mT;rw[Gs,decide_eq_true_eq,decide_eq_true_eq];apply propext;constructor<;>intro h<;>exact⟨h.1,by omega⟩
 simp only[e]
@[simp] theorem Bx(i j):qm (.int i) (.int j)=if wy i j=true then some (.int<|i*j)else none:=rfl
@[simp] theorem Bw(i j):rB (.int i) (.int j)=if AG i j=true then some (.int<|i ^ j.toNat)else none:=rfl
@[simp] theorem Ed(i j):dLt (.int i) (.int j)=some (.bl<|decide<|i<j):=rfl
@[simp] theorem Ee(i j):dLe (.int i) (.int j)=some (.bl<|decide<|i<=j):=rfl
@[simp] theorem Ef(i j):dGt (.int i) (.int j)=some (.bl<|decide<|j<i):=rfl
@[simp] theorem Eg(i j):dGe (.int i) (.int j)=some (.bl<|decide<|j<=i):=rfl
@[simp] theorem Eh(i j):dEq (.int i) (.int j)=some (.bl<|decide<|i=j):=by unfold dEq;rw[RY ⟨rfl,rfl⟩];exact congrArg (λb=>some (D.bl b)) (by rw[IY];simp[eqD])
@[simp] theorem rC(i j):dNe (.int i) (.int j)=some (.bl<|!decide (i=j)):=by unfold dNe;rw[RY ⟨rfl,rfl⟩];exact congrArg (λb=>some (D.bl !b)) (by rw[IY];simp[eqD])
@[simp] theorem sY(i is d ds γ):qI (i::is) (d::ds) γ=qI is ds (γ.set i<|.val d):=rfl
@[simp] theorem sW(ds γ):qI [] ds γ=γ:=by cases ds<;>rfl
@[simp] theorem vk(i d γ):qV (.nm i) d γ=some (γ.set i<|.val d):=rfl
@[simp] theorem AI(i j a b γ):qV (.tp [i,j]) (.tup [a,b]) γ=some ((γ.set i<|.val a).set j (.val b)):=rfl
@[simp] theorem yM(γ:Ctx)(G:CO Fl):(some (Fl.next γ)).bind (λz=>match z with
 | .next γ'=>G γ'
 | f=>some f)=G γ:=rfl
theorem wu(i j:Int)(h1 : -(2 ^ 64)<j)(h2:j<2 ^ 64):wy i j=true:=by unfold wy;rw[Ia];right;exact decide_eq_true ⋯
theorem kW(i j:Int)(h1 : -(2 ^ 64)<i)(h2:i<2 ^ 64):wy i j=true:=by unfold wy;rw[Ia];left;exact decide_eq_true ⋯
theorem KG(h1 : -(2 ^ 62)<i)(h2:i<2 ^ 62):inR i=true:=by unfold inR;exact decide_eq_true ⋯
@[simp] theorem xC(n k:Nat):ixD n (k:Int)=if k<n then some k else none:=by
 unfold ixD;by_cases h:k<n
 ·rw[RY ⟨Int.natCast_nonneg k,by omega⟩,RY h];simp
 ·rw[EQ ⋯,EQ ⋯,EQ h]
theorem jz:lim=2500:=rfl
@[simp] theorem Bu:0<=lim:=HN _
@[simp] theorem Bt:1<=lim:=by decide
@[simp] theorem Bs:2<=lim:=by decide
@[simp] theorem Br:3<=lim:=by decide
@[simp] theorem Bq:4<=lim:=by decide
@[simp] theorem Bp:5<=lim:=by decide
@[simp] theorem Bo:6<=lim:=by decide
@[simp] theorem Bn:7<=lim:=by decide
@[simp] theorem Bm:8<=lim:=by decide
@[simp] theorem Bk:0<lim:=by decide
@[simp] theorem k9(h:n<=lim):inR (n:Int)=true:=KG ⋯ (by have:=jz;omega)
@[simp] theorem ix0(n:Nat):ixD (n+1) 0=some 0:=xC (n+1) 0 ▸ rfl
@[simp] theorem ix1(n:Nat):ixD (n+2) 1=some 1:=by have:=xC (n+2) 1;simpa using this
@[simp] theorem ix2(n:Nat):ixD (n+3) 2=some 2:=by have:=xC (n+3) 2;simpa using this
theorem zo(r:α->D) : ∀(l:List α),(∀x∈l,zL T k f γ [g x]=some [r x])->zL T k f γ (l.map g)=some (l.map r)
 | [],_=>rfl
 | x::l,h=>by
  have h1:=h x Gu;have h2:=zo r l λy z=>h y<|Gn _ z;simp only[GQ,zL]at h1 ⊢;cases e1:qV T (g x) γ with
  | none=>rw[e1]at h1;simp at h1
  | some γ1=>
   rw[e1]at h1;simp only[Gk]at h1 ⊢;cases e2:k γ1 with
   | none=>rw[e2]at h1;simp at h1
   | some b=>
    rw[e2]at h1;simp only[Gk]at h1 ⊢;cases b with
    | false=>simp at h1
    | true=>
     simp only[RY]at h1 ⊢;cases e3:f γ1 with
     | none=>rw[e3]at h1;simp at h1
     | some e=>
      rw[e3]at h1;simp at h1;rw[h2];simp[h1]
theorem zu(h1:qV T d γ=some γ1)(h2:k γ1=some true)(z:f γ1=some e):zL T k f γ [d]=some [e]:=by simp[zL,h1,h2,z]
theorem jX(T F d ds γ):xk T F (d::ds) γ=(qV T d γ).bind λγ1=>(F γ1).bind λI=>match I with
 | .next z=>xk T F ds z
 | .cont z=>xk T F ds z
 | .brk z=>some (.next z)
 | .ret r=>some (.ret r):=rfl
theorem ZO(P:Nat->Ctx->Prop) : ∀(ds:List D) (k:Nat) (γ:Ctx),P k γ->(∀i d γ,ds[i]? = some d->P (k+i) γ->∃γ',((qV T d γ).bind F=some (.next γ')\/(qV T d γ).bind F=some (.cont γ'))/\P (k+i+1) γ')->
 ∃γ',xk T F ds γ=some (.next γ')/\P (k+ds.length) γ'
 | [],k,γ,h,_=>⟨γ,rfl,h⟩
 | d::ds,k,γ,h,step=>by
  obtain⟨γ1,e,h1⟩:=step 0 d γ rfl h;obtain⟨γ',z,h2⟩:=ZO P ds (k+1) γ1 (by simpa using h1) (λi d' I hd O=>by have:=step (i+1) d' I (by simpa using hd) (by rw[show k+(i+1)=k+1+i by omega];exact O);rw[show k+(i+1)+1=k+1+i+1 by omega]at this;exact this)
  refine⟨γ',?_,by rw[show k+(d::ds).length=k+1+ds.length by simp;omega];exact h2⟩;rw[jX];cases eb:qV T d γ with
  | none=>rw[eb]at e;simp at e
  | some S=>
   rw[eb]at e;simp only[Gk]at e ⊢;rcases e with e | e<;>rw[e]<;>exact z
def zE(n:Nat)(f:Nat->Int):List D:=(Ga n).map λi=>D.int<|f i
theorem je(n f):zE n f=(Ga n).map λi=>D.int (f i):=rfl
def zM(h w:Nat)(f:RK):List D:=(Ga h).map λi=>D.tup<|zE w<|f i
def jj(h w:Nat)(f:RK):D:= .tup [.int h,.int w,.tup (zM h w f)]
@[simp] theorem vf(n f):(zE n f).length=n:=by simp[zE]
@[simp] theorem VZ(h w f):(zM h w f).length=h:=by simp[zM]
@[simp] theorem Ea(f)(h:i<(zE n f).length):(zE n f)[i] = .int (f i):=by simp[zE]
theorem VY(f)(h:i<n):(zE n f)[i]? = some (.int<|f i):=by simp[zE,h]
@[simp] theorem Eb(f)(hi:i<(zM h w f).length):(zM h w f)[i] = .tup (zE w<|f i):=by simp[zM]
theorem xl(h : ∀i,i<n->f i=g i):zE n f=zE n g:=by unfold zE;apply GI;intro i hi;rw[h i (Gc.mp hi)]
theorem V0(e : ∀i j,i<h->j<w->f i j=g i j):zM h w f=zM h w g:=by unfold zM;apply GI;intro i hi;rw[xl λj z=>e i j (Gc.mp hi) z]
theorem jL(n:Nat):xM 0 n=zE n λi=>(i:Int):=by simp[xM,zE]
theorem wG(n:Nat)(f g:Nat->Int):wY (zE n f) (zE n g)=(Ga n).map λi=>D.tup [.int (f i),.int (g i)]:=by unfold wY zE;rw[LL];simp
theorem fG(n w:Nat)(f g:RK):wY (zM n w f) (zM n w g)=(Ga n).map λi=>D.tup [.tup (zE w<|f i),.tup (zE w<|g i)]:=by unfold wY zM;rw[LL];simp
def sumTo(f:Nat->Int):Nat->Int
 | 0=>0
 | n+1=>sumTo f n+f n
theorem Ze : ∀(xs:List Int) (y:Int),fD (xs.map D.int++[.int y])=(fD<|xs.map D.int).map λs=>s+y
 | [],y=>by simp[fD]
 | x::xs,y=>by simp only[GQ,NW,fD];rw[Ze xs y];cases e:fD (xs.map D.int)<;>simp[Int.add_assoc]
theorem w9(f:Nat->Int) : ∀n,fD (zE n f)=some (sumTo f n)
 | 0=>rfl
 | n+1=>by
  have z:=w9 f n;have e : ∀m,zE m f=((Ga m).map f).map D.int:=λm=>by simp[zE]
  rw[e]at z ⊢;rw[IB,Hk,Hk,List.map_singleton,List.map_singleton,Ze,z];simp[sumTo]
def xf:=js 2<|qW<|zP<|jQ<|zH (zJ<|zh 1) (.nm 0) 1 [0] z6 (zv jV (zc 0)<|zc 1)
def Y2:=js 3<|qW<|zG xf<|zb (zc 0)<|zb (jR<|zH (zJ<|zO<|sIx (zh 1)<|zq<|.int 2) (.nm 0) 1 [2] z6 (lW<|jQ<|zH (K7 (zc 0)<|zc 1) (.tp [0,1]) 2 [] z6 (zv qm (zc 0)<|zc 1))) zF
def qc:=js 2<|zI (jk 1<|jR<|zH (zU<|sIx (zh 0)<|zq<|.int 1) (.nm 0) 1 [0] z6 (zP<|jQ<|zH (zJ<|zO<|sIx (zh 1)<|zq<|.int 2) (.nm 0) 1 [0] z6 (sIx (zh 0)<|zc 1)))<|qW<|j3<|zb (sIx (zh 0)<|zq<|.int 1)<|zb (sIx (zh 0)<|zq<|.int 0)<|zb (zP<|zh 1) zF
def jD:=js 2<|zI (jk 1<|jR<|zH (zU<|zc 0) (.nm 0) 1 [0] z6 (zP<|jQ<|zH (zU<|zc 1) (.nm 0) 1 [0] z6 (ak (sB<|zv dEq (zc 1)<|zc 0) (zq<|.int 1)<|zq<|.int 0)))<|qW<|j3<|zb (zc 0)<|zb (zc 0)<|zb (zP<|zh 1) zF
def qS:=js 2<|qW<|j3<|zb (zc 0)<|zb (zc 1)<|zb (zv qm (j3<|zb (zv qm (j3<|zb (zq<|.int 0) zF)<|zc 1) zF)<|zc 0) zF
def qN:=js 1<|qW<|rY (sIs .int<|zc 0)<|sZ<|sIs .bool<|zc 0
def vE:=js 3<|zI (yJ (xX (zq<|.int 1)<|zc 0) (.nm 2)<|sIf (sB<|zv dEq (zv jV (zv qm (zc 1)<|zc 2)<|zc 0)<|zq<|.int 1) (Zm 2) qT) XW
def qj:=js 5<|zI (jk 4<|sIx (zh 1)<|zc 3)<|zI (sIf (sB<|zv dEq (zc 4)<|zq<|.int 0) (Zm 1) qT)<|qW<|zG xf<|zb (zc 0)<|zb (jR<|zH (K7 (zc 1)<|zc 2) (.tp [0,1]) 2 [4] z6 (zv wt (zc 0)<|zv qm (zc 2)<|zc 1)) zF
def qk:=js 9<|zI (jk 3<|jR<|zH (zJ<|zh 2) (.nm 0) 1 [0] z6 (zG xf<|zb (zc 1)<|zb (zc 0) zF))<|zI (kx 4<|kf zF)<|zI (yJ (zU<|zc 1) (.nm 5)<|zI (jk 6<|jR<|zH (zJ<|zh 3) (.nm 0) 1 [5] (sB<|zv dNe (sIx (zh 0)<|zc 1)<|zq<|.int 0) (zc 0))<|zI (sIf (ke<|gp<|zh 6) gw qT)<|zI (jk 7<|zG vE<|zb (zc 0)<|zb (sIx (zO<|sIx (zh 6)<|zq<|.int 0)<|zc 5) zF)<|zI (jk 8<|zG xf<|zb (zc 0)<|zb (jR<|zH (zJ<|zO<|sIx (zh 6)<|zq<|.int 0) (.nm 0) 1 [7] z6 (zv qm (zc 1)<|zc 0)) zF)<|zI (jk 3<|jR<|zH (zJ<|zh 3) (.nm 0) 1 [0,5,8] z6 (zG qj<|zb (zc 1)<|zb (zc 0)<|zb (zc 3)<|zb (zc 2) zF))<|kx 4<|QF (jQ<|zH (zJ<|zh 4) (.nm 0) 1 [0,5,8] z6 (zG qj<|zb (zc 1)<|zb (zc 0)<|zb (zc 3)<|zb (zc 2) zF))<|jQ<|kf<|zb (zc 8) zF)<|Zm 4
def jK:=js 2<|vH<|zH (zJ<|zh 1) (.nm 0) 1 [0] (ke<|sB<|om<|zO<|K8 (zc 0) Vj<|sBd<|zc 1) (K8 (zc 0) (sBd<|zc 1) Vj)
def F_led_into:=js 5<|zI (jk 3<|jR<|zH (K7 (sIx (zO<|zG qc<|zb (zc 1) zF)<|zq<|.int 2)<|sIx (zO<|zG jD<|zb (sIx (zh 1)<|zq<|.int 1) zF)<|zq<|.int 2) (.tp [0,1]) 2 [] z6 (zv ju (zc 0)<|zc 1))<|zI (jk 4<|jR<|zH (zJ<|zh 2) (.nm 0) 1 [1] z6 (zv ju (zc 0)<|zv qm (j3<|zb (zq<|.int 0) zF)<|sIx (zh 1)<|zq<|.int 1))<|vH<|jE jK<|zb (sIx (zh 1)<|zq<|.int 0)<|zb (jR<|jE qk<|zb (zc 0)<|zb (zv ju (sIx (zh 1)<|zq<|.int 0)<|sIx (zh 1)<|zq<|.int 1)<|zb (jR<|QF (zh 3)<|zh 4) zF) zF
def yv:=js 2<|vH<|jE F_led_into<|zb (zc 0)<|zb (zc 1)<|zb (jR<|kf zF) zF
def wj:=js 2<|vH<|jE qk<|zb (zc 0)<|zb (sIx (zh 1)<|zq<|.int 0)<|zb (sIx (zO<|zG qc<|zb (zc 1) zF)<|zq<|.int 2) zF
def qi:=js 1<|qW<|sIx (jQ<|zH (QE<|zc 0) (.tp [0,1]) 2 [] (sB<|zv dNe (zc 1)<|zq<|.int 0) (zc 0))<|zq<|.int 0
def yu:=js 7<|zI (jk 3<|sIx (zh 1)<|zq<|.int 1)<|zI (kx 4<|gu (jQ<|kf<|zb (zq<|.int 0) zF)<|zc 3)<|zI (yJ (zJ<|zO<|jR<|jE qk<|zb (zc 0)<|zb (zv ju (zc 3)<|zq<|.int 1)<|zb (jR<|zH (K7 (sIx (zh 1)<|zq<|.int 2)<|zc 2) (.tp [0,1]) 2 [] z6 (zv ju (zc 0)<|j3<|zb (zc 1) zF)) zF) (.nm 5)<|zI (jk 6<|zG qi<|zb (zc 5) zF)<|zI (sIf (sB<|zv dEq (zc 6)<|zc 3) (qW<|zq .non) qT)<|wo 4 (zc 6)<|sIx (zh 5)<|zc 3)<|qW<|zP<|zh 4
section
variable(γ:Ctx)
@[simp] theorem EA(f):QE f γ=(f γ).bind λd=>match d with
 | .tup ds=>some (qZ ds)
 | _=>none:=rfl
@[simp] theorem BJ(F G a b c):XX F G a b c γ=(a γ).bind λx=>(b γ).bind λy=>((F x y).bind asB).bind λk=>if k=true then (c γ).bind λz=>G y z else some (.bl false):=rfl
@[simp] theorem El(T f):gr T f γ=(f γ).bind λd=>(qV T d γ).map .next:=rfl
end
def xG:=js 5<|zI (jk 2<|sIx (zh 1)<|zq<|.int 0)<|zI (sIf (sB<|zv dNe (sIx (zh 1)<|zq<|.int 1)<|zc 2) (qW<|zq .non) qT)<|zI (jk 3<|sIx (zO<|zG jD<|zb (zc 2) zF)<|zq<|.int 2)<|zI (jk 4<|jR<|jE qk<|zb (zc 0)<|zb (zv ju (zc 2)<|zc 2)<|zb (jR<|zH (K7 (sIx (zh 1)<|zq<|.int 2)<|zc 3) (.tp [0,1]) 2 [] z6 (zv ju (zc 0)<|zc 1)) zF)<|zI (sIf (sB<|zv dNe (jR<|zH (zJ<|zh 4) (.nm 0) 1 [2] z6 (K8 (zc 0) Vj<|sBd<|zc 1))<|jR<|QD<|zh 3) (qW<|zq .non) qT)<|qW<|j3<|zb (zc 2)<|zb (zc 2)<|zb (zP<|jQ<|zH (zJ<|zh 4) (.nm 0) 1 [2] z6 (K8 (zc 0) (sBd<|zc 1) Vj)) zF
section
variable(γ:Ctx)
@[simp] theorem Em(i f):Ye i f γ=(f γ).bind λrows=>if γ.any jM=false then some (.next<|γ.set i<|.nest rows)else none:=rfl
@[simp] theorem BI(src T n fr f):yO src T n fr f γ=(src γ).bind λds=>if ds.length<=lim then kJ T f (zW n fr γ) ds else none:=rfl
@[simp] theorem AS(j i g f):vK j i g f γ=(qR γ[j]?).bind λrows=>if i=j\/γ.length<=i then none else (qQ j i g f γ rows).map λz=> .next ((γ.set j<|.nest z).set i .no):=rfl
@[simp] theorem mX(i F):Bc i F γ=(qx γ[i]?).bind λds=>F (γ.set i<|.val<|.lst ds):=rfl
@[simp] theorem Ez(i F):Ws i F γ=(qR γ[i]?).bind λrows=>F (γ.set i<|.val<|.lst<|rows.map D.lst):=rfl
end
@[simp] theorem lB(r):qR (some (.nest r))=some r:=rfl
section
variable(γ:Ctx)
@[simp] theorem lH(f g):JD f g γ=(f γ).bind λd=>((g γ).bind asI).bind λi=>match d with
 | .str z=>if xK z=true then (ixD z.cps.toList.length i).bind λk=>z.cps.toList[k]?.map λc=> .str ⟨#[c]⟩else none
 | _=>none:=rfl
@[simp] theorem Ex(f):oi f γ=(f γ).bind λd=>match d with
 | .str z=>if xK z=true then some (.int z.length)else none
 | _=>none:=rfl
end
def Js:=js 2 (qW (ak (sB (zv dEq (zc 1) (zq (.str "r")))) (zc 0) (zv ju (zc 0) (zq (.int 1)))))
def lS:=js 2 (qW (ak (sB (zv dEq (zc 1) (zq (.str "r")))) (zv ju (zc 0) (zq (.int 1))) (zc 0)))
def Cf(f:CO D):CO D:=λγ=>(f γ).map λd=> .bl (mM .list d || mM .tuple d)
def aj:=js 1<|qW<|rY (sIs .int<|zc 0)<|sZ<|sIs .bool<|zc 0
def K5:=js 2<|qW<|rY (zG aj<|zb (zc 1) zF)<|XX dLe dLt (zq<|.int 0) (zc 1)<|zc 0
def Y3:=js 2<|qW<|rY (Cf<|zc 0)<|zv dEq (Jk<|zh 0)<|zc 1
section
variable{X:Cx}{sc:Scope}{N L:List Str}{k:Nat}{a e:Expr}{es:List Expr}{f:CO D}{g:CO (List D)}{pos p p2:Pos}
structure GL(K:FY)(mg:RJ)(x:Str)(d:D):Prop where
 ex : ∃u v,mg x=some u/\RelV v u/\∀H,Rep K H d v
end
theorem qX(h:PAn X es n g):PAD X es g:=h.1
section
variable{K:FY}{E0 E H0 H:Hp}{σ:St}{γ:Ctx}
theorem Reps.dropLast : ∀{ds:List D} {xs:List V},Reps K H ds xs->Reps K H ds.dropLast xs.dropLast
 | [],xs,r=>by rw[r.inv_nil];exact Reps.nil
 | [d],xs,r=>by obtain⟨x,r',e,_,r2⟩:=r.inv_cons;rw[e,r2.inv_nil];exact Reps.nil
 | d::d2::ds,xs,r=>by obtain⟨x,r',e,z,r2⟩:=r.inv_cons;obtain⟨O,S,I,_,_⟩:=r2.inv_cons;subst e I;exact Reps.cons z<|Reps.dropLast r2
theorem RS.renest(r:RS K E0 E H0 H σ γ)(hj:γ[j]? = some (.nest R))(hs:σ[j]? = some (some (.ref a)))(hn:Nest K H0 H R a bs)
 (a4 : ∀(k:Nat) ds c,γ[k]? = some (.own ds)->σ[k]? = some (some (.ref c))->c∉a::U) (n':Nest K H0 (upd H a<|.lst<|U.map V.ref) R' a U) (ef : ∀b∈U,E b=none) :
 RS K E0 E H0 (upd H a<|.lst<|U.map V.ref) σ (γ.set j<|.nest R'):=by
 have a7:j<γ.length:=(Gq.mp hj).1;obtain⟨ea,er⟩:=r.fr2 j R a _ hj hs hn.ha;have a0:=hn.a0;have O : ∀{k:Nat} {c:Cell},(∀rows,c ≠ .nest rows)->(γ.set j<|.nest R')[k]? = some c->γ[k]? = some c:=λ{k c} hc g=>by
  rcases zA g with⟨_,z,_⟩ | ⟨Y,z⟩
  ·exact absurd z<|hc _
  ·exact z
 have Z : ∀{k rows},(γ.set j<|.nest R')[k]? = some (.nest rows)->k=j:=λ{k rows} g=>by
  rcases zA g with⟨z,_,_⟩ | ⟨_,z⟩
  ·exact z
  ·exact r.rc.nst.2 k j rows R z hj
 refine⟨⟨λc o q=>?_,by simp[r.rc.len],λk d g=>r.rc.val k d<|O ⋯ g,λk ds g=>?_,λk m c ds es e1 e2 e3 e4=>r.rc.ne k m c ds es (O ⋯ e1) (O ⋯ e2) e3 e4,⟨λk rows g=>?_,λk m r1 r2 I g2=>?_⟩⟩,⟨r.ext.s0,λc o q=>?_,λc o q=>?_,r.ext.new⟩,λk ds c I g2=>r.fresh k ds c (O ⋯ I) g2,λk rows c xs I g2 S=>?_⟩
 ·rw[zB (λz=>by rw[z,a0]at q;cases q)];exact r.rc.sub c o q
 ·have z:=O ⋯ g
  obtain⟨c,xs,h1,h2,h3,h5⟩:=r.rc.own k ds z;refine⟨c,xs,h1,h2,?_,h5⟩;rw[zB (λq=>a4 k ds c z h1<|by rw[q];exact Gu)];exact h3
 ·have Y:=Z g
  subst Y;rw[GD a7]at g;cases g;exact⟨a,U,hs,n',λm ds c I g2=>a4 m ds c (O ⋯ I) g2⟩
 ·rw[Z I,Z g2]
 ·rw[zB (λz=>by rw[z,ea]at q;cases q)];exact r.ext.s1 c o q
 ·rw[zB (λz=>by rw[z,a0]at q;cases q)];exact r.ext.sub c o q
 ·have Y:=Z I
  subst Y;rw[hs]at g2;cases g2;rw[zD]at S;injection S with S;injection S with S;subst S;refine⟨ea,λb hb=>?_⟩;obtain⟨c,hc,q⟩:=GO.mp hb;cases q;exact ef b hc
end
section
variable{X:Cx}{sc:Scope}{N L:List Str}{k:Nat}{a b e:Expr}{pos p p2:Pos}{f g:CO D}
theorem vM(h:QG j g γ=some t):γ[j]? = some (.nest t.1)/\∃d i,g γ=some d/\asI d=some i/\ixD t.1.length i=some t.2.1/\t.1[t.2.1]? = some t.2.2:=by obtain⟨R,e1,h⟩:=bind_some h;obtain⟨i,z,h⟩:=bind_some h;obtain⟨d,I,z⟩:=bind_some z;obtain⟨k,O,h⟩:=bind_some h;obtain⟨row,S,h⟩:=zx h;subst h;exact⟨kK e1,d,i,I,z,O,S⟩
theorem bp{K:FY}{H0 H:Hp}{R:List (List D)}{a:Addr}{bs:List Addr}{i:Int}{t:Nat}(hn:Nest K H0 H R a bs)(hi:ixD R.length i=some t)(I:R[t]? = some row) :
 ∃b xs,bs[t]? = some b/\atI (bs.map V.ref) i=some (.ref b)/\H b=some (.lst xs)/\Reps K H0 row xs:=by
 have O:t<bs.length:=by rw[hn.len];exact(Gq.mp I).1
 have z:bs[t]? = some bs[t]:=Gd O;obtain⟨h1,xs,h2,S⟩:=hn.row t _ _ z I;refine⟨_,xs,z,?_,h2,S⟩;unfold atI;rw[Gw,hn.len,ZJ hi];show(bs.map V.ref)[t]? = _;rw[GZ,z];rfl
theorem Wx{c:Expr}{fa:CO D}(ha:PV X a fa){O:CO (Sk×List D)}(U:PQ X c O)(hm:behindInMarks .NotIn c=false:=by with_unfolding_all rfl):PTD X (.Compare a [.NotIn] [c] pos) (sB<|QC fa O):=
 Wy (Yk Kd ha U hm) λσ H Q Y=>by
  obtain⟨H0,γ,d,rc,z,q⟩:=Y;obtain⟨db,Z,eb⟩:=bind_some z;obtain⟨x,e1,z⟩:=bind_some Z;obtain⟨⟨kk,ds⟩,e2,z⟩:=bind_some z;obtain⟨i,e3,z⟩:=bind_some z;obtain⟨l,e4,rfl⟩:=zx z;cases eb;refine⟨H0,γ,x,rc,e1,λS H1 a4 x1 I=>⟨a4,γ,kk,ds,rc.ext x1,e2,λp xs H2 a5 x2 h1 h2 r=>?_⟩⟩;rw[jw e3]at I;have ex:=KA r e4;subst ex;have hq:SqL X.K H2 p (l.map V.int)\/SqT X.K H2 p (l.map V.int):=by
   cases kk with
   | L=>exact .inl h1
   | T=>exact .inr h1
  refine⟨p,_,rfl,hq,by rw[show S = .int i from I];rfl,KO l,?_⟩;rw[show S = .int i from I,cW];exact⟨_,rfl,q H2 a5<|x1.trans x2⟩
end
end DL
namespace L2
open PySem PySem.Spec PyProof.Rows
theorem iX{X:Cx}{pins:RW}{σ:St}{H:Hp}{s:Shared}{E:RQ}{z it:Addr}{i tk:Nat}{x:Value}{v:V}{g:Heap}{elts:List Expr}{x1:Nat}{tpos:Pos}{Q:Unit->Shared->Prop}
 (I:Inv X pins σ H s) (Y : ∀b ∈ [z,it],FpOk X pins H b) (Z:z<s.heap.objs.size) (hi:it<s.heap.objs.size) (a1:IsEnumOut g z it ((i:Int)+1) x s.heap.objs.size)
 (a3:IsPair g s.heap.objs.size (.int i tk) x) (a5 : ∀b o,b≠z->b≠it->s.heap.get? b=some o->g.get? b=some o) (rx:RelV v x)
 (a7 : ∀g2,IsEnum g2 z it ((i+1:Nat):Int) x->LH z g g2->Inv X pins σ (upd H s.heap.objs.size<|.tup [.int i,v]) {s with heap:=g2,toks:=tk+1}->H s.heap.objs.size=none->
   (∀b ∈ [z,it],upd H s.heap.objs.size (.tup [.int i,v]) b=none)->Q () {s with heap:=g2,toks:=tk+1}) :
 wpAny (model X.prog X.w) X.A (letOwnedTupleGo (.Tuple elts x1 tpos) (.ref z)<|.ref s.heap.objs.size) Q E {s with heap:=g,toks:=tk+1}:=by
 refine wpAny_letOwnedTupleGo_enum a1 λg2 a8 U=>?_;have a9:IsPair g2 s.heap.objs.size (.int i tk) x:=U.extBut _ _ (II Z) a3;have kk : ∀O u,O ∉ [z,it]->s.heap.get? O=some u->g2.get? O=some u:=λO u S e=>by simp only[Gr,Hd,or_false,not_or]at S;exact U.extBut _ _ S.1<|a5 O u S.1 S.2 e
 refine a7 g2 (by have:=a8;rwa [show((i:Int)+1)=((i+1:Nat):Int)by omega]at this) U (I.turnLaid (fp:=[z,it]) kk Y (Gh _) ⟨by show 2<=sizeLine;decide,[.int i tk,x],.cons ⟨_,rfl⟩<|.cons rx .nil,⟨_,a9,rfl,_,rfl⟩⟩) I.fresh λO S=>?_;have ac:O≠s.heap.objs.size:=by
  simp only[Gr,Hd,or_false]at S;rcases S with rfl | rfl
  ·exact Hb Z
  ·exact Hb hi
 rw[zB ac];exact(Y O S).1
def EI(K:FY)(a:Addr):It:=
 ⟨λi H=>∃xs,SqL K H a xs/\i<xs.length,
  λi H x H'=>∃p u,x = .ref p/\H p=none/\H'=upd H p (.tup [.int i,u])/\(∀xs,SqL K H a xs->xs[i]? = some u),
  λi H=>∃xs,SqL K H a xs/\xs.length=i⟩
theorem We{P:Program}{w:World}{K:FY}{elts:List Expr}{x1:Nat}{tpos:Pos}{z it a:Addr}(a9:z≠it) :
 Turn P w K (.Tuple elts x1 tpos) (EI K a) [z,it] z (λi h=>(∃U,IsEnum h z it i U)/\h.IsListIter it a i) where
 mem:=by simp
 obj:=λi h ⟨⟨U,O⟩,h1⟩ y hy=>by
  simp only[Gr,Hd,or_false]at hy;rcases hy with rfl | rfl
  ·exact⟨_,O,λv q=>by cases q⟩
  ·obtain⟨o,e,c,d⟩:=h1
   exact⟨o,e,λv q=>by rw[d]at q;cases q⟩
 keep:=λi h h' ⟨⟨U,O⟩,h1⟩ k=>⟨⟨U,k z ⋯ _ O⟩,h1.at λo e=>k it ⋯ o e⟩
 item:=by
  rintro X rfl rfl rfl hc i pins s σ H E I hf ⟨⟨U,O⟩,h1⟩ ⟨xs,a0,b0⟩;obtain⟨a6,a7,p1,z1⟩:=I.list a0;have Y:=p1.isList;have hx:xs[i]? = some xs[i]:=Gd b0;have l1:=a7.length;have am:a≠it:=λe=>by obtain⟨o,e1,S,_⟩:=Y;obtain⟨o2,Z,c2,_⟩:=h1;rw[e,Z]at e1;cases e1;rw[c2]at S;exact absurd S ⋯
  have bb:z≠a:=λe=>by obtain⟨o,e1,S,_⟩:=Y;have as:s.heap.get? z=some _:=O;rw[e,e1]at as;cases as;exact absurd S ⋯
  have bd:it<s.heap.objs.size:=by obtain⟨o2,Z,_⟩:=h1;exact GE Z
  have Dr:=Draws.list (prog:=X.prog) (w:=X.w) (A:=X.A.in1) (show X.A.in1.handled=none from I.ok.hd hc) it a am a6.toArray;refine wpAny_pyNext_enum_itemD Dr O ⟨h1,Y⟩ (by simp;omega) a9 (by simp;exact⟨a9,bb⟩) λx g tk hP a1 a2 a3 a4 a5=>⟨_,rfl,?_⟩;obtain⟨u1,bm,bn⟩:=a7.get hx;obtain rfl:u1=x:=by have:=hP;simp[bm]at this;exact this
  refine iX I hf (GE O) bd a1 a3 a5 bn λg2 b1 b2 I1 bx hn=>⟨.ref s.heap.objs.size,_,I1,rfl,⟨_,_,rfl,bx,rfl,λc7 c0=>by rw[I.list_inj c0 a0];exact hx⟩,⟨⟨_,b1⟩,a2.1.at λo e=>b2.extBut _ _ a9.symm e⟩,hn⟩
 done:=by
  rintro X rfl rfl rfl hc i pins s σ H E I hf ⟨⟨U,O⟩,h1⟩ ⟨xs,a0,hi⟩;obtain⟨a6,a7,p1,z1⟩:=I.list a0;have Y:=p1.isList;have l1:=a7.length;have am:a≠it:=λe=>by obtain⟨o,e1,S,_⟩:=Y;obtain⟨o2,Z,c2,_⟩:=h1;rw[e,Z]at e1;cases e1;rw[c2]at S;exact absurd S ⋯
  have Dr:=Draws.list (prog:=X.prog) (w:=X.w) (A:=X.A.in1) (show X.A.in1.handled=none from I.ok.hd hc) it a am a6.toArray;have en:a6.toArray.size=i:=by simp;omega
  rw[en]at Dr;refine wpAny_pyNext_enum_endD Dr O ⟨h1,Y⟩ λg hk=>⟨rfl,?_⟩;refine I.turnedL (t':=s.toks) (fp:=[z,it]) (λb' u hb e=>?_) hf;simp only[Gr,Hd,or_false,not_or]at hb;exact hk b' u hb.2 e
 self:=λ_ _ _ _ _ st h=>vd st.1.choose_spec h
def Aq(K:FY)(ta:TA):TI:=λσ H R=>ta σ H λvs H1=>∃a,vs=[.ref a]/\(∃xs,SqL K H1 a xs)/\R (EI K a) H1
section
variable{X:Cx}{e1:Expr}{ta:TA}{p pos:Pos}{elts:List Expr}{x1:Nat}{tpos:Pos}
theorem gX(U:Gl X "enumerate")(hm:X.mg "enumerate" = none)(ha:PA X [e1] ta)
 (Y:bootBuiltins "enumerate" = some (.type "enumerate")) (Z:starEach [e1] X.env=[(false,eval e1 X.env)]:=by rfl) :
 PI X (.Tuple elts x1 tpos) (.Call (.Name "enumerate" p) [e1] [] pos) (Aq X.K ta):=by
 intro pins s σ H R I h;refine Call_<|xP I U hm Y<|Hw (thn (ha pos pins s σ H _ I h) λus s1 hZ=>?_) (by rw[Z];rfl) rfl;obtain⟨vs,H1,z,r1,q1⟩:=hZ;obtain⟨a,rfl,⟨xs,a3⟩,q⟩:=q1;obtain⟨w1,rfl,a4⟩:=yE r1;cases a4;obtain⟨a6,a7,p1,z1⟩:=z.list a3;refine call_enumerate_list p1.isList λg b1 b2 b3 b4=>vd (s:={s1 with heap:=g}) b1 ?_;refine⟨_,[s1.heap.objs.size+1,s1.heap.objs.size],_,_,H1,rfl,z.kept (t':=s1.toks) b4,We<|II<|Ic _,⟨⟨_,b1⟩,b2⟩,λc O=>?_,q⟩;have S:s1.heap.objs.size<=c:=by
  simp only[Gr,Hd,or_false]at O;rcases O with rfl | rfl
  ·exact Hr _ _
  ·exact Gh _
 exact z.fpOk S<|z.hok.fresh S
end
end L2
namespace DL
open PySem PySem.Spec PyProof.Rows L2
theorem Wa{K:FY}{H0 Hs:Hp}{a:Addr}{xs:List V}{ds:List D}(h:SqL K Hs a xs)(r:Reps K H0 ds xs):Walk K H0 Hs (EI K a) (qZ ds):=by
 have S:=r.length;have U:(qZ ds).length=ds.length:=by simp[qZ]
 refine⟨λi H1 s hi=>?_,λH1 s=>?_,λi H1 x H1' s hi y=>?_⟩
 ·exact⟨xs,s.seq h,by omega⟩
 ·exact⟨xs,s.seq h,by omega⟩
 ·obtain⟨p,u,rfl,z,rfl,I⟩:=y
  obtain⟨d,hd,O⟩:=r.getV<|I xs<|s.seq h;refine⟨.tup [.int i,d],?_,λG0 s1 s2=>⟨upd G0 p<|.tup [.int i,u],Ext.alloc s2 z _,?_⟩⟩
  ·unfold qZ
   rw[GZ,List.getElem?_range ⋯,GM,hd];rfl
  ·exact qY (SqT.of zD)<|Reps.cons (show V.int i = .int i from rfl)<|Reps.cons ((O.mono s1).mono (z5 (ji s2 z) _)) Reps.nil
section
variable{X:Cx}{sc:Scope}{N L:List Str}{k:Nat}{a b e:Expr}{pos p p2:Pos}{f fa fb:CO D}
theorem oT(h:SX X sc N L k)(c:yD sc "enumerate" = true)(z:X.mg "enumerate" = none)(ha:PV X a f)(O:starEach [a] X.env=[(false,eval a X.env)]:=by rfl) :
 PIF X (.Tuple elts x1 tpos) (.Call (.Name "enumerate" p) [a] [] pos) (Vk f):=
 Ka (gX (h.gl c).1 z (zZ ha j1 O) boot_enumerate O) λσ H R U=>by
  obtain⟨H0,γ,ds,rc,I,q⟩:=U;obtain⟨d,Y,I⟩:=bind_some I;cases d with
  | lst es=>
   cases I;refine⟨H0,γ,_,rc,Y,λv H' H0' x r=>?_⟩;obtain⟨Z,xs,rfl,S,g2⟩:=cE r;exact⟨Z,rfl,⟨xs,x.sub.seq S⟩,q _ H' H0' x<|Wa S g2⟩
  | _=>cases I
end
end DL
namespace DL
open PySem L2 PyProof.Rows
open PySem.W (KasT kas_sort kas_asc kas_desc kas_tail3 kas_descPart kas_count kas_place kas_bin kas_rev)
def Good{α:Type}(n:Nat)(P:α->Prop):KasT α->Prop
 | .ret a=>P a
 | .ask i j k=>i<n/\j<n/\∀b,Good n P<|k b
theorem Good.mono{α:Type}{n:Nat}{P z:α->Prop}(h : ∀a,P a->z a) : ∀{t:KasT α},Good n P t->Good n z t
 | .ret a,g=>h a g
 | .ask i j k,g=>⟨g.1,g.2.1,λb=>(g.2.2 b).mono h⟩
theorem Good.bind{α β:Type}{n:Nat}{P:α->Prop}{z:β->Prop}{f:α->KasT β}(I : ∀a,P a->Good n z (f a)) : ∀{t:KasT α},Good n P t->Good n z (t.bind f)
 | .ret a,g=>I a g
 | .ask i j k,g=>⟨g.1,g.2.1,λb=>(g.2.2 b).bind I⟩
theorem Good.run : ∀{t:KasT α},Good n P t->P (xn lt t)
 | .ret a,g=>g
 | .ask i j k,g=>(g.2.2 _).run
def Pm(n:Nat)(p:Array Nat):Prop:=p.toList.Perm<|Ga n
theorem Pm.lt(h:Pm n p)(hn:0<n)(i:Nat):p.getD i 0<n:=by
 by_cases hi:i<p.size
 ·have e:p.getD i 0=p[i]:=by simp[Array.getD,hi]
  rw[e];exact Gc.mp<|h.mem_iff.mp ⋯
 ·have e:p.getD i 0=0:=by simp[Array.getD,hi]
  rw[e];exact hn
theorem Pm.rev(h:Pm n p)(i j:Nat):Pm n (kas_rev p i j):=(Array.perm_iff_toList_perm.mp<|mirror_perm p i j _).trans h
theorem Pm.bub(h:Pm n p)(i j:Nat):Pm n (bubble p i j):=(Array.perm_iff_toList_perm.mp<|bubble_perm p i j).trans h
theorem Xf(h:Pm n p)(hn:0<n) : ∀f m,Good n (λ_=>True) (kas_asc p f m)
 | 0,m=>trivial
 | f+1,m=>⟨h.lt hn _,h.lt hn _,λb=>by
  cases b with
  | true=>exact trivial
  | false=>exact Xf h hn f<|m+1⟩
theorem ve(hn:0<n) : ∀f p m q,Pm n p->Good n (λr=>Pm n r.1) (kas_desc f p m q)
 | 0,p,m,q,h=>h
 | f+1,p,m,q,h=>⟨h.lt hn _,h.lt hn _,λb=>by
  cases b with
  | true=>
   show Good n _ (if q>0 then _ else _);split
   ·exact ve hn f _ _ _<|h.rev _ _
   ·exact ve hn f _ _ _ h
  | false=>exact⟨h.lt hn _,h.lt hn _,λd=>by
   cases d with
   | true=>exact h
   | false=>exact ve hn f _ _ _ h⟩⟩
theorem KH{n:Nat}(hn:0<n)(m r:Nat){p:Array Nat}(h:Pm n p):Good n (λr=>Pm n r.2) (kas_tail3 m r p):=by unfold kas_tail3;refine Good.bind (P:=λ_=>True) (λa _=>?_)<|Xf (h.rev _ _) hn _ _;exact(show Pm n (kas_rev p 0 m)from h.rev _ _)
theorem KJ{n:Nat}(hn:0<n)(m r:Nat){p:Array Nat}(h:Pm n p):Good n (λr=>Pm n r.2) (kas_descPart m r p):=
 (ve hn _ _ _ _ h).bind λa ha=>by
   show Good n _ (if a.2.2>0 then _ else _);split
   ·exact KH hn _ _<|Pm.rev ha _ _
   ·exact KH hn _ _ ha
theorem W1{n:Nat}(hn:0<n)(r:Nat){p:Array Nat}(h:Pm n p):Good n (λr=>Pm n r.2) (kas_count r p):=
 (Xf h hn _ _).bind λm _=>by
   show Good n _ (if (m==r)=true then _ else if m>1 then _ else _);split
   ·exact h
   ·split
    ·exact⟨h.lt hn _,h.lt hn _,λc=>by
      cases c with
      | true=>exact h
      | false=>exact KJ hn _ _<|h.rev _ _⟩
    ·exact KJ hn _ _ h
theorem vY(hn:0<n)(h:Pm n p)(k:Nat) : ∀f l r,Good n (λ_=>True) (kas_place p k f l r)
 | 0,l,r=>trivial
 | f+1,l,r=>by
  show Good n _ (if l>=r then _ else _);split
  ·exact trivial
  ·exact⟨h.lt hn _,h.lt hn _,λc=>by
    cases c with
    | true=>exact vY hn h k f _ _
    | false=>exact vY hn h k f _ _⟩
theorem VQ{n:Nat}(hn:0<n) : ∀f p k,Pm n p->Good n (Pm n) (kas_bin f p k)
 | 0,p,k,h=>h
 | f+1,p,k,h=>(vY hn h k k 0 k).bind λl _=>VQ hn f _ _<|h.bub _ _
theorem KI{n:Nat}(hn:0<n):Good n (Pm n) (kas_sort n):=
 (W1 hn n<|show Pm n (Mz<|Ga n)from List.Perm.refl _).bind λr z=>by
   show Good n _ (if r.1<n then _ else _);split
   ·exact VQ hn _ _ _ z
   ·exact z
theorem qo(ps:List (Int×Int)):(xy ps).Perm (Ga ps.length):=by
 unfold xy;split
 ·exact List.Perm.refl _
 ·exact(KI ⋯).run
theorem jC(d:α) : ∀ds:List α,(Ga ds.length).map (λi=>ds.getD i d)=ds:=λds=>by
 apply Ie;intro i;by_cases hi:i<ds.length
 ·simp[hi]
 ·simp[hi,Nat.not_lt.mp hi]
end DL
namespace DL
open PySem PySem.Spec PyProof.Rows L2
open PySem.W (KasT kas_sort kas_ask kat_run kat_snds kat_lt kat_cons kat_no kat_yes kat_nil kat_go kat_one kat_kind KatTups KatGo)
theorem dm(z : ∀i j C,i<n->j<n->C (lt i j) s->cmp i j C s) :
 ∀{t:KasT α},Good n P t->Q (xn lt t) s->t.kasWp cmp Q s
 | .ret _,_,q=>q
 | .ask i j k,g,q=>z i j _ g.1 g.2.1<|dm z (g.2.2 _) q
def TupAt2(h:Heap)(v:Value)(k l:Int):Prop:=∃x o xs m t u,v = .ref x/\h.get? x=some o/\o.cls = .type "tuple"/\o.data = .seq xs m/\xs.toList=[.int k t,.int l u]
theorem TupAt2.one(a:TupAt2 h v k l):AY h v k:=by obtain⟨x,o,xs,m,t,u,h1,h2,z,I,O⟩:=a;exact⟨x,o,xs,m,t,h1,h2,z,I,by rw[<- Nb,O];rfl⟩
section
variable{X:Cx}
theorem X0{K:FY}{H:Hp}{ds:List D}{xs:List V}(r:Reps K H ds xs) : ∀(o:List Nat),(∀i∈o,i<xs.length)->Reps K H (o.map λi=>ds.getD i .non) (o.map λi=>xs.getD i .non)
 | [],_=>Reps.nil
 | i::o,h=>by have hi:=h i Gu;obtain⟨d,hd,z⟩:=r.getV<|Gd hi;refine Reps.cons ?_ (X0 r o λj I=>h j<|Gn _ I);show Rep K H (ds.getD i .non) (xs.getD i .non);rw[Gj,Gj,Gd hi,hd];exact z
end
end DL
namespace DL
open PySem PySem.Spec PyProof.Rows L2
def fs2(z I:V):List (Str×V):=QL "table" I (QL "p" z [])
theorem CT(z I:V):(fs2 z I).lookup ("p" : Str)=some z:=by unfold fs2;rw[ql,ql,EQ ⋯,RY rfl]
theorem CS(I z:V):(fs2 I z).lookup ("table" : Str)=some z:=by unfold fs2;rw[ql,RY rfl]
theorem CU(z I:V):(fs2 z I).lookup ("forth" : Str)=none:=by unfold fs2;rw[ql,ql,EQ ⋯,EQ ⋯];rfl
theorem vF{H:Hp}{x:Addr}{o o':HO}:upd (upd H x o) x o'=upd H x o':=by
 funext b;by_cases h:b=x
 ·subst h;rw[zD,zD]
 ·rw[zB h,zB h,zB h]
structure ClsA(K:FY)(C:Addr):Prop where
 cls:Cls K C
 np:NoAttr K C "p"
 nt:NoAttr K C "table"
def Zg(C:Addr):Sp:=λvs H Q _=>∃x dx z I,vs=[.ref x,z,I]/\H x=some (.ins C dx [])/\Q .non (upd H x<|.ins C dx<|fs2 z I)
def spForth(K:FY)(C:Addr)(F:List D->Option Res):Sp:=λvs H Q _=>∃x dx z I O H0 p t b ds,vs=[.ref x,O]/\H x=some (.ins C dx<|fs2 z I)/\Same H0 H/\Rep K H0 p z/\Rep K H0 t I/\Rep K H0 b O/\F [p,t,b]=some (.own ds)/\Fm K H0 H Q (.own ds)
section
variable{P:Program}{w:World}{K:FY}{mg:RJ}{base:Heap}{k:Nat}
theorem pU{q:Str}{st:Stmt}{f C:Addr}{fd:FuncData}(O:L2.Fun K "__init__" q st f fd)(hd:YL ["self","p","table"] ["self","p","table"] st=true)(c:ClsA K C)
 (U : ∀X:Cx,X.prog=P->X.w=w->X.K=K->X.mg=mg->X.base=base->SX X (defScope st) ["self","p","table"] ["self","p","table"] k->PSs X (defBody st) (EJ (Cg X.K (Jz 0) (Jz 1) "p") (Cg X.K (Jz 0) (Jz 2) "table"))) :
 FnOk P w K mg base CX0 (k+1) f fd ["self","p","table"] (Zg C):=by
 have S:=yN hd;refine O.ok S (λvs H Q E h=>by obtain⟨x,dx,z,I,rfl,_⟩:=h;rfl) λcdv A outer s H vs Q E Y Z=>⟨_,U _ rfl rfl rfl rfl rfl ⟨rfl,rfl,S.nd,rfl,Y,λ_ _=> .inl rfl⟩,?_⟩;obtain⟨x,dx,z,I,rfl,hx,q⟩:=Z;refine⟨z,rfl,.ref x,rfl,x,C,dx,[],rfl,hx,c.cls,c.np,by decide,?_⟩;refine⟨I,rfl,.ref x,rfl,x,C,dx,QL "p" z [],rfl,zD,c.cls,c.nt,by show 1<1000;decide,?_⟩;rw[vF];exact q
theorem VV{q:Str}{st:Stmt}{f C:Addr}{fd:FuncData}{F:List D->Option Res}(U:L2.Fun K "forth" q st f fd)(hd:YL ["self","base"] ["self","base"] st=true)(c:ClsA K C)
 (Y : ∀X:Cx,X.prog=P->X.w=w->X.K=K->X.mg=mg->X.base=base->SX X (defScope st) ["self","base"] ["self","base"] k->
   PSs X (defBody st) (BR (fZ (spF X.K 3 F) [] E0 (w6 (BY X.K (Jz 0) "p") (w6 (BY X.K (Jz 0) "table") (w6 (Jz 1) rW)))))) :
 FnOk P w K mg base CX0 (k+1) f fd ["self","base"] (spForth K C F):=by
 have S:=yN hd;refine U.ok S (λvs H Q E h=>by obtain⟨x,dx,z,I,O,H0,p,t,b,ds,rfl,_⟩:=h;rfl) λcdv A outer s H vs Q E Z a0=>⟨_,Y _ rfl rfl rfl rfl rfl ⟨rfl,rfl,S.nd,rfl,Z,λ_ _=> .inl rfl⟩,?_⟩;obtain⟨x,dx,z,I,O,H0,p,t,b,ds,rfl,hx,h0,r1,r2,r3,hF,a5⟩:=a0;refine⟨.ref x,rfl,x,C,dx,_,z,rfl,hx,c.cls,c.np,CT z I,.ref x,rfl,x,C,dx,_,I,rfl,hx,c.cls,c.nt,CS z I,O,rfl,?_⟩;exact⟨H0,[p,t,b],.own ds,h0,Reps.cons r1<|Reps.cons r2<|Reps.cons r3 Reps.nil,rfl,hF,a5⟩
def spBy(CR CL:Addr):Sp:=λvs H Q _=>∃z s I,vs=[z,.str s,I]/\∀x dx,H x=none->H dx=none->dx≠x->Q (.ref x) (upd (upd H dx (.own x)) x (.ins (if s=("r" : Str)then CR else CL) dx (fs2 z I)))
theorem CY{x:Str}{st:Stmt}{f CR CL:Addr}{fd:FuncData}(U:L2.Fun K x x st f fd)(hd:YL ["p","way","table"] ["p","way","table"] st=true)
 (Y : ∀X:Cx,X.prog=P->X.w=w->X.K=K->X.mg=mg->X.base=base->SX X (defScope st) ["p","way","table"] ["p","way","table"] k->
   PSs X (defBody st) (BR (L2.tIf (sD (tOp rEq (Jz 1) (tC (.str "r")))) (fY CR (Zg CR) [] E0 (w6 (Jz 0) (w6 (Jz 2) rW))) (fY CL (Zg CL) [] E0 (w6 (Jz 0) (w6 (Jz 2) rW)))))) :
 FnOk P w K mg base CX0 (k+1) f fd ["p","way","table"] (spBy CR CL):=by
 have S:=yN hd;refine U.ok S (λvs H Q E h=>by obtain⟨I,s,O,rfl,_⟩:=h;rfl) λcdv A outer s H vs Q E Z a0=>⟨_,Y _ rfl rfl rfl rfl rfl ⟨rfl,rfl,S.nd,rfl,Z,λ_ _=> .inl rfl⟩,?_⟩;obtain⟨I,z,O,rfl,q⟩:=a0;have go : ∀C,(∀x dx,H x=none->H dx=none->dx≠x->Q (.ref x) (upd (upd H dx (.own x)) x (.ins C dx (fs2 I O))))->fY C (Zg C) [] E0 (w6 (Jz 0) (w6 (Jz 2) rW)) (start ["p","way","table"] [I,.str z,O]) H Q:=λC q=>by refine⟨I,rfl,O,rfl,λx dx hx a1 a2=>⟨x,dx,I,O,rfl,zD,rfl,?_⟩⟩;rw[vF];exact q x dx hx a1 a2
 refine⟨.str z,rfl,rfl,_,rfl,?_⟩;show(if decide (V.str z=V.str "r")=true then _ else _);by_cases h:z=("r" : Str)
 ·rw[RY (decide_eq_true<|by rw[h])]
  refine go CR λx dx a b c=>?_;have:=q x dx a b c
  rwa [RY h]at this
 ·rw[EQ (by simpa using h)]
  refine go CL λx dx a b c=>?_;have:=q x dx a b c
  rwa [EQ h]at this
end
section
variable{X:Cx}{sc:Scope}{N L:List Str}{k j jr jl:Nat}{a b c d:Expr}{p pos1 apos pos2:Pos}{fa fb fc fd:CO D}{F G:List D->Option Res}{x:Str}{CR CL:Addr}
structure FnBy(P:Program)(w:World)(K:FY)(mg:RJ)(base:Heap)(j:Nat)(x:Str)(CR CL:Addr):Prop where
 ex : ∃(f:Addr) (fd:FuncData),FnOk P w K mg base CX0 j f fd ["p","way","table"] (spBy CR CL)/\mg x=some (.ref f)/\Hh K (.ref f)=true/\Binds K fd ["p","way","table"] []
structure MethAt(P:Program)(w:World)(K:FY)(mg:RJ)(base:Heap)(j:Nat)(C:Addr)(F:List D->Option Res):Prop where
 cls:ClsA K C
 ex : ∃(f:Addr) (fd:FuncData),Meth K C "forth" f/\FnOk P w K mg base CX0 j f fd ["self","base"] (spForth K C F)/\Binds K fd ["self","base"] []
theorem gU(bd:FnBy X.prog X.w X.K X.mg X.base j x CR CL)(hR:MethAt X.prog X.w X.K X.mg X.base jr CR F)(hL:MethAt X.prog X.w X.K X.mg X.base jl CL G)(h1:j<=k)(h2:jr<=k)(h3:jl<=k)(h:SX X sc N L k)(cx:yD sc x=true)
 (ha:PV X a fa) (hb:PV X b fb) (hc:PV X c fc) (hd:PV X d fd)
 (he:starEach [a,b,c] X.env=(false,eval a X.env)::starEach [b,c] X.env:=by rfl) (bn:(backTo pos1<|starEach [b,c] X.env).any (·.1)=false:=by rfl)
 (bv:starEach [b,c] X.env=(false,eval b X.env)::starEach [c] X.env:=by rfl) (bx:starEach [c] X.env=(false,eval c X.env)::starEach [] X.env:=by rfl)
 (ap:starEach [d] X.env=(false,eval d X.env)::starEach [] X.env:=by rfl) (c0:(backTo pos2<|starEach [] X.env).any (·.1)=false:=by rfl)
 (ht:eval (.Call (.Attribute (.Call (.Name x p) [a,b,c] [] pos1) "forth" apos) [d] [] pos2) X.env=(do
   let ov <- eval (.Call (.Name x p) [a,b,c] [] pos1) X.env
   standAt apos.atName
   let (f,first) <- holding [ov] (getMethod ov "forth" pl)
   callWith pos2 f first (backTo pos2<|starEach [d] X.env) (backToKw pos2<|keywordEach [] X.env)):=by rfl) :
   PO X (.Call (.Attribute (.Call (.Name x p) [a,b,c] [] pos1) "forth" apos) [d] [] pos2) (bh F G (zb fa (zb fb (zb fc (zb fd zF))))):=by
  intro pins s σ H Q I ⟨H0,γ,ds,rc,O,q⟩;obtain⟨l,e0,O⟩:=bind_some O;obtain⟨dp,e1,e0⟩:=bind_some e0;obtain⟨l1,e2,rfl⟩:=zx e0;obtain⟨dw,e3,e2⟩:=bind_some e2;obtain⟨l2,e4,rfl⟩:=zx e2;obtain⟨Z,e5,e4⟩:=bind_some e4;obtain⟨l3,e6,rfl⟩:=zx e4;obtain⟨db,e7,e6⟩:=bind_some e6;obtain⟨l4,e8,rfl⟩:=zx e6;cases e8;cases dw with
  | str z=>
   have O:((if z=("r" : Str)then F else G) [dp,Z,db]).bind rZ=some ds:=O;obtain⟨r,e9,as⟩:=bind_some O;cases r with
   | val _=>cases as
   | own d5=>
    cases as;obtain⟨d6,d7,Gy,my,ky,ca⟩:=bd.ex;have call:=Zx (p:=p) (pos:=pos1) Gy (h.room.mono h1) (h.gl cx).1 my ky ca .nil Kb (zZ ha (zZ hb (zZ hc j1 bx) bv) he) (h.gl cx).2.2 he bn;have go : ∀(C:Addr) (jc:Nat) (Fc:List D->Option Res),(if z=("r" : Str)then CR else CL)=C->MethAt X.prog X.w X.K X.mg X.base jc C Fc->jc<=k->Fc [dp,Z,db]=some (.own ds)->
     wpAny (model X.prog X.w) X.A (eval (.Call (.Attribute (.Call (.Name x p) [a,b,c] [] pos1) "forth" apos) [d] [] pos2) X.env) (EP X pins σ Q) X.xe s:=λC jc Fc hC M hj hF=>by
     obtain⟨fm,d9,Mm,Gm,bm⟩:=M.ex;refine oW (pl:=pl) (E:=E0) call M.cls.cls Mm Gm (h.room.mono hj) bm .nil Kb (zZ hd j1 ap) ap c0 ht pins s σ H Q I ?_;refine⟨H0,γ,dp,rc,e1,λS H1 cj x1 r1=>⟨cj,γ,_,rc.ext x1,e3,λv2 H2 co x2 r2=>⟨co,γ,Z,(rc.ext x1).ext x2,e5,λU H3 a2 x3 r3=>?_⟩⟩⟩;refine⟨S,z,U,by rw[show v2 = .str z from r2];rfl,λo a3 n1 n2 cr=>?_⟩;rw[hC];have xe:Ext a2 H3 a2 (upd (upd H3 a3<|.own o) o<|.ins C a3<|fs2 S U):=(Ext.hide x3.sub n2<|.own o).trans (Ext.hide (x3.sub.trans<|z5 n2 _) (by rw[zB (GN cr)];exact n1) _);have xa:=(x1.trans<|x2.trans x3).trans xe;refine⟨o,a3,fs2 S U,rfl,zD,CU S U,a2,γ,db,rc.ext xa,e7,λv4 H4 b9 Y r4=>?_⟩;have bb:Same a2 b9:=Y.s0;refine⟨o,a3,S,U,v4,b9,dp,Z,db,ds,rfl,Y.s1 _ _ zD,Y.sub,((r1.mono x2.s0).mono x3.s0).mono bb,r3.mono bb,r4,hF,?_⟩;exact λa' xs H' H0' x5 g1 g2 g3 g4=>q a' xs H' H0' (xa.trans<|Y.trans x5) (xB (xa.trans Y).s1 g1) g2 g3 g4
    by_cases hz:z=("r" : Str)
    ·rw[RY hz]at e9
     exact go CR jr F (RY hz) hR h2 e9
    ·rw[EQ hz]at e9
     exact go CL jl G (EQ hz) hL h3 e9
  | _=>cases O
end
section
variable{X:Cx}{sc:Scope}{N L:List Str}{k:Nat}{a:Expr}{pos:Pos}{f:CO (List D)}
theorem oK(i:Nat)(h:SX X sc N L k)(c:wB sc N i x=true)(ha:PO X a f)(O:starEach [a] X.env=[(false,eval a X.env)]:=by rfl)
 (a0:attributeBase (.Name x np) "extend" X.env (eval (.Name x np) X.env)=eval (.Name x np) X.env:=by rfl)
 (a1:((backTo cpos<|starEach [a] X.env).all (λx=> !x.1) && (backToKw cpos<|keywordEach [] X.env).all (λx=>x.1.isSome)
   && decide ([a].length+([]:List Keyword).length+(if ([]:List Keyword).isEmpty then 0 else 1)<30))=true:=by rfl)
 (a2:(apos.endLine==cpos.line)=true:=by rfl) (a3:swapsWith (.Call (.Attribute (.Name x np) "extend" apos) [a] [] cpos) none pos.line X.env=pure false:=by rfl) :
 PSD X (.Expr (.Call (.Attribute (.Name x np) "extend" apos) [a] [] cpos) pos) (Yg i f):=
 xI (bH (oZ MH PySem.F.slot_list_extend PySem.F.type_list_extend cu (h.var c) (zZ ha j1 O) a0 a1 a2 O rfl) a3) λD σ H hZ=>by
  obtain⟨E0,E,H0,γ,fl,I,z,a5⟩:=hZ;obtain⟨ds,e1,z⟩:=bind_some z;obtain⟨es,e2,z⟩:=bind_some z;have e1:=xS e1;by_cases S:ds.length+es.length<=lim
  ·rw[RY S]at z;cases z
   obtain⟨l,xs,h1,h2,U,Y⟩:=I.rc.own i ds e1;refine⟨_,h1,.inl ⟨rfl,_,SqL.of U⟩,H0,γ,es,I.rc,e2,λb zs H' H0' x g1 g2 g3 Z=>?_⟩;have hl:xs.length+zs.length<=sizeLine:=by
    rw[Y.length,Z.length];have:lim<=sizeLine:=by decide
    omega
   refine⟨l,b,xs,zs,rfl,rfl,x.s1 _ _ U,g3,hl,?_⟩;have a9:=I.step x;exact a5 _ _ _<|a9.rewrite (xs:=xs) e1 h1<|(Y.mono x.s0).append Z
  ·rw[EQ S]at z;cases z
end
def lA(K:FY)(C:Addr):Bool:=MS K C && Hh K (.ref C) && Ma K C Str.empty && Mw K C && ND K C &&
 GS K (.ref C) "__setattr__" == some (some (.builtin "object.__setattr__")) && GS K (.ref C) "p" == some none && GS K (.ref C) "table" == some none
structure ArrAt(K:FY)(mg:RJ)(sI sR sL:Stmt):Prop where
 ex : ∃(CR CL fI fR fL:Addr) (dI dR dL:FuncData),mg "Right" = some (.ref CR)/\mg "Left" = some (.ref CL)/\Mk K CR fI/\Mk K CL fI/\ClsA K CR/\ClsA K CL/\Meth K CR "forth" fR/\Meth K CL "forth" fL/\
  L2.Fun K "__init__" "Arrow.__init__" sI fI dI/\L2.Fun K "forth" "Right.forth" sR fR dR/\L2.Fun K "forth" "Left.forth" sL fL dL/\
  Binds K dI ["self","p","table"] []/\Binds K dR ["self","base"] []/\Binds K dL ["self","base"] []
section
variable{K:FY}{mg:RJ}{h:Heap}
theorem ed(b:lA K C=true):ClsA K C/\MS K C=true/\Hh K (.ref C)=true:=by unfold lA at b;simp only[Gs,beq_iff_eq]at b;obtain⟨⟨⟨⟨⟨⟨⟨b1,b2⟩,b3⟩,b4⟩,b5⟩,b6⟩,b7⟩,b8⟩:=b;exact⟨⟨⟨b3,b4,b5,b6⟩,b7,b8⟩,b1,b2⟩
theorem arr_mk{sI sR sL:Stmt}{CR CL fI fR fL:Addr}{oI oR oL:Value}{eI eR eL aI aR aL:Option Addr}{lI lR lL:Array (Option Value)}{kI dI pI z tI kR dR pR I tR kL dL pL O tL:Value}(S:K.In h)(G:h.Ns mainGlobals mg)
 (nR:Ml K mainGlobals "Right" = some (some (.ref CR))) (nL:Ml K mainGlobals "Left" = some (some (.ref CL)))
 (iR:GS K (.ref CR) "__init__" = some (some (.ref fI))) (iL:GS K (.ref CL) "__init__" = some (some (.ref fI)))
 (mR:GS K (.ref CR) "forth" = some (some (.ref fR))) (mL:GS K (.ref CL) "forth" = some (some (.ref fL)))
 (uI:K.lookup fI=some ⟨oI,eI,.func (Ij "__init__" "Arrow.__init__" (defArgs sI) (defBody sI) (defScope sI) .none kI dI pI aI z tI),lI⟩)
 (uR:K.lookup fR=some ⟨oR,eR,.func (Ij "forth" "Right.forth" (defArgs sR) (defBody sR) (defScope sR) .none kR dR pR aR I tR),lR⟩)
 (uL:K.lookup fL=some ⟨oL,eL,.func (Ij "forth" "Left.forth" (defArgs sL) (defBody sL) (defScope sL) .none kL dL pL aL O tL),lL⟩)
 (vI:Lu K z "Arrow.__init__" = true) (vR:Lu K I "Right.forth" = true) (vL:Lu K O "Left.forth" = true)
 (w1:Hh K (.ref fI)=true) (w2:Hh K (.ref fR)=true) (w3:Hh K (.ref fL)=true)
 (z1:Mn K (.ref fI)=true) (z2:Mn K (.ref fR)=true) (z3:Mn K (.ref fL)=true)
 (bR:lA K CR=true) (bL:lA K CL=true)
 (gI : ∀(kV doc pm:Value) (an:Option Addr) (cdv ct:Value) (us:List Value),us.length=3->bindArgs (Ij "__init__" "Arrow.__init__" (defArgs sI) (defBody sI) (defScope sI) .none kV doc pm an cdv ct) ⟨us,[]⟩=pure ((["self","p","table"]:List Str).zip us))
 (gR : ∀(kV doc pm:Value) (an:Option Addr) (cdv ct:Value) (us:List Value),us.length=2->bindArgs (Ij "forth" "Right.forth" (defArgs sR) (defBody sR) (defScope sR) .none kV doc pm an cdv ct) ⟨us,[]⟩=pure ((["self","base"]:List Str).zip us))
 (gL : ∀(kV doc pm:Value) (an:Option Addr) (cdv ct:Value) (us:List Value),us.length=2->bindArgs (Ij "forth" "Left.forth" (defArgs sL) (defBody sL) (defScope sL) .none kV doc pm an cdv ct) ⟨us,[]⟩=pure ((["self","base"]:List Str).zip us)):ArrAt K mg sI sR sL:=by
 obtain⟨c1,c2,c3⟩:=ed bR;obtain⟨d1,d2,d3⟩:=ed bL;have U:=VU uI vI w1;have Y:=VU uR vR w2;have Z:=VU uL vL w3;exact⟨CR,CL,fI,fR,fL,_,_,_,Nr S G nR,Nr S G nL,⟨c2,iR,z1,c3⟩,⟨d2,iL,z1,d3⟩,c1,d1,⟨mR,z2,w2⟩,⟨mL,z3,w3⟩,U,Y,Z,U.binds gI,Y.binds gR,Z.binds gL⟩
end
def rG:Stmt->List Stmt
 | .ClassDef _ _ _ b _ _ _ _ _ _ _=>b
 | _=>[]
def inCls(st:Stmt)(j:Nat):Stmt:=(rG st).getD j (.Pass ⟨0,0,0,0⟩)
theorem JW : ∀{ds:List D} {ns:List Int},yx ds=some ns->Ku ds=some (ns.map IE)
 | [],ns,e=>by cases e;rfl
 | d::ds,ns,e=>by
  cases d with
  | int i=>
   obtain⟨l,e1,z⟩:=zx e;subst z;show((Ah<|.int i).bind λk=>(Ku ds).map λr=>k::r)=_;rw[JW e1];rfl
  | _=>cases e
theorem JV{K:FY}{H:Hp} : ∀{ds:List D} {ns:List Int} {xs:List V},yx ds=some ns->Reps K H ds xs->xs=(ns.map IE).map kV
 | [],ns,xs,e,r=>by cases e;exact r.inv_nil
 | d::ds,ns,xs,e,r=>by
  cases d with
  | int i=>
   obtain⟨l,e1,z⟩:=zx e;subst z;obtain⟨x,t,rfl,h1,h2⟩:=r.inv_cons;rw[JV e1 h2,show x = .int i from h1];rfl
  | _=>cases e
theorem JF : ∀(ps acc:List (Key×V)),((acc++ps).map (·.1)).Nodup->gG acc ps=acc++ps
 | [],acc,_=>by simp[gG]
 | (k,v)::ps,acc,h=>by
  have hn : ¬((acc.any λz=>decide<|z.1=k)=true):=λq=>by obtain⟨z,h1,h2⟩:=NX.mp q;rw[Hk,GQ]at h;have:=(List.nodup_append.mp h).2.2 z.1 (GO.mpr ⟨z,h1,rfl⟩) k ⋯;exact this<|of_decide_eq_true h2
  show gG (ao acc k v) ps=_;rw[show ao acc k v=acc++[(k,v)]by unfold ao;rw[EQ hn]];rw[JF ps (acc++[(k,v)]) (by simpa using h)];simp
theorem Kl : ∀{ns:List Int},ns.Nodup->(ns.map<|IE (β:=Str)).Nodup
 | [],_=>by simp
 | n::ns,h=>by simp only[GQ,Hg,GO,IE.injEq,exists_eq_right]at h ⊢;exact⟨h.1,Kl h.2⟩
theorem Xh{K:FY}{H:Hp}{i:Int} : ∀{ks vs:List D} {kk:List Key} {xs:List V},Ku ks=some kk->kk.length=xs.length->Reps K H vs xs->
 (∀d,VT ks vs i=some d->∃v,Y8 (kk.zip xs) (IE i)=some v/\Rep K H d v)/\(VT ks vs i=none->Y8 (kk.zip xs) (IE i)=none)
 | [],vs,kk,xs,e,l,r=>by cases e;exact⟨(λd q=>by cases q),λ_=>rfl⟩
 | k::ks,[],kk,xs,e,l,r=>by rw[r.inv_nil]at l ⊢;rw[List.length_eq_zero_iff.mp l];exact⟨(λd q=>by cases q),λ_=>rfl⟩
 | k::ks,v::vs,kk,xs,e,l,r=>by
  obtain⟨I,e1,Y⟩:=bind_some e;obtain⟨O,Z,e4⟩:=zx Y;subst e4;obtain⟨x,S,rfl,h1,h2⟩:=r.inv_cons;have U:=Xh (i:=i) Z (by simpa using l) h2;have step:I≠IE i->Y8 ((I::O).zip (x::S)) (IE i)=Y8 (O.zip S) (IE i):=λhn=>by rw[My];simp[Y8,IW,hn]
  cases k with
  | int j=>
   cases e1;by_cases z:j=i
   ·subst z
    refine⟨λd q=>⟨x,?_,?_⟩,λq=>?_⟩
    ·rw[My];exact J7 rfl
    ·have:v=d:=by simpa[VT]using q
     exact this ▸ h1
    ·simp[VT]at q
   ·have hn:(IE j:Key)≠IE i:=λq=>z (IE.inj q)
    rw[step hn];have e5:VT (.int j::ks) (v::vs) i=VT ks vs i:=by simp[VT,z]
    rw[e5];exact U
  | str y=>
   cases e1;rw[step (λq=>by cases q)];exact U
  | _=>cases e1
def Yh(g:CO (Sk×List D))(fa:CO D):CO D:=λγ=>(g γ).bind λks=>(fa γ).bind λx=>match ks.1 with
 | .L=>if okD x=true/\okSs ks.2=true then some (.int (ks.2.countP λd=>eqD d x:Nat))else none
 | .T=>none
theorem Wv(I:Inv X pins σ H s)(sub:Same H0 H)(O:SqL X.K H p xs)(r:Reps X.K H0 ds xs)(o:okSs ds=true) : ∃z,Reads s.heap (.ref p) (.list<|toPs ds) z:=by obtain⟨a0,S,q,hz⟩:=I.list O;obtain⟨ob,U,Y,n,hd⟩:=q.isList;obtain⟨z,Z⟩:=readsAll_of I sub o r S;exact⟨_,.list U Y hd<|by simpa using Z⟩
section
variable{X:Cx}{sc:Scope}{N L:List Str}{k:Nat}{a b:Expr}{pos:Pos}{fa:CO D}{g:CO (Sk×List D)}
theorem SX.u66(h:SX X sc N L k):X.A.units+66<cLine:=by have:=h.room.un;omega
end
def ot(K:FY):V->List V->Hp->VK->Prop:=λx vs H Q=>∃H0 dx v p xs ds,Same H0 H/\x = .ref p/\vs=[v]/\Rep K H0 dx v/\SqL K H p xs/\Reps K H0 ds xs/\okD dx=true/\okSs ds=true/\Q (.int (ds.countP λd=>eqD d dx:Nat)) H
theorem J1(hx:okS x=true) : ∀ds:List D,okSs ds=true->(toPs ds).countP (λy=>IS y<|toP x)=ds.countP λd=>eqD d x
 | [],_=>by simp[toPs]
 | d::ds,h=>by simp only[okSs,Gs]at h;simp only[toPs,MV];rw[eqv_toP d x h.1 hx,J1 hx ds h.2]
theorem cz(hu:X.A.units+66<cLine):MtR X "list.count" (ot X.K):=by
 intro pins s σ H x vs v us Q I Z rv h;obtain⟨H0,dx,y,p,xs,ds,sub,rfl,rfl,r1,hq,r2,z,O,q⟩:=h;cases Z;obtain⟨w1,rfl,rw⟩:=yE rv;obtain⟨as,ra⟩:=reads_of I sub (xA z) r1 rw;obtain⟨bs,rb⟩:=Wv I sub hq r2 O;have hs:=PySem.SeqAt.depth_of_shaped<|kY z;have S:=lays_toP ds O;cases rb with
 | list h1 h2 h3 U=>
  rename_i ob Y n a9
  obtain⟨oc,od,ac,osl⟩:=ob;subst h2 h3;refine LS F.slot_list_count ⟨_,h1,rfl⟩ F.entry_list_count (F.args_list_count_2 _ _) (PySem.SeqAt.list_countAt p Y n od osl w1<|λy=>IS (PySem.SeqAt.readOf s.heap y)<|toP dx) ⟨h1,PySem.SeqAt.items_eqAt U ra S (lay_toP dx<|xA z) ?_,?_⟩
  ·have:min (Mi<|toPs ds) (toP dx).depth<=(toP dx).depth:=Ob _ _
   omega
  ·have e:Y.toList.countP (λy=>IS (PySem.SeqAt.readOf s.heap y)<|toP dx)=ds.countP λd=>eqD d dx:=by
    rw[<- J1 (xA z) ds O,<- PySem.SeqAt.readsAll_map _ _ _ S U,Ll];rfl
   rw[e];exact⟨.int _,H,I.tok _,⟨_,rfl⟩,q⟩
section
variable{X:Cx}{sc:Scope}{N L:List Str}{k:Nat}{o e:Expr}{apos cpos:Pos}{fa:CO D}{g:CO (Sk×List D)}
theorem X6(h:SX X sc N L k)(Y:PQ X o g)(Z:PV X e fa)(a0:attributeBase o "count" X.env (eval o X.env)=eval o X.env:=by rfl)
 (a1:((backTo cpos<|starEach [e] X.env).all (λx=> !x.1) && (backToKw cpos<|keywordEach [] X.env).all (λx=>x.1.isSome) && decide ([e].length+([]:List Keyword).length+(if ([]:List Keyword).isEmpty then 0 else 1)<30))=true:=by rfl)
 (a2:(apos.endLine==cpos.line)=true:=by rfl) (S:starEach [e] X.env=[(false,eval e X.env)]:=by rfl):PV X (.Call (.Attribute o "count" apos) [e] [] cpos) (Yh g fa):=
 j9 (oZ MH PySem.F.slot_list_count PySem.F.type_list_count (cz h.u66) Y (zZ Z j1 S) a0 a1 a2 S rfl) λσ H Q hZ=>by
  obtain⟨H0,γ,d,rc,z,q⟩:=hZ;obtain⟨⟨kk,ds⟩,e2,z⟩:=bind_some z;obtain⟨x,e1,z⟩:=bind_some z;cases kk with
  | T=>cases z
  | L=>
   have z:(if okD x=true/\okSs ds=true then some (D.int (ds.countP λd=>eqD d x:Nat))else none)=some d:=z;by_cases I:okD x=true/\okSs ds=true
   ·rw[RY I]at z;cases z
    refine⟨H0,γ,.L,ds,rc,e2,λp xs H1 a5 x1 h1 h2 r=>⟨.inl ⟨rfl,xs,h1⟩,a5,γ,x,rc.ext x1,e1,λv2 H2 U O r2=>?_⟩⟩;exact⟨U,x,v2,p,xs,ds,O.sub,rfl,rfl,r2,O.s1.seq h1,r.mono O.s0,I.1,I.2,q _ H2 U (x1.trans O) rfl⟩
   ·rw[EQ I]at z;cases z
end
theorem Kr:typeLookup (.type "list") "keys" = pure none:=by rw[typeLookup_type,builtinLookup_eq_fast];kernel_rfl
theorem Jr:entryFor table "list.__getattribute__" = some Builtin.«object.__getattribute__» :=
 entryFor_alias (id':="object.__getattribute__") (by kernel_rfl) (by first | rfl | decide +kernel) ⋯ (by kernel_rfl)
section
variable{prog:Program}{w:World}{A:Around}{E:RQ}{h:Heap}{g:Array GenState}{d:Drawn}{t:Nat}{os:OsState}{a:Addr}{o:Obj}
theorem ZF(hx:h.get? a=some ⟨.type "list",none,.seq vs nk,sl⟩)(U:A.handled=none)
 (Y : ∀h' e t',(∀b u,h.get? b=some u->h'.get? b=some u)->(∃O,h'.get? e=some O/\O.cls = .type "AttributeError")->E (.ref e) ⟨h',g,d,t',os⟩) :
 wpAny (model prog w) A (Builtin.«object.__getattribute__» ⟨[.ref a,.str "keys" tk],[]⟩) Q E ⟨h,g,d,t,os⟩:=by
 have Z:(⟨h,g,d,t,os⟩:Shared).TypeIs (.ref a) "list":=⟨_,hx,rfl⟩;have f4:=Kr
 repeat (any_goals (first | assumption | wp_step))
 unfold raiseAttrError;have hm:((Ho (toString "'" ++ toString ((Manifest.find? "list").elim "list" λx=>x.tpName)++toString "' object has no attribute '")++Ho "keys" ++ Ho "'"):Str).length<=sizeLine:=by decide +kernel
 generalize (Ho (toString "'" ++ toString ((Manifest.find? "list").elim "list" λx=>x.tpName)++toString "' object has no attribute '")++Ho "keys" ++ Ho "'")=z at hm ⊢;refine FZ (wpAny_mkStr (hx:=hm) ?_);refine FZ ?_;unfold newExc newTuple;refine FZ (HZ ?_ (by size_fits));refine FZ (m:=firstArgMember _ _) (wpAny_of_eq (a:=HK) (by first | rfl | (simp only[firstArgMember];rfl)) ?_);refine HZ ?_ (by size_fits);simp only[Hi];have I:((h.push {cls:= .type "tuple",data:= .seq #[.str z t]}).push {cls:= .type "AttributeError",data:= .fields (#[.ref h.objs.size,.none,.none,.none,.bool false,.none]++ownMembersOf (.type "AttributeError") [.str z t])}).get? (h.objs.size+1) =
  some {cls:= .type "AttributeError",data:= .fields (#[.ref h.objs.size,.none,.none,.none,.bool false,.none]++ownMembersOf (.type "AttributeError") [.str z t])}:=by heap_get
 have S : ∀b u,h.get? b=some u->((h.push {cls:= .type "tuple",data:= .seq #[.str z t]}).push {cls:= .type "AttributeError",data:= .fields (#[.ref h.objs.size,.none,.none,.none,.bool false,.none]++ownMembersOf (.type "AttributeError") [.str z t])}).get? b=some u:=λb u e=>Gb _ (Gb _ e);have hn:h.get? (h.objs.size+1)=none:=Heap.get?_none_of_le (MT _);generalize ((h.push {cls:= .type "tuple",data:= .seq #[.str z t]}).push {cls:= .type "AttributeError",data:= .fields (#[.ref h.objs.size,.none,.none,.none,.bool false,.none]++ownMembersOf (.type "AttributeError") [.str z t])})=h2 at I S ⊢;refine FZ (wpAny_mkText ?_);unfold noteAttr lacksNameAndObj;have a1:(⟨h2,g,d,t+1+1,os⟩:Shared).TypeIs (.ref (h.objs.size+1)) "AttributeError":=⟨_,I,rfl⟩;have ft:isSubtype (.type "AttributeError") (.type "AttributeError")=pure true:=by rw[isSubtype_type];kernel_rfl
 repeat (any_goals (first | assumption | with_reducible refine wpAny_loadPart_at I ?_ | with_reducible refine wpAny_load I ?_ | wp_step))
 refine wpAny_raiseNew_none U<|Y _ _ _ (λb u e=>?_) ⟨_,Nf _ I<|Obj.isFreed_of_fields<|NN rfl _,Obj.cls_mapFields ..⟩;rw[HM _ _ (λq=>by rw[<- q]at e;rw[hn]at e;cases e)];exact S b u e
theorem Jo(hx:h.get? a=some ⟨.type "list",none,.seq vs nk,sl⟩)(I:A.handled=none)
 (O : ∀h' e t',(∀b u,h.get? b=some u->h'.get? b=some u)->(∃z,h'.get? e=some z/\z.cls = .type "AttributeError")->R (.error (.ref e)) ⟨h',g,d,t',os⟩) :
 codeAny (model prog w) A (.call (.builtin "list.__getattribute__") ⟨[.ref a,.str "keys" tk],[]⟩) R ⟨h,g,d,t,os⟩:=
 NL LO.plain Jr (LO.check _ _ _ _ _ _ _ _ (show(⟨h,g,d,t,os⟩:Shared).TypeIs (.ref a) "list" from⟨_,hx,rfl⟩) (F.args_list_getattribute_2 _ _) (ZF hx I O))
theorem WS:typeLookup (.type "list") "__getattr__" = pure none:=by rw[typeLookup_type,builtinLookup_eq_fast];kernel_rfl
theorem Ks(hx:h.get? a=some ⟨.type "list",none,.seq vs nk,sl⟩)(I:A.handled=none)
 (O : ∀h' t',(∀b u,h.get? b=some u->h'.get? b=some u)->Q none ⟨h',g,d,t',os⟩):wpAny (model prog w) A (getAttr? (.ref a) "keys") Q E ⟨h,g,d,t,os⟩:=by
 have Z:(⟨h,g,d,t+1,os⟩:Shared).TypeIs (.ref a) "list":=⟨_,hx,rfl⟩;have f2:=LO.lookup;have f3:=LO.bind (.ref a);have f5:=WS;have ft:isSubtype (.type "AttributeError") (.type "AttributeError")=pure true:=by rw[isSubtype_type];kernel_rfl
 unfold getAttr? getAttrBy? getAttrBy
 repeat (any_goals (first | assumption | wp_step))
 refine Jo (g:=g) (d:=d) (os:=os) hx I λh' e t' S z=>?_;obtain⟨U,z,Y⟩:=z;have a4:(⟨h',g,d,t',os⟩:Shared).TypeIs (.ref e) "AttributeError":=⟨U,z,Y⟩;have a5:=O h' t' S;show wpAny _ _ (getattributeRaised _ _ _ _ _ _ _) _ _ _;unfold getattributeRaised hookOrError attributeErrorLeaves
 repeat (any_goals (first | assumption | wp_step))
end
def xp:List D->Option (List D×List D)
 | []=>some ([],[])
 | d::r=>match d with
  | .tup ds=>match ds with
   | [k,v]=>(xp r).map λp=>(k::p.1,v::p.2)
   | _=>none
  | _=>none
def bc(f:CO (List D)):CO D:=λγ=>(f γ).bind λps=>(xp ps).bind λp=>dP p.1 p.2
@[simp] theorem BH(f):bc f γ=(f γ).bind λps=>(xp ps).bind λp=>dP p.1 p.2:=rfl
def Bd(fd fk:CO D):CO D:=λγ=>(fd γ).bind λd=>(fk γ).bind λk=>match d with
 | .dic ks vs=>(asI k).bind λi=>VT ks vs i
 | _=>none
def tq(fk fd:CO D):CO D:=λγ=>(fk γ).bind λk=>(fd γ).bind λd=>match d with
 | .dic ks vs=>(asI k).map λi=> .bl (VT ks vs i).isSome
 | _=>none
section
variable{X:Cx}{pins:RW}{σ:St}{A:Around}{R:Result->Shared->Prop}{H0:Hp}{l it d:Addr}{ks:List Key}{ys xs:List V}
theorem W8(hh:A.handled=none)(hx:xs.length=ks.length)(hy:ys.length=ks.length)(hp : ∀(n:Nat) (h1:n<xs.length) (h2:n<ks.length) (h3:n<ys.length),∃p,xs[n] = .ref p/\SqT X.K H0 p [kV ks[n],ys[n]])(al:H0 d=none)(am:l≠d) : ∀(m n:Nat) (s:Shared) (H:Hp) (kvs:List (Key×V)) (i:Int) (t:Tok),n+m=ks.length->
 Inv X pins σ H s->Same H0 H->H l=some (.lst xs)->s.heap.IsListIter it l n->FpOk X pins H it->H d=some (.dK kvs)->kvs.length+m<=sizeLine->
 (∀s',Inv X pins σ (upd H d<|.dK<|gG kvs<|(ks.zip ys).drop n) s'->R (.ok<|.ret .none) s')->
 codeAny (model X.prog X.w) A (.builtin "dict.update.loop" ⟨[.ref d,.ref it,.int i t,.none],[]⟩) R s:=by
 intro m
 induction m with
 | zero=>
  intro n s H kvs i t hn I sub S st O hd hz U;obtain⟨z1,Y,c,rv,ll,Z⟩:=I.lstM S;refine MG qw ?_;unfold Builtin.«dict.update.loop»;have il:s.heap.IsList l Y.toArray:=⟨_,Z,rfl,_,rfl⟩;refine FZ<|NB (s:=s) hh st il (by simp;omega) λh' eb=>?_;refine FZ<|Gf ?_;have e0:upd H d (.dK<|gG kvs<|(ks.zip ys).drop n)=H:=by
   rw[List.drop_eq_nil_of_le (by simp;omega)];funext c;by_cases q:c=d
   ·rw[q,zD,hd];rfl
   ·rw[zB q]
  rw[e0]at U;exact Gf (U _<|I.turnedL (t':=s.toks) (fp:=[it]) (λb o z e=>eb b o (by simpa using z) e)<|λb z=>by rw[Ik.mp z];exact O)
 | succ m ih=>
  intro n s H kvs i t hn I sub S st O hd hz U;obtain⟨z1,Y,c,rv,ll,Z⟩:=I.lstM S;have il:s.heap.IsList l Y.toArray:=⟨_,Z,rfl,_,rfl⟩;have b0:n<ks.length:=by omega
  obtain⟨p,ep,bb⟩:=hp n ⋯ b0 ⋯;obtain⟨u,hu,ru⟩:=rv.get (Gd<|show n<xs.length by omega);rw[ep]at ru;have eu:u = .ref p:=ru;subst eu;refine MG qw ?_;unfold Builtin.«dict.update.loop»;refine FZ<|Nq (s:=s) st il (x:= .ref p) (by simpa using hu) λh' bf sb=>?_;have I1:=I.turnedL (h':=h') (t':=s.toks) (fp:=[it]) (λb o z e=>(sb.2 b<|by simpa using z).trans e) (λb z=>by rw[Ik.mp z];exact O);obtain⟨ts,rt,⟨o,eo,co,nn,bl⟩,zt⟩:=I1.tuple<|sameT sub bb;obtain⟨u1,r3,rfl,bm,q2⟩ : ∃u1 r3,ts=u1::r3/\RelV (kV ks[n]) u1/\Vals [ys[n]] r3:=by
   cases rt with
   | cons q1 q2=>exact⟨_,_,rfl,q1,q2⟩
  obtain⟨u2,rfl,bv⟩:=yE q2;have bx:({s with heap:=h'}:Shared).TypeIs (.ref p) "tuple":=⟨_,eo,co⟩;refine FZ (HH (FZ (wpAny_tryCatch ?_)));unfold Builtin.Dict.pairItems;refine FZ (LQ bx ?_);rw[RY ⋯];refine FZ (IK eo bl (Gf ?_));show wpAny _ _ (holding [u1,u2] (dictSet d u1 u2)) _ _ _;obtain⟨zz,c1,vs,a7,dd⟩:=Ec I1.hok hd;have c3:vs.length<=sizeLine:=by rw[<- a7.length];exact zz
  have c4:(ao kvs ks[n] ys[n]).length<=sizeLine:=by have:=ZG kvs ks[n] ys[n];omega
  refine HH<|wpAny_dictSet_pairs (hsz:=c3) (iH bm) dd λc5 a8 hs=>?_;have he : ∃q,c5.get? d=some q:=let ⟨q,_,_,hq,_⟩:=a8;⟨q,hq⟩;have I2:=rA (t':=s.toks+1) I1 (by rw[hd];exact IH) hs he<|Az c4 c1 (a7.put ks[n] bv) a8;have nd:it≠d:=λq=>by have:=O.1;rw[q,hd]at this;cases this
  refine Gf ⟨qu _,ih (n+1) _ _ (ao kvs ks[n] ys[n]) (i+1) 0 ⋯ I2 (λc o e=>?_) (by rw[zB am];exact S) (bf.at λo q=>(hs.2 it nd).trans q) ⟨by rw[zB nd];exact O.1,O.2⟩ zD (by have:=ZG kvs ks[n] ys[n];omega) λs' I3=>U s' ?_⟩
  ·rw[zB (λq=>by rw[q,al]at e;cases e)];exact sub _ _ e
  ·have ca:n<(ks.zip ys).length:=by simp;omega
   have e1:(ks.zip ys).drop n=(ks[n],ys[n])::(ks.zip ys).drop (n+1):=by rw[IP ca];simp
   have e2:upd (upd H d<|.dK<|ao kvs ks[n] ys[n]) d (.dK<|gG (ao kvs ks[n] ys[n])<|(ks.zip ys).drop (n+1))=upd H d (.dK<|gG kvs<|(ks.zip ys).drop n):=by
    funext c;by_cases q:c=d
    ·rw[q,zD,zD,e1];rfl
    ·rw[zB q,zB q,zB q]
   rw[<- e2];exact I3
theorem ae(I:Inv X pins σ H s)(Y:X.A.handled=none)(sub:Same H0 H)(z:H l=some (.lst xs))(hx:xs.length=ks.length)(hy:ys.length=ks.length)
 (hp : ∀(n:Nat) (h1:n<xs.length) (h2:n<ks.length) (h3:n<ys.length),∃p,xs[n] = .ref p/\SqT X.K H0 p [kV ks[n],ys[n]]) (hz:ks.length<=sizeLine)
 (hQ : ∀s' p,H p=none->Inv X pins σ (upd H p (.dK (gG [] (ks.zip ys)))) s'->Q (.ref p) s'):wpAny (model X.prog X.w) X.A (call (.type "dict") [.ref l]) Q X.xe s:=by
 have O:H s.heap.objs.size=none:=I.fresh;have a8:H0 s.heap.objs.size=none:=ji sub O;have Z:l≠s.heap.objs.size:=λq=>by rw[q,O]at z;cases z
 refine callType_codes (Q₁:=λobj s₁=>obj = .ref s.heap.objs.size/\s₁ = {s with heap:=s.heap.push {cls:= .type "dict",data:= .dict #[]}}) F.kt_called_dict (F.kt_typeCall_dict_1 _) F.entry_dict_init (kt_code_dict_new _ ⟨rfl,rfl⟩) ?_;rintro obj s₁ ⟨rfl,rfl⟩;have I1:=I.laid (a:=s.heap.objs.size) (o:= .dK []) (t':=s.toks) (λ_ _ q=>Gb {cls:= .type "dict",data:= .dict #[]} q) (Gh _) (lg s.heap I.big);have a1:({s with heap:=s.heap.push {cls:= .type "dict",data:= .dict #[]}}:Shared).TypeIs (.ref s.heap.objs.size) "dict":=⟨_,Gv _ rfl,rfl⟩;obtain⟨z1,a2,c,rv,ll,el⟩:=I.lstM z;have S:(s.heap.push {cls:= .type "dict",data:= .dict #[]}).get? l=some {cls:= .type "list",data:= .seq a2.toArray c}:=Gb _ el;refine⟨a1,F.args_dict_init_2 _ _,?_⟩;unfold Builtin.«dict.__init__»;refine FZ ?_;unfold Builtin.Dict.selfAndRest;refine FZ (Ly a1 ?_);show wpAny _ _ (pure (s.heap.objs.size,[GX l])) _ _ _;refine Gf ?_;show wpAny _ _ (Lx "dict.__init__" s.heap.objs.size (.ref l) [] .none) _ _ _;unfold Lx;refine FZ (LQ (T:="list") ⟨_,S,rfl⟩ ?_);rw[RY ⋯];refine FZ (Ks (g:=s.gens) (d:=s.drawn) (t:=s.toks) (os:=s.os) S (show X.A.in1.in1.handled=none from Y) λh' t' k=>?_);have U:Inv X pins σ (upd H s.heap.objs.size (.dK [])) {s with heap:=h',toks:=t'}:=I1.kept k;have ad:=k _ _ S;simp only[Option.isNone_none,if_true];refine FZ (LR (FZ (MY (items:=a2.toArray) ⟨_,ad,rfl,_,rfl⟩ ?_)));refine Gf ⟨qu _,?_⟩;have I3:=U.kept (h':=h'.push {cls:= .type "list_iterator",data:= .fields #[.ref l,.int 0 0]}) (t':=t') λb o e=>Gb _ e;have hsz:s.heap.objs.size<h'.objs.size:=by have:=GE (k _ _ (Gv s.heap (o:={cls:= .type "dict",data:= .dict #[]}) rfl));exact this
 have fp:=U.fpOk (b:=h'.objs.size) (H':=upd H s.heap.objs.size<|.dK []) (Gh _) U.fresh;refine W8 (H0:=H0) (l:=l) (it:=h'.objs.size) (ks:=ks) (ys:=ys) (xs:=xs) (show X.A.in1.handled=none from Y) hx hy hp a8 Z ks.length 0 _ (upd H s.heap.objs.size<|.dK []) [] 0 0 (HW _) I3 (sub.trans<|z5 O _) (by rw[zB Z];exact z) ⟨_,Gv _ rfl,rfl,rfl⟩ fp zD (by simpa using hz) λs' I4=>?_;rw[vF,List.drop_zero]at I4;exact⟨rfl,hQ s' _ O I4⟩
end
theorem XI : ∀{ps ks vs:List D},xp ps=some (ks,vs)->ks.length=ps.length/\vs.length=ps.length
 | [],ks,vs,h=>by cases h;exact⟨rfl,rfl⟩
 | d::r,ks,vs,h=>by
  unfold xp at h;split at h
  ·split at h
   ·obtain⟨⟨a,b⟩,e1,z⟩:=zx h
    cases z;obtain⟨I,O⟩:=XI e1;exact⟨by simp[I],by simp[O]⟩
   ·cases h
  ·cases h
theorem Jw{K:FY}{H:Hp} : ∀{ps ks vs:List D} {xs:List V} {ns:List Int},xp ps=some (ks,vs)->Reps K H ps xs->yx ks=some ns->
 ∃ys,Reps K H vs ys/\ys.length=ns.length/\xs.length=ns.length/\∀(n:Nat) (h1:n<xs.length) (h2:n<ns.length) (z:n<ys.length),∃p,xs[n] = .ref p/\SqT K H p [.int ns[n],ys[n]]
 | [],ks,vs,xs,ns,h,r,hi=>by cases h;cases hi;rw[r.inv_nil];exact⟨[],Reps.nil,rfl,rfl,λn h1=>by cases h1⟩
 | d::ps,ks,vs,xs,ns,h,r,hi=>by
  unfold xp at h;split at h
  ·split at h
   ·rename_i k v
    obtain⟨⟨a,b⟩,e1,I⟩:=zx h;cases I;obtain⟨x,xr,rfl,h1,h2⟩:=r.inv_cons;cases k with
    | int j=>
     obtain⟨nr,O,S⟩:=zx hi;subst S;obtain⟨ys,U,Y,Z,i4⟩:=Jw e1 h2 O;obtain⟨q,zs,rfl,z,h4⟩:=xW h1;obtain⟨y1,yr,rfl,h5,h6⟩:=h4.inv_cons;obtain⟨y2,am,rfl,h7,h8⟩:=h6.inv_cons;rw[h8.inv_nil,jh h5]at z;refine⟨y2::ys,Reps.cons h7 U,by simp[Y],by simp[Z],λn g1 g2 g3=>?_⟩;cases n with
     | zero=>exact⟨q,rfl,z⟩
     | succ n=>exact i4 n (by simpa using g1) (by simpa using g2) (by simpa using g3)
    | _=>cases hi
   ·cases h
  ·cases h
section
variable{X:Cx}{sc:Scope}{N L:List Str}{k:Nat}{a o i:Expr}{f:CO (List D)}{fd fk:CO D}{p pos:Pos}
theorem gE(h:SX X sc N L k)(cd:yD sc "dict" = true)(zd:X.mg "dict" = none)(ha:PO X a f)(hs:starEach [a] X.env=[(false,eval a X.env)]:=by rfl) :
 PV X (.Call (.Name "dict" p) [a] [] pos) (bc f):=by
 intro pins s σ H Q I Y;obtain⟨H0,γ,d,rc,z,q⟩:=Y;obtain⟨ps,e1,z⟩:=bind_some z;obtain⟨⟨ds,es⟩,e2,z⟩:=bind_some z;have hh:X.A.handled=none:=I.ok.hd h.calm;unfold dP at z;cases hi:yx ds with
 | none=>rw[show(ds,es).1=ds from rfl,hi]at z;cases z
 | some ns=>
  rw[show(ds,es).1=ds from rfl,hi]at z;dsimp only at z;by_cases Z:ds.length=es.length/\ns.Nodup/\ds.length<=lim
  ·rw[RY Z]at z
   cases z;refine Call_<|xP I (h.gl cd).1 zd Mr (Hw ?_ (by rw[hs];rfl) rfl);rw[hs];show wpAny _ _ (spliced ((false,eval a X.env)::[])) _ _ s;refine Ii<|thn (ha pins s σ H (λv H1=>∃l xs O,v = .ref l/\Ext H0 H O H1/\O l=none/\H1 l=some (.lst xs)/\Reps X.K O ps xs) I ⟨H0,γ,ps,rc,e1,λl xs H1 O x1 g1 g2 g3 S=>⟨l,xs,O,rfl,x1,g2,g3,S⟩⟩) λv s1 Y=>?_;obtain⟨y,H1,I1,ry,l,xs,O,rfl,x1,g2,g3,S⟩:=Y;cases ry;refine Lp ?_;obtain⟨ys,r1,r2,r3,r4⟩:=Jw e2 S hi;have kl:(ns.map<|IE (β:=Str)).length=ns.length:=by simp
   have nl:ns.length=ds.length:=by have:=(XI e2).1;have:=S.length;omega
   refine ae (H0:=O) (ks:=ns.map IE) (ys:=ys) (xs:=xs) I1 hh x1.sub g3 (by rw[kl];exact r3) (by rw[kl];exact r2) (λn h1 h2 h3=>?_) ?_ λs' p U I3=>?_
   ·obtain⟨t,t1,t2⟩:=r4 n h1 (by simpa using h2) h3
    refine⟨t,t1,?_⟩;simpa[kV]using t2
   ·have:lim<=sizeLine:=by decide
    rw[kl];omega
   ·have ar:gG [] ((ns.map<|IE (β:=Str)).zip ys)=(ns.map IE).zip ys:=by
     rw[JF _ []]
     ·simp
     ·rw[LM,List.map_fst_zip ⋯]
      exact Kl Z.2.1
    rw[ar]at I3;exact⟨.ref p,_,I3,rfl,q (.ref p) _ _ ((x1.trans<|Ext.hide x1.sub U _).show (xB x1.s1 U) (ji x1.sub U) zD rc.sub)
     (show ∃a xs,V.ref p = .ref a/\DRp (upd O p _) a ds xs/\Reps X.K (upd O p _) es xs from⟨p,ys,rfl,⟨_,JW hi,by omega,zD⟩,r1.mono<|z5 (ji x1.sub U) _⟩)⟩
  ·rw[EQ Z]at z;cases z
theorem ua(h:SX X sc N L k)(U:PV X o fd)(hi:PV X i fk)(Y:BM i:=by intro _ _;rfl):PV X (.Subscript o i pos) (Bd fd fk):=
 j9 (oX (by have:=h.u64;omega) U hi Y) λσ H Q Z=>by
  obtain⟨H0,γ,d,rc,z,q⟩:=Z;obtain⟨d1,e1,z⟩:=bind_some z;obtain⟨k1,e2,z⟩:=bind_some z;cases d1 with
  | dic ks vs=>
   obtain⟨j,e3,e4⟩:=bind_some z;refine⟨H0,γ,_,rc,e1,λv H1 I x r=>⟨I,γ,_,rc.ext x,e2,λy H2 a4 O r2=>?_⟩⟩;obtain⟨ad,xs,rfl,⟨kk,g1,g2,g3⟩,g4⟩:=(show ∃a xs,v = .ref a/\DRp I a ks xs/\Reps X.K I vs xs from r);rw[jw e3]at r2;have hy:y = .int j:=r2;obtain⟨S,c3,c4⟩:=(Xh (i:=j) g1 g2<|g4.mono O.s0).1 d e4;refine⟨ad,S,rfl,?_,q S H2 a4 (x.trans O) c4⟩;rw[hy,<- c3];exact .inl ⟨_,IE j,.inl<|O.s1 _ _<|x.sub _ _ g3,rfl,rfl⟩
  | _=>cases z
theorem oF(h:SX X sc N L k)(hi:PV X i fk)(Z:PV X o fd)(hm:behindInMarks .In o=false:=by with_unfolding_all rfl):PTD X (.Compare i [.In] [o] pos) (sB<|tq fk fd):=
 Wy (ui (uD (by have:=h.u64;omega) hi Z) hm) λσ H Q hZ=>by
  obtain⟨H0,γ,b,rc,z,q⟩:=hZ;obtain⟨db,e0,eb⟩:=bind_some z;obtain⟨k1,e1,z⟩:=bind_some e0;obtain⟨d1,e2,z⟩:=bind_some z;cases d1 with
  | dic ks vs=>
   obtain⟨j,e3,e4⟩:=zx z;subst e4;cases eb;refine⟨H0,γ,_,rc,e1,λy H1 a7 x S=>⟨a7,γ,_,rc.ext x,e2,λv H2 I O r=>?_⟩⟩;obtain⟨ad,xs,rfl,⟨kk,g1,g2,U⟩,g4⟩:=(show ∃a xs,v = .ref a/\DRp I a ks xs/\Reps X.K I vs xs from r);rw[jw e3]at S;have Y:y = .int j:=S;obtain⟨c1,c2⟩:=Xh (i:=j) g1 g2 g4;cases hv:VT ks vs j with
   | none=>
    refine⟨ad,none,rfl,?_,_,rfl,?_⟩
    ·rw[Y,<- c2 hv]
     exact .inl ⟨_,IE j,.inl<|O.sub _ _ U,rfl,rfl⟩
    ·rw[hv]at q;exact q H2 I<|x.trans O
   | some dv=>
    obtain⟨vv,c3,c4⟩:=c1 dv hv;refine⟨ad,some vv,rfl,?_,_,rfl,?_⟩
    ·rw[Y,<- c3]
     exact .inl ⟨_,IE j,.inl<|O.sub _ _ U,rfl,rfl⟩
    ·rw[hv]at q;exact q H2 I<|x.trans O
  | _=>cases z
end
def mI:D->Option (List Int)
 | .tup ds=>yx ds
 | _=>none
def WU:List D->Option (List<|List Int)
 | []=>some []
 | d::ds=>(mI d).bind λk=>(WU ds).map λr=>k::r
def Vl(f:CO (List D)):CO D:=λγ=>(f γ).bind λps=>(xp ps).bind λp=>(WU p.1).bind λks=>if ks.Nodup/\ks.length<=lim then some (.dct ks p.2)else none
def W5:List (List Int)->List D->List Int->Option D
 | k::ks,v::vs,i=>if k=i then some v else W5 ks vs i
 | _,_,_=>none
def oj(fd fk:CO D):CO D:=λγ=>(fd γ).bind λd=>(fk γ).bind λk=>match d with
 | .dct ks vs=>(mI k).bind λi=>W5 ks vs i
 | _=>none
def W4(d k x:D):Option D:=match d with
 | .dct ks vs=>(mI k).map λi=>(W5 ks vs i).getD x
 | _=>none
def Yf(fd fk fx:CO D):CO D:=λγ=>(fd γ).bind λd=>(fk γ).bind λk=>(fx γ).bind λx=>W4 d k x
section
variable(γ:Ctx)
@[simp] theorem BG(f):Vl f γ=(f γ).bind λps=>(xp ps).bind λp=>(WU p.1).bind λks=>if ks.Nodup/\ks.length<=lim then some (.dct ks p.2)else none:=rfl
@[simp] theorem EB(fd fk):oj fd fk γ=(fd γ).bind λd=>(fk γ).bind λk=>match d with
 | .dct ks vs=>(mI k).bind λi=>W5 ks vs i
 | _=>none:=rfl
@[simp] theorem Ey(fd fk fx):Yf fd fk fx γ=(fd γ).bind λd=>(fk γ).bind λk=>(fx γ).bind λx=>W4 d k x:=rfl
end
theorem JS : ∀{k:List Int} {us:List Value},Vals (k.map V.int) us->PySem.ItemsAre (intKind P w) k us
 | [],us,h=>by cases h;exact .nil
 | i::k,us,h=>by
  cases h with
  | cons h1 h2=>
   obtain⟨t,rfl⟩:=h1;exact .cons (by show Value.isInt i (.int i t)=true;simp[Value.isInt])<|JS h2
section
variable{X:Cx}{pins:RW}{σ:St}{H:Hp}{s:Shared}
theorem vX(I:Inv X pins σ H s)(h:SqT X.K H b (k.map V.int)):(tupleKind<|intKind X.prog X.w).is s.heap k b:=by obtain⟨z,O,⟨o,S,U,n,hd⟩,_⟩:=I.tuple h;exact⟨o,z.toArray,n,S,U,hd,JS O⟩
theorem Xk(I:Inv X pins σ H s)(e:H a=some (atO a o))(d:nc o xs)(z : ∀x∈xs,SqT X.K H x.2.1<|x.1.map V.int):s.heap.DictOfH (tupleKind<|intKind X.prog X.w) a xs:=by obtain⟨O,_⟩:=(show ObjOk X.prog X.w H s.heap a (atO a o)from I.hok a _ e);obtain⟨S,es,U,Y,Z,d4⟩:=d;exact⟨o,es,U,O,S,Y,Z,λx hx=>vX I<|z x hx,d4⟩
theorem uQ{h:Heap}{P:Program}{w:World}{a:Addr}{xs:List (List Int×Addr×Value)}(d:h.DictOfH (tupleKind<|intKind P w) a xs) : ∃o,h.get? a=some o/\nc o xs:=by obtain⟨o,es,z,h1,h2,I,O,_,S⟩:=d;exact⟨o,h1,h2,es,z,I,O,S⟩
end
theorem mV(e:h.get? a=some o):ObjOk P w H h a (atO a o):=⟨e,⟨o,e⟩,λh1 h2 p q=>q o p⟩
theorem lG{K:Type} [DecidableEq K]{k:K} : ∀{xs:List (K×Addr×Value)},k∉xs.map (·.1)->atKey xs k=none
 | xs,h=>by unfold atKey;rw[Option.map_eq_none_iff,MA];intro x hx z;exact h<|GO.mpr ⟨x,hx,by simpa using z⟩
section
variable{X:Cx}{pins:RW}{σ:St}{A:Around}{R:Result->Shared->Prop}{H0:Hp}{l it d:Addr}{ks:List (List Int)}{ys xs:List V}
theorem W7(hh:A.handled=none)(hu:A.units+8<cLine)(hx:xs.length=ks.length)(hy:ys.length=ks.length)(nd:ks.Nodup)(hz:ks.length<=sizeLine)
 (hp : ∀(n:Nat) (h1:n<xs.length) (h2:n<ks.length) (h3:n<ys.length),∃p b,xs[n] = .ref p/\SqT X.K H0 p [.ref b,ys[n]]/\SqT X.K H0 b (ks[n].map V.int)) (bg:H0 d=none) (bi:l≠d) : ∀(m n:Nat) (s:Shared) (H:Hp) (o:Obj) (es:List (List Int×Addr×Value)) (i:Int) (t:Tok),n+m=ks.length->
 Inv X pins σ H s->Same H0 H->H l=some (.lst xs)->s.heap.IsListIter it l n->FpOk X pins H it->H d=some (atO d o)->nc o es->es.map (·.1)=ks.take n->(∀x∈es,SqT X.K H0 x.2.1<|x.1.map V.int)->Vals (ys.take n) (es.map (·.2.2))->
 (∀s' o' Y,nc o' Y->Y.map (·.1)=ks->(∀x∈Y,SqT X.K H0 x.2.1<|x.1.map V.int)->Vals ys (Y.map (·.2.2))->Inv X pins σ (upd H d<|atO d o') s'->R (.ok<|.ret .none) s')->
 codeAny (model X.prog X.w) A (.builtin "dict.update.loop" ⟨[.ref d,.ref it,.int i t,.none],[]⟩) R s:=by
 intro m
 induction m with
 | zero=>
  intro n s H o es i t hn I sub Z st S hd od U a0 a5 hR;obtain⟨z1,a8,c,rv,ll,el⟩:=I.lstM Z;refine MG qw ?_;unfold Builtin.«dict.update.loop»;have il:s.heap.IsList l a8.toArray:=⟨_,el,rfl,_,rfl⟩;refine FZ<|NB (s:=s) hh st il (by simp;omega) λh' eb=>?_;refine FZ<|Gf ?_;have e0:upd H d (atO d o)=H:=by
   funext c;by_cases q:c=d
   ·rw[q,zD,hd]
   ·rw[zB q]
  have I':Inv X pins σ H {s with heap:=h'}:=I.turnedL (t':=s.toks) (fp:=[it]) (λb o O e=>eb b o (by simpa using O) e) (λb O=>by rw[Ik.mp O];exact S);have:=hR {s with heap:=h'} o es od (by rw[U,Ip ⋯]) a0 (by rw[Ip ⋯]at a5;exact a5);rw[e0]at this;exact Gf<|this I'
 | succ m ih=>
  intro n s H o es i t hn I sub Z st S hd od U a0 a5 hR;obtain⟨z1,a8,c,rv,ll,el⟩:=I.lstM Z;have il:s.heap.IsList l a8.toArray:=⟨_,el,rfl,_,rfl⟩;have ad:n<ks.length:=by omega
  obtain⟨p,b,ep,c1,ap⟩:=hp n ⋯ ad ⋯;obtain⟨u,c2,ru⟩:=rv.get (Gd<|show n<xs.length by omega);rw[ep]at ru;have eu:u = .ref p:=ru;subst eu;refine MG qw ?_;unfold Builtin.«dict.update.loop»;refine FZ<|Nq (s:=s) st il (x:= .ref p) (by simpa using c2) λh' c4 sb=>?_;have I1:=I.turnedL (h':=h') (t':=s.toks) (fp:=[it]) (λb o O e=>(sb.2 b<|by simpa using O).trans e) (λb O=>by rw[Ik.mp O];exact S);obtain⟨ts,rt,⟨o1,eo,co,nn,c7⟩,zt⟩:=I1.tuple<|sameT sub c1;obtain⟨u1,r3,rfl,c8,q2⟩ : ∃u1 r3,ts=u1::r3/\RelV (.ref b) u1/\Vals [ys[n]] r3:=by
   cases rt with
   | cons q1 q2=>exact⟨_,_,rfl,q1,q2⟩
  obtain⟨u2,rfl,ca⟩:=yE q2;have cb:u1 = .ref b:=c8;subst cb;have cd:({s with heap:=h'}:Shared).TypeIs (.ref p) "tuple":=⟨_,eo,co⟩;refine FZ (HH (FZ (wpAny_tryCatch ?_)));unfold Builtin.Dict.pairItems;refine FZ (LQ cd ?_);rw[RY ⋯];refine FZ (IK eo c7 (Gf ?_));show wpAny _ _ (holding [.ref b,u2] (dictSet d (.ref b) u2)) _ _ _;have dH:=Xk I1 hd od λx hx=>sameT sub (a0 x hx);have key:=vX I1 (sameT sub ap);have d4:es.length=n:=by have:=congrArg List.length U;rw[Gw,Lb]at this;omega
  have cf:ks[n]∉es.map (·.1):=by rw[U];intro z;obtain⟨j,hj,e⟩:=Mo z;rw[List.getElem_take]at e;rw[Lb]at hj;exact IA.mp nd j n ⋯ ad ⋯ e
  refine HH (wpAny_dictSet_heap (hsz:=by omega) (show(A.under _).units<cLine from by rw[show(A.under (Code.builtin "dict.update.loop" _)).units=A.units+1 from rfl];omega) key dH λci ax hs=>?_);rw[storedH_new (lG cf)]at ax;obtain⟨o',b9,cj⟩:=uQ ax;have I2:=I1.write (x:=d) (e:=d) (o:=atO d o') (t':=s.toks+(tupleKind (intKind X.prog X.w)).draws ks[n]) (h':=ci) (by rw[hd];exact IH) (.inl rfl) (λb q O z=>(hs.2 b O).trans z) ⟨_,b9⟩ (mV b9);have bb:it≠d:=λq=>by have:=S.1;rw[q,hd]at this;cases this
  have tk:ks.take (n+1)=ks.take n++[ks[n]]:=by rw[List.take_succ,Gd ad];rfl
  have ty:ys.take (n+1)=ys.take n++[ys[n]]:=by rw[List.take_succ,Gd ⋯];rfl
  refine Gf ⟨qu _,ih (n+1) _ _ o' _ (i+1) 0 ⋯ I2 (λc o e=>?_) (by rw[zB bi];exact Z) (c4.at λo q=>(hs.2 it bb).trans q) ⟨by rw[zB bb];exact S.1,S.2⟩ zD cj ?_ ?_ ?_ λs' o3 cq a1 a2 a3 a4 I3=>hR s' o3 cq a1 a2 a3 a4 ?_⟩
  ·rw[zB (λq=>by rw[q,bg]at e;cases e)];exact sub _ _ e
  ·rw[Hk,U,tk];rfl
  ·intro x hx
   rcases Li.mp hx with z | z
   ·exact a0 x z
   ·rw[Ik.mp z];exact ap
  ·rw[Hk,ty]
   exact a5.append<|.cons ca .nil
  ·rw[vF]at I3;exact I3
theorem ab(I:Inv X pins σ H s)(Y:X.A.handled=none)(hu:X.A.units+64<cLine)(sub:Same H0 H)(z:H l=some (.lst xs))(hx:xs.length=ks.length)(hy:ys.length=ks.length)(nd:ks.Nodup)
 (hp : ∀(n:Nat) (h1:n<xs.length) (h2:n<ks.length) (h3:n<ys.length),∃p b,xs[n] = .ref p/\SqT X.K H0 p [.ref b,ys[n]]/\SqT X.K H0 b (ks[n].map V.int)) (hz:ks.length<=sizeLine)
 (hQ : ∀s' p o es,H p=none->(p==sysModules)=false->nc o es->es.map (·.1)=ks->(∀x∈es,SqT X.K H0 x.2.1 (x.1.map V.int))->Vals ys (es.map (·.2.2))->Inv X pins σ (upd H p (atO p o)) s'->Q (.ref p) s'):wpAny (model X.prog X.w) X.A (call (.type "dict") [.ref l]) Q X.xe s:=by
 have O:H s.heap.objs.size=none:=I.fresh;have al:H0 s.heap.objs.size=none:=ji sub O;have Z:l≠s.heap.objs.size:=λq=>by rw[q,O]at z;cases z
 have am:(s.heap.objs.size==sysModules)=false:=beq_eq_false_iff_ne.mpr (II I.big);refine callType_codes (Q₁:=λobj s₁=>obj = .ref s.heap.objs.size/\s₁ = {s with heap:=s.heap.push {cls:= .type "dict",data:= .dict #[]}}) F.kt_called_dict (F.kt_typeCall_dict_1 _) F.entry_dict_init (kt_code_dict_new _ ⟨rfl,rfl⟩) ?_;rintro obj s₁ ⟨rfl,rfl⟩;have I1:=I.laid (a:=s.heap.objs.size) (o:=atO s.heap.objs.size {cls:= .type "dict",data:= .dict #[]}) (t':=s.toks) (λ_ _ q=>Gb {cls:= .type "dict",data:= .dict #[]} q) (Gh _) (mV (Gv _ rfl));have a5:({s with heap:=s.heap.push {cls:= .type "dict",data:= .dict #[]}}:Shared).TypeIs (.ref s.heap.objs.size) "dict":=⟨_,Gv _ rfl,rfl⟩;obtain⟨z1,a6,c,rv,ll,el⟩:=I.lstM z;have S:(s.heap.push {cls:= .type "dict",data:= .dict #[]}).get? l=some {cls:= .type "list",data:= .seq a6.toArray c}:=Gb _ el;refine⟨a5,F.args_dict_init_2 _ _,?_⟩;unfold Builtin.«dict.__init__»;refine FZ ?_;unfold Builtin.Dict.selfAndRest;refine FZ (Ly a5 ?_);show wpAny _ _ (pure (s.heap.objs.size,[GX l])) _ _ _;refine Gf ?_;show wpAny _ _ (Lx "dict.__init__" s.heap.objs.size (.ref l) [] .none) _ _ _;unfold Lx;refine FZ (LQ (T:="list") ⟨_,S,rfl⟩ ?_);rw[RY ⋯];refine FZ (Ks (g:=s.gens) (d:=s.drawn) (t:=s.toks) (os:=s.os) S (show X.A.in1.in1.handled=none from Y) λh' t' k=>?_);have U:Inv X pins σ (upd H s.heap.objs.size (atO s.heap.objs.size {cls:= .type "dict",data:= .dict #[]})) {s with heap:=h',toks:=t'}:=I1.kept k;have ar:=k _ _ S;simp only[Option.isNone_none,if_true];refine FZ (LR (FZ (MY (items:=a6.toArray) ⟨_,ar,rfl,_,rfl⟩ ?_)));refine Gf ⟨qu _,?_⟩;have I3:=U.kept (h':=h'.push {cls:= .type "list_iterator",data:= .fields #[.ref l,.int 0 0]}) (t':=t') λb o e=>Gb _ e;have fp:=U.fpOk (b:=h'.objs.size) (H':=upd H s.heap.objs.size (atO s.heap.objs.size {cls:= .type "dict",data:= .dict #[]})) (Gh _) U.fresh;refine W7 (H0:=H0) (l:=l) (it:=h'.objs.size) (ks:=ks) (ys:=ys) (xs:=xs) (show X.A.in1.handled=none from Y) (by show X.A.in1.units+8<cLine;rw[units_in1];omega) hx hy nd hz hp al Z ks.length 0 _ (upd H s.heap.objs.size (atO s.heap.objs.size {cls:= .type "dict",data:= .dict #[]})) {cls:= .type "dict",data:= .dict #[]} [] 0 0 (HW _) I3 (sub.trans (z5 O _)) (by rw[zB Z];exact z) ⟨_,Gv _ rfl,rfl,rfl⟩ fp zD ⟨⟨rfl,rfl,rfl⟩,#[],0,rfl,rfl,List.nodup_nil⟩ rfl (λx hx=>nomatch hx) .nil λs' o' ax a1 a2 a3 a4 I4=>?_;rw[vF]at I4;exact⟨rfl,hQ s' _ o' ax O am a1 a2 a3 a4 I4⟩
end
theorem Xc{K:FY}{H:Hp}{d:D}{k:List Int}{v:V}(e:mI d=some k)(r:Rep K H d v) : ∃b,v = .ref b/\SqT K H b (k.map V.int):=by
 cases d with
 | tup ds=>
  obtain⟨b,zs,rfl,z,I⟩:=xW r;have:=JV e I;refine⟨b,rfl,?_⟩;rw[this]at z;simpa[kV,Hm,Function.comp_def]using z
 | _=>cases e
theorem Jx{K:FY}{H:Hp} : ∀{ps ks vs:List D} {xs:List V} {ns:List (List Int)},xp ps=some (ks,vs)->Reps K H ps xs->WU ks=some ns->
 ∃ys,Reps K H vs ys/\ys.length=ns.length/\xs.length=ns.length/\∀(n:Nat) (h1:n<xs.length) (h2:n<ns.length) (z:n<ys.length),∃p b,xs[n] = .ref p/\SqT K H p [.ref b,ys[n]]/\SqT K H b (ns[n].map V.int)
 | [],ks,vs,xs,ns,h,r,hi=>by cases h;cases hi;rw[r.inv_nil];exact⟨[],Reps.nil,rfl,rfl,λn h1=>by cases h1⟩
 | d::ps,ks,vs,xs,ns,h,r,hi=>by
  unfold xp at h;split at h
  ·split at h
   ·rename_i k v
    obtain⟨⟨a,b⟩,e1,I⟩:=zx h;cases I;obtain⟨x,xr,rfl,h1,h2⟩:=r.inv_cons;obtain⟨j,O,S⟩:=bind_some hi;obtain⟨nr,U,Y⟩:=zx S;subst Y;obtain⟨ys,Z,i2,i3,i4⟩:=Jx e1 h2 U;obtain⟨q,zs,rfl,z,h4⟩:=xW h1;obtain⟨y1,yr,rfl,h5,h6⟩:=h4.inv_cons;obtain⟨y2,as,rfl,h7,h8⟩:=h6.inv_cons;obtain⟨kb,rfl,ac⟩:=Xc O h5;rw[h8.inv_nil]at z;refine⟨y2::ys,Reps.cons h7 Z,by simp[i2],by simp[i3],λn g1 g2 g3=>?_⟩;cases n with
    | zero=>exact⟨q,kb,rfl,z,ac⟩
    | succ n=>exact i4 n (by simpa using g1) (by simpa using g2) (by simpa using g3)
   ·cases h
  ·cases h
section
variable{X:Cx}{sc:Scope}{N L:List Str}{k:Nat}{a o i:Expr}{f:CO (List D)}{fd fk:CO D}{p pos:Pos}
theorem Vs(h:SX X sc N L k)(cd:yD sc "dict" = true)(zd:X.mg "dict" = none)(ha:PO X a f)(hs:starEach [a] X.env=[(false,eval a X.env)]:=by rfl) :
 PV X (.Call (.Name "dict" p) [a] [] pos) (Vl f):=by
 intro pins s σ H Q I U;obtain⟨H0,γ,d,rc,O,q⟩:=U;obtain⟨ps,e1,O⟩:=bind_some O;obtain⟨⟨ds,es⟩,e2,O⟩:=bind_some O;obtain⟨ks,e3,O⟩:=bind_some O;have hh:X.A.handled=none:=I.ok.hd h.calm;by_cases Y:ks.Nodup/\ks.length<=lim
 ·rw[RY Y]at O
  cases O;refine Call_<|xP I (h.gl cd).1 zd Mr (Hw ?_ (by rw[hs];rfl) rfl);rw[hs];show wpAny _ _ (spliced ((false,eval a X.env)::[])) _ _ s;refine Ii<|thn (ha pins s σ H (λv H1=>∃l xs z,v = .ref l/\Ext H0 H z H1/\z l=none/\H1 l=some (.lst xs)/\Reps X.K z ps xs) I ⟨H0,γ,ps,rc,e1,λl xs H1 z x1 g1 g2 Z g4=>⟨l,xs,z,rfl,x1,g2,Z,g4⟩⟩) λv s1 U=>?_;obtain⟨y,H1,I1,ry,l,xs,z,rfl,x1,g2,Z,g4⟩:=U;cases ry;refine Lp ?_;obtain⟨ys,r1,r2,r3,r4⟩:=Jx e2 g4 e3;have:lim<=sizeLine:=by decide
  refine ab (H0:=z) (ks:=ks) (ys:=ys) (xs:=xs) I1 hh h.u64 x1.sub Z r3 r2 Y.1 r4 ⋯ λs' p ob zs S ax a1 a2 a3 a4 I3=>?_;have a7:Same z (upd z p<|atO p ob):=z5 (ji x1.sub S) _;exact⟨.ref p,_,I3,rfl,q (.ref p) _ _ ((x1.trans<|Ext.hide x1.sub S _).show (xB x1.s1 S) (ji x1.sub S) zD rc.sub)
   (show ∃a xs,V.ref p = .ref a/\DRt X.K (upd z p _) a ks xs/\Reps X.K (upd z p _) es xs from⟨p,ys,rfl,⟨ax,ob,zs,zD,a1,a2,by have:=congrArg List.length a2;rw[Gw]at this;omega,λx hx=>sameT a7<|a3 x hx,a4⟩,r1.mono a7⟩)⟩
 ·rw[EQ Y]at O;cases O
end
theorem YF{K:FY}{H:Hp}{i:List Int} : ∀{xs:List (List Int×Addr×Value)} {vs:List D} {ys:List V},Reps K H vs ys->Vals ys (xs.map (·.2.2))->
 (∀d,W5 (xs.map (·.1)) vs i=some d->∃y p,atKey xs i=some p/\Rep K H d y/\RelV y p.2)/\(W5 (xs.map (·.1)) vs i=none->atKey xs i=none)
 | [],vs,ys,r,v=>⟨(λd q=>by cases q),λ_=>rfl⟩
 | x::xs,vs,ys,r,v=>by
  cases v with
  | cons I O=>
   cases vs with
   | nil=>have:=r.inv_nil;cases this
   | cons d vs=>
    obtain⟨y,U,e,h1,h2⟩:=r.inv_cons;cases e;have S:=YF (i:=i) h2 O;by_cases hx:x.1=i
    ·have e1:atKey (x::xs) i=some x.2:=by unfold atKey;rw[List.find?_cons_of_pos (by simpa using hx)];rfl
     have z:W5 ((x::xs).map (·.1)) (d::vs) i=some d:=by show(if x.1=i then _ else _)=_;rw[RY hx]
     rw[e1,z];exact⟨λd' q=>by cases q;exact⟨_,x.2,rfl,h1,I⟩,λq=>by cases q⟩
    ·have e1:atKey (x::xs) i=atKey xs i:=by unfold atKey;rw[List.find?_cons_of_neg (by simpa using hx)]
     have z:W5 ((x::xs).map (·.1)) (d::vs) i=W5 (xs.map (·.1)) vs i:=by show(if x.1=i then _ else _)=_;rw[EQ hx]
     rw[e1,z];exact S
section
variable{X:Cx}{sc:Scope}{N L:List Str}{k:Nat}{a b o i:Expr}{fd fk fx:CO D}{p pos apos cpos:Pos}
theorem oA(h:SX X sc N L k)(ho:PV X o fd)(hi:PV X i fk)(hs:BM i:=by intro _ _;rfl):PV X (.Subscript o i pos) (oj fd fk):=by
 intro pins s σ H Q I U;obtain⟨H0,γ,d,rc,O,q⟩:=U;obtain⟨d1,e1,O⟩:=bind_some O;obtain⟨k1,e2,O⟩:=bind_some O;cases d1 with
 | dct ks vs=>
  obtain⟨j,e3,e4⟩:=bind_some O;refine aO PySem.F.slot_dict_getitem.lookup hs<|thn (ho pins s σ H (λv H1=>∃z,Ext H0 H z H1/\Rep X.K z (.dct ks vs) v) I ⟨H0,γ,_,rc,e1,λv H1 z x r=>⟨z,x,r⟩⟩) λu s1 U=>?_;obtain⟨v,H1,I1,r1,z,x1,rp⟩:=U;refine thn (hi pins s1 σ H1 (λv H2=>∃S,Ext z H1 S H2/\Rep X.K S k1 v) I1 ⟨z,γ,_,rc.ext x1,e2,λv H2 S x r=>⟨S,x,r⟩⟩) λu2 s2 U=>?_;obtain⟨v2,H2,Z,r2,S,Y,am⟩:=U;obtain⟨ad,ys,rfl,⟨g0,ob,zs,g1,g2,g3,g4,g5,g6⟩,g7⟩:=(show ∃a xs,v = .ref a/\DRt X.K z a ks xs/\Reps X.K z vs xs from rp);subst g3;cases (show u=GX ad from r1);obtain⟨b,rfl,hb⟩:=Xc e3 am;cases (show u2=GX b from r2);have a0:Same z H2:=Y.s0.trans Y.sub;have dH:=Xk Z (a0 _ _ g1) g2 λx hx=>sameT a0<|g5 x hx;obtain⟨y,p,c1,c2,c3⟩:=(YF (g7.mono Y.s0) g6).1 d e4;exact⟨dH.typeIs,wpAny_getItem_heap (MP (by have:=h.u64;omega)) (vX Z<|sameT Y.sub hb) dH c1 ⟨y,H2,Z.tok _,c3,q y H2 S (x1.trans Y) c2⟩⟩
 | _=>cases O
theorem QK(h:SX X sc N L k)(ho:PV X o fd)(ha:PV X a fk)(hb:PV X b fx)(m:M2 X o "get" apos a b cpos:=by exact⟨by rfl,by rfl,by rfl,by rfl⟩):PV X (.Call (.Attribute o "get" apos) [a,b] [] cpos) (Yf fd fk fx):=by
 intro pins s σ H Q I U;obtain⟨H0,γ,d,rc,O,q⟩:=U;obtain⟨d1,e1,O⟩:=bind_some O;obtain⟨k1,e2,O⟩:=bind_some O;obtain⟨w1,e5,O⟩:=bind_some O;cases d1 with
 | dct ks vs=>
  obtain⟨j,e3,e4⟩:=zx O;subst e4;refine wpAny_Call_method m.base m.few m.line PySem.F.plainAttrs_dict PySem.F.slot_dict_get PySem.F.type_dict_get<|thn (ho pins s σ H (λv H1=>∃z,Ext H0 H z H1/\Rep X.K z (.dct ks vs) v) I ⟨H0,γ,_,rc,e1,λv H1 z x r=>⟨z,x,r⟩⟩) λu s1 U=>?_;obtain⟨v,H1,I1,r1,z,x1,rp⟩:=U;obtain⟨ad,ys,rfl,⟨g0,ob,zs,g1,g2,g3,g4,g5,g6⟩,g7⟩:=(show ∃a xs,v = .ref a/\DRt X.K z a ks xs/\Reps X.K z vs xs from rp);subst g3;cases (show u=GX ad from r1);have a5:=Xk I1 (x1.sub _ _ g1) g2 λx hx=>sameT x1.sub<|g5 x hx;refine⟨a5.typeIs,dictOfH_noDict a5,?_⟩;rw[m.trees];refine Calls.callWith_builtin rfl<|Calls.evalArgs_plain<|Ii<|thn (ha pins s1 σ H1 (λv H2=>∃Y,Ext z H1 Y H2/\Rep X.K Y k1 v) I1 ⟨z,γ,_,rc.ext x1,e2,λv H2 Y x r=>⟨Y,x,r⟩⟩) λu2 s2 U=>?_;obtain⟨v2,H2,I2,r2,Y,x2,bg⟩:=U;refine Ii<|thn (hb pins s2 σ H2 (λv S=>∃Z,Ext Y H2 Z S/\Rep X.K Z w1 v) I2 ⟨Y,γ,_,(rc.ext x1).ext x2,e5,λv S Z x r=>⟨Z,x,r⟩⟩) λu3 s3 U=>Lp ?_;obtain⟨v3,S,I3,r3,Z,x3,bl⟩:=U;obtain⟨kb,rfl,bm⟩:=Xc e3 bg;cases (show u2=GX kb from r2);have xx:=x2.trans x3;have a9:Same z S:=xx.s0.trans xx.sub;have dH:=Xk I3 (a9 _ _ g1) g2 λx hx=>sameT a9<|g5 x hx;refine call_meetsIn PySem.F.slot_dict_get dH.typeIs PySem.F.entry_dict_get (PySem.F.args_dict_get_3 _ _ _) (meetsH_dict_get_default (tupleKind<|intKind X.prog X.w) ad kb g0 u3) ⟨MP (by have:=h.u64;omega),j,zs,vX I3<|sameT (x3.s0.trans x3.sub) bm,dH,?_⟩;obtain⟨c1,c2⟩:=YF (i:=j) (g7.mono xx.s0) g6;cases hv:W5 (zs.map (·.1)) vs j with
  | none=>
   rw[hv]at q;rw[c2 hv];exact⟨v3,S,I3.tok _,r3,q v3 S Z (x1.trans xx) bl⟩
  | some dv=>
   rw[hv]at q;obtain⟨y,p,f1,f2,f3⟩:=c1 dv hv;rw[f1];exact⟨y,S,I3.tok _,f3,q y S Z (x1.trans xx) f2⟩
 | _=>cases O
end
def du:List (List Int)->List Int->List Int->Option Int
 | k::ks,n::ns,i=>if k=i then some n else du ks ns i
 | _,_,_=>none
def eqT(ks:List (List Int))(ns:List Int)(z:List (List Int))(I:List Int):Bool:=decide (ks.length=z.length) && (ks.zip ns).all λx=>decide<|du z I x.1=some x.2
def pX(d e:D):Option Bool:=match d with
 | .dct ks vs=>match e with
  | .dct z I=>(yx vs).bind λns=>(yx I).map λO=>eqT ks ns z O
  | _=>none
 | _=>none
@[simp] def FX(d e:D):Option D:=(pX d e).map D.bl
@[simp] def AC(d e:D):Option D:=(pX d e).map λb=>D.bl<|!b
def IntV:List (List Int×Addr×Value)->List Int->Prop
 | [],[]=>True
 | x::xs,n::ns=>(∃t,x.2.2 = .int n t)/\IntV xs ns
 | _,_=>False
theorem YD{K:FY}{H:Hp} : ∀{xs:List (List Int×Addr×Value)} {vs:List D} {ys:List V} {ns:List Int},yx vs=some ns->Reps K H vs ys->Vals ys (xs.map (·.2.2))->IntV xs ns
 | [],vs,ys,ns,e,r,v=>by
  cases v;cases vs with
  | nil=>cases e;trivial
  | cons d vs=>obtain⟨_,_,q,_⟩:=r.inv_cons;cases q
 | x::xs,vs,ys,ns,e,r,v=>by
  cases v with
  | cons z I=>
   cases vs with
   | nil=>have:=r.inv_nil;cases this
   | cons d vs=>
    obtain⟨y,U,q,h1,h2⟩:=r.inv_cons;cases q;cases d with
    | int j=>
     obtain⟨Y,O,S⟩:=zx e;subst S;rw[jh h1]at z;exact⟨z,YD O h2 I⟩
    | _=>cases e
theorem IntV.length : ∀{xs:List (List Int×Addr×Value)} {ns:List Int},IntV xs ns->ns.length=xs.length
 | [],[],_=>rfl
 | x::xs,n::ns,h=>by simp[h.2.length]
theorem IntV.at : ∀{xs:List (List Int×Addr×Value)} {ns:List Int} (h:IntV xs ns) {i:Nat} {x:List Int×Addr×Value},xs[i]? = some x->∃n t,ns[i]? = some n/\x.2.2 = .int n t
 | x::xs,n::ns,h,0,y,e=>by cases e;obtain⟨t,q⟩:=h.1;exact⟨n,t,rfl,q⟩
 | x::xs,n::ns,h,i+1,y,e=>h.2.at (i:=i) (by simpa using e)
theorem IntV.get : ∀{xs:List (List Int×Addr×Value)} {ns:List Int},IntV xs ns->(xs.map (·.1)).Nodup->∀{k:List Int},(∀(j:Nat) (p:Addr×Value),xs[j]? = some (k,p)->∃n t,du (xs.map (·.1)) ns k=some n/\p.2 = .int n t)/\((∀(j:Nat) (p:Addr×Value),xs[j]? ≠ some (k,p))->du (xs.map (·.1)) ns k=none)
 | [],[],_,_,k=>⟨λj p e=>by simp at e,λ_=>rfl⟩
 | x::xs,n::ns,h,nd,k=>by
  have z:=Hg.mp nd;obtain⟨O,S⟩:=h.2.get z.2 (k:=k);have U:du ((x::xs).map (·.1)) (n::ns) k=if x.1=k then some n else du (xs.map (·.1)) ns k:=rfl;rw[U];by_cases hx:x.1=k
  ·rw[RY hx]
   refine⟨λj p e=>?_,λq=>absurd (show(x::xs)[0]? = some (k,x.2)by rw[<- hx];rfl)<|q 0 x.2⟩;cases j with
   | zero=>
    have:x=(k,p):=by simpa using e
    obtain⟨t,I⟩:=h.1;exact⟨n,t,rfl,by rw[this]at I;exact I⟩
   | succ j=>
    exfalso;have Y:xs[j]? = some (k,p):=by simpa using e
    exact z.1<|GO.mpr ⟨(k,p),He Y,hx.symm⟩
  ·rw[EQ hx]
   refine⟨λj p e=>?_,λq=>S λj p e=>q (j+1) p<|by simpa using e⟩;cases j with
   | zero=>
    have:x=(k,p):=by simpa using e
    exact absurd (by rw[this]) hx
   | succ j=>exact O j p (by simpa using e)
section
variable{prog:Program}{w:World}{A:Around}{E:RQ}{s:Shared}{a b:Addr}{oa ob:Obj}{xs ys:List (List Int×Addr×Value)}{ns ms:List Int}
theorem Wo{id:String}{Q:Bool->Shared->Prop}(hu:A.units<cLine)(sa:(a==sysModules)=false)(sb:(b==sysModules)=false)(ha:s.heap.get? a=some oa)(Z:s.heap.get? b=some ob)(da:nc oa xs)(db:nc ob ys)
 (ka : ∀x∈xs,(tupleKind<|intKind prog w).is s.heap x.1 x.2.1) (kb : ∀x∈ys,(tupleKind<|intKind prog w).is s.heap x.1 x.2.1) (va:IntV xs ns) (vb:IntV ys ms) (O:Q (eqT (xs.map (·.1)) ns (ys.map (·.1)) ms) s) :
 wpAny (model prog w) A (Mt id a b) Q E s:=by
 obtain⟨a1,es,ep,S,a3,a4⟩:=da;obtain⟨b1,fs,fp,b2,b3,b4⟩:=db;have a6:es.size=xs.length:=by rw[<- HV,a3,Gw]
 have a7:fs.size=ys.length:=by rw[<- HV,b3,Gw]
 unfold Mt Builtin.Dict.showsAll;rw[EQ (by rw[sa];exact GA),EQ (by rw[sb];exact GA)];refine FZ<|Gf ?_;refine FZ<|Gf ?_;refine FZ<|Mg ha S ?_;refine FZ<|Mg Z b2 ?_;by_cases U:xs.length=ys.length
 ·rw[EQ (by rw[a6,a7,U];simp)]
  refine FZ<|wpAny_dictEpoch ha S ?_;refine FZ ?_;rw[Std.Legacy.Range.forIn_eq_forIn_range'];simp only[Std.Legacy.Range.size,Nat.sub_zero,Nat.add_sub_cancel,Nat.div_one];let ok:List Int×Int->Bool:=λx=>decide<|du (ys.map (·.1)) ms x.1=some x.2;have c0:((xs.map (·.1)).zip ns).length=xs.length:=by have:=va.length;simp;omega
  have a8:eqT (xs.map (·.1)) ns (ys.map (·.1)) ms=((xs.map (·.1)).zip ns).all ok:=by unfold eqT;rw[decide_eq_true (by simpa using U),Bool.true_and]
  refine wpAny_forIn_list _ (λxH r s'=>s'=s/\r=(none,())/\∃i,xH=LX i (es.size - i)/\i<=es.size/\(((xs.map (·.1)).zip ns).take i).all ok=true) _ ?_ ?_ _ _ ⟨rfl,rfl,0,by simp,HN _,rfl⟩
  ·rintro x xH r s' ⟨rfl,rfl,i,I,hi,hok⟩
   have b9:i<es.size:=by
    rcases GB i es.size with h | h
    ·exact h
    ·rw[Nat.sub_eq_zero_of_le h]at I;simp at I
   obtain⟨rfl,bb⟩:x=i/\xH=LX (i+1) (es.size - (i+1)):=by
    have e:es.size - i=(es.size - (i+1))+1:=by omega
    rw[e,La]at I;injection I with h1 h2;exact⟨h1,h2⟩
   have Y:x<xs.length:=by omega
   have bd:es[x]? = some ⟨nI xs[x].1,.ref xs[x].2.1,xs[x].2.2⟩:=by rw[<- Nb,a3,GZ,Gd Y];rfl
   obtain⟨n,t,hn,hv⟩:=va.at<|Gd Y;have hz:((xs.map (·.1)).zip ns)[x]? = some (xs[x].1,n):=List.getElem?_zip_eq_some.mpr ⟨by rw[GZ,Gd Y];rfl,hn⟩;have bf:((xs.map (·.1)).zip ns).take (x+1)=((xs.map (·.1)).zip ns).take x++[(xs[x].1,n)]:=by rw[List.take_succ,hz];rfl
   have bg:(xs[x].1,n)∈(xs.map (·.1)).zip ns:=He hz;refine FZ<|Mg ha S ?_;rw[bd];refine FZ<|HH ?_;obtain⟨g1,g2⟩:=vb.get b4 (k:=xs[x].1);have ac:ok (xs[x].1,n)=false->Q false s':=λz=>by have:((xs.map (·.1)).zip ns).all ok=false:=List.all_eq_false.mpr ⟨_,bg,by rw[z];decide⟩;rw[<- this,<- a8];exact O
   refine FZ<|wpAny_dictFind_heap (knd:=tupleKind<|intKind prog w) hu (ka _<|Lc Y) Z b2 b3 kb b4 (λbl=>?_) λj p hj=>?_
   ·refine Gf ?_
    show wpAny _ _ (pure<|ForInStep.done (some false,())) _ _ _;refine Gf<|Gf<|ac ?_;show decide (du (ys.map (·.1)) ms xs[x].1=some n)=false;rw[g2 bl];rfl
   ·obtain⟨n',t',h1,h2⟩:=g1 j p hj
    have bm:fs[j]? = some ⟨nI xs[x].1,.ref p.1,p.2⟩:=by rw[<- Nb,b3,GZ,hj];rfl
    refine FZ<|Mg Z b2 ?_;rw[bm];refine HH ?_;dsimp only;rw[hv,h2];refine wpAny_eqBool_int ?_;have eo:ok (xs[x].1,n)=(n==n'):=by
     show decide (du (ys.map (·.1)) ms xs[x].1=some n)=_;rw[h1];by_cases q:n=n'
     ·subst q;simp
     ·simp[q,GN q]
    by_cases q:(n==n')=true
    ·rw[q]
     refine FZ<|wpAny_dictEpoch ha S ?_;rw[EQ ⋯];refine Gf ⟨rfl,rfl,x+1,bb,b9,?_⟩;rw[bf,List.all_append,hok];simp[eo,q]
    ·rw[NS.mpr q]
     show wpAny _ _ (pure<|ForInStep.done (some false,())) _ _ _;exact Gf (Gf<|ac<|by rw[eo];exact NS.mpr q)
  ·rintro r s' ⟨rfl,rfl,i,I,hi,hok⟩
   have c1:i=es.size:=by
    rcases GB i es.size with h | h
    ·have e:es.size - i=(es.size - (i+1))+1:=by omega
     rw[e,La]at I;exact nomatch I
    ·exact Nat.le_antisymm hi h
   refine Gf ?_;rw[Ip ⋯]at hok;rw[a8,hok]at O;exact O
 ·rw[RY (by rw[a6,a7];simpa using U)]
  have:eqT (xs.map (·.1)) ns (ys.map (·.1)) ms=false:=by unfold eqT;rw[decide_eq_false (by simpa using U),Bool.false_and]
  rw[this]at O;exact FZ<|LR<|Gf O
end
def EL(K:FY):R2:=λx y H Q=>∃H0 dx z b,Same H0 H/\Rep K H0 dx x/\Rep K H0 z y/\pX dx z=some b/\Q (.bl<|!b) H
theorem lj(I:Inv X pins σ H s)(sub:Same H0 H)(S:Rep X.K H0 dx x)(r2:Rep X.K H0 dy y)(U:RelV x v)(Y:RelV y u)(e:pX dx dy=some b) :
 ∃a c,v = .ref a/\u = .ref c/\s.TypeIs (.ref a) "dict"/\s.TypeIs (.ref c) "dict"/\∀{A:Around} {E:RQ} {Q:Bool->Shared->Prop} {id:String},A.units<cLine->Q b s->wpAny (model X.prog X.w) A (Mt id a c) Q E s:=by
 cases dx with
 | dct ks vs=>
  cases dy with
  | dct Z a0=>
   obtain⟨ns,e1,e2⟩:=bind_some e;obtain⟨ms,e3,e4⟩:=zx e2;subst e4;obtain⟨a,ys,rfl,⟨g0,oa,zs,g1,g2,g3,g4,g5,g6⟩,g7⟩:=(show ∃a xs,x = .ref a/\DRt X.K H0 a ks xs/\Reps X.K H0 vs xs from S);obtain⟨c,as,rfl,⟨f0,oc,ax,f1,z,f3,f4,f5,f6⟩,f7⟩:=(show ∃a xs,y = .ref a/\DRt X.K H0 a Z xs/\Reps X.K H0 a0 xs from r2);subst g3 f3;have ha:=(show ObjOk X.prog X.w H s.heap a (atO a oa)from I.hok a _<|sub _ _ g1).1;have O:=(show ObjOk X.prog X.w H s.heap c (atO c oc)from I.hok c _<|sub _ _ f1).1;exact⟨a,c,U,Y,⟨oa,ha,g2.1.1⟩,⟨oc,O,z.1.1⟩,λhu hQ=>Wo hu g0 f0 ha O g2 z (λx hx=>vX I<|sameT sub<|g5 x hx) (λx hx=>vX I<|sameT sub<|f5 x hx) (YD e1 g7 g6) (YD e3 f7 f6) hQ⟩
  | _=>cases e
 | _=>cases e
theorem uM(hu:X.A.units+64<cLine):OpR X (compareOp .NotEq) (EL X.K):=by intro pins s σ H x y v u Q I U Y h;obtain⟨H0,dx,dy,b,sub,Z,r2,e,q⟩:=h;obtain⟨a,c,rfl,rfl,O,S,go⟩:=lj I sub Z r2 U Y e;show wpAny _ _ (richCompare .NotEq (.ref a)<|.ref c) _ _ s;refine wpAny_richCompare_same_room O S F.slot_dict_ne (HY F.slot_dict_ne O F.entry_dict_ne ?_ (F.args_dict_ne_2 _ _)) ⋯;refine FZ<|FZ<|Ly O<|FZ<|Gf<|Gf ?_;refine FZ<|Nm S isSubtype_dict_dict ?_;simp only[Bool.not_true,Il,if_false];refine FZ<|Gf<|FZ<|Gf<|FZ<|go (by rw[units_in1];omega) ?_;exact Gf ⟨_,rfl,(λz=>by cases z),.bl<|!b,H,I,by cases b<;>rfl,q⟩
theorem nS{K:FY}:Snd K (EL K) AC:=λH0 H x y dx z d Q s I O S q=>by obtain⟨b,e1,U⟩:=zx S;subst U;exact⟨H0,dx,z,b,s,I,O,e1,q _ H H0 (Ext.refl s) rfl⟩
section
variable{X:Cx}{sc:Scope}{N T:List Str}{k:Nat}{a b:Expr}{pos:Pos}{fa fb:CO D}
theorem oC(h:SX X sc N T k)(ha:PV X a fa)(z:PV X b fb):PTD X (.Compare a [.NotEq] [b] pos) (sB<|zv AC fa fb):=Zt (uM h.u64) nS ha z<|JN b
end
def aZ(f:CO D):CO D:=λγ=>(f γ).bind λd=>match d with
 | .dct ks _=>some (.int ks.length)
 | _=>none
@[simp] theorem Ew(γ:Ctx)(f):aZ f γ=(f γ).bind λd=>match d with
 | .dct ks _=>some (.int ks.length)
 | _=>none:=rfl
theorem pB(hd:(d==sysModules)=false)(I:s.heap.get? d=some o)(hx:o.ExactDict)(O:o.data = .dict es ep)(S:(es.size:Int)<2 ^ 63)
 (h : ∀t k,Q (.int es.size t) {s with toks:=k}):wpAny (model prog w) A (call (.builtin "len") [.ref d]) Q E s:=by
 have z:s.TypeIs (.ref d) "dict":=⟨o,I,hx.1⟩;refine Calls.call_function_entry kind_len plain_len entry_len (args_len1 _) ?_;unfold Builtin.«len»;refine FZ (m:=oneArg "len" _) (Gf ?_);refine FZ (m:=callSpecial? (.ref d) (Ho "__len__")) (HJ (name:=Ho "__len__") z F.slot_dict_len (HY F.slot_dict_len z F.entry_dict_len ?_ (F.args_dict_len_1 _)));unfold Builtin.«dict.__len__»;refine FZ ?_;unfold Builtin.Dict.dictSlotNone;refine FZ (Ly z ?_);show wpAny _ _ (pure (GX d)) _ _ s;refine Gf ?_;refine FZ (Gf ?_);show wpAny _ _ (dictSize d >>= _) _ _ s;unfold dictSize;refine FZ (FZ (Mg I O (Gf ?_)));show wpAny _ _ (Builtin.Dict.pendingCount d >>= _) _ _ s;refine FZ (wpAny_pendingCount_other hd ?_);refine FZ (wpAny_mkInt (Gf ⟨_,rfl,?_⟩));rw[Nl];refine FZ (HH (Gf ?_));refine FZ (Ng ?_);show wpAny _ _ (if ((es.size:Nat):Int)<0 then _ else _) _ _ _;rw[EQ ⋯];show wpAny _ _ (if ((es.size:Nat):Int)>=2 ^ 63 then _ else _) _ _ _;rw[EQ ⋯];exact FZ (wpAny_mkInt (Gf ⟨_,rfl,h _ _⟩))
theorem aa:Jt X (.builtin "len") (λxs H Q=>∃H0 v ks vs,xs=[v]/\Same H0 H/\Rep X.K H0 (.dct ks vs) v/\Q (.int ks.length) H):=by
 intro pins s σ H xs us Q I r h;obtain⟨H0,v,ks,vs,rfl,sub,O,q⟩:=h;obtain⟨u,rfl,S⟩:=yE r;obtain⟨ad,ys,rfl,⟨g0,ob,zs,U,⟨g2,es,ep,Y,Z,_⟩,z,g4,g5,g6⟩,g7⟩:=(show ∃a xs,v = .ref a/\DRt X.K H0 a ks xs/\Reps X.K H0 vs xs from O);cases (show u=GX ad from S);obtain⟨ho,_⟩:=(show ObjOk X.prog X.w H s.heap ad (atO ad ob)from I.hok ad _<|sub _ _ U);have hsz:es.size=ks.length:=by rw[<- HV,Z,Gw,<- z,Gw]
 have a5:sizeLine<2 ^ 63:=by decide
 have a6:zs.length=ks.length:=by rw[<- z,Gw]
 refine pB g0 ho g2 Y ⋯ λt k=>⟨.int ks.length,H,I.tok k,⟨t,by rw[hsz]⟩,q⟩
section
variable{X:Cx}{sc:Scope}{N T:List Str}{k:Nat}{e:Expr}{f:CO D}{p pos:Pos}
theorem oz(h:SX X sc N T k)(c:yD sc "len" = true)(z:X.mg "len" = none)(ha:PV X e f)(O:starEach [e] X.env=[(false,eval e X.env)]:=by rfl):PV X (.Call (.Name "len" p) [e] [] pos) (aZ f):=
 j9 (yT aa (h.gl c).1 z PySem.boot_len (zZ ha j1 O) ⋯ ⋯ O rfl) λσ H Q S=>by
  obtain⟨H0,γ,d,rc,I,q⟩:=S;obtain⟨U,e1,I⟩:=bind_some I;cases U with
  | dct ks vs=>
   cases I;exact⟨H0,γ,_,rc,e1,λv H' H0' x r=>⟨H0',v,ks,vs,rfl,x.sub,r,q _ H' H0' x rfl⟩⟩
  | _=>cases I
end
abbrev TT:=List (List (List Int))
abbrev LF:=CO (D×TT)
inductive Pl where
 | out | tab (k:Nat) | row (k m:Nat)
deriving DecidableEq
def okPl(Z:TT):Pl->Prop
 | .out=>True
 | .tab k=>k<Z.length
 | .row k m=>k<Z.length/\m<(Z.getD k []).length
def contOf(Z:TT)(ad:Pl->Addr):Pl->List V
 | .out=>(Ga Z.length).map λk=>V.ref<|ad<|.tab k
 | .tab k=>(Ga (Z.getD k []).length).map λm=>V.ref<|ad<|.row k m
 | .row k m=>((Z.getD k []).getD m []).map V.int
structure N3(H:Hp)(Z:TT)(ad:Pl->Addr):Prop where
 cont : ∀pl,okPl Z pl->H (ad pl)=some (.lst<|contOf Z ad pl)
 inj : ∀pl pl',okPl Z pl->okPl Z pl'->ad pl=ad pl'->pl=pl'
def FW(K:FY)(E0 E:Hp)(Q:VK)(d:D)(Z:TT):Prop:=∀t v ad H' H0',Ext E0 E H0' H'->Rep K H0' d v->H' t=some (.tup [v,.ref (ad .out)])->N3 H' Z ad->(∀pl,okPl Z pl->H0' (ad pl)=none/\E (ad pl)=none)->Q (.ref t) H'
def tL(K:FY)(G:LF):TS:=λD σ H=>∃E0 E H0 γ r,RS K E0 E H0 H σ γ/\G γ=some r/\FW K E0 E D.rt r.1 r.2
end DL
namespace DL
open PySem PySem.Spec PyProof.Rows L2
open PySem.W (KasT kas_sort kas_ask kat_run kat_snds kat_lt kat_cons kat_no kat_yes kat_nil kat_go kat_one kat_kind KatTups KatGo)
section
variable{prog:Program}{w:World}{A:Around}{E:RQ}{s:Shared}
theorem VM{a kS:Addr}{I:List Value}{out:List Value}{e e1:Nat}{P:PySem.Fin->Shared->Prop}{st:SortSt}(O:s.heap.get? kS=some (seqObj "list" I.toArray e))(ha:s.heap.get? a=some (seqObj "list" #[] e1))(S:kS≠a)(U:I.length<=sizeLine)(Y:out.length<=sizeLine)
 (Z:(arrOf st).map (·.2)=out.toArray) (hf:failedOf st=none)
 (h : ∀h' c,h'.objs.size=s.heap.objs.size->(∀b o,b≠a->b≠kS->s.heap.get? b=some o->h'.get? b=some o)->h'.get? a=some (seqObj "list" out.toArray c)->P (.done (.ret .none)) {s with heap:=h'}) :
 wpAny (model prog w) A (ksk_tail a false e1 (.ref kS) st) P E s:=by
 unfold ksk_tail;refine FZ (Oa O rfl ?_ (by rw[Gp];exact U) (HN _));refine FZ (Ng ?_);have z:(s.heap.update kS (HL λ_=>(#[]:Array Value))).get? a=some (seqObj "list" #[] e1):=(HM _ _ S).trans ha;refine FZ (seqEpoch_at z rfl ?_);simp only[Il,if_false];rw[Z];refine FZ (Oa z rfl ?_ (HN _) (by show out.toArray.size<=_;rw[Gp];exact Nat.le_succ_of_le Y));rw[hf];simp only[bne_self_eq_false,Il,if_false];obtain⟨c,hc⟩ : ∃c,((s.heap.update kS (HL λ_=>(#[]:Array Value))).update a (HL λ_=>out.toArray)).get? a=some (seqObj "list" out.toArray c):=⟨_,get?_update_seq z λ_=>out.toArray⟩;refine Gf (h _ c (by rw[MX,MX]) (λb o h1 h2 q=>?_) hc);exact(HM _ _ (GN h1)).trans ((HM _ _ (GN h2)).trans q)
theorem pC{a kS:Addr}{vs z:List Value}{ps:List (Int×Int)}{e e1:Nat}{P:PySem.Fin->Shared->Prop}(hk:s.heap.get? kS=some (seqObj "list" z.toArray e))(ha:s.heap.get? a=some (seqObj "list" #[] e1))(a6:kS≠a)(a7:z.length=vs.length)(Z:ps.length=vs.length)(an:vs.length<64)
 (hT : ∀i (hi:i<z.length),TupAt2 s.heap z[i] (ps.getD i (0,0)).1 (ps.getD i (0,0)).2)
 (h : ∀h' c,h'.objs.size=s.heap.objs.size->(∀b o,b≠a->b≠kS->s.heap.get? b=some o->h'.get? b=some o)->h'.get? a=some (seqObj "list" (Mz ((xy ps).map λi=>vs.getD i HK)) c)->P (.done (.ret .none)) {s with heap:=h'}) :
 wpAny (model prog w) A (ksk_end a false vs.toArray e1 (.ref kS) z.toArray) P E s:=by
 have hz:vs.length<=sizeLine:=by rw[LP];omega
 have hsz:vs.toArray.size=vs.length:=by simp
 have c5:((xy ps).map λi=>vs.getD i HK).length=vs.length:=by rw[Gw,(qo ps).length_eq,HX,Z]
 have step : ∀t:Sem PySem.Fin,wpAny (model prog w) A t P E s->wpAny (model prog w) A (if false=true then (do let _ <- rule "list.sort.reverse";t)else t) P E s:=λt ht=>ht;unfold ksk_end
 try dsimp only
 refine step _ ?_;by_cases h2:vs.toArray.size<2
 ·rw[RY h2,RY h2]
  refine FZ<|Gf ?_;rw[StateT.run_pure];refine FZ<|Gf ?_;dsimp only;have ev:(xy ps).map (λi=>vs.getD i HK)=vs:=by unfold xy;rw[RY ⋯,Z];exact jC _ _
  have e7:Array.map (λx=>x.snd) (arrOf<|SortSt.mk' general' (z.toArray.zip vs.toArray) #[] 7 none)=((xy ps).map (λi=>vs.getD i HK)).toArray:=by show Array.map (λx=>x.snd) (z.toArray.zip vs.toArray)=_;rw[ev];apply Array.ext';simp[Array.toList_map,Array.toList_zip];rw[List.map_snd_zip ⋯]
  exact VM hk ha a6 ⋯ ⋯ e7 rfl h
 ·rw[EQ h2,EQ h2]
  have n2:2<=vs.length:=by rw[<- hsz];omega
  obtain⟨fs,f1,f2,f3⟩:=mJ (ks:=λi=>(ps.getD i (0,0)).1) λi hi=>(hT i hi).one;refine FZ (kat_kind (T:=LU "int") f1 ⋯ (λv hv=>?_) ⋯ ?_)
  ·obtain⟨k,t,rfl⟩:=f3 v hv
   exact PySem.W.Looks.of_pure rfl
  have ep:(xn (λi j=>yY (ps.getD i (0,0))<|ps.getD j (0,0))<|kas_sort vs.length).toList=xy ps:=by unfold xy;rw[EQ ⋯,Z]
  refine FZ (IR (kat_run (E:=E) (ks:=z) (Q:=λY s'=>∃p:Array Nat,arrOf Y=p.map (PySem.W.kas_item<|z.toArray.zip vs.toArray)/\failedOf Y=none/\p.toList=xy ps/\s'=s)
   (G:=λp s'=>p.toList=xy ps/\s'=s)
   a7 n2 an (λp Y s' a1 a2 a3 a4=>⟨p,a2,a3,a4.1,a4.2⟩) (dm (lt:=λi j=>yY (ps.getD i (0,0))<|ps.getD j (0,0)) (λi j C hi hj I=>?_) (KI ⋯) ⟨ep,rfl⟩)) ?_ λ_ _ e=>e)
  ·show wpAny _ _ (keyLt' _ (z.getD i HK)<|z.getD j HK) C _ _
   have a9:i<z.length:=by omega
   have ac:j<z.length:=by omega
   rw[show z.getD i HK=z[i]by simp[a9],show z.getD j HK=z[j]by simp[ac]];obtain⟨x,ox,xs,m,t,u,e1,e2,e3,e4,e5⟩:=hT i a9;obtain⟨y,oy,ys,m',t',u',d1,d2,d3,d4,d5⟩:=hT j ac;rw[e1,d1];refine kat_lt e2 e4 d2 d4 ?_;have bx:xs.size=2:=by rw[<- HV,e5];rfl
   have c0:ys.size=2:=by rw[<- HV,d5];rfl
   rw[e5,d5,bx,c0,My,My];unfold yY at I;generalize ps.getD i (0,0)=S at I ⊢;generalize ps.getD j (0,0)=U at I ⊢;refine kat_cons<|Nc S.1 t U.1 t' _ _ _ _ ?_;refine kat_go (λO=>?_) λO=>?_
   ·have O:S.1=U.1:=by simpa using O
    rw[RY O]at I;refine kat_yes<|kat_cons<|Nc S.2 u U.2 u' _ _ _ _<|kat_go (λhd=>?_) λhd=>?_
    ·have hd:S.2=U.2:=by simpa using hd
     refine kat_yes<|kat_nil ?_;rw[show decide (S.2<U.2)=false by rw[hd];simp]at I;exact I
    ·exact kat_no<|kat_one _ _<|lt_int I
   ·have O:S.1≠U.1:=by simpa using O
    rw[EQ O]at I;exact kat_no<|oneLt_int I
  rintro⟨⟨⟩,Y⟩ s' ⟨p,c1,hf,hp,rfl⟩;dsimp only;have am:=kat_snds a7 c1;rw[hp]at am;exact VM hk ha a6 ⋯ ⋯ am hf h
end
end DL
namespace DL
open PySem PySem.Spec PyProof.Rows L2
section
variable{X:Cx}{pins:RW}{σ:St}{H:Hp}{s:Shared}{a:Addr}{o:HO}
theorem cU(I:Inv X pins σ H s)(f:FpOk X pins H a)(new:ObjOk X.prog X.w (upd H a o) s.heap a o):Inv X pins σ (upd H a o) s:=by
 obtain⟨U,Y,f3,Z,f5,f6⟩:=f;have ne : ∀b u,H b=some u->b≠a:=λb u q z=>by rw[z,U]at q;cases q
 refine⟨I.ok,I.os,I.bare,⟨I.base.keep,I.base.slot,λb ob q n hx=>?_,I.base.there,λb xs q=>?_,λb ob u q=>?_,λb ps q=>?_⟩,I.loc,I.cell,?_,λx c e=>?_,λp S=>?_,λb u e=>?_,I.len⟩
 ·have O:b≠a:=λz=>by
   rcases Z with z1 | z1
   ·exact hx<|z ▸ z1
   ·have:=GE q
    rw[z]at this;exact absurd this<|Nat.not_lt_of_le z1
  rw[zB O];exact I.base.free b ob q n hx
 ·have:=I.base.tups b xs q
  rw[zB (ne b _ this)];exact this
 ·have:=I.base.frzs b ob u q
  rw[zB (ne b _ this)];exact this
 ·obtain⟨m,this⟩:=I.base.tbls b ps q
  exact⟨m,by rw[zB (ne b _ this)];exact this⟩
 ·rw[zB (GN Y)];exact I.free
 ·rw[zB (f5 x c e)];exact I.freeC x c e
 ·obtain⟨e,n,r⟩:=I.pin p S
  exact⟨e,by rw[zB (f6 p S)];exact n,r⟩
 ·by_cases O:b=a
  ·subst O;rw[zD]at e;cases e;exact new
  ·rw[zB O]at e
   exact(I.hok b u e).stay (λ_ _ _ q=>q) (λc q=>by rw[zB (ne c _ q)];exact q) λc xs q=>by rw[zB (ne c _ q)];exact q
theorem oo{A:Around}{Q:VK}{us:List Value}{vs:List V}{CX:CXT}{k:Nat}{f:Addr}{fd:FuncData}{ps:List Str}{sp:Sp}(F:FnOk X.prog X.w X.K X.mg X.base CX0 k f fd ps sp)(O:Room k A)(S:Env0 X.prog X.w X.K X.mg X.base A X.stack s H)(U:Binds X.K fd ps [])
 (I:Inv X pins σ H s) (r:Vals vs us) (h:sp vs H Q E0):wpAny (model X.prog X.w) A (call (.ref f) us) (EP X pins σ Q) (λ_ _=>False) s:=by
 have Y:us.length=ps.length:=by rw[<- r.length];exact F.len _ _ _ _ h
 refine Od<|MQ (F.run A X.stack s H ⟨us,[]⟩ us vs Q E0 O S (by simpa using U s us I.kIn (by simpa using Y)) r h) λr s' z=>?_;cases r with
 | error e=>exact z.elim
 | ok Z=>
  cases Z with
  | ret u=>exact I.after z
  | next=>exact ID z
  | brk=>exact ID z
  | cont=>exact ID z
theorem tF(I:Inv X pins σ H s)(fk:FpOk X pins H kS)(fa:FpOk X pins H a)(O:s.heap.get? kS=some ok)(ha:s.heap.get? a=some oa)(S : ∀v,ok.data ≠ .cell v)(U : ∀v,oa.data ≠ .cell v):Inv X (pins++[(kS,ok),(a,oa)]) σ H s:=
 I.pins_of λp z=>by
  rcases Li.mp z with z | z
  ·exact I.pin p<|GF _ z
  ·rcases Gr.mp z with rfl | z
   ·exact⟨O,fk.1,fk.2.1,fk.2.2.1,S⟩
   ·rw[Ik.mp z];exact⟨ha,fa.1,fa.2.1,fa.2.2.1,U⟩
theorem sj(I:Inv X (pins++more) σ H s):Inv X pins σ H s:=I.pins_of λp z=>I.pin p<|GF _<|Np _ z
end
def Kc(ps:List (Int×Int)):List D:=ps.map λp=>D.tup [.int p.1,.int p.2]
section
variable{X:Cx}{pins:RW}{σ:St}{F:List D->Option Res}{k:Nat}{f:Addr}{fd:FuncData}{pr:List Str}{A:Around}{E:RQ}
theorem nF(I:Inv X pins σ H s)(sub:Same H0 H)(r:Rep X.K H0 (.tup [.int i,.int j]) v)(ru:RelV v u):TupAt2 s.heap u i j:=by
 obtain⟨b,zs,rfl,Y,h4⟩:=xW r;obtain⟨y,yr,e5,h5,h6⟩:=h4.inv_cons;obtain⟨y2,am,Z,h7,h8⟩:=h6.inv_cons;rw[h8.inv_nil]at Z;rw[e5,Z,jh h5,jh h7]at Y;cases ru;obtain⟨a7,r2,⟨o,ho,hc,n,hd⟩,_⟩:=I.tuple<|sameT sub Y;obtain⟨z,O,rfl,S,U⟩ : ∃z O,a7=z::O/\RelV (.int i) z/\Vals [.int j] O:=by
  cases r2 with
  | cons S U=>exact⟨_,_,rfl,S,U⟩
 obtain⟨v2,rfl,q3⟩:=yE U;obtain⟨t,rfl⟩:=S;obtain⟨u,rfl⟩:=q3;exact⟨b,o,_,n,t,u,rfl,ho,hc,hd,rfl⟩
theorem iF{a kS:Addr}{vs:List Value}{xs:List V}{ds:List D}{ps:List (Int×Int)}{e1:Nat}{P:PySem.Fin->Shared->Prop}{H0 H:Hp}{s:Shared}
 (G:FnOk X.prog X.w X.K X.mg X.base CX0 k f fd pr (spF X.K pr.length F)) (h1:pr.length=1) (hr:Room k A) (bg:A.frames=some X.stack) (O:Binds X.K fd pr [])
 (I:Inv X pins σ H s) (sub:Same H0 H) (rv:Vals xs vs) (rd:Reps X.K H0 ds xs) (ap:ps.length=vs.length) (bi:vs.length<64)
 (hF : ∀(i:Nat) d p,ds[i]? = some d->ps[i]? = some p->F [d]=some (.val<|.tup [.int p.1,.int p.2]))
 (hk:s.heap.get? kS=some (seqObj "list" #[] 0)) (ha:s.heap.get? a=some (seqObj "list" #[] e1)) (ar:kS≠a) (fk:FpOk X pins H kS) (fa:FpOk X pins H a)
 (h : ∀s' H' H0' c,Inv X pins σ H' s'->Ext H0 H H0' H'->s'.heap.get? a=some (seqObj "list" (Mz ((xy ps).map λi=>vs.getD i HK)) c)->FpOk X pins H' a->P (.done (.ret .none)) s') :
 wpAny (model X.prog X.w) A (ksk_rest a (.ref f) false vs.toArray e1<|.ref kS) P E s:=by
 have cd:=rv.length;have ce:=rd.length;have hz:vs.length<=sizeLine:=by rw[LP];omega
 unfold ksk_rest;refine FZ (LR ?_);rw[List.forIn_toArray];refine FZ (ksk_fold (λj s'=>∃H1 Z S e,Inv X (pins++[(kS,seqObj "list" S e),(a,seqObj "list" #[] e1)]) σ H1 s'/\Ext H0 H Z H1/\∃kvs:List V,Vals kvs S.toList/\Reps X.K Z (Kc (ps.take j)) kvs) vs 0 s
  ⟨H,H0,#[],0,tF I fk fa hk ha (λv z=>by cases z) (λv z=>by cases z),Ext.refl sub,[],.nil,Reps.nil⟩ ?step ?done)
 case step=>
  rintro j x s' hx ⟨H1,Z,S,e,U,x1,kvs,a1,Y⟩;simp only[HW]at Y ⊢;have hj:j<vs.length:=(Gq.mp hx).1;have hp:ps[j]? = some ps[j]:=Gd ⋯;have hd:ds[j]? = some ds[j]:=Gd ⋯;have ax:xs[j]? = some xs[j]:=Gd ⋯;obtain⟨u',b0,bm⟩:=rv.get ax;rw[hx]at b0;cases b0;obtain⟨x',b9,bn⟩:=rd.get hd;rw[ax]at b9;cases b9;have env:Env0 X.prog X.w X.K X.mg X.base A X.stack s' H1:=⟨bg,U.env0.mod,U.env0.bs,U.env0.bsz,U.env0.funs,U.env0.frf,U.env0.hok,U.env0.bare⟩;refine FZ (LZ (IR (oo (CX:=CX0) (Q:=λv H'=>∃H0',Ext Z H1 H0' H'/\Rep X.K H0' (.tup [.int ps[j].1,.int ps[j].2]) v) G hr env O U (vs:=[xs[j]]) (us:=[x]) (.cons bm .nil)
   ⟨Z,[ds[j]],_,x1.sub,Reps.cons (bn.mono x1.s0) Reps.nil,by rw[h1];rfl,hF j _ _ hd hp,λv H' H0' x2 r2=>⟨H0',x2,r2⟩⟩) (λv a4 he=>?_) λ_ _ hF=>hF.elim))
  obtain⟨vv,H2,I2,c0,c1,x2,r2⟩:=he
  try dsimp only
  obtain⟨nk,a8,_⟩:=I2.pin (kS,seqObj "list" S e) (GF _ (GF _ (.head _)));obtain⟨na,ac,_⟩:=I2.pin (a,seqObj "list" #[] e1) (GF _ (GF _ (.tail _ (.head _))));have c3:=sj I2;have a5:FpOk X pins H2 kS:=⟨a8,fk.2⟩;have a6:FpOk X pins H2 a:=⟨ac,fa.2⟩;have kl:S.size=j:=by have:=a1.length;have:=Y.length;simp only[Kc,Gw,Lb,HV]at *;omega
  refine FZ (Oa nk rfl ?_ (by rw[kl,LP];omega) (HE (Nat.le_of_eq (Array.size_push ..)) (by rw[kl,LP];omega)));obtain⟨c2,c4⟩ : ∃c2,(a4.heap.update kS (HL (·.push v))).get? kS=some (seqObj "list" (S.push v) c2):=⟨_,get?_update_seq nk (·.push v)⟩;have I3:=c3.turnedL (h':=a4.heap.update kS (HL (·.push v))) (t':=a4.toks) (fp:=[kS]) (λb o O q=>(HM _ _ (λz=>O (by rw[z];exact List.mem_singleton_self _))).trans q) (λb O=>by rw[Ik.mp O];exact a5);have c6:(a4.heap.update kS (HL (·.push v))).get? a=some (seqObj "list" #[] e1):=(HM _ _ ar).trans na;refine Gf ⟨rfl,H2,c1,S.push v,c2,tF I3 a5 a6 c4 c6 (λv z=>by cases z) (λv z=>by cases z),x1.trans x2,kvs++[vv],?_,?_⟩
  ·rw[Array.toList_push];exact a1.append<|.cons c0 .nil
  ·have ek:ps.take (j+1)=ps.take j++[ps[j]]:=by rw[List.take_add_one,hp];simp
   rw[ek];unfold Kc at Y ⊢;rw[Hk];exact(Y.mono x2.s0).append (Reps.cons r2 Reps.nil)
 case done=>
  rintro s' ⟨H1,Z,S,e,U,x1,kvs,a1,Y⟩;rw[HW,<- ap,List.take_length]at Y;obtain⟨nk,a8,_⟩:=U.pin (kS,seqObj "list" S e) (GF _ (GF _ (.head _)));obtain⟨na,ac,_⟩:=U.pin (a,seqObj "list" #[] e1) (GF _ (GF _ (.tail _ (.head _))));have bd:=sj U;have a5:FpOk X pins H1 kS:=⟨a8,fk.2⟩;have a6:FpOk X pins H1 a:=⟨ac,fa.2⟩
  try dsimp only
  refine FZ<|listItems_at nk rfl ?_;have l1:=a1.length;have l2:=Y.length;simp only[Kc,Gw]at l2;have ek:S=S.toList.toArray:=by simp
  rw[ek]at nk ⊢;refine pC nk na ar ⋯ ap bi (λi hi=>?_) λh' c hsz kp hA=>?_
  ·have c8:i<ps.length:=by omega
   obtain⟨y,ey,ry⟩:=Y.get (i:=i) (d:= .tup [.int (ps.getD i (0,0)).1,.int (ps.getD i (0,0)).2]) (by unfold Kc;simp[c8]);obtain⟨u,hu,ru⟩:=a1.get ey;have:S.toList[i]=u:=by rw[Gd hi]at hu;exact Hy hu
   rw[this];exact nF bd x1.sub ry ru
  ·have I2:=bd.turnedL (h':=h') (t':=s'.toks) (fp:=[a,kS]) (λb o O q=>kp b o (λz=>O<|by rw[z];simp) (λz=>O<|by rw[z];simp) q) (λb O=>by
    rcases Gr.mp O with rfl | O
    ·exact a6
    ·rw[Ik.mp O];exact a5)
   exact h _ H1 Z c I2 x1 hA a6
end
def pb:Res->Option (Int×Int)
 | .val d=>match d with
  | .tup ds=>match ds with
   | [x,y]=>(asI x).bind λi=>(asI y).map λj=>(i,j)
   | _=>none
  | _=>none
 | .own _=>none
def Kw(F:List D->Option Res):List D->Option (List<|Int×Int)
 | []=>some []
 | d::r=>((F [d]).bind pb).bind λp=>(Kw F r).map λl=>p::l
def aX(F:List D->Option Res)(f:CO (Sk×List D)):CO (List D):=λγ=>(f γ).bind λa=>match a.1 with
 | .L=>(Kw F a.2).bind λps=>if a.2.length<64 then some ((xy ps).map λi=>a.2.getD i .non)else none
 | _=>none
theorem XF(z:Vals xs vs) : ∀(o:List Nat),(∀i∈o,i<xs.length)->Vals (o.map λi=>xs.getD i .non) (o.map λi=>vs.getD i HK)
 | [],_=> .nil
 | i::o,h=>by have hi:=h i Gu;refine .cons ?_ (XF z o λj I=>h j<|Gn _ I);obtain⟨v,O,g2⟩:=z.get (i:=i) (x:=xs[i])<|Gd hi;show RelV (xs.getD i V.non) (vs.getD i HK);rw[Gj,Gj,Gd hi,O];exact g2
section
variable{X:Cx}{pins:RW}{σ:St}{F:List D->Option Res}{k:Nat}{f:Addr}{fd:FuncData}{pr:List Str}
theorem WV
 (G:FnOk X.prog X.w X.K X.mg X.base CX0 k f fd pr (spF X.K pr.length F)) (h1:pr.length=1) (hr:Room (k+1+1) X.A) (O:Binds X.K fd pr [])
 (I:Inv X pins σ H s) (sub:Same H0 H) (hl:s.heap.IsList l vs.toArray) (Y:Vals xs vs) (rd:Reps X.K H0 ds xs) (a0:ps.length=vs.length) (a7:vs.length<64)
 (hF : ∀(i:Nat) d p,ds[i]? = some d->ps[i]? = some p->F [d]=some (.val<|.tup [.int p.1,.int p.2]))
 (h : ∀s' H' H0' D,H D=none->H' D=none->Ext H0 H H0' H'->Inv X pins σ (upd H' D<|.lst<|(xy ps).map λi=>xs.getD i .non) s'->Q (.ref D) s') :
 wpAny (model X.prog X.w) X.A (call (.builtin "sorted") [.ref l] [(Ho "key",.ref f)]) Q E s:=by
 have ar:=Y.length;have S:vs.length<=sizeLine:=by rw[LP];omega
 refine call_function_entry_kw kind_sorted plain_sorted entry_sorted (ksk_s1 _ _) ?_;unfold Builtin.«sorted»;refine FZ (m:=checkCount "sorted" 1 1 _) (Gf ?_);refine FZ (collect_list hl ?_ S);refine FZ (wpAny_newList ?_ S);have hsz:((s.heap.push (seqObj "list" #[] 0)).update s.heap.objs.size (HL (· ++ vs.toArray))).objs.size=s.heap.objs.size+1:=by rw[MX,size_push']
 have U:(((s.heap.push (seqObj "list" #[] 0)).update s.heap.objs.size (HL (· ++ vs.toArray))).push (seqObj "list" vs.toArray 0)).get? (s.heap.objs.size+1)=some (seqObj "list" vs.toArray 0):=by rw[<- hsz];exact Gv _ rfl
 have keep : ∀b o,s.heap.get? b=some o->(((s.heap.push (seqObj "list" #[] 0)).update s.heap.objs.size (HL (· ++ vs.toArray))).push (seqObj "list" vs.toArray 0)).get? b=some o:=λb o q=>by have Z:b<s.heap.objs.size:=GE q;rw[Heap.get?_push_ne _ _ _ (by rw[hsz];exact Hb (HD Z)),Heap.get?_update_ne _ _ _ _ (Hb Z),Heap.get?_push_ne _ _ _ (Hb Z)];exact q
 have a1:(((s.heap.push (seqObj "list" #[] 0)).update s.heap.objs.size (HL (· ++ vs.toArray))).push (seqObj "list" vs.toArray 0)).objs.size=s.heap.objs.size+2:=by rw[size_push',hsz]
 show wpAny _ _ _ _ _ {s with heap:=((s.heap.push (seqObj "list" #[] 0)).update s.heap.objs.size (HL (· ++ vs.toArray))).push (seqObj "list" vs.toArray 0)};rw[hsz];generalize ((s.heap.push (seqObj "list" #[] 0)).update s.heap.objs.size (HL (· ++ vs.toArray))).push (seqObj "list" vs.toArray 0)=g at U keep a1 ⊢;have Ig:Inv X pins σ H {s with heap:=g}:=I.kept (t':=s.toks) keep;have fa:FpOk X pins H (s.heap.objs.size+1):=I.fpOk (MT _) (I.hok.fresh (MT _));refine FZ (HH (wpAny_call_entry_kw slot_list_sort ⟨_,U,rfl⟩ entry_list_sort ?body (ksk_l1 _ _)))
 case body=>
  show wpAny (model X.prog X.w) X.A.in1.in1 (Builtin.«list.sort» ⟨[.ref (s.heap.objs.size+1)],[(Ho "key",.ref f)]⟩) _ _ _;rw[ksk_t1];unfold ksk_tree;refine FZ (listItems_at U rfl ?_);refine FZ (Oa U rfl ?_ (by rw[Gp];exact S) (HN _));obtain⟨e1,a2⟩ : ∃e1,(g.update (s.heap.objs.size+1) (HL λ_=>(#[]:Array Value))).get? (s.heap.objs.size+1)=some (seqObj "list" #[] e1):=⟨_,get?_update_seq U λ_=>#[]⟩;refine FZ (seqEpoch_at a2 rfl ?_);refine FZ (wpAny_newTuple ?_ (by show vs.length<=_;exact S));refine FZ (wpAny_newList ?_ (HN _));refine HH ?_;have I1:=Ig.turnedL (h':=g.update (s.heap.objs.size+1) (HL λ_=>(#[]:Array Value))) (t':=s.toks) (fp:=[s.heap.objs.size+1]) (λb o O q=>(HM _ _ (λz=>O (by rw[z];exact List.mem_singleton_self _))).trans q) (λb O=>by rw[Ik.mp O];exact fa);have I2:=I1.kept (h':=((g.update (s.heap.objs.size+1) (HL λ_=>(#[]:Array Value))).push (seqObj "tuple" vs.toArray 0)).push (seqObj "list" #[] 0)) (t':=s.toks) (λb o q=>Gb _ (Gb _ q));have ks:((g.update (s.heap.objs.size+1) (HL λ_=>(#[]:Array Value))).push (seqObj "tuple" vs.toArray 0)).objs.size=s.heap.objs.size+3:=by rw[size_push',MX,a1]
  have fk:FpOk X pins H (s.heap.objs.size+3):=I.fpOk (Hr _ _) (I.hok.fresh (Hr _ _));refine iF (A:=X.A.in1.in1) (ps:=ps) (xs:=xs) (ds:=ds) (H0:=H0) (H:=H) (s:={s with heap:=((g.update (s.heap.objs.size+1) (HL λ_=>(#[]:Array Value))).push (seqObj "tuple" vs.toArray 0)).push (seqObj "list" #[] 0)}) (kS:=((g.update (s.heap.objs.size+1) (HL λ_=>(#[]:Array Value))).push (seqObj "tuple" vs.toArray 0)).objs.size)
   G h1 hr.in1.in1 I.env0.in1.in1.frames O I2 sub Y rd a0 a7 hF (Gv _ rfl) (Gb _<|Gb _ a2) (by rw[ks];exact λz=>absurd (Nat.add_left_cancel z) ⋯) (by rw[ks];exact fk) fa λs' H' H0' c I3 x3 hA fA=>⟨_,rfl,?_⟩
  refine Gf ⟨_,rfl,h s' H' H0' _ (I.hok.fresh<|MT _) fA.1 x3<|cU I3 fA ?_⟩;have an : ∀i∈xy ps,i<xs.length:=λi hi=>by have:=(qo ps).mem_iff.mp hi;have:=Gc.mp this;omega
  have ap:((xy ps).map λi=>xs.getD i V.non).length=vs.length:=by rw[Gw,(qo ps).length_eq,HX,a0]
  exact⟨by rw[ap];exact S,(xy ps).map λi=>vs.getD i HK,c,XF Y _ an,hA⟩
end
theorem Kv : ∀{ds:List D} {ps:List (Int×Int)},Kw F ds=some ps->ps.length=ds.length
 | [],ps,h=>by cases h;rfl
 | d::r,ps,h=>by obtain⟨p,_,h2⟩:=bind_some h;obtain⟨l,z,I⟩:=zx h2;subst I;simp[Kv z]
theorem WG(h:pb r=some p):r = .val (.tup [.int p.1,.int p.2]):=by
 unfold pb at h;split at h
 ·split at h
  ·split at h
   ·obtain⟨i,h1,h2⟩:=bind_some h
    obtain⟨j,z,I⟩:=zx h2;subst I;rw[jw h1,jw z]
   ·cases h
  ·cases h
 ·cases h
theorem VL : ∀{ds:List D} {ps:List (Int×Int)},Kw F ds=some ps->∀(i:Nat) d p,ds[i]? = some d->ps[i]? = some p->F [d]=some (.val<|.tup [.int p.1,.int p.2])
 | [],ps,h,i,d,p,hd,hp=>by simp at hd
 | c::r,ps,h,i,d,p,hd,hp=>by
  obtain⟨q,h1,h2⟩:=bind_some h;obtain⟨l,z,I⟩:=zx h2;subst I;cases i with
  | zero=>
   simp at hd hp;subst hd hp;obtain⟨S,e1,O⟩:=bind_some h1;rw[e1,WG O]
  | succ i=>exact VL z i d p (by simpa using hd) (by simpa using hp)
section
variable{X:Cx}{sc:Scope}{N L:List Str}{k j:Nat}{e:Expr}{fq:CO (Sk×List D)}{F:List D->Option Res}{x:Str}{p p2 pos kpos:Pos}
theorem gT(hf:FnD X.prog X.w X.K X.mg X.base j x 1 F)(h:SX X sc N L k)(hj:j+1+1<=k)(c:yD sc "sorted" = true)(z:X.mg "sorted" = none)(c2:yD sc x=true)(hq:PQ X e fq)
 (Z:starEach [e] X.env=[(false,eval e X.env)]:=by rfl) :
 PO X (.Call (.Name "sorted" p) [e] [⟨some "key",.Name x p2,kpos⟩] pos) (aX F fq):=by
 intro pins s σ H Q I hZ;obtain⟨H0,γ,out,rc,O,q⟩:=hZ;obtain⟨⟨kk,ds⟩,e1,O⟩:=bind_some O;obtain⟨fa,fd,pr,hn,G,hm,hk,hb⟩:=hf.ex;cases kk with
 | T=>cases O
 | L=>
  have O:((Kw F ds).bind λps=>if ds.length<64 then some ((xy ps).map λi=>ds.getD i .non)else none)=some out:=O;obtain⟨ps,e2,O⟩:=bind_some O;by_cases hc:ds.length<64
  ·rw[RY hc]at O
   cases O;refine IT (xP (u:= .builtin "sorted") I (h.gl c).1 z ⋯ (callWith_kw ?_ (by rw[Z];rfl) (by rw[Z];rfl)) ⋯ ⋯);refine thn ((zZ hq j1 Z) pos pins s σ H (λvs H1=>∃a xs S,vs=[.ref a]/\Ext H0 H S H1/\SqL X.K H1 a xs/\Reps X.K S ds xs) I ⟨H0,γ,.L,ds,rc,e1,λa xs H1 S x1 g1 g2 U=>⟨a,xs,S,rfl,x1,g1,U⟩⟩) λus s1 hZ=>?_;obtain⟨vs,H1,I1,rv,a,xs,S,rfl,x1,g1,U⟩:=hZ;obtain⟨u,rfl,ru⟩:=yE rv;cases ru;show wpAny _ _ (evalAll ((do let v <- eval (.Name x p2) X.env;standAt pos;pure v)::[])) _ _ s1;refine wpAny_evalAll_cons (FZ (YA I1 (h.gl c2).1 hm (FZ (NY (Gf ?_))) (h.gl c2).2.2));refine wpAny_evalAll_nil ?_;obtain⟨am,r,pl,hz⟩:=I1.list g1;have l1:=r.length;have l2:=U.length;have l3:=Kv e2;show wpAny _ _ (call (.builtin "sorted") [.ref a] [(Ho "key",.ref fa)]) _ _ s1;refine WV (H0:=S) (ps:=ps) (xs:=xs) (ds:=ds) (vs:=am) (F:=F) G hn (h.room.mono hj) hb I1 x1.sub pl.isList r U ⋯ ⋯ (VL e2) λs' H' H0' D hD a6 Y I3=>?_;refine⟨.ref D,_,I3,rfl,q D _ _ H0' (x1.trans (Y.trans (Ext.hide Y.sub a6 _))) (xB x1.s1 hD) (ji Y.sub a6) zD ?_⟩;refine X0 (U.mono Y.s0) _ λi hi=>?_;have:=(qo ps).mem_iff.mp hi;have:=Gc.mp this;omega
  ·rw[EQ hc]at O;cases O
end
def Wq(j:Nat)(g gi f:CO D):CO Fl:=λγ=>(f γ).bind λd=>(QG j g γ).bind λt=>((gi γ).bind asI).bind λi=>(ixD t.2.2.length i).map λn=> .next (γ.set j<|.nest<|t.1.set t.2.1<|t.2.2.set n d)
def aY(j:Nat)(g:CO D)(fo:CO (List D)):CO Fl:=λγ=>(fo γ).bind λrow=>(QG j g γ).map λt=> .next (γ.set j<|.nest<|t.1.set t.2.1 row)
def Wp(j:Nat)(g:CO D):CO (Sk×List D):=λγ=>(QG j g γ).map λt=>(.L,t.2.2)
section
variable{K:FY}{H0 H:Hp}
theorem Nest.set(n:Nest K H0 H R a bs)(h0:H0 b'=none)(h1:H b'=some (.lst ys))(a3:Reps K H0 row' ys)(S:b'∉a::bs) :
 Nest K H0 (upd H a<|.lst<|(bs.set t b').map V.ref) (R.set t row') a (bs.set t b'):=by
 have U:b'≠a:=λq=>S (by rw[q];exact Gu);obtain⟨n1,n2⟩:=Hg.mp n.nd;refine⟨n.a0,zD,?_,by simp[n.len],λk b row I O=>?_⟩
 ·refine Hg.mpr ⟨λhm=>?_,?_⟩
  ·rcases Lz hm with z | z
   ·exact n1 z
   ·exact U z.symm
  ·have key : ∀(l:List Addr) (t:Nat),l.Nodup->b'∉l->(l.set t b').Nodup:=by
    intro l
    induction l with
    | nil=>intro t _ _;simp
    | cons x l ih=>
     intro t hn hm;obtain⟨m1,Y⟩:=Hg.mp hn;cases t with
     | zero=>exact Hg.mpr ⟨λz=>hm<|Gn _ z,Y⟩
     | succ t=>
      refine Hg.mpr ⟨λz=>?_,ih t Y λz=>hm<|Gn _ z⟩;rcases Lz z with z | z
      ·exact m1 z
      ·exact hm (by rw[z];exact Gu)
   exact key bs t n2 λz=>S<|Gn _ z
 ·by_cases Z:k=t
  ·subst Z
   have hl:k<bs.length:=by have:=(Gq.mp I).1;simpa using this
   rw[GD hl]at I;rw[GD (by rw[<- n.len];exact hl)]at O;cases I;cases O;exact⟨h0,ys,by rw[zB U];exact h1,a3⟩
  ·rw[Gg (GN Z)]at I O
   obtain⟨g1,xs,g2,g3⟩:=n.row k b row I O;have a9:b≠a:=λq=>n1 (by rw[<- q];exact He I);exact⟨g1,xs,by rw[zB a9];exact g2,g3⟩
end
section
variable{X:Cx}{sc:Scope}{N L:List Str}{k:Nat}{a b c e:Expr}{pos p p2:Pos}{f g gi:CO D}
theorem um(j:Nat)(h:SX X sc N L k)(U:wB sc N j x=true)(Y:PV X b g)(hx:wg b:=by intro _ _;rfl):PQ X (.Subscript (.Name x np) b p2) (Wp j g):=
 j9 (gZ ix_list (h.var U) Y hx) λσ H Q Z=>by obtain⟨H0,γ,kk,ds,rc,ef,q⟩:=Z;obtain⟨t,e1,e2⟩:=zx ef;cases e2;obtain⟨I,d,i,e3,e4,e5,e6⟩:=vM e1;obtain⟨a,bs,O,_,_⟩:=rc.nst.1 j _ I;refine⟨_,O,H0,γ,d,rc,e3,λv H' H0' x r=>?_⟩;obtain⟨a',ad,S,hn,_⟩:=(rc.ext x).nst.1 j _ I;rw[O]at S;cases S;rw[jw e4]at r;obtain⟨bb,xs,al,a7,a8,a9⟩:=bp hn e5 e6;exact⟨a,_,i,_,rfl,jh r,SqL.of hn.ha,a7,q bb xs H' H0' x (SqL.of a8) (λz=>nomatch z) a9⟩
theorem gO(j:Nat)(h:SX X sc N L k)(cv:wB sc N j x=true)(hb:PV X b g)(hi:PV X c gi)(he:PV X e f)(hx:wg b:=by intro _ _;rfl)
 (ha : ∀v,assign (.Subscript (.Subscript (.Name x np) b p2) c p) X.env v=(do
   let S <- holding [v] (eval (.Subscript (.Name x np) b p2) X.env);let Y <- holding [v,S] (eval c X.env)
   standAt p
   holding [v,S,Y] (setItem S Y v)
   release [v,S,Y] []):=by intro _;rfl)
 (I:swapsWithSole [.Subscript (.Subscript (.Name x np) b p2) c p] e pos.line X.env=pure false:=by rfl) (hw:swappedStores [.Subscript (.Subscript (.Name x np) b p2) c p] e X.env=pure none:=by rfl)
 (h1:(assignEach [.Subscript (.Subscript (.Name x np) b p2) c p] X.env).map (·.2)=[assign (.Subscript (.Subscript (.Name x np) b p2) c p) X.env]:=by rfl) :
 PSD X (.Assign [.Subscript (.Subscript (.Name x np) b p2) c p] e pos) (Wq j g gi f):=
 xI (JI he (Vx (gZ ix_list (h.var cv) hb hx) hi wI ha) I hw h1) λD σ H hZ=>by
  obtain⟨E0,E,H0,γ,fl,rs,z,bd⟩:=hZ;obtain⟨d,e1,z⟩:=bind_some z;obtain⟨t,e2,z⟩:=bind_some z;obtain⟨ii,Z,z⟩:=bind_some z;obtain⟨di,e4,Z⟩:=bind_some Z;obtain⟨n,e5,z⟩:=zx z;subst z;obtain⟨U,d3,i3,y3,y4,y5,y6⟩:=vM e2;refine⟨H0,γ,d,rs.rc,e1,λv H1 c0 x r=>?_⟩;have a0:=rs.step x;obtain⟨a,bs,I,_,_⟩:=a0.rc.nst.1 j _ U;refine⟨_,I,c0,γ,d3,a0.rc,y3,λv2 H2 c1 x2 r2=>?_⟩;have a1:=a0.step x2;obtain⟨a',cd,a9,hn,_⟩:=a1.rc.nst.1 j _ U;rw[I]at a9;cases a9;rw[jw y4]at r2;obtain⟨bb,xs,ce,ac,cf,ch⟩:=bp hn y5 y6;refine⟨a,_,i3,_,rfl,jh r2,SqL.of hn.ha,ac,c1,γ,di,a1.rc,e4,λv4 H4 c3 x4 r4=>?_⟩;rw[jw Z]at r4;have al:=a1.step x4;obtain⟨a2,cm,am,a4,c4⟩:=al.rc.nst.1 j _ U;rw[I]at am;cases am;obtain⟨an,c5,c6,ap,c7,ar⟩:=bp a4 y5 y6;have eb:an=bb:=by have O:=a4.ha;rw[x4.s1 _ _ hn.ha]at O;injection O with O;injection O with O;rw[<- O,ac]at ap;cases ap;rfl
  subst eb;refine⟨an,c5,ii,n,rfl,jh r4,c7,by rw[ar.length];exact ZJ e5,?_⟩;exact bd _ _ c3<|al.nestSet U I a4 c4 c6<|ar.set n<|(r.mono x2.s0).mono x4.s0
theorem gP(j:Nat)(h:SX X sc N L k)(cv:wB sc N j x=true)(hb:PV X b g)(he:PO X e fo)(hx:wg b:=by intro _ _;rfl)
 (ha : ∀v,assign (.Subscript (.Name x np) b p) X.env v=(do
   let ov <- holding [v] (eval (.Name x np) X.env);let iv <- holding [v,ov] (eval b X.env)
   standAt p
   holding [v,ov,iv] (setItem ov iv v)
   release [v,ov,iv] []):=by intro _;rfl)
 (hs:swapsWithSole [.Subscript (.Name x np) b p] e pos.line X.env=pure false:=by rfl) (hw:swappedStores [.Subscript (.Name x np) b p] e X.env=pure none:=by rfl)
 (h1:(assignEach [.Subscript (.Name x np) b p] X.env).map (·.2)=[assign (.Subscript (.Name x np) b p) X.env]:=by rfl) :
 PSD X (.Assign [.Subscript (.Name x np) b p] e pos) (aY j g fo):=
 xI (JI he (Vx (h.var cv) hb wI ha) hs hw h1) λD σ H hZ=>by
  obtain⟨E0,E,H0,γ,fl,I,U,bd⟩:=hZ;obtain⟨row,e1,U⟩:=bind_some U;obtain⟨t,e2,U⟩:=zx U;subst U;obtain⟨hj,d3,i3,y3,y4,y5,y6⟩:=vM e2;obtain⟨a0,bn,a4,a8,c6⟩:=I.rc.nst.1 j _ hj;refine⟨H0,γ,row,I.rc,e1,λO ys H1 bv x g1 g2 g3 r=>?_⟩;have ac:=I.step x;refine⟨_,a4,bv,γ,d3,ac.rc,y3,λv2 H2 ad Y r2=>?_⟩;rw[jw y4]at r2;have al:=ac.step Y;obtain⟨a2,am,an,Z,ap⟩:=al.rc.nst.1 j _ hj;rw[a4]at an;cases an;have bx:am=bn:=by have S:=Z.ha;rw[Y.s1 _ _ (x.s1 _ _ a8.ha)]at S;injection S with S;injection S with S;have inj : ∀{l m:List Addr},l.map V.ref=m.map V.ref->l=m:=λ{l m} q=>List.map_inj_right (λ_ _ z=>by cases z;rfl) |>.mp q;exact(inj S).symm
  subst bx;have c0:O∉a0::am:=λhm=>by obtain⟨_,xs,q⟩:=a8.at hm;rw[g1]at q;cases q
  obtain⟨ea,er⟩:=I.fr2 j _ a0 _ hj a4 a8.ha;have c2:E O=none:=by
   cases q:E O with
   | none=>rfl
   | some o=>rw[I.ext.s1 O o q]at g1;cases g1
  have c3:ad O=none:=Y.new O g2 (by rw[g3];simp);refine⟨a0,_,i3,t.2.1,rfl,jh r2,Z.ha,by rw[Gw,Z.len];exact ZJ y5,?_⟩;rw[<- List.map_set];refine bd _ _ ad<|al.renest hj a4 Z (λk ds c z1 z2 hm=>?_) (Z.set c3 (Y.s1 _ _ g3) (r.mono Y.s0) c0) λb hb=>?_
  ·rcases Gr.mp hm with z | z
   ·exact ap k ds c z1 z2 (by rw[z];exact Gu)
   ·rcases Lz z with z | z
    ·exact ap k ds c z1 z2<|Gn _ z
    ·subst z
     obtain⟨c',ws,q1,q2,q3,_⟩:=I.rc.own k ds z1;rw[z2]at q1;cases q1;rw[g1]at q3;cases q3
  ·rcases Lz hb with z | z
   ·exact er b<|GO.mpr ⟨b,z,rfl⟩
   ·rw[z];exact c2
end
def lZ(f:CO D):CO D:=λγ=>(f γ).bind λd=>match d with
 | .dct _ _=>some (.bl true)
 | _=>none
section
variable{X:Cx}{sc:Scope}{N L:List Str}{k j n i:Nat}{a b c e:Expr}{es:List Expr}{f:CO D}{g:CO (List D)}{p pos:Pos}{x:Str}{st st3 st4:Stmt}{xH:List Stmt}{F:List D->Option Res}
theorem gD(h:SX X sc N L k)(c:yD sc "isinstance" = true)(z:X.mg "isinstance" = none)(S:yD sc "dict" = true)(z2:X.mg "dict" = none)(ha:PV X a f)
 (Y:starEach [a,.Name "dict" p2] X.env=[(false,eval a X.env),(false,eval (.Name "dict" p2) X.env)]:=by rfl):PV X (.Call (.Name "isinstance" p) [a,.Name "dict" p2] [] pos) (lZ f):=by
 intro pins s σ H Q I ⟨H0,γ,d,rc,ef,q⟩;obtain⟨d1,e1,Z⟩:=bind_some ef;cases d1 with
 | dct ks vs=>
  cases Z;refine IT (xP I (h.gl c).1 z Nu ?_ ⋯ ⋯);refine LI ?_ (by rw[Y];rfl) rfl;rw[Y];show wpAny _ _ (spliced ((false,eval a X.env)::backTo pos [(false,eval (.Name "dict" p2) X.env)])) _ _ s;refine Ii (thn (ha pins s σ H _ I ⟨H0,γ,_,rc,e1,λv H' H0' x r=>(show(λv H'=>∃H0',Ext H0 H H0' H'/\Rep X.K H0' (.dct ks vs) v) v H' from⟨H0',x,r⟩)⟩) λu s1 hZ=>?_);obtain⟨x,H1,O,r1,U,x1,rr⟩:=hZ;show wpAny _ _ (spliced ((false,eval (.Name "dict" p2) X.env)::[])) _ _ s1;refine Ii (xP O (h.gl S).1 z2 Mr ?_ (h.gl S).2.1 (h.gl S).2.2);refine Lp ?_;have e:Ir X.K (.type "dict") (.type "dict")=some true:=jd (t:="dict") (c:="dict") (b:=true) ⋯;obtain⟨a,xs,rfl,⟨_,o,zs,h1,h2,_⟩,_⟩:=(show ∃a xs,x = .ref a/\DRt X.K U a ks xs/\Reps X.K U vs xs from rr);cases (show u=GX a from r1);obtain⟨ho,_⟩:=(show ObjOk X.prog X.w H1 s1.heap a (atO a o)from O.hok a _ (x1.sub _ _ h1));exact Hc Mv O.kIn ⟨o,ho,h2.1.1⟩ e (λz=>nomatch z) λtk=>⟨.bl true,H1,O.tok tk,rfl,q _ H1 U x1 rfl⟩
 | _=>cases Z
end
def nmE(e:Expr):Str:=match e with | .Name x _=>x | _=>""
def tgN(e:Expr):List Str:=match e with | .Tuple es _ _=>es.map nmE | e=>[nmE e]
def frN(N:List Str)(fs:List Nat):List (Str×Nat):=fs.map λi=>(N.getD i "",i)
theorem ZN(N:List Str)(fs:List Nat):(frN N fs).map (·.2)=fs:=by unfold frN;rw[Hm];exact List.map_id fs
def tgB(sc:Scope)(N L:List Str)(e:Expr)(T:Tg):Bool:=match e,T with
 | .Name x _,.nm i=>kX sc N L i x
 | .Tuple [.Name x _,.Name y _] _ _,.tp [i,j]=>kX sc N L i x && kX sc N L j y
 | .Tuple [.Name x _,.Name y _,.Name z _] _ _,.tp [i,j,l]=>kX sc N L i x && (kX sc N L j y && kX sc N L l z)
 | _,_=>false
theorem nJ{X:Cx}{sc:Scope}{N L:List Str}{k:Nat}(h:SX X sc N L k){e:Expr}{T:Tg}(c:tgB sc N L e T=true):PG X e (gOf X.K T):=by
 unfold tgB at c;split at c
 ·exact h.tgt _ c
 ·rw[Gs]at c
  exact h.tgts<|yS (h.tgt _ c.1)<|yS (h.tgt _ c.2) bP
 ·rw[Gs,Gs]at c
  exact h.tgts<|yS (h.tgt _ c.1)<|yS (h.tgt _ c.2.1)<|yS (h.tgt _ c.2.2) bP
 ·cases c
def cB(sc scope:Scope)(N:List Str)(tg:Expr)(T:Tg)(n:Nat)(fs:List Nat):Bool:=
 YO sc scope N (frN N fs) && (Cd (tgN tg) scope (frN N fs) && (decide (∀i∈T.idx,i<(tgN tg).length) && (decide ((tgN tg).length=n) && tgB (kB scope sc) (tgN tg++(frN N fs).map (·.1)) (tgN tg) tg T)))
abbrev cxA(X:Cx)(scope:Scope)(N:List Str)(tg:Expr)(fs:List Nat):=jn X scope (tgN tg++(frN N fs).map (·.1))
abbrev SA(X:Cx)(sc scope:Scope)(N:List Str)(tg:Expr)(fs:List Nat)(k:Nat)(fp:List Addr)(s2:Shared)(H2:Hp):Prop:=SX (cxA X scope N tg fs fp s2 H2) (kB scope sc) (tgN tg++(frN N fs).map (·.1)) (tgN tg) k
section
variable{X:Cx}{sc scope:Scope}{N L:List Str}{k n i:Nat}{fs:List Nat}{T:Tg}{e elt tg iter cnd:Expr}{es:List Expr}{pos p py spos cpos:Pos}{x y:Str}{f g:CO D}{fo:CO (List D)}{src gl:CO (List D)}{kk:CO Bool}
theorem cA(h:SX X sc N L k)(c:cB sc scope N tg T n fs=true):CompOk X scope (frN N fs)/\(∀i∈T.idx,i<(tgN tg).length)/\(tgN tg).length=n/\(∀fp s2 H2,SA X sc scope N tg fs k fp s2 H2)/\∀fp s2 H2,PG (cxA X scope N tg fs fp s2 H2) tg (gOf X.K T):=by unfold cB at c;simp only[Gs,decide_eq_true_eq]at c;obtain⟨z,I,O,S,c5⟩:=c;have s : ∀fp s2 H2,SA X sc scope N tg fs k fp s2 H2:=λfp s2 H2=>h.comp I;exact⟨h.compOk z,O,S,s,λfp s2 H2=>nJ (s fp s2 H2) c5⟩
theorem qb(h:SX X sc N L k)(hi:PIC X tg iter src)(z : ∀fp s2 H2,SA X sc scope N tg fs k fp s2 H2->PV (cxA X scope N tg fs fp s2 H2) elt f)(c:cB sc scope N tg T n fs=true:=by decide +kernel)(I : ∀x,foldedSetIterable iter X.env x=pure x:=by intro _;rfl) :
 PO X (.ListComp elt [⟨tg,iter,[],0⟩] scope pos) (zH src T n fs z6 f):=by
 obtain⟨a,b,d,s,q⟩:=cA h c;have r:=oP (pos:=pos) h.calm a b hi q (λfp s2 H2=>z fp s2 H2<|s fp s2 H2) I;rw[d,ZN]at r;exact r
theorem WB(h:SX X sc N L k)(hi:PIC X tg iter src)(z : ∀fp s2 H2,SA X sc scope N tg fs k fp s2 H2->PTD (cxA X scope N tg fs fp s2 H2) cnd kk)(I : ∀fp s2 H2,SA X sc scope N tg fs k fp s2 H2->PV (cxA X scope N tg fs fp s2 H2) elt f)(c:cB sc scope N tg T n fs=true:=by decide +kernel)(O : ∀x,foldedSetIterable iter X.env x=pure x:=by intro _;rfl) :
 PO X (.ListComp elt [⟨tg,iter,[cnd],0⟩] scope pos) (zH src T n fs kk f):=by
 obtain⟨a,b,d,s,q⟩:=cA h c;have r:=bK (pos:=pos) h.calm a b hi q (λfp s2 H2=>z fp s2 H2<|s fp s2 H2) (λfp s2 H2=>I fp s2 H2<|s fp s2 H2) O;rw[d,ZN]at r;exact r
theorem kh(h:SX X sc N L k)(hi:PIC X tg iter src)(z : ∀fp s2 H2,SA X sc scope N tg fs k fp s2 H2->PV (cxA X scope N tg fs fp s2 H2) elt f)(ct:kX sc N L i y=true:=by decide +kernel)(c:cB sc scope N tg T n fs=true:=by decide +kernel)(I : ∀x,foldedSetIterable iter X.env x=pure x:=by intro _;rfl) :
 PS X (.Assign [.Name y py] (.ListComp elt [⟨tg,iter,[],0⟩] scope cpos) spos) (Wf (tO X.K<|zH src T n fs z6 f)<|ya i):=by
 obtain⟨a,b,d,s,q⟩:=cA h c;have r:=psc (cpos:=cpos) (spos:=spos) (py:=py) i h ct h.calm a b hi q (λfp s2 H2=>z fp s2 H2<|s fp s2 H2) I;rw[d,ZN]at r;exact r
theorem oM(h:SX X sc N L k)(hi:PIC X tg iter src)(z : ∀fp s2 H2,SA X sc scope N tg fs k fp s2 H2->PTD (cxA X scope N tg fs fp s2 H2) cnd kk)(I : ∀fp s2 H2,SA X sc scope N tg fs k fp s2 H2->PV (cxA X scope N tg fs fp s2 H2) elt f)(ct:kX sc N L i y=true:=by decide +kernel)(c:cB sc scope N tg T n fs=true:=by decide +kernel)(O : ∀x,foldedSetIterable iter X.env x=pure x:=by intro _;rfl) :
 PS X (.Assign [.Name y py] (.ListComp elt [⟨tg,iter,[cnd],0⟩] scope cpos) spos) (Wf (tO X.K<|zH src T n fs kk f)<|ya i):=by
 obtain⟨a,b,d,s,q⟩:=cA h c;have r:=Cn (cpos:=cpos) (spos:=spos) (py:=py) i h ct h.calm a b hi q (λfp s2 H2=>z fp s2 H2<|s fp s2 H2) (λfp s2 H2=>I fp s2 H2<|s fp s2 H2) O;rw[d,ZN]at r;exact r
theorem mw(h:SX X sc N L k)(hi:PIC X tg iter src)(z : ∀fp s2 H2,SA X sc scope N tg fs k fp s2 H2->PO (cxA X scope N tg fs fp s2 H2) elt fo)(ct:kX sc N L i y=true:=by decide +kernel)(c:cB sc scope N tg T n fs=true:=by decide +kernel)(I : ∀x,foldedSetIterable iter X.env x=pure x:=by intro _;rfl) :
 PSD X (.Assign [.Name y py] (.ListComp elt [⟨tg,iter,[],0⟩] scope cpos) spos) (Ye i<|yO src T n fs fo):=by
 obtain⟨a,b,d,s,q⟩:=cA h c;have r:=gN (cpos:=cpos) (spos:=spos) (py:=py) i h ct h.calm a b hi q (λfp s2 H2=>z fp s2 H2<|s fp s2 H2) I;rw[d,ZN]at r;exact r
theorem zk(h:SX X sc N L k)(c:wB sc N i x=true:=by decide +kernel):PV X (.Name x pos) (zc i):=tU i<|h.var c
theorem zS(h:SX X sc N L k)(c:wB sc N i x=true:=by decide +kernel):PQ X (.Name x pos) (zh i):=uk i<|h.var c
theorem Fs(h:SX X sc N L k)(c:tgB sc N L e T=true:=by decide +kernel):PG X e (gOf X.K T):=nJ h c
theorem jy(h:SX X sc N L k)(z:PV X e f)(c:kX sc N L i x=true:=by decide +kernel)(I:swapsWith e (some (.Name x py)) pos.line X.env=pure false:=by rfl):PSD X (.Assign [.Name x py] e pos) (jk i f):=oH i<|h.set i c z I
theorem yQ(h:SX X sc N L k)(z:PO X e fo)(c:kX sc N L i x=true:=by decide +kernel)(I:swapsWith e (some (.Name x py)) pos.line X.env=pure false:=by rfl):PSD X (.Assign [.Name x py] e pos) (kx i fo):=QM i<|h.set i c z I
theorem xw{body:List Stmt}{F:CO Fl}(hx:X.xe=λ_ _=>False)(h:SX X sc N L k)(hi:PIF X tg iter src)(z:ff X body F)(c:tgB sc N L tg T=true:=by decide +kernel)(I : ∀x,foldedSetIterable iter X.env x=pure x:=by intro _;rfl):PSD X (.For tg iter body [] pos) (yJ src T F):=oJ (bU hx) h.calm hi (nJ h c) z I
variable{j:Nat}{F:List D->Option Res}
theorem jg(z:FnD X.prog X.w X.K X.mg X.base j x n F)(h:SX X sc N L k)(ha:PAn X (e::es) n gl)(I:j<=k:=by decide)(c:yD sc x=true:=by decide +kernel)
 (O:starEach (e::es) X.env=(false,eval e X.env)::starEach es X.env:=by rfl) (S:(backTo pos<|starEach es X.env).any (·.1)=false:=by rfl):PV X (.Call (.Name x p) (e::es) [] pos) (zG F gl):=Cm z I h c ha O S
theorem xi(z:FnD X.prog X.w X.K X.mg X.base j x n F)(h:SX X sc N L k)(ha:PAn X (e::es) n gl)(I:j<=k:=by decide)(c:yD sc x=true:=by decide +kernel)
 (O:starEach (e::es) X.env=(false,eval e X.env)::starEach es X.env:=by rfl) (S:(backTo pos<|starEach es X.env).any (·.1)=false:=by rfl):PO X (.Call (.Name x p) (e::es) [] pos) (jE F gl):=Cp z I h c ha O S
end
def J5:=js 1 (zI (sIf (Wr (ke (sB (sIs .str (zc 0)))) (sB (zv dGe (oi (zc 0)) (zq (.int 6))))) (qW (zq (.bl false))) qT) (qW (Be (jQ (zH (lX (zc 0)) (.nm 0) 1 [] z6 (EK (zc 0) (zO (zq (.tup [.str "r",.str "l"])))))))))
def wz:=js 2<|zI (sIf (Wr (ke<|sB<|zG Y3<|zb (zc 1)<|zb (zq<|.int 2) zF)<|Wr (ke<|sB<|zG K5<|zb (zc 0)<|zb (sIx (zh 1)<|zq<|.int 0) zF)<|ke<|sB<|zG K5<|zb (zc 0)<|zb (sIx (zh 1)<|zq<|.int 1) zF) (qW<|zq<|.bl false) qT)<|qW<|zv dLe (sIx (zh 1)<|zq<|.int 0)<|sIx (zh 1)<|zq<|.int 1
def fw:=js 2<|vH<|zH (Vk<|zc 0) (.tp [0,1]) 2 [1] (sB<|XX dLe dLe (sIx (zh 1)<|zq<|.int 0) (zc 2)<|sIx (zh 1)<|zq<|.int 1) (zc 0)
def Y4:=js 3<|zI (jk 2<|jR<|zH (zJ<|zh 0) (.nm 0) 1 [1] z6 (zP<|jQ<|zH (zJ<|zh 1) (.nm 0) 1 [0] z6 (ak (sB<|zv dEq (zc 1)<|zc 0) (zq<|.int 1)<|zq<|.int 0)))<|qW<|j3<|zb (Jk<|zh 0)<|zb (Jk<|zh 1)<|zb (zP<|zh 2) zF
def zR:=js 5<|zI (sIf (Yi (sB<|zv dGt (Jk<|zh 0)<|zq<|.int 1)<|sB<|zv dEq (zv jV (sIx (zh 0)<|zq<|.int 0)<|zq<|.int 2)<|zq<|.int 1) (zI (jk 2<|sIx (zh 0)<|zv ju (zq<|.int 1)<|zv jV (zc 1)<|zv wt (Jk<|zh 0)<|zq<|.int 1)<|zI (yJ (zU<|oh (zq<|.int 60)<|zv yb (zc 1)<|zv wt (Jk<|zh 0)<|zq<|.int 1) (.nm 3)<|jk 2<|zv yb (zc 2)<|zv rB (zq<|.int 10)<|zq<|.int 9)<|qW<|zv jV (zc 2)<|zv rB (zq<|.int 10)<|zq<|.int 9) qT)<|zI (jk 4<|zc 1)<|zI (sIf (sB<|zv dGt (Jk<|zh 0)<|zq<|.int 0) (jk 4<|sIx (zh 0)<|zv jV (zc 1)<|Jk<|zh 0) qT)<|qW<|zv jV (zv qm (zv jV (zv ju (zv ju (zv ju (zv qm (zv jV (zc 4)<|zv rB (zq<|.int 10)<|zq<|.int 30)<|zq<|.int 48271)<|zv qm (zv qm (zq<|.int 7)<|zc 1)<|zc 1)<|zv qm (zq<|.int 13)<|zc 1)<|zq<|.int 5)<|zq<|.int 2147483647)<|zq<|.int 69621)<|zq<|.int 1000000007
def qy:=js 5<|zI (jk 3<|jR<|zH (K7 (sIx (zh 0)<|zq<|.int 2)<|sIx (zh 2)<|zq<|.int 2) (.tp [0,1]) 2 [] z6 (zv ju (zc 0)<|zc 1))<|zI (jk 4<|jR<|zH (zJ<|zO<|sIx (zh 1)<|zq<|.int 2) (.nm 0) 1 [0] z6 (zv ju (zv qm (j3<|zb (zq<|.int 0) zF)<|sIx (zh 1)<|zq<|.int 1)<|zc 0))<|qW<|j3<|zb (zv ju (sIx (zh 0)<|zq<|.int 0)<|sIx (zh 1)<|zq<|.int 0)<|zb (zv ju (sIx (zh 0)<|zq<|.int 1)<|sIx (zh 1)<|zq<|.int 1)<|zb (zP<|zO<|jR<|QF (zh 3)<|zh 4) zF
def vB:=js 2<|qW<|zG qS<|zb (sIx (zh 0)<|zq<|.int 0)<|zb (sIx (zh 1)<|zq<|.int 1) zF
def qe:=js 2<|qW<|zG qy<|zb (zc 0)<|zb (zc 1)<|zb (zG vB<|zb (zc 0)<|zb (zc 1) zF) zF
def F_led_on:=js 3<|vH<|jE qk<|zb (zc 0)<|zb (sIx (zh 1)<|zq<|.int 0)<|zb (jR<|zH (zJ<|zh 2) (.nm 0) 1 [0,1] z6 (zG Y2<|zb (zc 1)<|zb (zc 2)<|zb (zc 0) zF)) zF
def Yw:=(Bc 4<|kx 4<|bh F_led_on F_led_into<|zb (sIx (zh 0)<|zq<|.int 0)<|zb (sIx (zh 5)<|zq<|.int 0)<|zb (zG qe<|zb (zc 3)<|zb (sIx (zh 5)<|zq<|.int 1) zF)<|zb (zc 4) zF)
def V9:=js 6<|zI (jk 3<|zG jD<|zb (sIx (zO<|sIx (zh 0)<|zq<|.int 1)<|zc 1) zF)<|zI (kx 4<|zH (zJ<|zO<|sIx (zh 3)<|zq<|.int 2) (.nm 0) 1 [] z6 (zv ju (zc 0)<|zc 0))<|zI (yJ (zJ<|zO<|K8 (sIx (zh 0)<|zq<|.int 2) (sBd<|zc 1)<|sBd<|zc 2) (.nm 5) Yw)<|Zm 4
abbrev dsq(k:Sk)(xs:List D):D:=match k with | .T=>D.tup xs | .L=>D.lst xs
@[simp] theorem EV(k xs):jG (dsq k xs)=some (k,xs):=by cases k<;>rfl
theorem J3(k:Sk)(f:Nat->Int)(z:0<p)(hn:n<=lim) :
 xf [.int p,dsq k (zE n f)]=some (.val<|.tup<|zE n λi=>f i%p):=by
 simp[xf,js,z9,zW,hn,xJ];unfold zE;rw[zo (r:=λi=>D.int<|f i%p)]
 ·simp
 ·intro i hi
  refine zu rfl rfl ?_;simp[z]
theorem fu(f:Nat->Int)(z:0<p)(hn:n<=lim) :
 xf [.int p,.tup (zE n f)]=some (.val<|.tup<|zE n λi=>f i%p):=J3 .T f z hn
theorem Jf(f:Nat->Int)(z:0<p)(hn:n<=lim) :
 xf [.int p,.lst (zE n f)]=some (.val<|.tup<|zE n λi=>f i%p):=J3 .L f z hn
theorem Xz(k:Sk)(f:RK)(g:Nat->Int)(I:0<p)(z:h<=lim)(hw:w<=lim)(O : ∀i j,i<h->j<w->0<=f i j/\f i j<100) :
 Y2 [.int p,jj h w f,dsq k (zE w g)]=some (.val<|.tup<|zE h λi=>sumTo (λj=>f i j*g j) w%p):=by
 simp[Y2,js,z9,zW,z,xJ,jj,Ge];unfold zM;rw[zo (r:=λi=>D.int<|sumTo (λj=>f i j*g j) w)]
 ·simp
  rw[show(List.map (λi=>D.int<|sumTo (λj=>f i j*g j) w)<|Ga h)=zE h λi=>sumTo (λj=>f i j*g j) w from rfl,Jf _ I z];rfl
 ·intro i hi
  refine zu rfl rfl ?_;simp[zW,wG,hw];rw[zo (r:=λj=>D.int<|f i j*g j)]
  ·simp
   rw[show(List.map (λj=>D.int<|f i j*g j)<|Ga w)=zE w λj=>f i j*g j from rfl,w9]
  ·intro j S
   refine zu rfl rfl ?_;have:=O i j (Gc.mp hi)<|Gc.mp S;simp[kW (f i j) (g j) ⋯ ⋯]
theorem vz(f:RK)(z:h<=lim)(hw:w<=lim):qc [jj h w f]=some (.val<|jj w h λi j=>f j i):=by
 simp[qc,js,z9,zW,z,hw,xJ,jj,Ge,jI,jL];rw[je w λi=>(i:Int)];rw[zo (r:=λj=>D.tup<|zE h λi=>f i j)]
 ·simp
  rfl
 ·intro j I
  refine zu rfl rfl ?_;simp[zW,z,xJ];unfold zM;rw[zo (r:=λi=>D.int<|f i j)]
  ·simp
   rfl
  ·intro i hi
   refine zu rfl rfl ?_;have h1:=Gc.mp I;simp[h1,VY _ h1]
theorem ku(hn:n<=lim):jD [.int n]=some (.val<|jj n n λi j=>if i=j then 1 else 0):=by
 simp[jD,js,z9,jI,hn,zW,xJ,Ge,jL];rw[je n λi=>(i:Int)];rw[zo (r:=λi=>D.tup<|zE n λj=>if i=j then 1 else 0)]
 ·simp
  rfl
 ·intro i hi
  refine zu rfl rfl ?_;simp[hn,zW,Ge,jL,xJ];rw[je n λi=>(i:Int)];rw[zo (r:=λj=>D.int<|if i=j then 1 else 0)]
  ·simp
   rfl
  ·intro j z
   refine zu rfl rfl ?_;simp;by_cases e:i=j
   ·simp[e]
   ·rw[EQ ⋯,EQ e]
theorem kZ(d:D)(w:Nat):Ge w d=(Ga w).map λ_=>d:=by
 induction w with
 | zero=>rfl
 | succ n z=>rw[List.replicate_succ',z,IB,Hk];simp
theorem Y0(z:h<=lim)(hw:w<=lim):qS [.int h,.int w]=some (.val<|jj h w λ_ _=>0):=by simp[qS,js,z9,jI,qm,z,hw];rw[kZ,kZ];rfl
def qC(ns:List Int):D:= .lst (ns.map D.int)
mutual
theorem eqD_refl : ∀d:D,eqD d d=true
 | .non=>rfl
 | .bl b=>by simp[eqD]
 | .int i=>by simp[eqD]
 | .str x=>by simp[eqD]
 | .tup xs=>by simp only[eqD];exact eqDs_refl xs
 | .lst xs=>by simp only[eqD];exact eqDs_refl xs
 | .exc c n=>by simp[eqD]
 | .dic a b=>by simp only[eqD];rw[eqDs_refl a,eqDs_refl b];rfl
 | .dct a b=>by simp only[eqD];rw[eqDs_refl b];simp
theorem eqDs_refl : ∀ds:List D,eqDs ds ds=true
 | []=>rfl
 | d::ds=>by simp only[eqDs,eqD_refl d,eqDs_refl ds,Bool.and_self]
end
theorem Xm : ∀{l:List D} {n:Nat},(∀d∈l,deep d<=n)->deeps l<=n
 | [],n,_=>HN n
 | d::ds,n,h=>by simp only[deeps];exact Nat.max_le.mpr ⟨h d Gu,Xm λe z=>h e<|Gn _ z⟩
theorem V1(n f):deep (.tup<|zE n f)<=1:=by
 simp only[deep];have:deeps (zE n f)<=0:=Xm λd hd=>by simp[zE]at hd;obtain⟨i,_,rfl⟩:=hd;exact Gh _
 omega
theorem lq(h w f):deep (.tup<|zM h w f)<=2:=by
 simp only[deep];have:deeps (zM h w f)<=1:=Xm λd hd=>by simp[zM]at hd;obtain⟨i,_,rfl⟩:=hd;exact V1 _ _
 omega
theorem Yq : ∀{l:List D},(∀d∈l,okS d=true)->okSs l=true
 | [],_=>rfl
 | d::ds,h=>by simp only[okSs,h d Gu,Yq λe z=>h e<|Gn _ z,Bool.and_self]
theorem mF(h:deep d<=n)(hn:n<=20)(h2:okS d=true):okD d=true:=by unfold okD;rw[h2,Bool.and_true];exact decide_eq_true<|HE h hn
theorem cc(n f):okS (.tup<|zE n f)=true:=by
 simp only[okS];exact Yq λd hd=>by simp[zE]at hd;obtain⟨i,_,rfl⟩:=hd;rfl
theorem pj(h w f):okS (.tup<|zM h w f)=true:=by
 simp only[okS];exact Yq λd hd=>by simp[zM]at hd;obtain⟨i,_,rfl⟩:=hd;exact cc _ _
theorem lu(h:okD d=true):dEq d d=some (.bl true):=by unfold dEq;rw[RY ⟨h,h⟩,eqD_refl]
theorem YZ(i:Int):qN [.int i]=some (.val<|.bl true):=by simp[qN,js,z9,mM]
theorem JO(k:Int)(z:0<k) : ∃n:Nat,m%k=n/\(n:Int)<k:=by have h1:=GU m (show k≠0 by omega);have h2:=GH m z;obtain⟨n,hn⟩:=IG h1;exact⟨n,hn,by omega⟩
def wch(b:Bool):Nat:=if b then 108 else 114
def Jl(c:Nat):Str:=⟨#[c]⟩
def Fq(m:Nat)(w:RX):Str:=Str.join "" ((Ga m).map λk=>Jl (wch (w k)))
def hiW(w:RX)(wd:RZ)(k:Nat):Nat:=if w k then wd k else wd (k+1)
def wiW(w:RX)(wd:RZ)(k:Nat):Nat:=if w k then wd (k+1)else wd k
def qD(w:RX)(wd:RZ)(T:RV)(k:Nat):D:= .tup [.str (Jl<|wch<|w k),jj (hiW w wd k) (wiW w wd k) (T k)]
def j6(m:Nat)(w:RX)(wd:RZ)(T:RV):List D:=(Ga m).map (qD w wd T)
def j8(p:Int)(m:Nat)(w:RX)(wd:RZ)(T:RV):D:= .tup [.int p,.tup<|zE (m+1) λk=>(wd k:Int),.tup (j6 m w wd T)]
@[simp] theorem eU(m w wd T):(j6 m w wd T).length=m:=by simp[j6]
theorem Aw(b:Bool):dEq (.str (Jl (wch b))) (.str "l")=some (.bl b):=by
 have e : ∀b:Bool,(Jl (wch b)==(Ho "l"))=b:=by decide +kernel
 have z : ∀b:Bool,okD (.str<|Jl<|wch b)=true:=by decide +kernel
 have I:okD (.str (Ho "l"))=true:=by decide +kernel
 unfold dEq;rw[RY ⟨z b,I⟩];show some (D.bl (Jl (wch b)==Ho "l"))=_;rw[e]
theorem dY(f:Nat->D)(h1:i<=j)(h2:j<=n):V2 ((Ga n).map f) (some (i:Int)) (some (j:Int))=(Ga<|j - i).map λk=>f (i+k):=by
 have c : ∀(d k:Nat),k<=n->YN n d (some (k:Int))=k:=λd k I=>by show(if (k:Int)<0 then ((k:Int)+n).toNat else min (k:Int).toNat n)=k;rw[EQ ⋯];simp only[Ih];omega
 have z:((Ga n).map f).length=n:=by simp
 unfold V2;rw[z,c 0 i ⋯,c n j h2];apply List.ext_getElem
 ·simp;omega
 ·intro k O g2
  simp
section
variable{p:Int}{m:Nat}{w:RX}{wd:RZ}{T:RV}
theorem AF(h1:i<=j)(h2:j<=m):V2 (j6 m w wd T) (some (i:Int)) (some (j:Int))=j6 (j - i) (λk=>w<|i+k) (λk=>wd<|i+k) (λk=>T<|i+k):=by unfold j6;rw[dY _ h1 h2];apply GI;intro k z;unfold qD hiW wiW;rfl
end
section
variable{p:Int}
def dO(h w:Nat)(f:RK):List D:=(Ga h).map λi=>D.lst<|zE w<|f i
@[simp] theorem Ay(h w f):(dO h w f).length=h:=by simp[dO]
end
theorem zy : ∀{n:Nat},(∀k,k<n->f k=g k)->sumTo f n=sumTo g n
 | 0,_=>rfl
 | n+1,h=>by simp only[sumTo];rw[zy (n:=n) λk z=>h k ⋯,h n ⋯]
theorem zN(n:Nat):sumTo (λ_=>0) n=0:=by
 induction n with
 | zero=>rfl
 | succ n z=>simp[sumTo,z]
theorem zQ(hi:i<n)(h : ∀k,k<n->k≠i->f k=0):sumTo f n=f i:=by
 induction n with
 | zero=>omega
 | succ n z=>
  simp only[sumTo];by_cases e:i=n
  ·subst e
   rw[zy (g:=λ_=>0) (λk I=>h k ⋯ ⋯),zN];omega
  ·rw[z ⋯ λk I=>h k ⋯,h n ⋯ ⋯]
   omega
theorem jx(f g:Nat->Int)(n:Nat):sumTo (λk=>f k+g k) n=sumTo f n+sumTo g n:=by
 induction n with
 | zero=>rfl
 | succ n z=>simp only[sumTo,z];omega
theorem qG(f:Nat->Int)(c:Int)(n:Nat):sumTo (λk=>f k*c) n=sumTo f n*c:=by
 induction n with
 | zero=>simp[sumTo]
 | succ n z=>simp only[sumTo,z,MW]
theorem jo(f:Nat->Int)(c:Int)(n:Nat):sumTo (λk=>c*f k) n=c*sumTo f n:=by
 induction n with
 | zero=>simp[sumTo]
 | succ n z=>simp only[sumTo,z,LG]
theorem qF(f:RK)(n m:Nat):sumTo (λi=>sumTo (λj=>f i j) m) n=sumTo (λj=>sumTo (λi=>f i j) n) m:=by
 induction n with
 | zero=>simp[sumTo,zN]
 | succ n z=>simp only[sumTo];rw[z,<- jx]
theorem zK : ∀{n:Nat},(∀k,k<n->f k%p=g k%p)->sumTo f n%p=sumTo g n%p
 | 0,_=>rfl
 | n+1,h=>by simp only[sumTo];rw[GW,zK (n:=n)<|λk z=>h k ⋯,h n ⋯,<- GW]
theorem Kq(p x y:Int):(x*(y%p))%p=(x*y)%p:=by rw[Gi,GG,<- Gi]
abbrev Vc:=Nat->Int
def Pr(p:Int):Prop:=p=2\/p=3\/p=5\/p=7
theorem Pr.pos(h:Pr p):0<p:=by unfold Pr at h;omega
theorem Pr.two(h:Pr p):2<=p:=by unfold Pr at h;omega
theorem Pr.le(h:Pr p):p<=7:=by unfold Pr at h;omega
theorem Pr.one(h:Pr p):(1:Int)%p=1:=Iz ⋯ (by have:=h.two;omega)
inductive Span(p:Int)(n:Nat)(G:Vc->Prop):Vc->Prop where
 | zero {v:Vc}:(∀i,i<n->v i%p=0)->Span p n G v
 | step {v w g:Vc} {c:Int}:G g->Span p n G w->(∀i,i<n->v i%p=(w i+c*g i)%p)->Span p n G v
section
variable{p:Int}{n:Nat}{G G':Vc->Prop}
theorem Span.congr(h:Span p n G v)(e : ∀i,i<n->v' i%p=v i%p):Span p n G v':=by
 cases h with
 | zero h=>exact .zero λi hi=>by rw[e i hi,h i hi]
 | step z hw h=>exact .step z hw λi hi=>by rw[e i hi,h i hi]
theorem Span.gen(h:G g):Span p n G g:= .step (c:=1) h (.zero (v:=λ_=>0) λi _=>by simp) λi _=>by simp
theorem Span.add(I:Span p n G v)(hw:Span p n G w) : ∀c:Int,Span p n G λi=>w i+c*v i:=by
 induction I with
 | zero h=>
  intro c;refine hw.congr λi hi=>?_;rw[GW,Gi,h i hi];simp
 | @step v w' g z O U h S=>
  intro c;refine .step (c:=c*z) O (S c) λi hi=>?_;have e:(c*v i)%p=(c*(w' i+z*g i))%p:=by rw[Gi,h i hi,<- Gi]
  rw[GW,e,<- GW];congr 1;rw[LG,<- HB,Int.add_assoc]
theorem Span.smul(z:Span p n G v)(c:Int):Span p n G λi=>c*v i:=
 (z.add (w:=λ_=>0) (.zero λi _=>by simp) c).congr λi _=>by simp
theorem Span.le(h:Span p n G v)(z : ∀g,G g->Span p n G' g):Span p n G' v:=by
 induction h with
 | zero h=>exact .zero h
 | step I hw h O=>exact((z _ I).add O _).congr h
end
structure IsB(p:Int)(n r:Nat)(B:Nat->Vc)(l:RZ):Prop where
 lt : ∀k,k<r->l k<n
 mono : ∀k m,k<m->m<r->l k<l m
 one : ∀k,k<r->B k (l k)=1
 bef : ∀k j,k<r->j<l k->B k j=0
 oth : ∀k m,k<r->m<r->m≠k->B k (l m)=0
 rng : ∀k i,k<r->i<n->0<=B k i/\B k i<p
def Fam(r:Nat)(B:Nat->Vc):Vc->Prop:=λv=>∃k,k<r/\v=B k
section
variable{p:Int}{n r r':Nat}{B B':Nat->Vc}{l l':RZ}
theorem v9(I:IsB p n r B l)(h:Span p n (Fam r B) v) : ∀i,i<n->v i%p=sumTo (λk=>v (l k)*B k i) r%p:=by
 induction h with
 | @zero v h=>
  intro i hi;rw[h i hi];have:sumTo (λk=>v (l k)*B k i) r%p=sumTo (λ_=>0) r%p:=zK λk z=>by rw[Gi,h _ (I.lt k z)];simp
  rw[this,zN];rfl
 | @step v w g c O hw h S=>
  intro i hi;obtain⟨m,hm,rfl⟩:=O;rw[h i hi];have e1:sumTo (λk=>v (l k)*B k i) r%p=sumTo (λk=>w (l k)*B k i+c*B m (l k)*B k i) r%p:=zK λk z=>by rw[Gi,h _<|I.lt k z,<- Gi,MW]
  have U:sumTo (λk=>c*B m (l k)*B k i) r=c*B m i:=by rw[zQ (i:=m) hm λk z Y=>by rw[I.oth m k hm z Y];simp,I.one m hm];simp
  rw[e1,jx,U,GW,S i hi,<- GW]
theorem Yz(z:IsB p n r B l)(h:Span p n (Fam r B) v)(O:j<n)(S:v j%p≠0)(U : ∀i,i<j->v i%p=0) : ∃k,k<r/\l k=j:=by
 apply HG;intro Y;apply S;rw[v9 z h j O];have:sumTo (λk=>v (l k)*B k j) r%p=sumTo (λ_=>0) r%p:=zK λk I=>by
  have Z:l k≠j:=λe=>Y ⟨k,I,e⟩;rcases GB (l k) j with q | q
  ·rw[Gi,U _ q];simp
  ·rw[z.bef k j I ⋯];simp
 rw[this,zN];rfl
theorem VJ(O : ∀k m,k<m->m<r->l k<l m)(S : ∀k m,k<m->m<r'->l' k<l' m)(s1 : ∀k,k<r->∃m,m<r'/\l' m=l k)(s2 : ∀k,k<r'->∃m,m<r/\l m=l' k) :
 ∀k,k<r->k<r'/\l k=l' k:=by
 intro k
 induction k using Nat.strongRecOn with
 | ind k U=>
  intro Y;obtain⟨m,hm,Z⟩:=s1 k Y;have a1:k<=m:=by
   rcases GB m k with q | q
   ·have:=(U m q ⋯).2
    have:=O m k q Y;omega
   ·exact q
  have I:k<r':=by omega
  refine⟨I,?_⟩;obtain⟨q,hq,eq⟩:=s2 k I;have a3:k<=q:=by
   rcases GB q k with z | z
   ·have:=(U q z ⋯).2
    have:=S q k z I;omega
   ·exact z
  rcases GB k m with z | z
  ·have h1:=S k m z hm
   have h2:l k<=l q:=by
    rcases GB k q with y | y
    ·exact Nk<|O k q y hq
    ·have:k=q:=by omega
     subst this;exact Gh _
   omega
  ·have:m=k:=by omega
   subst this;exact Z.symm
theorem ZY(Y:Pr p)(I:IsB p n r B l)(O:IsB p n r' B' l')(h1 : ∀v,Span p n (Fam r B) v->Span p n (Fam r' B') v)(h2 : ∀v,Span p n (Fam r' B') v->Span p n (Fam r B) v) :
 r=r'/\(∀k,k<r->l k=l' k)/\∀k i,k<r->i<n->B k i=B' k i:=by
 have one:=Y.one;have s1 : ∀k,k<r->∃m,m<r'/\l' m=l k:=λk z=>Yz O (h1 _<|.gen ⟨k,z,rfl⟩) (I.lt k z) (by rw[I.one k z,one];decide) λi hi=>by rw[I.bef k i z hi];simp
 have s2 : ∀k,k<r'->∃m,m<r/\l m=l' k:=λk z=>Yz I (h2 _<|.gen ⟨k,z,rfl⟩) (O.lt k z) (by rw[O.one k z,one];decide) λi hi=>by rw[O.bef k i z hi];simp
 have e1:=VJ I.mono O.mono s1 s2;have Z:=VJ O.mono I.mono s2 s1;have er:r=r':=by
  rcases Mb r r' with q | q | q
  ·exact absurd (Z r q).1 (Hn _)
  ·exact q
  ·exact absurd (e1 r' q).1 (Hn _)
 subst er;refine⟨rfl,λk z=>(e1 k z).2,λk i z hi=>?_⟩;have c:=v9 O (h1 _<|.gen ⟨k,z,rfl⟩) i hi;rw[zQ (i:=k) z λm hm a1=>by rw[<- (e1 m hm).2,I.oth k m z hm a1];simp,<- (e1 k z).2,I.one k z,Ln]at c;have S:=I.rng k i z hi;have U:=O.rng k i z hi;rw[Iz S.1 S.2,Iz U.1 U.2]at c;exact c
end
theorem jv(q:α->Bool)(r:α->D) : ∀(l:List α),(∀x∈l,∃γ1,qV T (g x) γ=some γ1/\k γ1=some (q x)/\(q x=true->f γ1=some (r x)))->
 zL T k f γ (l.map g)=some ((l.filter q).map r)
 | [],_=>rfl
 | x::l,h=>by
  obtain⟨γ1,h1,h2,I⟩:=h x Gu;have z:=jv q r l λy O=>h y<|Gn _ O;simp only[GQ,zL,h1,h2,Gk];cases e:q x with
  | true=>simp[I e,z,e]
  | false=>simp[z,e]
theorem mN(z:Pr p)(I:0<x)(h1:x<p) : ∃y:Nat,1<=y/\(y:Int)<p/\(y:Int)*x%p=1:=by
 rcases z with rfl | rfl | rfl | rfl
 ·obtain rfl:x=1:=by omega
  exact⟨1,by decide,by decide,by decide⟩
 ·rcases (show x=1\/x=2 by omega)with rfl | rfl
  ·exact⟨1,by decide,by decide,by decide⟩
  ·exact⟨2,by decide,by decide,by decide⟩
 ·rcases (show x=1\/x=2\/x=3\/x=4 by omega)with rfl | rfl | rfl | rfl
  ·exact⟨1,by decide,by decide,by decide⟩
  ·exact⟨3,by decide,by decide,by decide⟩
  ·exact⟨2,by decide,by decide,by decide⟩
  ·exact⟨4,by decide,by decide,by decide⟩
 ·rcases (show x=1\/x=2\/x=3\/x=4\/x=5\/x=6 by omega)with rfl | rfl | rfl | rfl | rfl | rfl
  ·exact⟨1,by decide,by decide,by decide⟩
  ·exact⟨4,by decide,by decide,by decide⟩
  ·exact⟨5,by decide,by decide,by decide⟩
  ·exact⟨2,by decide,by decide,by decide⟩
  ·exact⟨3,by decide,by decide,by decide⟩
  ·exact⟨6,by decide,by decide,by decide⟩
theorem wq{q:RX}{n a:Nat}{xH:List Nat}(h:(Ga n).filter q=a::xH):a<n/\q a=true/\∀i,i<a->q i=false:=by
 have hm:a∈(Ga n).filter q:=by rw[h];exact Gu
 refine⟨Gc.mp (GT.mp hm).1,(GT.mp hm).2,λi hi=>?_⟩;apply HG;intro z;have I:q i=true:=by simpa using z
 have O:i∈a::xH:=by rw[<- h];exact GT.mpr ⟨Gc.mpr (by have:=Gc.mp (GT.mp hm).1;omega),I⟩
 have S:(a::xH).Pairwise (· < ·):=by rw[<- h];exact MJ _ LW
 rcases Gr.mp O with e | e
 ·omega
 ·have:=(List.pairwise_cons.mp S).1 i e;omega
theorem Kn(h:(Ga n).filter q=[]) : ∀i,i<n->q i=false:=λi hi=>by apply HG;intro z;have:i∈(Ga n).filter q:=GT.mpr ⟨Gc.mpr hi,by simpa using z⟩;rw[h]at this;simp at this
theorem K6(z:Pr p)(I:0<x)(h1:x<p) : ∃y,vE [.int p,.int x]=some (.val<|.int y)/\1<=y/\y<p/\x*y%p=1:=by
 rcases z with rfl | rfl | rfl | rfl
 ·have:x=1:=by omega
  subst this;exact⟨1,rfl,by decide,by decide,by decide⟩
 ·have:x=1\/x=2:=by omega
  rcases this with rfl | rfl
  ·exact⟨1,rfl,by decide,by decide,by decide⟩
  ·exact⟨2,rfl,by decide,by decide,by decide⟩
 ·have:x=1\/x=2\/x=3\/x=4:=by omega
  rcases this with rfl | rfl | rfl | rfl
  ·exact⟨1,rfl,by decide,by decide,by decide⟩
  ·exact⟨3,rfl,by decide,by decide,by decide⟩
  ·exact⟨2,rfl,by decide,by decide,by decide⟩
  ·exact⟨4,rfl,by decide,by decide,by decide⟩
 ·have:x=1\/x=2\/x=3\/x=4\/x=5\/x=6:=by omega
  rcases this with rfl | rfl | rfl | rfl | rfl | rfl
  ·exact⟨1,rfl,by decide,by decide,by decide⟩
  ·exact⟨4,rfl,by decide,by decide,by decide⟩
  ·exact⟨5,rfl,by decide,by decide,by decide⟩
  ·exact⟨2,rfl,by decide,by decide,by decide⟩
  ·exact⟨3,rfl,by decide,by decide,by decide⟩
  ·exact⟨6,rfl,by decide,by decide,by decide⟩
theorem wA(I:Pr p)(hn:n<=lim)(z:t<n)(w P:Nat->Int)(hw : ∀i,i<n->0<=w i/\w i<p) :
 qj [.int p,.tup<|zE n w,.tup<|zE n P,.int t]=some (.val<|.tup<|zE n λi=>(w i - w t*P i)%p):=by
 have U:=hw t z;have Y:=I.le;have S : ∀x,wy (w t) x=true:=λx=>kW _ _ ⋯ ⋯;by_cases O:w t=0
 ·simp[qj,js,z9,jI,z,O]
  apply xl;intro i hi;rw[Iz (hw i hi).1 (hw i hi).2]
 ·simp[qj,js,z9,jI,z,O,wG,hn,zW,xJ,Ge]
  rw[zo (r:=λi=>D.int<|w i - w t*P i)]
  ·rw[<- je]
   simp[Jf _ I.pos hn]
  ·intro i hi
   refine zu rfl rfl ?_;simp[S]
theorem QW{l:RZ}{r t:Nat}(hm : ∀k m,k<m->m<r->l k<l m)(z : ∀k,k<r->l k<t):r<=t:=by
 have key : ∀k,k<r->k<=l k:=by
  intro k
  induction k with
  | zero=>intro _;exact HN _
  | succ k I=>
   intro O;have h1:=I ⋯;have h2:=hm k (k+1) ⋯ O;omega
 cases r with
 | zero=>exact HN _
 | succ r=>
  have h1:=key r ⋯;have h2:=z r ⋯;omega
def wU:=(zI (jk 6<|jR<|zH (zJ<|zh 3) (.nm 0) 1 [5] (sB<|zv dNe (sIx (zh 0)<|zc 1)<|zq<|.int 0) (zc 0))<|zI (sIf (ke<|gp<|zh 6) gw qT)<|zI (jk 7<|zG vE<|zb (zc 0)<|zb (sIx (zO<|sIx (zh 6)<|zq<|.int 0)<|zc 5) zF)<|zI (jk 8<|zG xf<|zb (zc 0)<|zb (jR<|zH (zJ<|zO<|sIx (zh 6)<|zq<|.int 0) (.nm 0) 1 [7] z6 (zv qm (zc 1)<|zc 0)) zF)<|zI (jk 3<|jR<|zH (zJ<|zh 3) (.nm 0) 1 [0,5,8] z6 (zG qj<|zb (zc 1)<|zb (zc 0)<|zb (zc 3)<|zb (zc 2) zF))<|kx 4<|QF (jQ<|zH (zJ<|zh 4) (.nm 0) 1 [0,5,8] z6 (zG qj<|zb (zc 1)<|zb (zc 0)<|zb (zc 3)<|zb (zc 2) zF))<|jQ<|kf<|zb (zc 8) zF)
def Un(r:Nat)(B:Nat->Vc)(m:Nat)(W:Nat->Vc):Vc->Prop:=λv=>Fam r B v\/Fam m W v
structure BInv(p:Int)(n m:Nat)(W:Nat->Vc)(t r:Nat)(B:Nat->Vc)(l:RZ)(Wt:Nat->Vc):Prop where
 rng : ∀j i,j<m->i<n->0<=Wt j i/\Wt j i<p
 zer : ∀j i,j<m->i<t->Wt j i=0
 isb:IsB p n r B l
 lt : ∀k,k<r->l k<t
 span : ∀v,Span p n (Un r B m Wt) v↔Span p n (Fam m W) v
section
variable{p:Int}{n m:Nat}{W:Nat->Vc}{t r:Nat}{B:Nat->Vc}{l:RZ}{Wt:Nat->Vc}
theorem BInv.skip(h:BInv p n m W t r B l Wt)(I : ∀j,j<m->Wt j t=0):BInv p n m W (t+1) r B l Wt:=
 ⟨h.rng,λj i z hi=>by
  rcases GB i t with q | q
  ·exact h.zer j i z q
  ·have:i=t:=by omega
   subst this;exact I j z,h.isb,λk O=>HD<|h.lt k O,h.span⟩
def clr(p:Int)(P:Vc)(t:Nat)(w:Vc):Vc:=λi=>(w i - w t*P i)%p
def WM(p:Int)(P:Vc)(t r:Nat)(B:Nat->Vc):Nat->Vc:=λk=>if k<r then clr p P t (B k)else P
def mG(t r:Nat)(l:RZ):Nat->Nat:=λk=>if k<r then l k else t
theorem wR(z:Span p n G P)(hw:Span p n G w):Span p n G (clr p P t w):=
 (z.add hw (-(w t))).congr λi _=>by unfold clr;rw[GG];congr 1;rw[Int.neg_mul];omega
theorem Ve(z:Span p n G P)(hw:Span p n G (clr p P t w)):Span p n G w:=
 (z.add hw<|w t).congr λi _=>by unfold clr;rw[GW,GG,<- GW];congr 1;omega
theorem BInv.next(Z:Pr p)(h:BInv p n m W t r B l Wt)(ht:t<n)(a5:j0<m)(hy:Wt j0 t*y%p=1)(S : ∀i,i<n->P i=y*Wt j0 i%p) :
 BInv p n m W (t+1) (r+1) (WM p P t r B) (mG t r l) (λj=>clr p P t<|Wt j):=by
 have p0:=Z.pos;have one:=Z.one;have Pt:P t=1:=by rw[S t ht,HF];exact hy
 have Pz : ∀i,i<t->P i=0:=λi hi=>by rw[S i ⋯,h.zer j0 i a5 hi];simp
 have ad : ∀i,i<n->0<=P i/\P i<p:=λi hi=>by rw[S i hi];exact⟨GU _ ⋯,GH _ p0⟩
 have cr : ∀(w:Vc) i,0<=clr p P t w i/\clr p P t w i<p:=λw i=>⟨GU _ ⋯,GH _ p0⟩;have U : ∀(w:Vc) i,i<t->0<=w i->w i<p->clr p P t w i=w i:=λw i hi h1 h2=>by unfold clr;rw[Pz i hi,MC,Int.sub_zero];exact Iz h1 h2
 have ct : ∀w:Vc,clr p P t w t=0:=λw=>by unfold clr;rw[Pt,NH,Int.sub_self];simp
 refine⟨λj i O hi=>cr _ _,λj i O hi=>?_,⟨λk I=>?_,λk q al hq=>?_,λk I=>?_,λk j I O=>?_,λk q I hq an=>?_,λk i I hi=>?_⟩,λk I=>?_,λv=>?_⟩
 ·rcases GB i t with q | q
  ·have e:=h.zer j i O q
   rw[U _ i q ⋯ ⋯];exact e
  ·have:i=t:=by omega
   subst this;exact ct _
 ·unfold mG;split
  ·rename_i q;exact h.isb.lt k q
  ·exact ht
 ·unfold mG
  have I:k<r:=by omega
  rw[RY I];split
  ·rename_i z;exact h.isb.mono k q al z
  ·exact h.lt k I
 ·unfold mG WM;split
  ·rename_i q
   have e:=h.isb.one k q;have Y:=h.lt k q;rw[U _ _ Y ⋯ (by have:=Z.two;omega)];exact e
  ·exact Pt
 ·unfold WM;unfold mG at O;split at O
  ·rename_i q
   have e:=h.isb.bef k j q O;have Y:=h.lt k q;rw[RY q,U _ _ ⋯ ⋯ ⋯];exact e
  ·rename_i q
   rw[EQ q];exact Pz j O
 ·unfold WM mG
  by_cases z1:k<r
  ·rw[RY z1]
   by_cases z2:q<r
   ·rw[RY z2]
    have e:=h.isb.oth k q z1 z2 an;have Y:=h.lt q z2;rw[U _ _ Y ⋯ ⋯];exact e
   ·rw[EQ z2];exact ct _
  ·rw[EQ z1]
   have z2:q<r:=by omega
   rw[RY z2];exact Pz _<|h.lt q z2
 ·unfold WM;split
  ·exact cr _ _
  ·exact ad i hi
 ·unfold mG;split
  ·rename_i q;exact HD<|h.lt k q
  ·exact Ic _
 ·rw[<- h.span v]
  have a1:Span p n (Un r B m Wt) P:=((Span.gen (p:=p) (n:=n) (G:=Un r B m Wt) (g:=Wt j0)<|.inr ⟨j0,a5,rfl⟩).smul y).congr λi hi=>by rw[S i hi,GG]
  have a9:Span p n (Un (r+1) (WM p P t r B) m λj=>clr p P t<|Wt j) P:= .gen (.inl ⟨r,Ic r,by unfold WM;rw[EQ (Hn r)]⟩);constructor
  ·refine λhv=>hv.le λg hg=>?_
   rcases hg with⟨k,I,rfl⟩ | ⟨j,O,rfl⟩
   ·unfold WM;split
    ·rename_i q;exact wR a1<|.gen<|.inl ⟨k,q,rfl⟩
    ·exact a1
   ·exact wR a1<|.gen<|.inr ⟨j,O,rfl⟩
  ·refine λhv=>hv.le λg hg=>?_
   rcases hg with⟨k,I,rfl⟩ | ⟨j,O,rfl⟩
   ·refine Ve (t:=t) a9 (.gen<|.inl ⟨k,HD I,?_⟩)
    unfold WM;rw[RY I]
   ·exact Ve (t:=t) a9<|.gen<|.inr ⟨j,O,rfl⟩
theorem BInv.done(h:BInv p n m W n r B l Wt)(v:Vc):Span p n (Fam r B) v↔Span p n (Fam m W) v:=by
 rw[<- h.span v];constructor
 ·exact λI=>I.le λg z=> .gen (.inl z)
 ·refine λI=>I.le λg z=>?_
  rcases z with z | ⟨j,O,rfl⟩
  ·exact .gen z
  ·exact .zero λi hi=>by rw[h.zer j i O hi];simp
theorem dN(I:True)(P:Vc):zM (r+1) n (WM p P t r B)=zM r n (λk=>clr p P t<|B k)++[.tup (zE n P)]:=by
 unfold zM;rw[IB,Hk];congr 1
 ·apply GI
  intro k z;have:=Gc.mp z;simp[WM,this]
 ·simp[WM]
end
theorem qa{p:Int}(Y:Pr p){n m:Nat}(hn:n<=100)(hm:m<=lim)(kk:Sk)(W:Nat->Vc) :
 ∃r B l,qk [.int p,.int n,dsq kk (zM m n W)]=some (.own<|zM r n B)/\IsB p n r B l/\∀v,Span p n (Fam r B) v↔Span p n (Fam m W) v:=by
 have hl:=jz;have Z:n<=lim:=by omega
 have p0:=Y.pos;have key:=ZO (T:= .nm 5) (F:=wU)
  (λt γ=>∃r B l Wt c5 c6 c7 c8,γ=[.val (.int p),.val<|.int n,.val<|dsq kk<|zM m n W,.val<|.lst<|zM m n Wt,.own<|zM r n B,c5,c6,c7,c8]/\BInv p n m W t r B l Wt)
  ((Ga n).map λ(i:Nat)=>D.int i) 0 [.val (.int p),.val<|.int n,.val<|dsq kk<|zM m n W,.val<|.lst<|zM m n λj i=>W j i%p,.own [],.no,.no,.no,.no]
  ⟨0,λ_ _=>0,λ_=>0,λj i=>W j i%p,.no,.no,.no,.no,rfl,λj i _ _=>⟨GU _ ⋯,GH _ p0⟩,λj i _ hi=>absurd hi<|GP _,
   ⟨λk I=>absurd I<|GP _,λk q _ I=>absurd I<|GP _,λk I=>absurd I<|GP _,λk j I=>absurd I<|GP _,λk q I=>absurd I<|GP _,λk i I=>absurd I<|GP _⟩,
   λk I=>absurd I<|GP _,λv=>⟨λhv=>hv.le λg hg=>by
    rcases hg with⟨k,I,_⟩ | ⟨j,S,rfl⟩
    ·exact absurd I<|GP _
    ·exact(Span.gen (p:=p) (n:=n) (G:=Fam m W) (g:=W j) ⟨j,S,rfl⟩).congr λi _=>GG _ _,λhv=>hv.le λg hg=>by
    obtain⟨j,S,rfl⟩:=hg;exact(Span.gen (p:=p) (n:=n) (G:=Un 0 (λ_ _=>0) m λj i=>W j i%p) (g:=λi=>W j i%p)<|.inr ⟨j,S,rfl⟩).congr λi _=>(GG _ _).symm⟩⟩ (by
   rintro t d γ hd ⟨r,B,l,Wt,c5,c6,c7,c8,rfl,O⟩;rw[HW]at O ⊢;have U:t<n:=by have:=(Gq.mp hd).1;simpa using this
   have a7:d = .int t:=by simp[U]at hd;exact hd.symm
   subst a7;have a0:zL (.nm 0) (sB<|zv dNe (sIx (zh 0)<|zc 1)<|zq<|.int 0) (zc 0) [Cell.no,Cell.val (.int t)] (zM m n Wt)=some (((Ga m).filter λj=> !decide (Wt j t=0)).map λj=>D.tup<|zE n<|Wt j):=by unfold zM;refine jv _ _ _ λj S=>⟨_,rfl,?_,λ_=>rfl⟩;simp[U]
   have hr:r<=t:=QW O.isb.mono O.lt;have a8:r<=lim:=by omega
   cases hf:(Ga m).filter λj=> !decide (Wt j t=0)with
   | nil=>
    have hz : ∀j,j<m->Wt j t=0:=λj S=>by apply HG;intro a4;have:j∈(Ga m).filter λj=> !decide (Wt j t=0):=GT.mpr ⟨Gc.mpr S,by simp[a4]⟩;rw[hf]at this;simp at this
    rw[hf]at a0;refine⟨_,.inr ?_,r,B,l,Wt,.val<|.int t,.val<|.lst [],c7,c8,rfl,O.skip hz⟩;simp only[vk,Gk,HQ,HP,wU];rw[jI];simp[jI,zW,xJ,Ge,a0,hm]
   | cons z xH=>
    have a5:z∈(Ga m).filter λj=> !decide (Wt j t=0):=by rw[hf];exact Gu
    have a6:z<m:=Gc.mp (GT.mp a5).1;have a4:Wt z t≠0:=by simpa using (GT.mp a5).2
    have ac:=O.rng z t a6 U;obtain⟨y,ey,y1,y2,yy⟩:=K6 Y (x:=Wt z t) ⋯ ac.2;rw[hf]at a0;have nx:=O.next Y U a6 yy (P:=λi=>y*Wt z i%p) λi _=>rfl;refine⟨_,.inl ?_,r+1,WM p (λi=>y*Wt z i%p) t r B,mG t r l,λj=>clr p (λi=>y*Wt z i%p) t<|Wt j,.val<|.int t,.val<|.lst<|(z::xH).map λj=>D.tup<|zE n<|Wt j,.val<|.int y,.val<|.tup<|zE n λi=>y*Wt z i%p,rfl,nx⟩;have bf:=Y.le;have cy : ∀x,wy y x=true:=λx=>kW _ _ ⋯ ⋯;have an:zL (.nm 0) z6 (zv qm (zc 1)<|zc 0) [Cell.no,Cell.val (.int y)] (zE n<|Wt z)=some (zE n λi=>y*Wt z i):=by rw[je,je];refine zo _ _ λi hi=>zu rfl rfl ?_;simp[cy]
    have ap:zL (.nm 0) z6 (zG qj<|zb (zc 1)<|zb (zc 0)<|zb (zc 3)<|zb (zc 2) zF) [Cell.no,Cell.val<|.int p,Cell.val<|.int t,Cell.val (.tup<|zE n λi=>y*Wt z i%p)] (zM m n Wt)=some (zM m n λj=>clr p (λi=>y*Wt z i%p) t<|Wt j):=by unfold zM;refine zo _ _ λj S=>zu rfl rfl ?_;simp[wA Y Z U (Wt j) (λi=>y*Wt z i%p) λi hi=>O.rng j i (Gc.mp S) hi];rfl
    have ar:zL (.nm 0) z6 (zG qj<|zb (zc 1)<|zb (zc 0)<|zb (zc 3)<|zb (zc 2) zF) [Cell.no,Cell.val<|.int p,Cell.val<|.int t,Cell.val (.tup<|zE n λi=>y*Wt z i%p)] (zM r n B)=some (zM r n λj=>clr p (λi=>y*Wt z i%p) t<|B j):=by unfold zM;refine zo _ _ λj S=>zu rfl rfl ?_;simp[wA Y Z U (B j) (λi=>y*Wt z i%p) λi hi=>O.isb.rng j i (Gc.mp S) hi];rfl
    have as:r+1<=lim:=by omega
    rw[dN trivial];simp only[vk,Gk,HQ,HP,wU];rw[jI];simp[jI,zW,xJ,Ge,a0,hm,Z,U,ey,an,Jf _ p0 Z,ap,ar,a8,as])
 obtain⟨γ',e1,r,B,l,Wt,c5,c6,c7,c8,rfl,O⟩:=key;simp only[Gw,HX,HW]at O;refine⟨r,B,l,?_,O.isb,O.done⟩;have ax:zL (.nm 0) z6 (zG xf<|zb (zc 1)<|zb (zc 0) zF) [Cell.no,Cell.val (.int p)] (zM m n W)=some (zM m n λj i=>W j i%p):=by unfold zM;refine zo _ _ λj S=>zu rfl rfl ?_;simp[fu _ p0 Z]
 have e0:qk [.int p,.int n,dsq kk (zM m n W)]=js 9 (zI (jk 3<|jR<|zH (zJ<|zh 2) (.nm 0) 1 [0] z6 (zG xf<|zb (zc 1)<|zb (zc 0) zF))<|zI (kx 4<|kf zF)<|zI (yJ (zU<|zc 1) (.nm 5) wU)<|Zm 4) [.int p,.int n,dsq kk (zM m n W)]:=rfl;rw[e0];simp[js,z9,jI,hm,zW,xJ,Ge,ax,Z,jL];rw[je n λi=>(i:Int),e1];simp
def ZL{α:Type}(q:Nat)(x:α)(f:Nat->α):Nat->α:=λk=>if k<q then f k else if k=q then x else f (k - 1)
def wF(l:RZ)(r x:Nat):Nat:=((Ga r).filter λk=>decide<|l k<x).length
theorem Xq : ∀{r:Nat},(∀k m,k<m->m<r->l k<l m)->(∀k,k<r->l k≠x)->wF l r x<=r/\(∀k,k<wF l r x->l k<x)/\∀k,wF l r x<=k->k<r->x<l k
 | 0,_,_=>⟨Gh _,λk I=>absurd I (by simp[wF]),λk _ I=>absurd I<|GP _⟩
 | r+1,hm,hne=>by
  obtain⟨h1,h2,O⟩:=Xq (r:=r) (x:=x) (λk m a b=>hm k m a ⋯) λk I=>hne k ⋯;have e:wF l (r+1) x=wF l r x+if l r<x then 1 else 0:=by unfold wF;rw[IB,MB,Hv];by_cases q:l r<x<;>simp[q]
  by_cases q:l r<x
  ·rw[e,RY q]
   have S:wF l r x=r:=by
    rcases GB (wF l r x) r with z | z
    ·have U:=O (wF l r x) (Gh _) z
     have Y:=hm (wF l r x) r z<|Ic r;omega
    ·omega
   rw[S];refine⟨Gh _,λk I=>?_,λk a b=>absurd b ⋯⟩;rcases GB k r with z | z
   ·exact h2 k ⋯
   ·have:k=r:=by omega
    subst this;exact q
  ·rw[e,EQ q,Nl]
   refine⟨by omega,h2,λk a b=>?_⟩;rcases GB k r with z | z
   ·exact O k a z
   ·have:k=r:=by omega
    subst this;have:=hne k b;omega
section
variable{p:Int}{n r:Nat}{B:Nat->Vc}{l:RZ}{w:Vc}
structure RInv(p:Int)(n r:Nat)(B:Nat->Vc)(l:RZ)(w:Vc)(k:Nat)(R:Vc):Prop where
 rng : ∀i,i<n->0<=R i/\R i<p
 zer : ∀q,q<k->R (l q)=0
 eqv : ∀G,(∀k,k<r->Span p n G (B k))->(Span p n G w↔Span p n G R)
theorem RInv.next(Y:Pr p)(U:IsB p n r B l)(h:RInv p n r B l w k R)(I:k<r):RInv p n r B l w (k+1) (clr p (B k) (l k) R):=by
 have Z:=Y.pos;refine⟨λi _=>⟨GU _ ⋯,GH _ Z⟩,λq hq=>?_,λG O=>?_⟩
 ·unfold clr
  rcases GB q k with z | z
  ·rw[h.zer q z,U.oth k q I ⋯ ⋯];simp
  ·have:q=k:=by omega
   subst this;rw[U.one q I];simp
 ·rw[h.eqv G O]
  exact⟨λS=>wR (O k I) S,λS=>Ve (O k I) S⟩
theorem KC(O:q<=r)(S:k<r+1):(k=q/\ZL q x f k=x)\/∃I,I<r/\ZL q x f k=f I/\((k<q/\I=k)\/(q<k/\I+1=k)):=by
 unfold ZL;rcases Mb k q with z | z | z
 ·right;exact⟨k,by omega,by rw[RY z],.inl ⟨z,rfl⟩⟩
 ·left;subst z;exact⟨rfl,by rw[EQ (Hn _),RY rfl]⟩
 ·right;exact⟨k - 1,by omega,by rw[EQ ⋯,EQ ⋯],.inr ⟨z,by omega⟩⟩
theorem ins_at_q:ZL q x f q=x:=by unfold ZL;rw[EQ (Hn _),RY rfl]
theorem pH : ∃I,(I<q/\I=k\/q<I/\I=k+1)/\ZL q x f I=f k:=by
 rcases GB k q with z | z
 ·exact⟨k,.inl ⟨z,rfl⟩,by unfold ZL;rw[RY z]⟩
 ·exact⟨k+1,.inr ⟨by omega,rfl⟩,by unfold ZL;rw[EQ ⋯,EQ ⋯];rfl⟩
theorem pJ(hp:Pr p)(Y:IsB p n r B l)(ha:a<n)(h1:R a=1)(hz : ∀i,i<a->R i=0)(hl : ∀k,k<r->R (l k)=0)(hR : ∀i,i<n->0<=R i/\R i<p) :
 IsB p n (r+1) (ZL (wF l r a) R λk=>clr p R a<|B k) (ZL (wF l r a) a l):=by
 have p0:=hp.pos;have a9 : ∀k,k<r->l k≠a:=λk O e=>by have:=hl k O;rw[e,h1]at this;omega
 obtain⟨hq,q1,q2⟩:=Xq Y.mono a9;have cr : ∀(w:Vc) i,0<=clr p R a w i/\clr p R a w i<p:=λw i=>⟨GU _ ⋯,GH _ p0⟩;have ca : ∀w:Vc,clr p R a w a=0:=λw=>by unfold clr;rw[h1,NH,Int.sub_self];simp
 have cl : ∀(w:Vc) k,k<r->0<=w (l k)->w (l k)<p->clr p R a w (l k)=w (l k):=λw k O h1 h2=>by unfold clr;rw[hl k O,MC,Int.sub_zero];exact Iz h1 h2
 have cb : ∀k j,k<r->j<l k->clr p R a (B k) j=0:=λk j O hj=>by
  unfold clr;rw[Y.bef k j O hj];rcases GB a (l k)with z | z
  ·rw[Y.bef k a O z];simp
  ·rw[hz j ⋯];simp
 have two:=hp.two;have U : ∀k,k<r+1->(k=wF l r a/\ZL (wF l r a) R (λk=>clr p R a<|B k) k=R/\ZL (wF l r a) a l k=a)\/
  ∃I,I<r/\ZL (wF l r a) R (λk=>clr p R a<|B k) k=clr p R a (B I)/\ZL (wF l r a) a l k=l I/\((k<wF l r a/\I=k)\/(wF l r a<k/\I+1=k)):=by
  intro k O;rcases KC (x:=R) (f:=λk=>clr p R a<|B k) hq O with⟨e1,e2⟩ | ⟨I,S,e1,e2⟩
  ·left;refine⟨e1,e2,?_⟩;subst e1;exact ins_at_q
  ·right
   refine⟨I,S,e1,?_,e2⟩;rcases e2 with⟨z1,z2⟩ | ⟨z1,z2⟩
   ·unfold ZL;rw[RY z1,z2]
   ·unfold ZL;rw[EQ ⋯,EQ ⋯];congr 1;omega
 refine⟨λk O=>?_,λk m ap hm=>?_,λk O=>?_,λk j O hj=>?_,λk m O hm ar=>?_,λk i O hi=>?_⟩
 ·rcases U k O with⟨_,_,e⟩ | ⟨I,S,_,e,_⟩
  ·rw[e];exact ha
  ·rw[e];exact Y.lt I S
 ·rcases U k ⋯with⟨z,_,e⟩ | ⟨I,S,_,e,z⟩<;>rcases U m hm with⟨z',_,e'⟩ | ⟨m',Z,_,e',z'⟩<;>rw[e,e']
  ·omega
  ·exact q2 m' ⋯ Z
  ·exact q1 I ⋯
  ·exact Y.mono I m' ⋯ Z
 ·rcases U k O with⟨_,e1,e⟩ | ⟨I,S,e1,e,_⟩<;>rw[e1,e]
  ·exact h1
  ·have o:=Y.one I S
   rw[cl _ I S ⋯ ⋯];exact o
 ·rcases U k O with⟨_,e1,e⟩ | ⟨I,S,e1,e,_⟩<;>rw[e1]<;>rw[e]at hj
  ·exact hz j hj
  ·exact cb I j S hj
 ·rcases U k O with⟨z,e1,_⟩ | ⟨I,S,e1,_,z⟩<;>rcases U m hm with⟨z',_,e'⟩ | ⟨m',Z,_,e',z'⟩<;>rw[e1,e']
  ·omega
  ·exact hl m' Z
  ·exact ca _
  ·have o:=Y.oth I m' S Z ⋯
   rw[cl _ m' Z ⋯ ⋯];exact o
 ·rcases U k O with⟨_,e1,_⟩ | ⟨I,S,e1,_,_⟩<;>rw[e1]
  ·exact hR i hi
  ·exact cr _ _
theorem pK(z:q<=r)(I:Span p n G R)(O : ∀k,k<r->Span p n G (F k)) : ∀g,Fam (r+1) (ZL q R F) g->Span p n G g:=by
 rintro g ⟨k,S,rfl⟩;rcases KC (x:=R) (f:=F) z S with⟨_,e⟩ | ⟨U,Y,e,_⟩<;>rw[e]
 ·exact I
 ·exact O U Y
theorem px(I:q<=r):Fam (r+1) (ZL q R F) R/\∀k,k<r->Fam (r+1) (ZL q R F) (F k):=by refine⟨⟨q,by omega,ins_at_q.symm⟩,λk O=>?_⟩;obtain⟨z,h,e⟩:=pH (q:=q) (x:=R) (f:=F) (k:=k);exact⟨z,by omega,e.symm⟩
theorem iN(hp:Pr p)(hb:IsB p n r B l)(ha:a<n)(S : ∀v,Span p n (Fam r B) v↔Span p n (Fam j W) v)(U:RInv p n r B l (W j) r R)(hy:y*R a%p=1)(Y : ∀i,i<n->R' i=y*R i%p)(Z:wF l r a<=r)(v:Vc) :
 Span p n (Fam (r+1)<|ZL (wF l r a) R' λk=>clr p R' a<|B k) v↔Span p n (Fam (j+1) W) v:=by
 have up : ∀v,Span p n (Fam j W) v->Span p n (Fam (j+1) W) v:=λv O=>O.le λg ⟨i,hi,e⟩=> .gen ⟨i,by omega,e⟩;have a0 : ∀k,k<r->Span p n (Fam (j+1) W) (B k):=λk I=>up _<|(S _).mp (.gen ⟨k,I,rfl⟩);have a6:Span p n (Fam (j+1) W) R:=(U.eqv _ a0).mp (.gen ⟨j,by omega,rfl⟩);have a1:Span p n (Fam (j+1) W) R':=(a6.smul y).congr λi hi=>by rw[Y i hi,GG]
 obtain⟨m1,m2⟩:=px (R:=R') (F:=λk=>clr p R' a<|B k) Z;have a2:Span p n (Fam (r+1)<|ZL (wF l r a) R' λk=>clr p R' a<|B k) R':= .gen m1;have gB : ∀k,k<r->Span p n (Fam (r+1)<|ZL (wF l r a) R' λk=>clr p R' a<|B k) (B k):=λk I=>Ve (t:=a) a2<|.gen<|m2 k I;have gR:Span p n (Fam (r+1)<|ZL (wF l r a) R' λk=>clr p R' a<|B k) R:=(a2.smul<|R a).congr λi hi=>by rw[Y i hi,Kq,<- HB,HF (R a) y,Gi,hy,Ln,GG]
 constructor
 ·exact λO=>O.le<|pK Z a1 λk I=>wR a1<|a0 k I
 ·refine λO=>O.le ?_
  rintro g ⟨i,hi,rfl⟩;rcases GB i j with z | z
  ·exact((S _).mpr (.gen ⟨i,z,rfl⟩)).le λg hZ=>by obtain⟨k,I,e⟩:=hZ;rw[e];exact gB k I
  ·have:i=j:=by omega
   subst this;exact(U.eqv _ gB).mpr gR
theorem aV(O : ∀v,Span p n (Fam r B) v↔Span p n (Fam j W) v)(S:RInv p n r B l (W j) r R)(U : ∀i,i<n->R i=0)(v:Vc):Span p n (Fam r B) v↔Span p n (Fam (j+1) W) v:=by
 constructor
 ·exact λI=>((O v).mp I).le λg ⟨i,hi,e⟩=> .gen ⟨i,by omega,e⟩
 ·refine λI=>I.le ?_
  rintro g ⟨i,hi,rfl⟩;rcases GB i j with z | z
  ·exact(O _).mpr (.gen ⟨i,z,rfl⟩)
  ·have:i=j:=by omega
   subst this;exact(S.eqv _ λk Y=> .gen ⟨k,Y,rfl⟩).mpr (.zero λi hi=>by rw[U i hi];simp)
end
theorem dQ(h w f):deep (.lst<|zM h w f)<=2:=lq h w f
theorem ig(h w f):okS (.lst<|zM h w f)=true:=pj h w f
theorem VB(h w f):okD (.lst<|zM h w f)=true:=mF (dQ h w f) ⋯<|ig h w f
@[simp] theorem se(h w f):(dO h w f).length=h:=by simp[dO]
section
variable{p:Int}{n m r:Nat}{G:Vc->Prop}
theorem Span.sum{u:Nat->Vc}(c:Nat->Int) : ∀{m:Nat},(∀k,k<m->Span p n G (u k))->Span p n G λi=>sumTo (λk=>c k*u k i) m
 | 0,_=> .zero λi _=>by simp[sumTo]
 | m+1,h=>(((h m ⋯).add (Span.sum c (m:=m) λk z=>h k ⋯) (c m))).congr λi _=>by simp[sumTo]
def Rk(p:Int)(n m:Nat)(W:Nat->Vc)(r:Nat):Prop:=∃B l,IsB p n r B l/\∀v,Span p n (Fam r B) v↔Span p n (Fam m W) v
theorem yF(S:Pr p)(h:Rk p n m W r)(h':Rk p n m W r'):r=r':=by obtain⟨B,l,U,I⟩:=h;obtain⟨B',l',Y,O⟩:=h';exact(ZY S U Y (λv z=>(O v).mpr ((I v).mp z))<|λv z=>(I v).mpr ((O v).mp z)).1
theorem Vn(z:Pr p)(I:IsB p n r B l)(hw : ∀i,i<n->0<=w i/\w i<p) : ∀k,k<=r->∃R,RInv p n r B l w k R
 | 0,_=>⟨w,hw,λq O=>absurd O<|GP _,λG _=>Iff.rfl⟩
 | k+1,h=>by obtain⟨R,S⟩:=Vn z I hw k ⋯;exact⟨_,S.next z I ⋯⟩
theorem VW : ∀(n:Nat) (R:Vc),(∀i,i<n->R i=0)\/∃a,a<n/\R a≠0/\∀i,i<a->R i=0
 | 0,R=> .inl λi hi=>absurd hi<|GP _
 | n+1,R=>by
  rcases VW n R with h | ⟨a,h1,h2,I⟩
  ·by_cases e:R n=0
   ·exact .inl λi hi=>by rcases GB i n with z | z;exact h i z;rw[show i=n by omega];exact e
   ·exact .inr ⟨n,by omega,e,h⟩
  ·exact .inr ⟨a,by omega,h2,I⟩
theorem me(I:Pr p)(W:Nat->Vc)(Y : ∀j i,0<=W j i/\W j i<p) : ∀m,∃r,r<=m/\Rk p n m W r
 | 0=>⟨0,Gh _,λ_ _=>0,λ_=>0,⟨λk z=>absurd z<|GP _,λk q _ z=>absurd z<|GP _,λk z=>absurd z<|GP _,λk j z=>absurd z<|GP _,λk q z=>absurd z<|GP _,λk i z=>absurd z<|GP _⟩,
  λv=>⟨λU=>U.le λg ⟨k,z,_⟩=>absurd z<|GP _,λU=>U.le λg ⟨k,z,_⟩=>absurd z<|GP _⟩⟩
 | m+1=>by
  obtain⟨r,hr,B,l,O,Z⟩:=me I W Y m;have p0:=I.pos;obtain⟨R,S⟩:=Vn I O (w:=W m) (λi _=>Y m i) r<|Gh _;rcases VW n R with h0 | ⟨a,ha,a3,a4⟩
  ·exact⟨r,by omega,B,l,O,aV Z S h0⟩
  ·have a5:=S.rng a ha
   obtain⟨y,_,_,hy⟩:=mN I (x:=R a) ⋯ a5.2;have a6 : ∀k,k<r->l k≠a:=λk z e=>by have:=S.zer k z;rw[e]at this;exact a3 this
   exact⟨r+1,by omega,_,_,pJ I O (R:=λi=>(y:Int)*R i%p) ha hy (λi hi=>by rw[a4 i hi];simp) (λk z=>by rw[S.zer k z];simp) λi _=>⟨GU _ ⋯,GH _ p0⟩,
    iN I (R':=λi=>(y:Int)*R i%p) O ha Z S hy (λi _=>rfl) (Xq O.mono a6).1⟩
theorem br(z:Pr p)(m:Nat)(W:Nat->Vc) : ∃r,r<=m/\Rk p n m W r:=by
 obtain⟨r,O,B,l,S,U⟩:=me (n:=n) z (λj i=>W j i%p) (λj i=>⟨GU _ (by have:=z.pos;omega),GH _ z.pos⟩) m;refine⟨r,O,B,l,S,λv=>(U v).trans ⟨λh=>h.le λg ⟨k,I,e⟩=>?_,λh=>h.le λg ⟨k,I,e⟩=>?_⟩⟩
 ·subst e;exact(Span.gen (g:=W k) ⟨k,I,rfl⟩).congr λi _=>by rw[GG]
 ·subst e;exact(Span.gen (g:=λi=>W k i%p) ⟨k,I,rfl⟩).congr λi _=>by rw[GG]
theorem bt(z:Pr p)(_:n<=100)(_:m<=8)(W:Nat->Vc) : ∃r,r<=m/\Rk p n m W r:=br z m W
theorem tE(hp:Pr p)(h:Rk p n m W r)(h':Rk p n m' W' r')(hw : ∀j,j<m->Span p n (Fam m' W') (W j)):r<=r':=by
 obtain⟨B,l,S,hs⟩:=h;obtain⟨B',l',U,a2⟩:=h';have s1 : ∀k,k<r->∃q,q<r'/\l' q=l k:=λk I=>Yz U ((a2 _).mpr (((hs _).mp (.gen ⟨k,I,rfl⟩)).le λg ⟨j,hj,e⟩=>e ▸ hw j hj)) (S.lt k I) (by rw[S.one k I,hp.one];decide) λi hi=>by rw[S.bef k i I hi];simp
 have key : ∀k,k<r->∀q,q<r'->l' q=l k->k<=q:=by
  intro k
  induction k with
  | zero=>intro _ q _ _;exact HN _
  | succ k ih=>
   intro I q Y e;obtain⟨O,Z,e0⟩:=s1 k ⋯;have h1:=ih ⋯ O Z e0;have h2:=S.mono k (k+1) ⋯ I;rcases GB O q with z | z
   ·omega
   ·rcases GB q O with y | y
    ·have:=U.mono q O y Z
     omega
    ·have:q=O:=by omega
     subst this;omega
 rcases Nat.eq_zero_or_pos r with z | z
 ·omega
 ·obtain⟨q,Y,e⟩:=s1 (r - 1) ⋯
  have:=key (r - 1) ⋯ q Y e;omega
end
section
variable{p:Int}{n m r h w:Nat}
theorem yi{l:RZ}(h:Nat) : ∀{r:Nat},(∀k m,k<m->m<r->l k<l m)->∃s,s<=r/\(∀k,k<s->l k<h)/\∀k,s<=k->k<r->h<=l k
 | 0,_=>⟨0,Gh _,λk I=>absurd I<|GP _,λk _ I=>absurd I<|GP _⟩
 | r+1,hm=>by
  obtain⟨s,h1,h2,O⟩:=yi h (r:=r) λk m I S=>hm k m I ⋯;by_cases e:l r<h
  ·refine⟨r+1,Gh _,λk I=>?_,λk h1 h2=>by omega⟩
   rcases GB k r with z | z
   ·have:=hm k r z ⋯;omega
   ·have:k=r:=by omega
    subst this;exact e
  ·refine⟨s,by omega,h2,λk I U=>?_⟩
   rcases GB k r with z | z
   ·exact O k I z
   ·have:k=r:=by omega
    subst this;omega
theorem YG(O:s<=r)(h1 : ∀k,k<s->q k=false)(h2 : ∀k,s<=k->k<r->q k=true):(Ga r).filter q=(Ga<|r - s).map (s + ·):=by
 obtain⟨d,rfl⟩ : ∃d,r=s+d:=⟨r - s,by omega⟩;rw[Mc,MB];have e1:(Ga s).filter q=[]:=List.filter_eq_nil_iff.mpr λk z=>by rw[h1 k (Gc.mp z)];decide
 have I:((Ga d).map (s + ·)).filter q=(Ga d).map (s + ·):=List.filter_eq_self.mpr λk z=>by obtain⟨i,hi,rfl⟩:=GO.mp z;exact h2 _ ⋯ (by have:=Gc.mp hi;omega)
 rw[e1,I,Hf];rfl
def j5(h:Nat)(u v:Vc):Vc:=λi=>if i<h then u i else v (i - h)
def jq(j:Nat):Vc:=λk=>if j=k then 1 else 0
theorem zT(hi:i<h):j5 h u v i=u i:=RY hi
theorem ja(i:Nat):j5 h u v (h+i)=v i:=by unfold j5;rw[EQ ⋯,Hf]
theorem xR(h w:Nat)(u v:Vc):zE h u++zE w v=zE (h+w) (j5 h u v):=by
 unfold zE;rw[Mc,Hk];congr 1
 ·exact GI λi hi=>by rw[zT (Gc.mp hi)]
 ·rw[Hm]
  exact GI λi _=>by simp only[Function.comp];rw[ja]
theorem dG(h w:Nat)(v:Vc):(zE (h+w) v).take h=zE h v:=by unfold zE;rw[<- List.map_take,List.take_range,Nat.min_eq_left (Hr h w)]
theorem dJ(h w:Nat)(v:Vc):(zE (h+w) v).drop h=zE w λj=>v (h+j):=by unfold zE;rw[Mc,Hk,List.drop_append_of_le_length ⋯,List.drop_eq_nil_of_le ⋯,Hm];rfl
theorem Xp(h w:Nat)(v:Vc):V2 (zE (h+w) v) none (some (h:Int))=zE h v:=by
 have c : ¬((h:Int)<0):=by omega
 have e:min h (h+w)=h:=Nat.min_eq_left<|Hr h w;simp[V2,YN,c,e,dG]
theorem Xo(h w:Nat)(v:Vc):V2 (zE (h+w) v) (some (h:Int)) none=zE w λj=>v (h+j):=by
 have c : ¬((h:Int)<0):=by omega
 have e:min h (h+w)=h:=Nat.min_eq_left<|Hr h w;have t : ∀g:Vc,(zE w g).take w=zE w g:=λg=>Ip ⋯;simp[V2,YN,c,e,dJ,t]
theorem Vf(v:Vc) : ∀n,w5 (zE n v)=some ((Ga n).map λi=>v i != 0)
 | 0=>rfl
 | n+1=>by
  have key : ∀l:List Nat,w5 (l.map λi=>D.int<|v i)=some (l.map λi=>v i != 0):=by
   intro l
   induction l with
   | nil=>rfl
   | cons a l z=>simp[w5,BQ,z]
  exact key _
theorem kO(I:IsB p (h+w) r B l)(O:r<=lim)(S:s<=r)(h1 : ∀k,k<s->l k<h)(h2 : ∀k,s<=k->k<r->h<=l k) :
 jK [.int h,.lst (zM r (h+w) B)]=some (.own<|zM (r - s) w λk j=>B (s+k)<|h+j):=by
 have key:zL (.nm 0) (ke<|sB<|om<|zO<|K8 (zc 0) Vj<|sBd<|zc 1) (K8 (zc 0) (sBd<|zc 1) Vj) [Cell.no,Cell.val (.int h)] (zM r (h+w) B)=some (((Ga r).filter λk=>decide<|h<=l k).map λk=>D.tup<|zE w λj=>B k<|h+j):=by
  unfold zM;refine jv (λk=>decide<|h<=l k) _ _ λk z=>⟨_,rfl,?_,λU=>?_⟩
  ·have z:=Gc.mp z
   simp[Xp,Vf];by_cases e:h<=l k
   ·simp[e]
    intro i hi;have:=I.bef k i z ⋯;simp[this]
   ·simp[e]
    exact⟨l k,by omega,by rw[I.one k z];decide⟩
  ·simp[Xo]
 rw[YG S (λk z=>decide_eq_false (by have:=h1 k z;omega)) (λk a b=>decide_eq_true<|h2 k a b)]at key;simp[jK,js,z9,O,zW,xJ,Ge,key];unfold zM;rfl
def Ker(p:Int)(h w:Nat)(f:RK)(v:Vc):Prop:=∀i,i<h->sumTo (λj=>f i j*v j) w%p=0
theorem hU{f:RK}{v:Vc}(O:Span p (h+w) (Fam w λj=>j5 h (λi=>f i j)<|jq j) v) : ∀i,i<h->v i%p=sumTo (λj=>f i j*v (h+j)) w%p:=by
 induction O with
 | @zero v z=>
  intro i hi;rw[z i ⋯];have:sumTo (λj=>f i j*v (h+j)) w%p=sumTo (λ_=>0) w%p:=zK λj S=>by rw[Gi,z (h+j) ⋯];simp
  rw[this,zN];rfl
 | @step v u g c U hu I Y=>
  intro i hi;obtain⟨m,hm,rfl⟩:=U;rw[I i ⋯,GW,Y i hi,<- GW];have e1:sumTo (λj=>f i j*v (h+j)) w%p=sumTo (λj=>f i j*u (h+j)+c*(f i j*jq m j)) w%p:=zK λj S=>by rw[Gi,I (h+j) ⋯,<- Gi];simp only[ja];rw[LG,IJ]
  rw[e1,jx,jo,zQ (f:=λj=>f i j*jq m j) hm λj _ Z=>by simp[jq,GN Z]];simp[jq,zT hi]
theorem Vd(I:Pr p)(w:Nat):IsB p w w jq id where
 lt:=λk z=>z
 mono:=λk m z _=>z
 one:=λk _=>RY rfl
 bef:=λk j _ O=>EQ (by simp only[id]at O;omega)
 oth:=λk m _ _ S=>EQ (by simp only[id];omega)
 rng:=λk i _ _=>by have:=I.two;unfold jq;split<;>omega
theorem Span.map(t:RZ)(z : ∀i,i<n'->t i<n)(I : ∀g,G g->Span p n' G' λi=>g<|t i)(O:Span p n G v):Span p n' G' λi=>v (t i):=by
 induction O with
 | @zero v S=>exact .zero λi hi=>S _<|z i hi
 | @step v u g c U hu Y Z=>exact((I _ U).add Z c).congr λi hi=>Y _<|z i hi
theorem kN(Z:Pr p)(hh:h<=20)(hw:w<=8)(f:RK) :
 ∃q K l s,yv [.int p,jj h w f]=some (.own<|zM q w K)/\IsB p w q K l/\(∀v,Span p w (Fam q K) v↔Ker p h w f v)/\Rk p h w (λj i=>f i j) s/\q+s=w:=by
 have hl:=jz;have a7:h<=lim:=by omega
 have a1:w<=lim:=by omega
 have a8:h+w<=lim:=by omega
 obtain⟨r,B,l,e,O,a0⟩:=qa Z (show h+w<=100 by omega) a1 .L λj=>j5 h (λi=>f i j)<|jq j;have a9 : ∀v,Span p (h+w) (Fam r B) v->∀i,i<h->v i%p=sumTo (λj=>f i j*v (h+j)) w%p:=λv U=>hU<|(a0 v).mp U;have ac:r<=w:=by obtain⟨r',h1,h2⟩:=bt Z (n:=h+w) ⋯ hw λj=>j5 h (λi=>f i j)<|jq j;rw[yF Z ⟨B,l,O,a0⟩ h2];exact h1
 have ad:w<=r:=by obtain⟨r',h1,h2⟩:=bt Z (n:=w) ⋯ (show r<=8 by omega) λk j=>B k<|h+j;refine HE (tE Z (m:=w) (W:=jq) ⟨jq,id,Vd Z w,λv=>Iff.rfl⟩ h2 λj S=>?_) h1;have:=Span.map (n':=w) (G':=Fam r λk j=>B k<|h+j) (λi=>h+i) (λi hi=>by omega) (λg ⟨k,I,Y⟩=> .gen ⟨k,I,by rw[Y]⟩)<|(a0<|j5 h (λi=>f i j)<|jq j).mpr (.gen ⟨j,S,rfl⟩);exact this.congr λi _=>by rw[ja]
 have er:r=w:=Nat.le_antisymm ac ad;subst er;obtain⟨s,hs,s1,s2⟩:=yi h O.mono;have eb:=kO O a1 hs s1 s2;have ap:IsB p r (r - s) (λk j=>B (s+k)<|h+j) (λk=>l (s+k) - h):={
  lt:=λk I=>by have:=O.lt (s+k) ⋯;have:=s2 (s+k) ⋯ ⋯;omega
  mono:=λk m I hm=>by have:=O.mono (s+k) (s+m) ⋯ ⋯;have:=s2 (s+k) ⋯ ⋯;omega
  one:=λk I=>by have:=s2 (s+k) ⋯ ⋯;rw[show h+(l (s+k) - h)=l (s+k)by omega];exact O.one _ ⋯
  bef:=λk j I S=>O.bef _ _ ⋯ ⋯
  oth:=λk m I hm a2=>by have:=s2 (s+m) ⋯ ⋯;rw[show h+(l (s+m) - h)=l (s+m)by omega];exact O.oth _ _ ⋯ ⋯ ⋯
  rng:=λk i I hi=>O.rng _ _ ⋯ ⋯}
 refine⟨r - s,_,_,s,?_,ap,λv=>⟨λU=>?_,λU=>?_⟩,?_,by omega⟩
 ·have ov:=vz f a7 a1
  have sm:=ku (n:=r) a1;have key:zL (.tp [0,1]) z6 (zv ju (zc 0)<|zc 1) [Cell.no,Cell.no] ((Ga r).map λj=>D.tup [.tup (zE h λi=>f i j),.tup (zE r λk=>if j=k then 1 else 0)])=some (zM r (h+r) λj=>j5 h (λi=>f i j)<|jq j):=by unfold zM;refine zo _ _ λj S=>zu rfl rfl ?_;simp[ju,a8,xR];rfl
  have zp:wY (zM r h λi j=>f j i) (zM r r λi j=>if i=j then 1 else 0)=(Ga r).map λj=>D.tup [.tup (zE h λi=>f i j),.tup (zE r λk=>if j=k then 1 else 0)]:=by unfold wY zM;rw[LL];simp
  have c1:((h:Int)+(r:Int))=((h+r:Nat):Int):=by omega
  simp only[dsq]at e;rw[<- c1]at e;unfold jj at ov sm ⊢;have nl : ∀T t f γ,zL T t f γ []=some []:=λ_ _ _ _=>rfl;simp[yv,F_led_into,js,z9,jI,ov,sm,zp,a1,zW,Ge,key,nl,e,eb]
 ·intro i hi
  induction U with
  | @zero v hz=>
   have:sumTo (λj=>f i j*v j) r%p=sumTo (λ_=>0) r%p:=zK λj S=>by rw[Gi,hz j S];simp
   rw[this,zN];rfl
  | @step v u g c hg hu he ih=>
   obtain⟨k,I,rfl⟩:=hg;have e1:sumTo (λj=>f i j*v j) r%p=sumTo (λj=>f i j*u j+c*(f i j*B (s+k) (h+j))) r%p:=zK λj S=>by rw[Gi,he j S,<- Gi,LG,IJ]
   have e2:=a9 (B<|s+k) (.gen ⟨s+k,by omega,rfl⟩) i hi;have e3:B (s+k) i=0:=O.bef _ _ ⋯ (by have:=s2 (s+k) ⋯ ⋯;omega);rw[e3]at e2;rw[e1,jx,jo,GW,ih,Gi,<- e2];simp
 ·
  have be:Span p (h+r) (Fam r B) (j5 h (λ_=>0) v):=by
   refine(a0 _).mpr ((Span.sum (u:=λj=>j5 h (λi=>f i j)<|jq j) v (m:=r) λj S=> .gen ⟨j,S,rfl⟩).congr λi hi=>?_);rcases GB i h with z | z
   ·simp only[zT z]
    rw[zy (g:=λj=>f i j*v j) λj _=>HF _ _,U i z];simp
   ·obtain⟨k,rfl⟩ : ∃k,i=h+k:=⟨i - h,by omega⟩
    simp only[ja];rw[zQ (f:=λj=>v j*jq j k) (i:=k) ⋯ λj _ a2=>by simp[jq,a2]];simp[jq]
  have co:=v9 O be;refine(Span.sum (u:=λk j=>B (s+k)<|h+j) (λk=>j5 h (λ_=>0) v<|l<|s+k) (m:=r - s) λk I=> .gen ⟨k,I,rfl⟩).congr λj S=>?_;have:=co (h+j) ⋯;rw[ja]at this;rw[this];obtain⟨d,rfl⟩ : ∃d,r=s+d:=⟨r - s,by omega⟩;rw[Hf];have sp : ∀(F:Nat->Int) (d:Nat),(∀k,k<s->F k=0)->sumTo F (s+d)=sumTo (λk=>F<|s+k) d:=by
   intro F d hF
   induction d with
   | zero=>
    show sumTo F s=0;rw[zy (g:=λ_=>0) hF,zN]
   | succ d ih=>rw[<- MU];simp only[sumTo];rw[ih]
  rw[sp _ d λk I=>by rw[zT (s1 k I)];simp]
 ·
  refine⟨λk i=>B k i,l,⟨λk I=>s1 k I,λk m I hm=>O.mono k m I ⋯,λk I=>O.one k ⋯,λk j I S=>O.bef k j ⋯ S,λk m I hm a2=>O.oth k m ⋯ ⋯ a2,λk i I hi=>O.rng k i ⋯ ⋯⟩,λv=>⟨λU=>U.le λg ⟨k,I,Y⟩=>?_,λU=>U.le λg ⟨j,S,Y⟩=>?_⟩⟩
  ·subst Y
   exact Span.map (n':=h) (G':=Fam r λj i=>f i j) (λi=>i) (λi hi=>by omega) (λg ⟨j,S,Y⟩=>(Span.gen (g:=λi=>f i j) ⟨j,S,rfl⟩).congr λi hi=>by rw[Y];simp only[zT hi])<|(a0<|B k).mp (.gen ⟨k,by omega,rfl⟩)
  ·subst Y
   have:=Span.map (n':=h) (G':=Fam s λk i=>B k i) (λi=>i) (λi hi=>by omega) (λg hZ=>by
    obtain⟨k,I,Y⟩:=hZ;subst Y;rcases GB k s with z | z
    ·exact .gen ⟨k,z,rfl⟩
    ·exact .zero λi hi=>by rw[O.bef k i I (by have:=s2 k z I;omega)];simp) ((a0<|j5 h (λi=>f i j)<|jq j).mpr (.gen ⟨j,S,rfl⟩))
   exact this.congr λi hi=>by rw[zT hi]
end
section
variable{p:Int}{h w q r:Nat}
def app(f:RK)(w:Nat)(v:Vc):Vc:=λi=>sumTo (λj=>f i j*v j) w
theorem Jc(z : ∀j,j<w->v j%p=(u j+c*g j)%p)(i:Nat):app f w v i%p=(app f w u i+c*app f w g i)%p:=by
 unfold app;have e:sumTo (λj=>f i j*v j) w%p=sumTo (λj=>f i j*u j+c*(f i j*g j)) w%p:=zK λj I=>by rw[Gi,z j I,<- Gi,LG,IJ]
 rw[e,jx,jo]
theorem yq(z : ∀j,j<w->v j%p=0)(i:Nat):app f w v i%p=0:=by
 unfold app;have:sumTo (λj=>f i j*v j) w%p=sumTo (λ_=>0) w%p:=zK λj I=>by rw[Gi,z j I];simp
 rw[this,zN];rfl
theorem jF(z : ∀j,j<w->v j%p=u j%p)(i:Nat):app f w v i%p=app f w u i%p:=by unfold app;exact zK λj I=>by rw[Gi,z j I,<- Gi]
theorem Y1(hp:Pr p)(hh:h<=100)(hw:w<=lim)(hq:q<=lim)(f:RK)(hf : ∀i j,i<h->j<w->0<=f i j/\f i j<100)(K:Nat->Vc) :
 ∃r B l,F_led_on [.int p,jj h w f,.lst (zM q w K)]=some (.own<|zM r h B)/\IsB p h r B l/\∀v,Span p h (Fam r B) v ↔ ∃y,Span p w (Fam q K) y/\∀i,i<h->v i%p=app f w y i%p:=by
 have hl:=jz;obtain⟨r,B,l,e,hb,a6⟩:=qa hp hh hq .L λk i=>app f w (K k) i%p;refine⟨r,B,l,?_,hb,λv=>(a6 v).trans ⟨λz=>?_,λ⟨y,O,z⟩=>?_⟩⟩
 ·have key:zL (.nm 0) z6 (zG Y2<|zb (zc 1)<|zb (zc 2)<|zb (zc 0) zF) [Cell.no,Cell.val<|.int p,Cell.val (jj h w f)] (zM q w K)=some (zM q h λk i=>app f w (K k) i%p):=by
   unfold zM;refine zo _ _ λk I=>zu rfl rfl ?_;have:=Xz (p:=p) .T f (K k) hp.pos (show h<=lim by omega) hw hf;simp only[dsq]at this;simp[this];rfl
  simp only[dsq]at e;have sq:jG (jj h w f)=some (.T,[.int h,.int w,.tup (zM h w f)]):=rfl;simp[F_led_on,js,z9,hq,zW,xJ,Ge,key,sq,e]
 ·induction z with
  | @zero v S=>exact⟨λ_=>0,.zero λi _=>by simp,λi hi=>by rw[S i hi,yq (p:=p) (λ_ _=>by simp)]⟩
  | @step v u g c U hu Y Z=>
   obtain⟨y,O,a7⟩:=Z;obtain⟨k,I,rfl⟩:=U;refine⟨λj=>y j+c*K k j,(Span.gen (g:=K k) ⟨k,I,rfl⟩).add O c,λi hi=>?_⟩;rw[Jc (p:=p) (u:=y) (g:=K k) (c:=c) (λ_ _=>rfl) i,Y i hi,GW,a7 i hi,Gi,GG,<- Gi,<- GW]
 ·induction O generalizing v with
  | @zero y S=>exact .zero λi hi=>by rw[z i hi];exact yq S i
  | @step y u g c U hu Y Z=>
   obtain⟨k,I,rfl⟩:=U;have h1:=Z (app f w u) ⟨u,hu,λ_ _=>rfl⟩ λi hi=>rfl;refine((Span.gen (g:=λi=>app f w (K k) i%p) ⟨k,I,rfl⟩).add h1 c).congr λi hi=>?_;rw[z i hi,Jc (p:=p) Y i,GW,Gi,<- GG (app f w (K k) i),<- Gi,<- GW,GG]
theorem Jy(O:IsB p (h+w) r B l)(hs:s<=r)(s1 : ∀k,k<s->l k<h)(s2 : ∀k,s<=k->k<r->h<=l k) :
 IsB p w (r - s) (λk j=>B (s+k)<|h+j) (λk=>l (s+k) - h)/\∀v,Span p w (Fam (r - s) λk j=>B (s+k)<|h+j) v↔Span p (h+w) (Fam r B) (j5 h (λ_=>0) v):=by
 refine⟨{
  lt:=λk I=>by have:=O.lt (s+k) ⋯;have:=s2 (s+k) ⋯ ⋯;omega
  mono:=λk m I hm=>by have:=O.mono (s+k) (s+m) ⋯ ⋯;have:=s2 (s+k) ⋯ ⋯;omega
  one:=λk I=>by have:=s2 (s+k) ⋯ ⋯;rw[show h+(l (s+k) - h)=l (s+k)by omega];exact O.one _ ⋯
  bef:=λk j I Y=>O.bef _ _ ⋯ ⋯
  oth:=λk m I hm a4=>by have:=s2 (s+m) ⋯ ⋯;rw[show h+(l (s+m) - h)=l (s+m)by omega];exact O.oth _ _ ⋯ ⋯ ⋯
  rng:=λk i I hi=>O.rng _ _ ⋯ ⋯},λv=>⟨λS=>?_,λS=>?_⟩⟩
 ·induction S with
  | @zero v Z=>
   refine .zero λi hi=>?_;rcases GB i h with z | z
   ·rw[zT z];simp
   ·obtain⟨k,rfl⟩ : ∃k,i=h+k:=⟨i - h,by omega⟩
    rw[ja];exact Z k ⋯
  | @step v u g c hg hu he U=>
   obtain⟨k,I,rfl⟩:=hg;refine .step (g:=B<|s+k) (c:=c) ⟨s+k,by omega,rfl⟩ U λi hi=>?_;rcases GB i h with z | z
   ·rw[zT z,zT z,O.bef (s+k) i ⋯ (by have:=s2 (s+k) ⋯ ⋯;omega)];simp
   ·obtain⟨j,rfl⟩ : ∃k,i=h+k:=⟨i - h,by omega⟩
    rw[ja,ja];exact he j ⋯
 ·have co:=v9 O S
  refine(Span.sum (u:=λk j=>B (s+k)<|h+j) (λk=>j5 h (λ_=>0) v<|l<|s+k) (m:=r - s) λk I=> .gen ⟨k,I,rfl⟩).congr λj Y=>?_;have:=co (h+j) ⋯;rw[ja]at this;rw[this];obtain⟨d,rfl⟩ : ∃d,r=s+d:=⟨r - s,by omega⟩;rw[Hf];have sp : ∀(F:Nat->Int) (d:Nat),(∀k,k<s->F k=0)->sumTo F (s+d)=sumTo (λk=>F<|s+k) d:=by
   intro F d hF
   induction d with
   | zero=>
    show sumTo F s=0;rw[zy (g:=λ_=>0) hF,zN]
   | succ d U=>rw[<- MU];simp only[sumTo];rw[U]
  rw[sp _ d λk I=>by rw[zT (s1 k I)];simp]
end
section
variable{p:Int}{h w q:Nat}
def qr(h w:Nat)(f:RK)(g:Nat->Vc):Nat->Vc:=λm=>if m<w then j5 h (λi=>f i m) (jq m)else j5 h (g<|m - w) (λ_=>0)
theorem dM(f:RK)(g:Nat->Vc):zM w (h+w) (λj=>j5 h (λi=>f i j)<|jq j)++zM q (h+w) (λk=>j5 h (g k) λ_=>0)=zM (w+q) (h+w) (qr h w f g):=by
 unfold zM;rw[Mc,Hk,Hm];congr 1
 ·refine GI λm hm=>?_
  unfold qr;rw[RY (Gc.mp hm)]
 ·refine GI λm hm=>?_
  simp only[Function.comp];unfold qr;rw[EQ ⋯,Hf]
theorem wV(f:RK)(z:j<w)(i:Nat):app f w (jq j) i=f i j:=by unfold app;rw[zQ (f:=λk=>f i k*jq j k) z λk _ I=>by simp[jq,GN I]];simp[jq]
theorem bW(I:Span p (h+w) (Fam (w+q)<|qr h w f g) z):Span p h (Fam q g) λi=>z i - app f w (λj=>z<|h+j) i:=by
 induction I with
 | @zero z I=>
  refine .zero λi hi=>?_;rw[IC,I i ⋯,yq (p:=p) (λj Z=>I (h+j) ⋯) i];simp
 | @step z u g' c hg hu U Y=>
  obtain⟨m,hm,rfl⟩:=hg;have e2:=λi=>Jc (p:=p) (w:=w) (f:=f) (u:=λj=>u<|h+j) (g:=λj=>qr h w f g m<|h+j) (v:=λj=>z<|h+j) (c:=c) (λj Z=>U (h+j) ⋯) i;have key : ∀i,i<h->(z i - app f w (λj=>z<|h+j) i)%p=((u i - app f w (λj=>u<|h+j) i)+c*(qr h w f g m i - app f w (λj=>qr h w f g m<|h+j) i))%p:=λi hi=>by rw[IC,U i ⋯,e2 i,<- IC];congr 1;rw[Int.mul_sub];omega
  rcases GB m w with O | O
  ·refine Y.congr λi hi=>?_
   rw[key i hi];have t:app f w (λj=>qr h w f g m<|h+j) i=f i m:=by
    have:(λj=>qr h w f g m<|h+j)=jq m:=by funext j;unfold qr;rw[RY O,ja]
    rw[this,wV f O]
   have S:qr h w f g m i=f i m:=by unfold qr;rw[RY O,zT hi]
   rw[t,S];simp
  ·refine .step (g:=g<|m - w) (c:=c) ⟨m - w,by omega,rfl⟩ Y λi hi=>?_
   rw[key i hi];have t:app f w (λj=>qr h w f g m<|h+j) i=0:=by
    have:(λj=>qr h w f g m<|h+j)=λ_=>0:=by funext j;unfold qr;rw[EQ ⋯,ja]
    rw[this];unfold app;simp[zN]
   have S:qr h w f g m i=g (m - w) i:=by unfold qr;rw[EQ ⋯,zT hi]
   rw[t,S];simp
theorem pT(I:Span p h (Fam q g) y):Span p (h+w) (Fam (w+q)<|qr h w f g) (j5 h y λ_=>0):=by
 induction I with
 | @zero y O=>
  refine .zero λi hi=>?_;rcases GB i h with z | z
  ·rw[zT z];exact O i z
  ·obtain⟨k,rfl⟩ : ∃k,i=h+k:=⟨i - h,by omega⟩
   rw[ja];simp
 | @step y u g' c S Z U Y=>
  obtain⟨k,hk,rfl⟩:=S;refine .step (g:=qr h w f g<|w+k) (c:=c) ⟨w+k,by omega,rfl⟩ Y λi hi=>?_;have e:qr h w f g (w+k)=j5 h (g k) λ_=>0:=by unfold qr;rw[EQ ⋯,Hf]
  rw[e];rcases GB i h with z | z
  ·rw[zT z,zT z,zT z];exact U i z
  ·obtain⟨j,rfl⟩ : ∃k,i=h+k:=⟨i - h,by omega⟩
   rw[ja,ja,ja];simp
theorem vC(hp:Pr p)(hh:h<=20)(hw:w<=20)(hq:q<=100)(f:RK)(g:Nat->Vc) :
 ∃r B l,F_led_into [.int p,jj h w f,.lst (zM q h g)]=some (.own<|zM r w B)/\IsB p w r B l/\∀v,Span p w (Fam r B) v↔Span p h (Fam q g) (app f w v):=by
 have hl:=jz;have ad:h<=lim:=by omega
 have I:w<=lim:=by omega
 have S:h+w<=lim:=by omega
 have al:q<=lim:=by omega
 have U:w+q<=lim:=by omega
 obtain⟨r,B,l,e,O,a3⟩:=qa hp (show h+w<=100 by omega) U .L<|qr h w f g;have am:r<=h+w:=QW O.mono O.lt;obtain⟨s,Y,s1,s2⟩:=yi h O.mono;have eb:=kO O ⋯ Y s1 s2;obtain⟨a5,tl⟩:=Jy O Y s1 s2;refine⟨r - s,_,_,?_,a5,λv=>(tl v).trans ((a3 _).trans ⟨λZ=>?_,λZ=>?_⟩)⟩
 ·have ov:=vz f ad I
  have sm:=ku (n:=w) I;have key:zL (.tp [0,1]) z6 (zv ju (zc 0)<|zc 1) [Cell.no,Cell.no] ((Ga w).map λj=>D.tup [.tup (zE h λi=>f i j),.tup (zE w λk=>if j=k then 1 else 0)])=some (zM w (h+w) λj=>j5 h (λi=>f i j)<|jq j):=by unfold zM;refine zo _ _ λj hj=>zu rfl rfl ?_;simp[ju,S,xR];rfl
  have zp:wY (zM w h λi j=>f j i) (zM w w λi j=>if i=j then 1 else 0)=(Ga w).map λj=>D.tup [.tup (zE h λi=>f i j),.tup (zE w λk=>if j=k then 1 else 0)]:=by unfold wY zM;rw[LL];simp
  have a7:inR (w:Int)=true:=k9 I;have zr:qm (.tup [.int 0]) (.int w)=some (.tup<|zE w λ_=>0):=by
   show(if [D.int 0].length*(w:Int).toNat<=lim/\inR (w:Int)=true then some (D.tup (Ge (w:Int).toNat [D.int 0]).flatten)else none)=_;rw[RY ⟨by simpa using I,a7⟩];congr 2;rw[Ih];clear key zp sm ov eb a5 tl a3 O e a7 U S I hw hq s1 s2 Y am
   induction w with
   | zero=>rfl
   | succ w ih=>rw[List.replicate_succ',List.flatten_append,ih];unfold zE;rw[IB,Hk];rfl
  have fr:zL (.nm 0) z6 (zv ju (zc 0)<|zv qm (j3<|zb (zq<|.int 0) zF)<|sIx (zh 1)<|zq<|.int 1) [Cell.no,Cell.val (jj h w f)] (zM q h g)=some (zM q (h+w) λk=>j5 h (g k) λ_=>0):=by unfold zM;refine zo _ _ λk hk=>zu rfl rfl ?_;have sq:jG (jj h w f)=some (.T,[.int h,.int w,.tup (zM h w f)]):=rfl;simp[sq,zr,ju,S,xR]
  have c1:((h:Int)+(w:Int))=((h+w:Nat):Int):=by omega
  simp only[dsq]at e;rw[<- c1,<- dM]at e;have sq:jG (jj h w f)=some (.T,[.int h,.int w,.tup (zM h w f)]):=rfl;unfold jj at ov sm fr ⊢;simp[F_led_into,js,z9,jI,ov,sm,zp,I,al,U,zW,xJ,Ge,key,fr,e,eb]
 ·have:=bW Z
  refine(this.smul (-1)).congr λi hi=>?_;congr 1;show app f w v i = -1*(j5 h (λ_=>0) v i - app f w (λj=>j5 h (λ_=>0) v<|h+j) i);rw[zT hi,show(λj=>j5 h (λ_=>0) v<|h+j)=v from funext λj=>ja j];omega
 ·have a:=Span.sum (p:=p) (n:=h+w) (G:=Fam (w+q)<|qr h w f g) (u:=λj=>qr h w f g j) v (m:=w) λj hj=> .gen ⟨j,by omega,rfl⟩
  have b:=pT (w:=w) (f:=f) Z;refine(b.add a (-1)).congr λi hi=>?_;congr 1;rcases GB i h with z | z
  ·rw[zT z,zT z]
   have:sumTo (λk=>v k*qr h w f g k i) w=app f w v i:=by unfold app;exact zy λk hk=>by unfold qr;rw[RY hk,zT z,HF]
   rw[this];omega
  ·obtain⟨k,rfl⟩ : ∃k,i=h+k:=⟨i - h,by omega⟩
   rw[ja,ja];have:sumTo (λj=>v j*qr h w f g j (h+k)) w=v k:=by rw[zQ (f:=λj=>v j*qr h w f g j (h+k)) (i:=k) ⋯ λj hj as=>by unfold qr;rw[RY hj,ja];simp[jq,as]];unfold qr;rw[RY (show k<w by omega),ja];simp[jq]
   rw[this];simp
end
def dlt(i j:Nat):Int:=if i=j then 1 else 0
def Undo(p:Int)(n:Nat)(f g:RK):Prop:=∀i j,i<n->j<n->sumTo (λk=>f i k*g k j) n%p=dlt i j%p
theorem ZC{p x y X Y:Int}(h1:x%p=X%p)(h2:y%p=Y%p):(x*y)%p=(X*Y)%p:=by rw[Gi,h1,h2,<- Gi]
section
variable{p:Int}{n:Nat}{f g f' g':RK}
theorem Wb{a b:Int}{u:Nat}(S:a*b%p=1%p)(h1:Undo p n f g)(U : ∀i k,i<n->k<n->f' i k%p=((if i=u then a else 1)*f i k)%p)(Y : ∀k j,k<n->j<n->g' k j%p=((if j=u then b else 1)*g k j)%p):Undo p n f' g':=by
 intro i j hi z;rw[zK (g:=λk=>((if i=u then a else 1)*(if j=u then b else 1))*(f i k*g k j)) λk I=>by rw[ZC (U i k hi I) (Y k j I z)];congr 1;rw[HB,HB];congr 1;rw[IJ],jo,Gi,h1 i j hi z,<- Gi]
 unfold dlt;by_cases e:i=j
 ·subst e
  by_cases O:i=u
  ·simp only[RY O,if_true,NH];exact S
  ·simp only[EQ O,if_true];rfl
 ·simp only[EQ e,MC]
theorem Ya{a b:Int}{u:Nat}(S:b*a%p=1%p)(h1:Undo p n g f)(U : ∀i k,i<n->k<n->f' i k%p=((if i=u then a else 1)*f i k)%p)(Y : ∀k j,k<n->j<n->g' k j%p=((if j=u then b else 1)*g k j)%p):Undo p n g' f':=by
 intro i j hi z;rw[<- h1 i j hi z];refine zK λk I=>?_;rw[ZC (Y i k hi I) (U k j I z)];by_cases O:k=u
 ·simp only[RY O]
  rw[show b*g i k*(a*f k j)=(b*a)*(g i k*f k j)by rw[HB,HB];congr 1;rw[IJ],Gi,S,<- Gi,Ln]
 ·simp only[EQ O,Ln]
theorem fP{t:Int}{u o:Nat}(Z:u<n)(ho:o<n)(a1:u≠o)(h1:Undo p n f g)(hf : ∀i k,i<n->k<n->f' i k%p=(f i k+(if i=u then t else 0)*f o k)%p)(hg : ∀k j,k<n->j<n->g' k j%p=(g k j+(if j=o then -t else 0)*g k u)%p):Undo p n f' g':=by
 intro i j hi I;generalize ea:(if i=u then t else 0)=a at hf;have a5 : ∀k,k<n->f' i k%p=(f i k+(if i=u then t else 0)*f o k)%p:=λk z=>by have:=hf i k hi z;exact this
 rw[zK (g:=λk=>f i k*g k j+(if j=o then -t else 0)*(f i k*g k u)+((if i=u then t else 0)*(f o k*g k j)+((if i=u then t else 0)*(if j=o then -t else 0))*(f o k*g k u))) λk z=>by
  rw[ZC (a5 k z) (hg k j z I)];congr 1;generalize (if i=u then t else 0)=a;generalize (if j=o then -t else 0)=b;rw[MW,LG,LG];congr 1
  ·congr 1;rw[IJ]
  ·congr 1
   ·rw[HB]
   ·rw[HB,HB];congr 1;rw[IJ]]
 rw[jx,jx,jx,jo,jo,jo];have q1:=h1 i j hi I;have q2:=h1 i u hi Z;have q3:=h1 o j ho I;have q4:=h1 o u ho Z;have O : ∀c S d:Int,S%p=d%p->(c*S)%p=(c*d)%p:=λc S d h=>ZC rfl h;have ad : ∀x y X Y:Int,x%p=X%p->y%p=Y%p->(x+y)%p=(X+Y)%p:=λx y X Y a b=>by rw[GW,a,b,<- GW]
 rw[ad _ _ _ _ (ad _ _ _ _ q1<|O _ _ _ q2) (ad _ _ _ _ (O _ _ _ q3)<|O _ _ _ q4)];congr 1;unfold dlt;have a3 : ¬o=u:=λe=>a1 e.symm;by_cases e1:i=u
 ·by_cases U:j=o
  ·subst e1 U;simp[a1,a3];omega
  ·have ac : ¬o=j:=λe=>U e.symm
   simp[e1,U,ac,a3]
 ·simp[e1]
theorem ay{t:Int}{u o:Nat}(S:u<n)(U:o<n)(Y:u≠o)(h1:Undo p n g f)(Z : ∀i k,i<n->k<n->f' i k%p=(f i k+(if i=u then t else 0)*f o k)%p)(hg : ∀k j,k<n->j<n->g' k j%p=(g k j+(if j=o then -t else 0)*g k u)%p):Undo p n g' f':=by
 intro i j hi O;rw[<- h1 i j hi O];rw[zK (g:=λk=>g i k*f k j+((if k=u then t*(g i u*f o j)else 0)+(if k=o then -t*(g i u*f o j)else 0))) λk z=>by
  rw[ZC (hg i k hi z) (Z k j z O)];congr 1;by_cases e1:k=u
  ·subst e1
   have I : ¬k=o:=Y;simp only[EQ I,if_true,Lm,Lo,LG];rw[IJ]
  ·by_cases I:k=o
   ·subst I
    simp only[EQ e1,if_true,Lm,Lo,Int.zero_add,MW];rw[HB]
   ·simp only[EQ e1,EQ I,Lm,Lo]]
 rw[jx,jx,zQ (f:=λk=>if k=u then t*(g i u*f o j)else 0) S λk _ z=>EQ z,zQ (f:=λk=>if k=o then -t*(g i u*f o j)else 0) U λk _ z=>EQ z];simp only[if_true];congr 1;rw[Int.neg_mul];omega
end
def jA(n:Nat)(f:RK):List D:=(Ga n).map λi=>D.lst<|zE n<|f i
def j7(n:Nat)(f:RK):List (List D):=(Ga n).map λi=>zE n<|f i
theorem bj(n f):(j7 n f).map D.lst=jA n f:=by simp[j7,jA]
@[simp] theorem bo(n f):(jA n f).length=n:=by simp[jA]
@[simp] theorem Bf(f)(hi:i<(jA n f).length):(jA n f)[i] = .lst (zE n<|f i):=by simp[jA]
@[simp] theorem sd(r):xJ (.nest r) = .no:=rfl
@[simp] theorem uV(r):xJ (.own r) = .no:=rfl
@[simp] theorem uU(d):xJ (.val d) = .val d:=rfl
@[simp] theorem Bh:xJ .no = .no:=rfl
theorem ZS(ha:a<n)(v z:Vc)(x:Int)(h1:z a=x)(h2 : ∀i,i<n->i≠a->z i=v i):(zE n v).set a (.int x)=zE n z:=by
 apply Ie;intro i;rw[Iw];by_cases hi:i<n
 ·by_cases e:a=i
  ·subst e;simp[ha,zE,h1]
  ·have:=h2 i hi (GN e)
   simp[e,zE,hi,this]
 ·have I:(zE n v)[i]? = none:=by simp[zE];omega
  have l2:(zE n z)[i]? = none:=by simp[zE];omega
  rw[I,l2,EQ ⋯]
theorem XY(I:u<n)(f f':RK)(v:Vc)(h1 : ∀j,j<n->f' u j=v j)(h2 : ∀i j,i<n->i≠u->j<n->f' i j=f i j):(jA n f).set u (.lst<|zE n v)=jA n f':=by
 apply Ie;intro i;rw[Iw];by_cases hi:i<n
 ·by_cases e:u=i
  ·subst e;simp[I,jA];exact xl λj z=>(h1 j z).symm
  ·simp[e,jA,hi];exact xl λj z=>(h2 i j hi (GN e) z).symm
 ·have O:(jA n f)[i]? = none:=by simp[jA];omega
  have l2:(jA n f')[i]? = none:=by simp[jA];omega
  rw[O,l2,EQ ⋯]
theorem v7 : ∀(l:List Nat),(∀k∈l,∃d kk m,fx (kQ γ j i<|R k)=some d/\gx (kQ γ j i<|R k)=some (.int kk)/\ixD (R k).length kk=some m/\(R k).set m d=R' k)->qQ j i gx fx γ (l.map R)=some (l.map R')
 | [],_=>rfl
 | k::l,h=>by obtain⟨d,kk,m,h1,h2,z,I⟩:=h k Gu;have O:=v7 l λx hx=>h x<|Gn _ hx;simp[qQ,h1,h2,z,I,O]
theorem ZT : ∀(l:List Nat),(∀k∈l,∃γ1,qV T (g k) γ=some γ1/\f γ1=some (R k))->kJ T f γ (l.map g)=some (l.map R)
 | [],_=>rfl
 | k::l,h=>by obtain⟨γ1,h1,h2⟩:=h k Gu;have z:=ZT l λx hx=>h x<|Gn _ hx;simp[kJ,h1,h2,z]
section
variable{p:Int}{n:Nat}
structure Pair(p:Int)(n:Nat)(f g:RK):Prop where
 bf : ∀i j,i<n->j<n->0<=f i j/\f i j<p
 bg : ∀i j,i<n->j<n->0<=g i j/\g i j<p
 fg:Undo p n f g
 gf:Undo p n g f
end
@[simp] theorem tu(n f):(j7 n f).length=n:=by simp[j7]
def begR(w:RX)(k:Nat):Nat:=if w k then k+1 else k
def endR(w:RX)(k:Nat):Nat:=if w k then k else k+1
theorem cZ(w:RX)(wd:RZ)(k):hiW w wd k=wd (endR w k):=by unfold hiW endR;split<;>rfl
theorem au(w:RX)(wd:RZ)(k):wiW w wd k=wd (begR w k):=by unfold wiW begR;split<;>rfl
theorem eJ(w:RX)(h:k<m):begR w k<m+1:=by unfold begR;split<;>omega
theorem rf(w:RX)(h:k<m):endR w k<m+1:=by unfold endR;split<;>omega
def qE(m:Nat)(wd:RZ)(f:RV):List D:=(Ga m).map λk=>jj (wd k) (wd k)<|f k
@[simp] theorem aJ(m wd f):(qE m wd f).length=m:=by simp[qE]
@[simp] theorem Bb(wd f)(h:k<(qE m wd f).length):(qE m wd f)[k]=jj (wd k) (wd k) (f k):=by simp[qE]
def qq(p:Int)(w:RX)(wd:RZ)(f g T:RV)(k i j:Nat):Int:=
 sumTo (λb=>g (begR w k) b j*(sumTo (λa=>T k a b*f (endR w k) i a) (wd<|endR w k)%p)) (wd<|begR w k)%p
section
variable{p:Int}{m:Nat}{w:RX}{wd:RZ}{f g T:RV}
theorem JY(m:Nat)(F:Nat->D):qZ ((Ga m).map F)=(Ga m).map λ(k:Nat)=>D.tup [.int k,F k]:=by unfold qZ;rw[Gw,HX];apply GI;intro k z;have z:=Gc.mp z;simp[z]
end
structure Bar where
 s:Nat
 n:Nat
 v:Nat->Vc
def Bar.has(b:Bar)(r:Nat):Bool:=decide (b.s<=r) && decide (r<b.s+b.n)
theorem has_iff{b:Bar}{r:Nat}:b.has r=true↔b.s<=r/\r<b.s+b.n:=by simp[Bar.has]
def fC:Bar:=⟨0,0,λ_ _=>0⟩
structure BarOk(p:Int)(w:RX)(wd:RZ)(T:RV)(k:Nat)(b:Bar):Prop where
 n1:1<=b.n
 le:b.s+b.n<=k+1
 rng : ∀r i,b.has r=true->i<wd r->0<=b.v r i/\b.v r i<p
 arr : ∀j,j<k->b.has (begR w j)=true->∀i,i<wd (endR w j)->app (T j) (wd<|begR w j) (b.v<|begR w j) i%p=(if b.has (endR w j)=true then b.v (endR w j) i else 0)%p
def Ord(w:RX)(a b:Bar):Prop:=(a.s<b.s->w (b.s - 1)=true)/\(b.s<a.s->w (a.s - 1)=false)
def GenB(bars:List Bar)(r:Nat):Vc->Prop:=λg=>∃b,b∈bars/\b.has r=true/\g=b.v r
def mxV(p:Int)(A:Nat->Bar)(N:Nat)(t:Vc)(r:Nat):Vc:=λc=>sumTo (λj=>if (A j).has r=true then t j*(A j).v r c else 0) N%p
def mxB(p:Int)(A:Nat->Bar)(N:Nat)(t:Vc)(i:Nat):Bar:=⟨(A i).s,(A i).n,mxV p A N t⟩
section
variable{p:Int}{w:RX}{wd:RZ}{T:RV}{k N:Nat}{A:Nat->Bar}
theorem ye(f:RK)(h:Nat)(t:Vc)(u:Nat->Vc)(n:Nat)(i:Nat):app f h (λc=>sumTo (λj=>t j*u j c) n) i=sumTo (λj=>t j*app f h (u j) i) n:=by
 unfold app;have e:sumTo (λj=>f i j*sumTo (λk=>t k*u k j) n) h=sumTo (λj=>sumTo (λk=>t k*(f i j*u k j)) n) h:=zy λj _=>by rw[<- jo];exact zy λk _=>by rw[<- HB,<- HB,HF (f i j)]
 rw[e,qF];exact zy λj _=>jo ..
theorem pG(c:Prop) [Decidable c](x y:Int):(if c then x*y else 0)=x*(if c then y else 0):=by split<;>simp
theorem eV(f:RK)(h r:Nat)(t:Vc)(i:Nat):app f h (mxV p A N t r) i%p=sumTo (λj=>t j*(if (A j).has r=true then app f h ((A j).v r) i else 0)) N%p:=by
 have e:app f h (mxV p A N t r) i%p=app f h (λc=>sumTo (λj=>t j*(if (A j).has r=true then (A j).v r c else 0)) N) i%p:=jF (λc _=>by unfold mxV;rw[GG];congr 1;exact zy λj _=>pG ..) i
 rw[e,ye];congr 1;refine zy λj _=>?_;congr 1;by_cases z:(A j).has r=true
 ·simp only[RY z]
 ·simp only[EQ z]
  unfold app;simp[zN]
theorem uZ(p0:0<p)(Z : ∀j,j<N->BarOk p w wd T k (A j))(hk : ∀j,j<N->(A j).has k=true){t:Vc}{i:Nat}(hi:i<N)(hO : ∀c,i<c->c<N->Ord w (A i) (A c))(tz : ∀c,c<i->t c=0) :
 BarOk p w wd T k (mxB p A N t i):=by
 refine⟨(Z i hi).n1,(Z i hi).le,λr c _ _=>⟨GU _ ⋯,GH _ p0⟩,λj hj O c hc=>?_⟩;have O:(A i).has (begR w j)=true:=O;show app (T j) (wd<|begR w j) (mxV p A N t<|begR w j) c%p=(if (A i).has (endR w j)=true then mxV p A N t (endR w j) c else 0)%p;rw[eV];have key : ∀I,I<N->t I≠0->((A i).has (endR w j)=true->(A I).has (endR w j)=true->(A I).has (begR w j)=true)/\((A i).has (endR w j)=false->(A I).has (begR w j)=true->(A I).has (endR w j)=false):=λI S ht=>by
  have h1:=has_iff.mp<|hk i hi;have h2:=has_iff.mp<|hk I S;have U:i<=I:=Nat.not_lt.mp λz=>ht<|tz I z;rcases Nat.lt_or_eq_of_le U with U | U
  ·obtain⟨o1,o2⟩:=hO I U S
   have O:=has_iff.mp O;cases hw:w j with
   | false=>
    have Y:begR w j=j:=by unfold begR;rw[hw];rfl
    have ee:endR w j=j+1:=by unfold endR;rw[hw];rfl
    rw[Y]at O;rw[Y,ee];refine⟨λ_ q=>has_iff.mpr ?_,λq _=>?_⟩
    ·have q:=has_iff.mp q
     refine⟨Nat.not_lt.mp λz=>?_,by omega⟩;have es:(A I).s=j+1:=by omega
     have:=o1 ⋯;rw[es]at this;simp[hw]at this
    ·exfalso
     have:(A i).has (j+1)=true:=has_iff.mpr ⋯;rw[this]at q;cases q
   | true=>
    have Y:begR w j=j+1:=by unfold begR;rw[hw];rfl
    have ee:endR w j=j:=by unfold endR;rw[hw];rfl
    rw[Y]at O;rw[Y,ee];refine⟨λ_ q=>has_iff.mpr ?_,λq _=>?_⟩
    ·have q:=has_iff.mp q
     omega
    ·cases hx:(A I).has j with
     | false=>rfl
     | true=>
      exfalso;have hx:=has_iff.mp hx;have es:(A i).s=j+1:=by
       have : ¬((A i).s<=j):=λz=>by have:(A i).has j=true:=has_iff.mpr ⋯;rw[this]at q;cases q
       omega
      have:=o2 ⋯;rw[es]at this;simp[hw]at this
  ·subst U
   exact⟨λ_ _=>O,λq _=>q⟩
 have e1:sumTo (λI=>t I*(if (A I).has (begR w j)=true then app (T j) (wd<|begR w j) ((A I).v (begR w j)) c else 0)) N%p
  = sumTo (λI=>if (A i).has (endR w j)=true then (if (A I).has (endR w j)=true then t I*(A I).v (endR w j) c else 0)else 0) N%p:=zK λI S=>by
  by_cases ht:t I=0
  ·simp[ht]
  obtain⟨k1,k2⟩:=key I S ht;cases hx:(A i).has (endR w j)with
  | false=>
   cases hy:(A I).has (begR w j)with
   | false=>simp
   | true=>
    have q:=(Z I S).arr j hj hy c hc;rw[k2 hx hy]at q;simp only[if_true];rw[Gi,q];simp
  | true=>
   cases hy:(A I).has (begR w j)with
   | false=>
    cases hz:(A I).has (endR w j)with
    | false=>simp
    | true=>rw[k1 hx hz]at hy;cases hy
   | true=>
    have q:=(Z I S).arr j hj hy c hc;simp only[if_true];rw[Gi,q,<- Gi];congr 1;cases hz:(A I).has (endR w j)<;>simp
 rw[e1];cases hx:(A i).has (endR w j)with
 | false=>simp[zN]
 | true=>
  simp only[if_true];unfold mxV;rw[GG]
theorem iy{G':Vc->Prop}{r n:Nat}{A':Nat->Bar}(t:Nat->Vc)(Y : ∀i,i<N->t i i=1)(Z : ∀i c,i<N->c<i->t i c=0)
 (a0 : ∀i,i<N->(A i).has r=true->Span p n G' ((A' i).v r)) (he : ∀i,i<N->(A i).has r=true->∀c,c<n->(A' i).v r c%p=mxV p A N (t i) r c%p) :
 ∀i,i<N->(A i).has r=true->Span p n G' ((A i).v r):=by
 have key : ∀d i,N - i<=d->i<N->(A i).has r=true->Span p n G' ((A i).v r):=by
  intro d
  induction d with
  | zero=>intro i h1 h2;omega
  | succ d ih=>
   intro i h1 h2 O;have hs:Span p n G' λc=>sumTo (λj=>(if j=i then 0 else if (A j).has r=true then t i j else 0)*(A j).v r c) N:=by
    have gen : ∀M,M<=N->Span p n G' λc=>sumTo (λj=>(if j=i then 0 else if (A j).has r=true then t i j else 0)*(A j).v r c) M:=by
     intro M
     induction M with
     | zero=>intro _;exact .zero λc _=>by simp[sumTo]
     | succ M a4=>
      intro hM;have q:=a4 ⋯;by_cases I:M=i\/¬((A M).has r=true)\/M<i
      ·refine q.congr λc _=>?_
       show(sumTo _ M+_)%p=_;rcases I with I | I | I
       ·simp[I]
       ·simp[I]
       ·have z:=Z i M h2 I;simp only[z];simp
      ·have a5:M≠i/\(A M).has r=true/\¬M<i:=by
        refine⟨λz=>I<|.inl z,?_,λz=>I<|.inr<|.inr z⟩;cases hx:(A M).has r with
        | true=>rfl
        | false=>exact absurd (.inr<|.inl<|by rw[hx];decide) I
       exact((ih M ⋯ ⋯ a5.2.1).add q (if M=i then 0 else if (A M).has r=true then t i M else 0)).congr λc _=>rfl
    exact gen N<|Gh _
   have h0:=hs.add (a0 i h2 O) (-1);refine h0.congr λc I=>?_;have e1:sumTo (λj=>if (A j).has r=true then t i j*(A j).v r c else 0) N=(A i).v r c+sumTo (λj=>(if j=i then 0 else if (A j).has r=true then t i j else 0)*(A j).v r c) N:=by
    have e2:(A i).v r c=sumTo (λj=>if j=i then (A i).v r c else 0) N:=by rw[zQ h2 λk _ hk=>by simp[hk]];simp
    rw[e2,<- jx];refine zy λj hj=>?_;by_cases U:j=i
    ·subst U;simp[O,Y j h2]
    ·simp only[EQ U]
     by_cases hx:(A j).has r=true
     ·simp[hx]
     ·simp[hx]
   have S:=he i h2 O c I;unfold mxV at S;rw[GG,e1]at S;rw[GW,S,<- GW];congr 1;omega
 exact λi h1 h2=>key N i ⋯ h1 h2
end
section
variable{p:Int}{n m N h r r2 q:Nat}{B B2 K:Nat->Vc}{l l2 lK:RZ}{M f:RK}
theorem Zf(z:Span p n (Fam m U) v) : ∃t:Vc,∀i,i<n->v i%p=sumTo (λj=>t j*U j i) m%p:=by
 induction z with
 | zero h=>exact⟨λ_=>0,λi hi=>by rw[h i hi];simp[zN]⟩
 | @step v w g c I hw O S=>
  obtain⟨t,Y⟩:=S;obtain⟨k,Z,rfl⟩:=I;refine⟨λj=>t j+if j=k then c else 0,λi hi=>?_⟩;rw[O i hi,GW,Y i hi,<- GW];congr 1;have e:sumTo (λj=>(t j+if j=k then c else 0)*U j i) m=sumTo (λj=>t j*U j i) m+sumTo (λj=>(if j=k then c else 0)*U j i) m:=by rw[<- jx];exact zy λj _=>MW ..
  rw[e,zQ (f:=λj=>(if j=k then c else 0)*U j i) Z λj _ hj=>by simp[hj]];simp
theorem qH(a b:Nat->Int)(n:Nat):sumTo (λj=>a j*b j) n=sumTo (λj=>b j*a j) n:=zy λj _=>HF ..
theorem col_span:Span p h (Fam N λj i=>M i j) u ↔ ∃x:Vc,∀i,i<h->u i%p=app M N x i%p:=by
 constructor
 ·intro q
  obtain⟨t,z⟩:=Zf q;exact⟨t,λi hi=>by rw[z i hi];unfold app;rw[qH]⟩
 ·rintro⟨x,hx⟩
  refine(Span.sum (u:=λj i=>M i j) x (m:=N) λj I=> .gen ⟨j,I,rfl⟩).congr λi hi=>?_;rw[hx i hi];unfold app;rw[qH]
theorem KL(n:Nat)(v:Vc):Span p n (Fam n jq) v:=by refine(Span.sum (u:=jq) v (m:=n) λj z=> .gen ⟨j,z,rfl⟩).congr λi hi=>?_;rw[zQ (f:=λk=>v k*jq k i) hi λk _ I=>by simp[jq,I]];simp[jq]
theorem yI(z:Pr p)(O:N<=8)(S : ∀v:Vc,∃t,∀i,i<N->v i%p=app f N t i%p)(U : ∀i,i<N->app f N t i%p=0) : ∀j,j<N->t j%p=0:=by
 obtain⟨q,K,l,s,_,hb,I,Y,a3⟩:=kN z (h:=N) ⋯ O f;have Z:Rk p N N (λj i=>f i j) N:=⟨jq,id,Vd z N,λv=>⟨λ_=>col_span.mpr<|S v,λ_=>KL N v⟩⟩;have:=yF z Y Z;have hq:q=0:=by omega
 subst hq;have:=(I t).mpr λi hi=>by have:=U i hi;unfold app at this;exact this
 cases this with
 | zero h=>exact h
 | step hg _ _=>obtain⟨k,I,_⟩:=hg;omega
def Jp(r:Nat)(B:Nat->Vc)(l:RZ)(t:Vc):Vc:=λi=>t i - sumTo (λj=>t (l j)*B j i) r
theorem JQ(I:IsB p N r B l)(t:Vc)(z:j<r):Jp r B l t (l j)=0:=by unfold Jp;rw[zQ (f:=λO=>t (l O)*B O (l j)) z λk S U=>by rw[I.oth k j S z (GN U)];simp];rw[I.one j z];omega
theorem VI(t:Vc):Span p N (Fam r B) λi=>sumTo (λj=>t (l j)*B j i) r:=Span.sum (u:=B) (λj=>t<|l j) λj z=> .gen ⟨j,z,rfl⟩
theorem pM(z:IsB p N r B l)(h:Span p N (Fam r B) t)(I : ∀j,j<r->t (l j)%p=0) : ∀i,i<N->t i%p=0:=λi hi=>by
 rw[v9 z h i hi];have e:sumTo (λk=>t (l k)*B k i) r%p=sumTo (λ_=>0) r%p:=zK λk O=>by rw[Gi,I k O];simp
 rw[e,zN];simp
theorem Vb(z:Pr p)(I:IsB p N r B l)(hi:i<N)(hn : ∀j,j<r->l j≠i) : ¬Span p N (Fam r B) (jq i):=λh=>by have:=pM I h (λj O=>by unfold jq;rw[EQ (GN<|hn j O)];simp) i hi;unfold jq at this;rw[RY rfl,z.one]at this;omega
theorem Ja(g:RK)(w:Nat)(u v:Vc)(i:Nat):app g w (λj=>u j - v j) i=app g w u i - app g w v i:=by
 have e:app g w u i=app g w (λj=>u j - v j) i+app g w v i:=by unfold app;rw[<- jx];exact zy λj _=>by dsimp only;rw[<- LG];congr 1;omega
 omega
def Ym(M f:RK)(N:Nat):Nat->Nat->Int:=λi j=>sumTo (λk=>M i k*f k j) N
theorem wW(t:Vc)(i:Nat):app (Ym M f N) N t i=app M N (app f N t) i:=by
 unfold app Ym;have e:sumTo (λj=>sumTo (λk=>M i k*f k j) N*t j) N=sumTo (λj=>sumTo (λk=>M i k*(f k j*t j)) N) N:=zy λj _=>by rw[<- qG];exact zy λk _=>HB ..
 rw[e,qF];exact zy λk _=>jo ..
theorem sH(hp:Pr p)(hN:N<=8)(hh:h<=8)(hs : ∀v:Vc,∃t,∀i,i<N->v i%p=app f N t i%p)(hb:IsB p N r B l)(U : ∀t,Span p N (Fam r B) t↔Ker p h N M (app f N t))
 (a5:IsB p h r2 B2 l2) (hI : ∀v,Span p h (Fam r2 B2) v↔Span p h (Fam N λj i=>M i j) v) :
 (∀j,j<r->∀i,i<h->app M N (app f N<|B j) i%p=0)/\(∀c,c<N->(∀j,j<r->l j≠c)->∃i,i<h/\app M N (λa=>f a c) i%p≠0)/\r+r2=N/\
   ∀S:Vc->Prop,(∀c,c<N->(∀j,j<r->l j≠c)->Span p h S (app M N λa=>f a c))->(∀c,c<h->(∀j,j<r2->l2 j≠c)->Span p h S (jq c))->∀v,Span p h S v:=by
 have a2 : ∀t:Vc,Ker p h N M (app f N t) ↔ ∀i,i<h->app M N (app f N t) i%p=0:=λt=>Iff.rfl;have a9 : ∀(c:Nat),c<N->∀i,app M N (λa=>f a c) i%p=app M N (app f N<|jq c) i%p:=λc I i=>jF (λa _=>by rw[wV f I]) i;refine⟨λj O=>(a2 _).mp ((U<|B j).mp (.gen ⟨j,O,rfl⟩)),λc I hn=>?_,?_,λS h1 h2 v=>?_⟩
 ·refine HG λz=>Vb hp hb I hn ((U _).mpr ((a2 _).mpr λi hi=>?_))
  rw[<- a9 c I i];exact HG λy=>z ⟨i,hi,y⟩
 ·obtain⟨q',K',l',s',_,ad,a7,al,bd⟩:=kN hp (h:=h) (w:=N) ⋯ hN (Ym M f N)
  have e1:q'=r:=(ZY hp ad hb (λv hv=>(U v).mpr λi hi=>by
   have:=(a7 v).mp hv i hi;rw[show sumTo (λj=>Ym M f N i j*v j) N=app (Ym M f N) N v i from rfl,wW]at this;exact this) λv hv=>(a7 v).mpr λi hi=>by
   have:=(U v).mp hv i hi;rw[show sumTo (λj=>Ym M f N i j*v j) N=app (Ym M f N) N v i from rfl,wW];exact this).1
  have e2:s'=r2:=by
   refine yF hp al ⟨B2,l2,a5,λv=>(hI v).trans ⟨λz=>?_,λz=>?_⟩⟩
   ·obtain⟨x,hx⟩:=col_span.mp z
    obtain⟨t,Y⟩:=hs x;refine col_span.mpr ⟨t,λi hi=>?_⟩;rw[hx i hi,wW];exact jF Y i
   ·obtain⟨t,Y⟩:=col_span.mp z
    exact col_span.mpr ⟨app f N t,λi hi=>by rw[Y i hi,wW]⟩
  omega
 ·
  have im : ∀t:Vc,Span p h S (app M N<|app f N t):=λt=>by
   have hz:=(a2 _).mp ((U _).mp (VI (p:=p) (N:=N) (B:=B) (r:=r) (l:=l) t));have e : ∀i,i<h->app M N (app f N t) i%p=app M N (app f N<|Jp r B l t) i%p:=λi hi=>by
    have e0:app M N (app f N<|Jp r B l t) i=app M N (app f N t) i - app M N (app f N λi=>sumTo (λj=>t (l j)*B j i) r) i:=by rw[<- Ja];congr 1;funext a;exact Ja ..
    rw[e0,IC,hz i hi];simp
   refine Span.congr ?_ e;have e3 : ∀i,app M N (app f N<|Jp r B l t) i=sumTo (λc=>Jp r B l t c*app M N (λa=>f a c) i) N:=λi=>by rw[<- ye];congr 1;funext a;unfold app;exact qH ..
   have s1 : ∀K,K<=N->Span p h S λi=>sumTo (λc=>Jp r B l t c*app M N (λa=>f a c) i) K:=by
    intro K
    induction K with
    | zero=>intro _;exact .zero λi _=>by simp[sumTo]
    | succ K Z=>
     intro hK;by_cases I : ∃j,j<r/\l j=K
     ·obtain⟨j,O,rfl⟩:=I
      refine(Z ⋯).congr λi _=>?_;show(sumTo _ (l j)+_)%p=_;have z:=JQ hb t O;simp only[z];simp
     ·exact((h1 K ⋯ λj O z=>I ⟨j,O,z⟩).add (Z ⋯) _).congr λi _=>rfl
   exact(s1 N<|Gh _).congr λi _=>by rw[e3]
  have ax : ∀u,Span p h (Fam r2 B2) u->Span p h S u:=λu hu=>by obtain⟨x,hx⟩:=col_span.mp<|(hI u).mp hu;obtain⟨t,Y⟩:=hs x;exact(im t).congr λi hi=>by rw[hx i hi];exact jF Y i
  have s2 : ∀K,K<=h->Span p h S λi=>sumTo (λc=>Jp r2 B2 l2 v c*jq c i) K:=by
   intro K
   induction K with
   | zero=>intro _;exact .zero λi _=>by simp[sumTo]
   | succ K Z=>
    intro hK;by_cases I : ∃j,j<r2/\l2 j=K
    ·obtain⟨j,O,rfl⟩:=I
     refine(Z ⋯).congr λi _=>?_;show(sumTo _ (l2 j)+_)%p=_;have z:=JQ a5 v O;simp only[z];simp
    ·exact((h2 K ⋯ λj O z=>I ⟨j,O,z⟩).add (Z ⋯) _).congr λi _=>rfl
  refine((ax _<|VI (B:=B2) (r:=r2) (l:=l2) v).add (s2 h<|Gh _) 1).congr λi hi=>?_;congr 1;rw[zQ (f:=λc=>Jp r2 B2 l2 v c*jq c i) hi λc _ I=>by simp[jq,I]];simp only[jq,if_true,Jp];omega
theorem sJ(O:Pr p)(hN:N<=8)(hh:h<=8)(hs : ∀v:Vc,∃t,∀i,i<N->v i%p=app f N t i%p)(Z:IsB p N r B l)(hW : ∀t,Span p N (Fam r B) t↔Span p N (Fam h λj i=>M i j) (app f N t))
 (hk : ∀v,Span p h (Fam q K) v↔Ker p N h M v) (hr:Rk p N h (λj i=>M i j) s) (bm:q+s=h) :
 (∀j,j<r->∃y:Vc,∀i,i<N->app M h y i%p=app f N (B j) i%p)/\(∀c,c<N->(∀j,j<r->l j≠c)->¬∃y:Vc,∀i,i<N->app M h y i%p=f i c%p)/\r+q=h/\
   ∀(Gx:Vc->Prop) (x:Nat->Vc),(∀j,j<r->Span p h Gx (x j)/\∀i,i<N->app M h (x j) i%p=app f N (B j) i%p)->(∀j,j<q->Span p h Gx (K j))->∀v,Span p h Gx v:=by
 have a6 : ∀t,Span p N (Fam r B) t ↔ ∃y:Vc,∀i,i<N->app f N t i%p=app M h y i%p:=λt=>(hW t).trans col_span;have inj : ∀{t:Vc},(∀i,i<N->app f N t i%p=0)->∀j,j<N->t j%p=0:=λU=>yI O hN hs U;refine⟨λj I=>?_,λc hc hn z=>?_,?_,λGx x h1 h2 v=>?_⟩
 ·obtain⟨y,hy⟩:=(a6<|B j).mp (.gen ⟨j,I,rfl⟩)
  exact⟨y,λi hi=>(hy i hi).symm⟩
 ·obtain⟨y,hy⟩:=z
  exact Vb O Z hc hn<|(a6 _).mpr ⟨y,λi hi=>by rw[wV f hc,hy i hi]⟩
 ·have an:s<=8/\r<=8:=by
   obtain⟨s',bn,ax⟩:=bt O (n:=N) (m:=h) ⋯ hh λj i=>M i j;refine⟨by rw[yF O hr ax];omega,?_⟩;have : ∀r',r'<=r->r'<=N:=by
    intro r';have mono : ∀k,k<r->k<=l k:=by
     intro k
     induction k with
     | zero=>intro _;omega
     | succ k ih=>intro hk;have:=ih ⋯;have:=Z.mono k (k+1) ⋯ hk;omega
    intro bv;cases r' with
    | zero=>omega
    | succ ap=>have:=mono ap ⋯;have:=Z.lt ap ⋯;omega
   have:=this r<|Gh _;omega
  have bx:s<=r:=by
   obtain⟨s',a1,a2⟩:=bt O (n:=N) (m:=r) ⋯ an.2 λj=>app f N<|B j;have e:s=s':=by
    obtain⟨C,Y,hC,a7⟩:=hr;refine yF O (m:=h) (W:=λj i=>M i j) ⟨C,Y,hC,a7⟩ ?_;obtain⟨C',bd,be,bf⟩:=a2;refine⟨C',bd,be,λv=>(bf v).trans ⟨λz=>?_,λz=>?_⟩⟩
    ·exact z.le λg S=>by obtain⟨j,I,rfl⟩:=S;exact(hW<|B j).mp (.gen ⟨j,I,rfl⟩)
    ·obtain⟨y,hy⟩:=col_span.mp z
     obtain⟨t,U⟩:=hs v;have al:Span p N (Fam r B) t:=(a6 t).mpr ⟨y,λi hi=>by rw[<- U i hi,hy i hi]⟩;refine(Span.sum (u:=λj=>app f N<|B j) (λj=>t<|l j) (m:=r) λj I=> .gen ⟨j,I,rfl⟩).congr λi hi=>?_;rw[U i hi,<- ye];exact jF (λj I=>v9 Z al j I) i
   omega
  have c0:r<=s:=by
   obtain⟨C,Y,hC,a7⟩:=hr;have ex : ∀j,∃t:Vc,∀i,i<N->C j i%p=app f N t i%p:=λj=>hs<|C j;have g:Nat->Vc:=λj=>Classical.choose<|ex j;have S : ∃g:Nat->Vc,∀j i,i<N->C j i%p=app f N (g j) i%p:=⟨λj=>Classical.choose<|ex j,λj=>Classical.choose_spec<|ex j⟩;obtain⟨g,S⟩:=S;obtain⟨s',a1,a2⟩:=bt O (n:=N) (m:=s) ⋯ an.1 g;have e:r=s':=by
    refine yF O (m:=s) (W:=g) ⟨B,l,Z,λv=>⟨λz=>?_,λz=>?_⟩⟩ a2
    ·have hv:=(a7 _).mpr ((hW v).mp z)
     refine(Span.sum (u:=g) (λj=>app f N v<|Y j) (m:=s) λj I=> .gen ⟨j,I,rfl⟩).congr λi hi=>?_;have z0 : ∀a,a<N->app f N (λi=>v i - sumTo (λj=>app f N v (Y j)*g j i) s) a%p=0:=λa ha=>by
      rw[Ja,ye,IC,v9 hC hv a ha];have e:sumTo (λk=>app f N v (Y k)*C k a) s%p=sumTo (λk=>app f N v (Y k)*app f N (g k) a) s%p:=zK λk _=>by rw[Gi,S k a ha,<- Gi]
      rw[e];simp
     have:=inj z0 i hi;have q2:=Int.emod_emod_of_dvd;exact(Int.emod_emod_of_dvd _<|Int.dvd_refl p).symm.trans (by
      rw[GG];have:(v i - sumTo (λj=>app f N v (Y j)*g j i) s)%p=0:=this;exact IF.mpr this)
    ·refine z.le λu hu=>?_
     obtain⟨j,I,rfl⟩:=hu;refine(hW _).mpr (((a7<|C j).mp (.gen ⟨j,I,rfl⟩)).congr λi hi=>(S j i hi).symm)
   omega
  omega
 ·obtain⟨t,U⟩:=hs (app M h v)
  have al:Span p N (Fam r B) t:=(a6 t).mpr ⟨v,λi hi=>(U i hi).symm⟩;have hx:Span p h Gx λc=>sumTo (λj=>t (l j)*x j c) r:=Span.sum (u:=x) (λj=>t<|l j) λj I=>(h1 j I).1;have hd:Span p h Gx λc=>v c - sumTo (λj=>t (l j)*x j c) r:=by
   refine((hk _).mpr λi hi=>?_).le λg S=>by obtain⟨j,I,rfl⟩:=S;exact h2 j I
   show app M h (λc=>v c - sumTo (λj=>t (l j)*x j c) r) i%p=0;rw[Ja,ye,IC];have e:sumTo (λj=>t (l j)*app M h (x j) i) r%p=app M h v i%p:=by rw[U i hi,jF (λj I=>v9 Z al j I) i,ye];exact zK λj I=>by rw[Gi,(h1 j I).2 i hi,<- Gi]
   rw[e];simp
  refine(hx.add hd 1).congr λc _=>?_;congr 1;omega
end
structure BrInv(p:Int)(w:RX)(wd:RZ)(T:RV)(k:Nat)(bars:List Bar):Prop where
 ok : ∀b,b∈bars->BarOk p w wd T k b
 sp : ∀r,r<=k->∀v,Span p (wd r) (GenB bars r) v
 ct : ∀r,r<=k->bars.countP (λb=>b.has r)=wd r
 od:(bars.filter λb=>b.has k).Pairwise (Ord w)
def ldx(r:Nat)(l:RZ)(i:Nat):Option Nat:=(Ga r).find? λj=>l j==i
theorem qP(h:ldx r l i=some j):j<r/\l j=i:=by have h1:=List.find?_some h;have h2:=List.mem_of_find?_eq_some h;exact⟨Gc.mp h2,by simpa using h1⟩
theorem wL(h:ldx r l i=none) : ∀j,j<r->l j≠i:=λj z=>by have:=MA.mp h j<|Gc.mpr z;simpa using this
def stB(p:Int)(A:Nat->Bar)(N r:Nat)(B:Nat->Vc)(l:RZ)(i:Nat):Bar:=match ldx r l i with
 | some j=>mxB p A N (B j) i
 | none=>A i
def exB(k:Nat)(b:Bar):Option Vc->Bar
 | none=>b
 | some y=>⟨b.s,b.n+1,λr=>if r=k+1 then y else b.v r⟩
def nuB(k:Nat)(y:Vc):Bar:=⟨k+1,1,λ_=>y⟩
def tco(r:Nat)(B:Nat->Vc)(l:RZ)(i:Nat):Vc:=match ldx r l i with
 | some j=>B j
 | none=>jq i
theorem aP(p A N r B l i):(stB p A N r B l i).s=(A i).s:=by unfold stB;split<;>rfl
theorem sO(p A N r B l i):(stB p A N r B l i).n=(A i).n:=by unfold stB;split<;>rfl
theorem Yb(p A N r B l i rm):(stB p A N r B l i).has rm=(A i).has rm:=by unfold Bar.has;rw[aP,sO]
theorem vV:(nuB k y).has r=decide (r=k+1):=by
 unfold nuB Bar.has;by_cases h:r=k+1
 ·simp[h]
 ·simp[h];intro;omega
section
variable{p:Int}{w:RX}{wd:RZ}{T:RV}{k N r:Nat}{A:Nat->Bar}{B:Nat->Vc}{l:RZ}
theorem lU(z:IsB p N r B l)(hi:i<N):tco r B l i i=1/\∀c,c<i->tco r B l i c=0:=by
 unfold tco;cases hj:ldx r l i with
 | some j=>
  obtain⟨h1,h2⟩:=qP hj;subst h2;exact⟨z.one j h1,λc I=>z.bef j c h1 I⟩
 | none=>exact⟨by simp[jq],λc I=>by simp only[jq];rw[EQ ⋯]⟩
theorem nN(hi:i<N)(I:(A i).has rm=true):(stB p A N r B l i).v rm c%p=mxV p A N (tco r B l i) rm c%p:=by
 unfold stB tco;cases z:ldx r l i with
 | some j=>rfl
 | none=>
  show(A i).v rm c%p=_;unfold mxV;rw[GG];congr 1;rw[zQ (f:=λj=>if (A j).has rm=true then jq i j*(A j).v rm c else 0) hi λj _ z=>by unfold jq;rw[EQ (GN z)];simp];simp[jq,I]
theorem lV(I:0<p)(O:IsB p N r B l)(z : ∀j,j<N->BarOk p w wd T k (A j))(S : ∀j,j<N->(A j).has k=true)(U : ∀i c,i<c->c<N->Ord w (A i) (A c))(hi:i<N):BarOk p w wd T k (stB p A N r B l i):=by
 unfold stB;split
 ·next j Y=>
  obtain⟨h1,h2⟩:=qP Y;subst h2;exact uZ I z S hi (λc h1 h2=>U _ c h1 h2) λc Z=>O.bef j c h1 Z
 ·exact z i hi
theorem JX(z:rm<=k)(I:b.s+b.n=k+1):(exB k b o).has rm=b.has rm/\(exB k b o).v rm=b.v rm:=by
 cases o with
 | none=>exact⟨rfl,rfl⟩
 | some y=>
  refine⟨?_,by simp only[exB];rw[EQ ⋯]⟩;unfold exB Bar.has;simp only;congr 1;exact decide_eq_decide.mpr ⋯
theorem YH(z:b.s+b.n=k+1):(exB k b o).has (k+1)=o.isSome:=by
 cases o with
 | none=>unfold exB Bar.has;simp;omega
 | some y=>unfold exB Bar.has;simp;omega
theorem pV(k b o):(exB k b o).s=b.s:=by cases o<;>rfl
theorem Av(p0:0<p)(O:b.s+b.n=k+1)(Y:BarOk p w wd T k b)(hr : ∀y,o=some y->∀c,c<wd (k+1)->0<=y c/\y c<p)
 (h0:o=none->w k=false->∀c,c<wd (k+1)->app (T k) (wd k) (b.v k) c%p=0) (h1 : ∀y,o=some y->w k=false->∀c,c<wd (k+1)->app (T k) (wd k) (b.v k) c%p=y c%p)
 (h2 : ∀y,o=some y->w k=true->∀c,c<wd k->app (T k) (wd<|k+1) y c%p=b.v k c%p):BarOk p w wd T (k+1) (exB k b o):=by
 have am:=Y.n1;refine⟨?_,?_,λS c hh z=>?_,λj hj Z c z=>?_⟩
 ·cases o with
  | none=>exact Y.n1
  | some y=>show 1<=b.n+1;omega
 ·cases o with
  | none=>show b.s+b.n<=k+1+1;omega
  | some y=>show b.s+(b.n+1)<=k+1+1;omega
 ·by_cases a7:S<=k
  ·obtain⟨e1,I⟩:=JX (o:=o) a7 O
   rw[e1]at hh;rw[I];exact Y.rng S c hh z
  ·have a3:=has_iff.mp hh
   cases o with
   | none=>exact absurd a3.2 (by show ¬(S<b.s+b.n);omega)
   | some y=>
    have:S=k+1:=by have:S<b.s+(b.n+1):=a3.2;omega
    subst this;have e:(exB k b<|some y).v (k+1)=y:=by simp[exB]
    rw[e];exact hr y rfl c z
 ·by_cases a2:j<k
  ·have g1:begR w j<=k:=by unfold begR;split<;>omega
   have g2:endR w j<=k:=by unfold endR;split<;>omega
   obtain⟨e1,I⟩:=JX (o:=o) g1 O;obtain⟨e3,e4⟩:=JX (o:=o) g2 O;rw[e1]at Z;rw[I,e3,e4];exact Y.arr j a2 Z c z
  ·have a2:j=k:=by omega
   subst a2;obtain⟨e1,I⟩:=JX (o:=o) (Gh j) O;have e5:=YH (k:=j) (o:=o) O;have ad:b.has j=true:=has_iff.mpr ⋯;cases hw:w j with
   | false=>
    have eb:begR w j=j:=by unfold begR;rw[hw];rfl
    have U:endR w j=j+1:=by unfold endR;rw[hw];rfl
    rw[U]at z;rw[eb,U,I,e5];cases o with
    | none=>rw[h0 rfl hw c z];simp
    | some y=>rw[h1 y rfl hw c z];simp[exB]
   | true=>
    have eb:begR w j=j+1:=by unfold begR;rw[hw];rfl
    have U:endR w j=j:=by unfold endR;rw[hw];rfl
    rw[U]at z;rw[eb,e5]at Z;rw[eb,U,e1,I,ad];cases o with
    | none=>cases Z
    | some y=>
     have e:(exB j b<|some y).v (j+1)=y:=by simp[exB]
     rw[e,h2 y rfl hw c z];simp
theorem uX(Y : ∀c,c<wd (k+1)->0<=y c/\y c<p)(h2:w k=true->∀c,c<wd k->app (T k) (wd<|k+1) y c%p=0):BarOk p w wd T (k+1) (nuB k y):=by
 refine⟨Gh _,by show k+1+1<=k+1+1;omega,λrm c O z=>?_,λj hj I c z=>?_⟩
 ·rw[vV]at O
  have:=of_decide_eq_true O;subst this;exact Y c z
 ·rw[vV]at I
  have I:=of_decide_eq_true I;cases hw:w j with
  | false=>
   have S:begR w j=j:=by unfold begR;rw[hw];rfl
   omega
  | true=>
   have S:begR w j=j+1:=by unfold begR;rw[hw];rfl
   have U:endR w j=j:=by unfold endR;rw[hw];rfl
   have Z:j=k:=by omega
   subst Z;rw[U]at z;have e0:(nuB j y).has (endR w j)=false:=by rw[vV,U];simp
   rw[e0,S];show app (T j) (wd<|j+1) y c%p=_;rw[h2 hw c z];simp
def yC(p:Int)(k:Nat)(w:RX)(bars:List Bar)(A:Nat->Bar)(N r:Nat)(B:Nat->Vc)(l:RZ)(nx:Nat->Option Vc)(z:List Vc):List Bar:=
 (bars.filter λb=> !b.has k)++(if w k then (Ga N).map (λi=>exB k (stB p A N r B l i)<|nx i)++z.map (nuB k)else z.map (nuB k)++(Ga N).map λi=>exB k (stB p A N r B l i)<|nx i)
theorem dg(p0:0<p)(I:BrInv p w wd T k bars)(hN:(bars.filter λb=>b.has k).length=N)(U : ∀j,A j=(bars.filter λb=>b.has k).getD j fC)(O:IsB p N r B l)
 (c1 : ∀i y,i<N->nx i=some y->∀c,c<wd (k+1)->0<=y c/\y c<p) (c2 : ∀y,y∈news->∀c,c<wd (k+1)->0<=y c/\y c<p)
   (d0 : ∀i,i<N->nx i=none->w k=false->∀c,c<wd (k+1)->app (T k) (wd k) ((stB p A N r B l i).v k) c%p=0)
   (d1 : ∀i y,i<N->nx i=some y->w k=false->∀c,c<wd (k+1)->app (T k) (wd k) ((stB p A N r B l i).v k) c%p=y c%p)
   (d2 : ∀i y,i<N->nx i=some y->w k=true->∀c,c<wd k->app (T k) (wd<|k+1) y c%p=(stB p A N r B l i).v k c%p)
   (d3 : ∀y,y∈news->w k=true->∀c,c<wd k->app (T k) (wd<|k+1) y c%p=0)
   (s1 : ∀v,Span p (wd<|k+1) (λg=>(∃i,i<N/\nx i=some g)\/g∈news) v) (n1:(Ga N).countP (λi=>(nx i).isSome)+news.length=wd (k+1)) :
   BrInv p w wd T (k+1) (yC p k w bars A N r B l nx news):=by
  have mA : ∀j,j<N->A j∈bars/\(A j).has k=true:=λj Y=>by
   have:A j∈bars.filter λb=>b.has k:=by rw[U j,Gj,Gd ⋯];exact Lc _
   have:=GT.mp this;exact⟨this.1,by simpa using this.2⟩
  have a9 : ∀j,j<N->BarOk p w wd T k (A j):=λj Y=>I.ok _ (mA j Y).1;have hO : ∀i c,i<c->c<N->Ord w (A i) (A c):=λi c h1 h2=>by have:=IA.mp I.od i c ⋯ ⋯ h1;rw[U i,U c,Gj,Gd ⋯,Gj,Gd ⋯];exact this
  have okS : ∀i,i<N->BarOk p w wd T k (stB p A N r B l i):=λi hi=>lV p0 O a9 (λj Y=>(mA j Y).2) hO hi;have Z : ∀i,i<N->(stB p A N r B l i).s+(stB p A N r B l i).n=k+1:=λi hi=>by rw[aP,sO];have h1:=has_iff.mp (mA i hi).2;have h2:=(a9 i hi).le;omega
  have a2 : ∀b,b∈bars->b.has k=false->b.s+b.n<=k:=λb O hk=>by have h1:=(I.ok b O).le;have h2:=(I.ok b O).n1;refine Nat.not_lt.mp λz=>?_;have:b.has k=true:=has_iff.mpr ⋯;rw[this]at hk;cases hk
  have mem : ∀b,b∈yC p k w bars A N r B l nx news↔(b∈bars/\b.has k=false)\/(∃i,i<N/\b=exB k (stB p A N r B l i) (nx i))\/∃y,y∈news/\b=nuB k y:=λb=>by
   unfold yC;rw[Li,GT];refine or_congr ⋯ ?_;cases w k<;>simp only[Il,if_false,if_true,Li,GO,Gc]
   ·constructor
    ·rintro(⟨y,h1,h2⟩ | ⟨i,h1,h2⟩)
     ·exact .inr ⟨y,h1,h2.symm⟩
     ·exact .inl ⟨i,h1,h2.symm⟩
    ·rintro(⟨i,h1,h2⟩ | ⟨y,h1,h2⟩)
     ·exact .inr ⟨i,h1,h2.symm⟩
     ·exact .inl ⟨y,h1,h2.symm⟩
   ·constructor
    ·rintro(⟨i,h1,h2⟩ | ⟨y,h1,h2⟩)
     ·exact .inl ⟨i,h1,h2.symm⟩
     ·exact .inr ⟨y,h1,h2.symm⟩
    ·rintro(⟨i,h1,h2⟩ | ⟨y,h1,h2⟩)
     ·exact .inl ⟨i,h1,h2.symm⟩
     ·exact .inr ⟨y,h1,h2.symm⟩
  have cnt : ∀P:Bar->Bool,(yC p k w bars A N r B l nx news).countP P=(bars.filter λb=> !b.has k).countP P+(Ga N).countP (λi=>P<|exB k (stB p A N r B l i)<|nx i)+(news.map<|nuB k).countP P:=λP=>by
   unfold yC;rw[List.countP_append];cases w k<;>simp only[Il,if_false,if_true,List.countP_append,Ll (f:=λi=>exB k (stB p A N r B l i)<|nx i)]
   ·rw[MU,Nat.add_comm (List.countP P<|List.map (nuB k) news)];rfl
   ·rw[MU];rfl
  refine⟨λb bf=>?_,λS hr v=>?_,λS hr=>?_,?_⟩
  ·rcases (mem b).mp bf with⟨h1,h2⟩ | ⟨i,hi,rfl⟩ | ⟨y,hy,rfl⟩
   ·have hk:=a2 b h1 h2
    have ob:=I.ok b h1;refine⟨ob.n1,by omega,ob.rng,λj Y al c hc=>?_⟩;have bn:=has_iff.mp al;refine ob.arr j ?_ al c hc;have:begR w j>=j:=by unfold begR;split<;>omega
    omega
   ·exact Av p0 (Z i hi) (okS i hi) (λy e=>c1 i y hi e) (λe=>d0 i hi e) (λy e=>d1 i y hi e) λy e=>d2 i y hi e
   ·exact uX (c2 y hy)<|d3 y hy
  ·by_cases a0:S<=k
   ·refine(I.sp S a0 v).le λg hg=>?_
    obtain⟨b,h1,h2,rfl⟩:=hg;cases hbk:b.has k with
    | false=>exact .gen ⟨b,(mem b).mpr (.inl ⟨h1,hbk⟩),h2,rfl⟩
    | true=>
     have bi:b∈bars.filter λb=>b.has k:=GT.mpr ⟨h1,by simpa using hbk⟩;obtain⟨i,hi,e⟩:=Mo bi;have ei:A i=b:=by rw[U i,Gj,Gd hi];exact e
     rw[<- ei]at h2 ⊢;refine iy (A:=A) (A':=λi=>stB p A N r B l i) (t:=λi=>tco r B l i) (λi hi=>(lU O hi).1) (λi c hi hc=>(lU O hi).2 c hc) (λi hi hh=>?_) (λi hi hh c _=>nN hi hh) i ⋯ h2;obtain⟨x1,x2⟩:=JX (o:=nx i) a0<|Z i hi;exact .gen ⟨_,(mem _).mpr (.inr<|.inl ⟨i,hi,rfl⟩),by rw[x1,Yb];exact hh,by rw[x2]⟩
   ·have:S=k+1:=by omega
    subst this;refine(s1 v).le λg hg=>?_;rcases hg with⟨i,hi,e⟩ | hg
    ·refine .gen ⟨_,(mem _).mpr (.inr<|.inl ⟨i,hi,rfl⟩),?_,?_⟩
     ·rw[YH (Z i hi),e];rfl
     ·rw[e];simp[exB]
    ·exact .gen ⟨_,(mem _).mpr (.inr<|.inr ⟨g,hg,rfl⟩),by rw[vV];simp,rfl⟩
  ·rw[cnt]
   by_cases a0:S<=k
   ·have e1:(news.map<|nuB k).countP (λb=>b.has S)=0:=NA.mpr λb O=>by
     obtain⟨y,_,rfl⟩:=GO.mp O;rw[vV];simp;omega
    have e2:(Ga N).countP (λi=>(exB k (stB p A N r B l i)<|nx i).has S)=(bars.filter λb=>b.has k).countP λb=>b.has S:=by
     have:(bars.filter λb=>b.has k)=(Ga N).map A:=by rw[<- jC fC (bars.filter λb=>b.has k),hN];exact GI λj _=>(U j).symm
     rw[this,Ll];refine Iy λi hi=>?_;have hi:=Gc.mp hi;rw[(JX (o:=nx i) a0<|Z i hi).1,Yb];rfl
    rw[e1,e2,<- I.ct S a0,List.countP_eq_countP_filter_add bars (λb=>b.has S) λb=>b.has k];omega
   ·have:S=k+1:=by omega
    subst this;have e0:(bars.filter λb=> !b.has k).countP (λb=>b.has<|k+1)=0:=NA.mpr λb O=>by obtain⟨h1,h2⟩:=GT.mp O;have:=a2 b h1 (by simpa using h2);intro z;have:=has_iff.mp z;omega
    have e1:(news.map<|nuB k).countP (λb=>b.has<|k+1)=news.length:=by rw[List.countP_eq_length.mpr λb O=>?_,Gw];obtain⟨y,_,rfl⟩:=GO.mp O;rw[vV];simp
    have e2:(Ga N).countP (λi=>(exB k (stB p A N r B l i)<|nx i).has (k+1))=(Ga N).countP λi=>(nx i).isSome:=Iy λi hi=>by rw[YH (Z i<|Gc.mp hi)]
    rw[e0,e1,e2];omega
  ·have e0:((bars.filter λb=> !b.has k).filter λb=>b.has<|k+1)=[]:=List.filter_eq_nil_iff.mpr λb O=>by
    obtain⟨h1,h2⟩:=GT.mp O;have:=a2 b h1 (by simpa using h2);intro z;have:=has_iff.mp z;omega
   have pO:((Ga N).map λi=>exB k (stB p A N r B l i)<|nx i).Pairwise (Ord w):=by rw[LY];refine Mh (λ{a b} ha O h=>?_)<|LW (n:=N);have:=hO a b h<|Gc.mp O;unfold Ord;rw[pV,pV,aP,aP];exact this
   have pN:(news.map<|nuB k).Pairwise (Ord w):=by
    rw[LY];refine IA.mpr λ_ _ _ _ _=>⟨λz=>?_,λz=>?_⟩
    ·exact absurd z<|Hn<|k+1
    ·exact absurd z<|Hn<|k+1
   have so : ∀b,b∈(Ga N).map (λi=>exB k (stB p A N r B l i)<|nx i)->b.s<=k:=λb O=>by obtain⟨i,hi,rfl⟩:=GO.mp O;have hi:=Gc.mp hi;rw[pV,aP];exact(has_iff.mp (mA i hi).2).1
   have sn : ∀b,b∈news.map (nuB k)->b.s=k+1:=λb O=>by obtain⟨y,_,rfl⟩:=GO.mp O;rfl
   unfold yC;rw[MB,e0,LM];refine MJ _ ?_;cases hw:w k with
   | false=>
    simp only[Il,if_false];refine List.pairwise_append.mpr ⟨pN,pO,λa ha b O=>?_⟩;have h1:=sn a ha;have h2:=so b O;exact⟨λz=>by omega,λ_=>by rw[h1];exact hw⟩
   | true=>
    simp only[if_true];refine List.pairwise_append.mpr ⟨pO,pN,λa ha b O=>?_⟩;have h1:=sn b O;have h2:=so a ha;exact⟨λ_=>by rw[h1];exact hw,λz=>by omega⟩
end
def Aa:=(jk 3<|jR<|zH (zU<|sIx (zh 2)<|zq<|.int 1) (.nm 0) 1 [2] z6 (jR<|zH (zJ<|zO<|sIx (zh 1)<|zq<|.int 2) (.nm 0) 1 [0] z6 (sIx (zh 0)<|zc 1)))
def CJ:=(kx 4<|kf zF)
def CI:=(yJ (zJ<|zO<|sIx (zh 1)<|zq<|.int 2) (.nm 5)<|qt 4<|zP<|jQ<|zH (zJ<|zh 3) (.nm 0) 1 [0,5] z6 (zv jV (lW<|jQ<|zH (K7 (zc 2)<|zc 0) (.tp [0,1]) 2 [] z6 (zv qm (zc 0)<|zc 1))<|zc 1))
def Bl:=(qW<|j3<|zb (sIx (zh 1)<|zq<|.int 0)<|zb (sIx (zh 2)<|zq<|.int 1)<|zb (zP<|zh 4) zF)
def jP:=js 6<|zI Aa<|zI CJ<|zI CI Bl
def tn1:=(kx 4<|zH (zU<|zc 3) (.nm 0) 1 [3] z6 (jR<|zH (zU<|zc 1) (.nm 0) 1 [0] z6 (vJ<|zv dEq (zc 1)<|zc 0)))
def tn2:=(Ye 5<|yO (zU<|zc 3) (.nm 0) 1 [3] (zH (zU<|zc 1) (.nm 0) 1 [0] z6 (vJ<|zv dEq (zc 1)<|zc 0)))
def tn3:=(yJ (zU<|zv qm (zq<|.int 3)<|zc 3) (.nm 6)<|zI (jk 7<|zG zR<|zb (zc 0)<|zb (zv ju (zc 1)<|zc 6) zF)<|zI (jk 8<|zv jV (zc 7)<|zc 3)<|zI (jk 9<|zv jV (zv yb (zc 7)<|zc 3)<|zc 3)<|zI (jk 10<|zv ju (zq<|.int 1)<|zv jV (zv yb (zc 7)<|zq<|.int 97)<|zv wt (zc 2)<|zq<|.int 1)<|sIf (sB<|zv dEq (zc 8)<|zc 9) (zI (wo 4 (zc 8)<|jR<|zH (zJ<|zO<|sIx (zh 4)<|zc 8) (.nm 0) 1 [2,10] z6 (zv jV (zv qm (zc 2)<|zc 0)<|zc 1))<|zI (jk 11<|sIx (jQ<|zH (zU<|zc 2) (.nm 0) 1 [2,10] (sB<|zv dEq (zv jV (zv qm (zc 0)<|zc 2)<|zc 1)<|zq<|.int 1) (zc 0))<|zq<|.int 0)<|vK 5 12 (zc 8)<|zv jV (zv qm (sIx (zh 12)<|zc 8)<|zc 11)<|zc 2)<|zI (wo 4 (zc 9)<|jR<|zH (K7 (sIx (zh 4)<|zc 9)<|sIx (zh 4)<|zc 8) (.tp [0,1]) 2 [2,10] z6 (zv jV (zv ju (zc 0)<|zv qm (zc 3)<|zc 1)<|zc 2))<|vK 5 12 (zc 8)<|zv jV (zv wt (sIx (zh 12)<|zc 8)<|zv qm (zc 10)<|sIx (zh 12)<|zc 9)<|zc 2)
def tn4:=(kx 13<|kf zF)
def tn5:=(Ws 5<|Bc 4<|yJ (zJ<|zO<|jR<|kf<|zb (zc 4)<|zb (zc 5) zF) (.nm 14)<|qt 13<|j3<|zb (zc 3)<|zb (zc 3)<|zb (zP<|jQ<|zH (zJ<|zh 14) (.nm 0) 1 [] z6 (zP<|zh 0)) zF)
def tn6:=(Zm 13)
def qA:=js 15<|zI tn1<|zI tn2<|zI tn3<|zI tn4<|zI tn5 tn6
def CH:=(gr (.tp [3,4,5])<|zc 0)
def CG:=(kx 6<|kf zF)
def CF:=(yJ (QE (zc 5)) (.tp [7,8]) (zI (jk 9 (zv ju (zc 7) (vJ (zv dEq (sIx (zh 8) (zq (.int 0))) (zq (.str "l")))))) (zI (jk 10 (zv ju (zc 7) (vJ (zv dEq (sIx (zh 8) (zq (.int 0))) (zq (.str "r")))))) (qt 6 (j3 (zb (sIx (zh 8) (zq (.int 0))) (zb (zG jP (zb (zc 3) (zb (zG jP (zb (zc 3) (zb (sIx (zh 1) (zc 10)) (zb (sIx (zh 8) (zq (.int 1))) zF)))) (zb (sIx (zh 2) (zc 9)) zF)))) zF)))))))
def Bj:=(qW<|j3<|zb (zc 3)<|zb (zc 4)<|zb (zP<|zh 6) zF)
def qf:=js 11<|zI CH<|zI CG<|zI CF Bj
def jN:=js 1<|qW<|j3<|zb (sIx (zh 0)<|zq<|.int 0)<|zb (zv wt (zv ju (sIx (zh 0)<|zq<|.int 0)<|Jk<|zO<|sIx (zh 0)<|zq<|.int 1)<|zq<|.int 1) zF
def jJ:=js 2<|qW<|XX dLe dLt (sIx (zh 0)<|zq<|.int 0) (zc 1)<|zv ju (sIx (zh 0)<|zq<|.int 0)<|Jk<|zO<|sIx (zh 0)<|zq<|.int 1
def qp:=js 2<|vH<|zH (zJ<|zh 0) (.nm 0) 1 [1] (sB<|zG jJ<|zb (zc 0)<|zb (zc 1) zF) (sIx (zO<|sIx (zh 0)<|zq<|.int 1)<|zv wt (zc 1)<|sIx (zh 0)<|zq<|.int 0)
def xF:=js 2<|qW<|zG qc<|zb (j3<|zb (Jk<|zh 1)<|zb (zc 0)<|zb (zP<|zh 1) zF) zF
def xT:=js 5<|zI (jk 4<|jR<|zH (K7 (zc 2)<|zc 1) (.tp [0,1]) 2 [3] (sB<|zG jJ<|zb (zc 1)<|zb (zc 2) zF) (zc 0))<|qW<|zG Y2<|zb (sIx (zh 0)<|zq<|.int 0)<|zb (zG xF<|zb (sIx (zO<|sIx (zh 0)<|zq<|.int 1)<|zc 3)<|zb (jR<|jE qp<|zb (zc 1)<|zb (zc 3) zF) zF)<|zb (zc 4) zF
def Xy:=js 5<|zI (jk 3<|sIx (zh 1)<|zG qi<|zb (zc 2) zF)<|zI (jk 4<|jR<|zH (zU<|Jk<|zO<|sIx (zh 3)<|zq<|.int 1) (.nm 0) 1 [0,1,2,3] z6 (zG xT<|zb (zc 1)<|zb (zc 2)<|zb (zc 3)<|zb (zv ju (sIx (zh 4)<|zq<|.int 0)<|zc 0) zF))<|qW<|j3<|zb (sIx (zh 3)<|zq<|.int 0)<|zb (zP<|zh 4) zF
def sd1:=(jk 3<|sIx (zO<|sIx (zO<|sIx (zh 0)<|zq<|.int 2)<|zc 1)<|zq<|.int 0)
def sd2:=(jk 4<|sIx (zO<|sIx (zO<|sIx (zh 0)<|zq<|.int 2)<|zc 1)<|zq<|.int 1)
def sd3:=(jk 5 (ak (sB (zv dEq (zc 3) (zq (.str "r")))) (jR (jE yv (zb (sIx (zh 0) (zq (.int 0))) (zb (zc 4) zF)))) (jR (jE wj (zb (sIx (zh 0) (zq (.int 0))) (zb (zc 4) zF))))))
def sd4:=(jk 6<|jR<|jE F_led_into<|zb (sIx (zh 0)<|zq<|.int 0)<|zb (zG xF<|zb (sIx (zO<|sIx (zh 0)<|zq<|.int 1)<|zc 1)<|zb (jR<|jE qp<|zb (zc 2)<|zb (zc 1) zF) zF)<|zb (zc 5) zF)
def sd5:=(jk 7<|bc<|zH (zJ<|zh 6) (.nm 0) 1 [] z6 (j3<|zb (zG qi<|zb (zc 0) zF)<|zb (zc 0) zF))
def sd6:=(vH<|zH (Vk<|zc 2) (.tp [0,1]) 2 [0,2,7] z6 (ak (sB<|tq (zc 0)<|zc 4) (zG Xy<|zb (zc 2)<|zb (zc 3)<|zb (Bd (zc 4)<|zc 0) zF)<|zc 1))
def vy:=js 8<|zI sd1<|zI sd2<|zI sd3<|zI sd4<|zI sd5 sd6
def nl1:=(sIf (sB (zv dEq (sIx (zh 1) (zq (.int 0))) (zq (.str "l")))) (qW (zG yu (zb (zc 0) (zb (sIx (zh 1) (zq (.int 1))) (zb (zc 2) zF))))) qT)
def nl2:=(jk 3<|zG Y2<|zb (zc 0)<|zb (sIx (zh 1)<|zq<|.int 1)<|zb (zc 2) zF)
def nl3:=(qW<|ak (sB<|om<|zh 3) (zc 3)<|zq .non)
def qM:=js 4<|zI nl1<|zI nl2 nl3
def tk1:=(jk 3<|zG qM<|zb (zc 0)<|zb (zc 1)<|zb (sIx (zO<|sIx (zh 2)<|zq<|.int 1)<|rX<|zq<|.int 1) zF)
def tk2:=(qW<|ak (sB<|zv AD (zc 3)<|zq .non) (zc 2)<|j3<|zb (sIx (zh 2)<|zq<|.int 0)<|zb (zv ju (sIx (zh 2)<|zq<|.int 1)<|j3<|zb (zc 3) zF) zF)
def kq:=js 4<|zI tk1 tk2
def nw1:=(sIf (sB (zv dEq (sIx (zh 1) (zq (.int 0))) (zq (.str "l")))) (vH (jE yv (zb (zc 0) (zb (sIx (zh 1) (zq (.int 1))) zF)))) qT)
def nw2:=(jk 2<|jR<|zH (zJ<|jQ<|jE wj<|zb (zc 0)<|zb (sIx (zh 1)<|zq<|.int 1) zF) (.nm 0) 1 [] z6 (zG qi<|zb (zc 0) zF))
def nw3:=(vH<|zH (QE<|sIx (zO<|zG jD<|zb (sIx (zO<|sIx (zh 1)<|zq<|.int 1)<|zq<|.int 0) zF)<|zq<|.int 2) (.tp [0,1]) 2 [2] (sB<|QC (zc 0)<|zh 2) (zc 1))
def kM:=js 3<|zI nw1<|zI nw2 nw3
def gr1:=(jk 3<|sIx (zh 0)<|zq<|.int 0)
def gr2:=(jk 4<|sIx (zO<|sIx (zh 0)<|zq<|.int 2)<|zc 1)
def gr3:=(jk 5<|jR<|zH (zJ<|zh 2) (.nm 0) 1 [1] (ke<|sB<|zG jJ<|zb (zc 0)<|zb (zc 1) zF) (zc 0))
def gr4:=(jk 6<|jR<|jE vy<|zb (zc 0)<|zb (zc 1)<|zb (jR<|zH (zJ<|zh 2) (.nm 0) 1 [1] (sB<|zG jJ<|zb (zc 0)<|zb (zc 1) zF) (zc 0)) zF)
def gr5:=(jk 7<|jR<|zH (zJ<|zh 6) (.nm 0) 1 [3,4] z6 (zG kq<|zb (zc 1)<|zb (zc 2)<|zb (zc 0) zF))
def gr6:=(jk 8<|jR<|zH (zJ<|jQ<|jE kM<|zb (zc 3)<|zb (zc 4) zF) (.nm 0) 1 [1] z6 (j3<|zb (zv ju (zc 1)<|zq<|.int 1)<|zb (j3<|zb (zc 0) zF) zF))
def gr7:=(qW (jR (QF (zh 5) (zO (ak (sB (zv dEq (sIx (zh 4) (zq (.int 0))) (zq (.str "r")))) (jR (QF (zh 8) (zh 7))) (jR (QF (zh 7) (zh 8))))))))
def Jg:=js 9<|zI gr1<|zI gr2<|zI gr3<|zI gr4<|zI gr5<|zI gr6 gr7
def ag1:=(jk 1<|jR<|zH (zJ<|zO<|sIx (zO<|zG jD<|zb (sIx (zO<|sIx (zh 0)<|zq<|.int 1)<|zq<|.int 0) zF)<|zq<|.int 2) (.nm 0) 1 [] z6 (j3<|zb (zq<|.int 0)<|zb (j3<|zb (zc 0) zF) zF))
def ag2:=(yJ (zU<|Jk<|zO<|sIx (zh 0)<|zq<|.int 2) (.nm 2)<|jk 1<|zG Jg<|zb (zc 0)<|zb (zc 2)<|zb (zc 1) zF)
def ag3:=(vH<|aX jN<|zh 1)
def kP:=js 3<|zI ag1<|zI ag2 ag3
def ba1:=(jk 1<|jR<|jE kP<|zb (zc 0) zF)
def ba2:=(jk 2<|jR<|zH (QE<|sIx (zh 0)<|zq<|.int 1) (.tp [0,1]) 2 [1] z6 (zG xF<|zb (zc 1)<|zb (jR<|jE qp<|zb (zc 2)<|zb (zc 0) zF) zF))
def ba3:=(jk 3<|jR<|zH (zJ<|zh 2) (.nm 0) 1 [0] z6 (zG xG<|zb (sIx (zh 1)<|zq<|.int 0)<|zb (zc 0) zF))
def ba4:=(qW<|j3<|zb (jR<|zH (zJ<|zh 1) (.nm 0) 1 [] z6 (zG jN<|zb (zc 0) zF))<|zb (zc 3)<|zb (zc 2) zF)
def yw:=js 4<|zI ba1<|zI ba2<|zI ba3 ba4
def an1:=jk 4<|sIx (jQ<|kf<|zb (zq<|.int 2)<|zb (zq<|.int 3)<|zb (zq<|.int 5)<|zb (zq<|.int 7) zF)<|zv jV (zG zR<|zb (zc 0)<|zb (zc 1) zF)<|zq<|.int 4
def an2:=jk 5<|jR<|zH (zU<|zc 2) (.nm 0) 1 [0,1,3] z6 (zv jV (zv yb (zG zR<|zb (zc 1)<|zb (zv ju (zv ju (zc 2)<|zq<|.int 1)<|zc 0) zF)<|zq<|.int 4)<|zv ju (zc 3)<|zq<|.int 1)
def an3:=kx 6<|kf zF
def an4:=yJ (zU (zv wt (zc 2) (zq (.int 1)))) (.nm 7) (zI (jk 8 (zG zR (zb (zc 0) (zb (zv ju (zv ju (zc 1) (zq (.int 8))) (zc 7)) zF)))) (zI (jk 9 (sIx (zh 5) (zv ju (zc 7) (zv jV (zc 8) (zq (.int 2)))))) (zI (jk 10 (sIx (zh 5) (zv wt (zv ju (zc 7) (zq (.int 1))) (zv jV (zc 8) (zq (.int 2)))))) (zI (Ye 11 (yO (zU (zc 10)) (.nm 0) 1 [9] (zH (zU (zc 1)) (.nm 0) 1 [] z6 (zq (.int 0))))) (zI (yJ (zU (zv ju (zv jV (zv yb (zc 8) (zq (.int 2))) (zv ju (zv qm (zc 9) (zc 10)) (zq (.int 1)))) (zq (.int 1)))) (.nm 12) (zI (jk 13 (zG zR (zb (zc 0) (zb (zv ju (zv ju (zv ju (zc 1) (zq (.int 14))) (zv qm (zq (.int 12)) (zc 7))) (zc 12)) zF)))) (sIf (sB (zv dGt (zv qm (zc 9) (zc 10)) (zq (.int 0)))) (Wq 11 (zv jV (zc 13) (zc 10)) (zv jV (zv yb (zc 13) (zq (.int 8))) (zc 9)) (zv jV (zv yb (zc 13) (zq (.int 64))) (zc 4))) qT))) (zI (sIf (Yi (sB (zv dEq (zv jV (zv yb (zc 8) (zq (.int 256))) (zq (.int 3))) (zq (.int 0)))) (sB (zv dGt (zc 10) (zq (.int 1))))) (aY 11 (zv wt (zc 10) (zq (.int 1))) (zH (zJ (Wp 11 (zq (.int 0)))) (.nm 0) 1 [4,8] z6 (zv jV (zv qm (zv yb (zc 2) (zq (.int 1024))) (zc 0)) (zc 1)))) qT) (Ws 11 (qt 6 (j3 (zb (JD (zq (.str "rl")) (zv jV (zc 8) (zq (.int 2)))) (zb (j3 (zb (zc 10) (zb (zc 9) (zb (zP (jQ (zH (zJ (zh 11)) (.nm 0) 1 [] z6 (zP (zh 0))))) zF)))) zF)))))))))))
def an5:=qW<|j3<|zb (zc 4)<|zb (zP<|zh 5)<|zb (zP<|zh 6) zF
def qB:=js 14<|zI an1<|zI an2<|zI an3<|zI an4 an5
theorem zw(h:F γ=some (.next γ'))(g:G γ'=r):zI F G γ=r:=by rw[jI,h];exact g
theorem jO(h:F (z9 n ds)=some (.ret r)):js n F ds=some r:=by show(F<|z9 n ds).bind _=_;rw[h];rfl
theorem KM{T:Tg}{F:CO Fl}(P:Nat->Ctx->Prop)(n:Nat){γ:Ctx}(O:P 0 γ)(step : ∀s,s<n->∀γ,P s γ->∃γ1 z,qV T (.int (s:Int)) γ=some γ1/\F γ1=some (.next z)/\P (s+1) z) :
 ∃γ',xk T F ((Ga n).map λ(i:Nat)=>D.int (i:Int)) γ=some (.next γ')/\P n γ':=by
 have key : ∀(k s:Nat) (γ:Ctx),s+k=n->P s γ->∃γ',xk T F ((LX s k).map λ(i:Nat)=>D.int (i:Int)) γ=some (.next γ')/\P n γ':=by
  intro k
  induction k with
  | zero=>
   intro s γ e I;obtain rfl:s=n:=by omega
   exact⟨γ,rfl,I⟩
  | succ k S=>
   intro s γ e I;obtain⟨γ1,z,e1,U,Y⟩:=step s ⋯ γ I;obtain⟨γ',Z,q2⟩:=S (s+1) z ⋯ Y;refine⟨γ',?_,q2⟩;rw[La,GQ,jX,e1];simp only[Gk,U];exact Z
 have:=key n 0 γ ⋯ O;rw[<- Lw]at this;exact this
theorem ki(P:Nat->Ctx->Prop)(n:Nat)(hn:n<=lim)(I:f γ=some (.int (n:Int)))(O:P 0 γ)(step : ∀s,s<n->∀γ,P s γ->∃γ1 z,qV T (.int (s:Int)) γ=some γ1/\F γ1=some (.next z)/\P (s+1) z) :
 ∃γ',yJ (zU f) T F γ=some (.next γ')/\P n γ':=by
 obtain⟨γ',e,S⟩:=KM P n O step;refine⟨γ',?_,S⟩;have U:=jz;have r:inR (n:Int)=true:=KG ⋯ ⋯;rw[K2,vq,I];simp only[Gk,qg,r,if_true,Ih,jL];rw[je n λi=>(i:Int)];exact e
@[simp] theorem Et(γ:Ctx)(f g):oh f g γ=((f γ).bind asI).bind λi=>((g γ).bind asI).map λj=> .int (if j<i then j else i):=rfl
def EH(m m':Nat)(w w':RX):Prop:=m=m'/\∀k,k<m->w k=w' k
instance (m m':Nat) (w w':RX):Decidable (EH m m' w w'):=inferInstanceAs (Decidable (m=m'/\∀k,k<m->w k=w' k))
theorem eC(xs:List D)(n:Nat)(hn:xs.length=n)(a5 : ∀i (h:i<n),∃z,xs[i]'(hn ▸ h) = .int z)(bi:n<=63)(k:Int)(hk:0<=k)(bl:k<100000) :
 ∃m,zR [.lst xs,.int k]=some (.val<|.int m)/\0<=m/\m<1000000007:=by
 have O : ∀x:Int,wy x 48271=true:=λx=>wu _ _ ⋯ ⋯;have S : ∀x:Int,wy 7 x=true:=λx=>kW _ _ ⋯ ⋯;have U : ∀x:Int,wy 13 x=true:=λx=>kW _ _ ⋯ ⋯;have Y : ∀x:Int,wy x 69621=true:=λx=>wu _ _ ⋯ ⋯;have c5:wy (7*k) k=true:=wu _ _ ⋯ ⋯;have I:AG 10 9=true:=by decide
 have Z:AG 10 30=true:=by decide
 have hl:lim=2500:=rfl;by_cases am:n=0
 ·subst am
  have e0:xs=[]:=Hq hn;subst e0;simp[zR,js,z9,jI,O,S,U,Y,c5,I,Z];omega
 ·have hp:0<n:=by omega
  obtain⟨i,hi⟩:=IG (GU k<|show(n:Int)≠0 by omega);have a6:i<n:=by have:=GH k (show(0:Int)<n by omega);omega
  obtain⟨zi,ei⟩:=a5 i a6;have ii:ixD n (i:Int)=some i:=by rw[xC,RY a6]
  by_cases h1:n=1
  ·subst h1
   have i0:i=0:=by omega
   subst i0;have k1:k%1=0:=by omega
   simp[zR,js,z9,jI,O,S,U,Y,c5,I,Z,hn,ei];omega
  ·obtain⟨z0,e0⟩:=a5 0 hp
   have i0:ixD n 0=some 0:=by have:=xC n 0;rw[RY hp]at this;exact this
   have q1:(0:Int)<(n:Int) - 1:=by omega
   have q2:(1:Int)<(n:Int):=by omega
   have al:1<n:=by omega
   have q3:(n:Int) - 1<1073741824:=by omega
   have q4:(0:Int)<(n:Int):=by omega
   obtain⟨j,hj⟩:=IG (GU k<|show(n:Int) - 1≠0 by omega);have a7:1+j<n:=by have:=GH k q1;omega
   obtain⟨zj,ej⟩:=a5 (1+j) a7;have ij:ixD n (1+(j:Int))=some (1+j):=by have:=xC n<|1+j;rw[RY a7]at this;rw[<- this];congr 1
   have hd:0<=k/((n:Int) - 1)/\k/((n:Int) - 1)<=k:=⟨Int.ediv_nonneg hk ⋯,Int.ediv_le_self _ hk⟩;obtain⟨t,ht⟩:=IG hd.1;by_cases ha:z0%2=1
   ·obtain⟨t',be,bx⟩ : ∃t':Nat,(if (t:Int)<60 then (t:Int)else 60)=t'/\t'<=60:=by
     split
     ·exact⟨t,rfl,by omega⟩
     ·exact⟨60,rfl,by omega⟩
    have bf:inR (t':Int)=true:=KG ⋯ ⋯;simp[zR,js,z9,jI,O,S,U,Y,c5,hn,hp,a7,q2,al,e0,i0,q1,q3,ha,hj,ij,ej,ht,I,Z];rw[be,RY bf];simp only[Gk,jL,Ih];rw[je t' λi=>(i:Int)];have key : ∀(m s:Nat) (v:Int) (c:Cell),∃v' c',xk (.nm 3) (jk 2<|zv yb (zc 2)<|zv rB (zq<|D.int 10)<|zq<|D.int 9) ((LX s m).map λ(i:Nat)=>D.int i) [.val (.lst xs),.val<|.int k,.val<|.int v,c,.no] =
     some (.next [.val (.lst xs),.val<|.int k,.val<|.int v',c',.no]):=by
     intro m
     induction m with
     | zero=>intro s v c;exact⟨v,c,rfl⟩
     | succ m ih=>
      intro s v c;rw[La,GQ,jX];obtain⟨v',c',h⟩:=ih (s+1) (v/10 ^ 9)<|.val<|.int s;refine⟨v',c',?_⟩;rw[<- h];simp[I]
    obtain⟨v',c',h⟩:=key t' 0 zj .no;rw[<- Lw]at h;rw[h];simp[I];omega
   ·simp[zR,js,z9,jI,O,S,U,Y,c5,hn,q2,al,q4,hp,e0,i0,ha,hi,ei,a6,ii,I,Z]
    omega
theorem rH(ns:List Int)(hn:ns.length<=63)(k:Int)(z:0<=k)(I:k<100000) : ∃m,zR [qC ns,.int k]=some (.val<|.int m)/\0<=m/\m<1000000007:=
 eC (ns.map D.int) ns.length ⋯ (λi hi=>⟨ns[i],by simp⟩) hn k z I
def vi(ns:List Int)(k:Int):Int:=match zR [qC ns,.int k]with
 | some (.val<|.int m)=>m
 | _=>0
theorem wb(hn:ns.length<=63)(z:0<=k)(I:k<100000):zR [qC ns,.int k]=some (.val<|.int<|vi ns k)/\0<=vi ns k/\vi ns k<1000000007:=by
 obtain⟨m,h,h1,h2⟩:=rH ns hn k z I;have e:vi ns k=m:=by unfold vi;rw[h]
 rw[e];exact⟨h,h1,h2⟩
def xZ(bs:List (Int×Int)):List D:=bs.map λb=>D.tup [.int b.1,.int b.2]
@[simp] theorem AJ(bs):(xZ bs).length=bs.length:=by simp[xZ]
def Zj(bs:List (Int×Int)):List (Int×Int):=(xy bs).map λi=>bs.getD i (0,0)
theorem JB(bs):(Zj bs).Perm bs:=by have:=(qo bs).map λi=>bs.getD i (0,0);rw[jC]at this;exact this
@[simp] theorem BC(γ f):lY f γ=(f γ).bind λa=>match a.1 with
 | .L=>sQ a.2
 | _=>none:=rfl
section ap
variable(γ:Ctx)
@[simp] theorem BB(f):lX f γ=(f γ).bind λd=>match d with
 | .str z=>if xK z=true then some (XT z)else none
 | _=>none:=rfl
@[simp] theorem BE(f):ba f γ=(f γ).bind λd=>match d with
 | .str z=>if xK z=true then some (qZ<|XT z)else none
 | _=>none:=rfl
@[simp] theorem BF(f):Vk f γ=(f γ).bind λd=>match d with
 | .lst ds=>some (qZ ds)
 | _=>none:=rfl
@[simp] theorem Fe(f g):EK f g γ=(f γ).bind λd=>(g γ).bind λa=>match d with
 | .str x=>(nM a.2).map λl=> .bl (l.any λy=>y==x)
 | _=>none:=rfl
end ap
def FO(b:Int×Int)(r:Int):Bool:=decide (b.1<=r) && decide (r<=b.2)
def mB(bs:List (Int×Int))(r:Int):List Nat:=(Ga bs.length).filter λi=>FO (bs.getD i (0,0)) r
def CC(l:List Nat):List D:=l.map λ(i:Nat)=>D.int i
@[simp] theorem Bi(l):(CC l).length=l.length:=by simp[CC]
theorem J4(z:Pr p)(I:h<=100)(hw:w<=lim)(f:RK) :
 ∃r B l,wj [.int p,jj h w f]=some (.own<|zM r h B)/\IsB p h r B l/\∀v,Span p h (Fam r B) v↔Span p h (Fam w λj i=>f i j) v:=by
 obtain⟨r,B,l,e,O,S⟩:=qa z I hw .T λj i=>f i j;have U:=jz;refine⟨r,B,l,?_,O,S⟩;simp only[dsq]at e;have o:=vz f (show h<=lim by omega) hw;unfold jj at o ⊢;simp[wj,js,z9,o,e]
theorem KN(P:Nat->Ctx->Prop) : ∀(ds es:List D) (k:Nat) (γ:Ctx),P k γ->(∀i d γ,ds[i]? = some d->P (k+i) γ->∃γ',(qV T d γ).bind F=some (.next γ')/\P (k+i+1) γ')->
 ∃γ',P (k+ds.length) γ'/\xk T F (ds++es) γ=xk T F es γ'
 | [],es,k,γ,h,_=>⟨γ,h,rfl⟩
 | d::ds,es,k,γ,h,step=>by
  obtain⟨γ1,e,h1⟩:=step 0 d γ rfl h;obtain⟨γ',h2,z⟩:=KN P ds es (k+1) γ1 (by simpa using h1) (λi d' I hd O=>by have:=step (i+1) d' I (by simpa using hd) (by rw[show k+(i+1)=k+1+i by omega];exact O);rw[show k+(i+1)+1=k+1+i+1 by omega]at this;exact this)
  refine⟨γ',by rw[show k+(d::ds).length=k+1+ds.length by simp;omega];exact h2,?_⟩;rw[NW,jX];cases eb:qV T d γ with
  | none=>rw[eb]at e;simp at e
  | some S=>
   rw[eb]at e;simp only[Gk]at e ⊢;rw[e];exact z
theorem VX(n:Nat)(v:Vc):qZ (zE n v)=(Ga n).map λ(i:Nat)=>D.tup [.int i,.int (v i)]:=by unfold qZ;rw[vf];refine GI λi hi=>?_;have:=Gc.mp hi;simp[zE,this]
theorem yf(hn:n<=lim)(v:Vc)(ha:a<n)(I : ∀i,i<a->v i=0)(h1:v a≠0):qi [.tup (zE n v)]=some (.val<|.int a):=by
 have key:zL (.tp [0,1]) (sB<|zv dNe (zc 1)<|zq<|.int 0) (zc 0) [Cell.no,Cell.no] ((Ga n).map λ(i:Nat)=>D.tup [.int i,.int (v i)])=some (((Ga n).filter λi=> !decide (v i=0)).map λ(i:Nat)=>D.int i):=by refine jv _ _ _ λi hi=>⟨_,rfl,?_,λ_=>rfl⟩;simp
 cases hf:(Ga n).filter λi=> !decide (v i=0)with
 | nil=>exact absurd (by have:=Kn hf a ha;simpa using this) h1
 | cons b xH=>
  obtain⟨U,O,S⟩:=wq hf;have e:b=a:=by
   rcases Mb a b with z | z | z
   ·exact absurd (by have:=S a z;simpa using this) h1
   ·exact z.symm
   ·exact absurd (I b z) (by simpa using O)
  subst e;rw[hf]at key;simp[qi,js,z9,VX,hn,zW,Ge,key]
theorem JZ(ha:a<n)(v z:Vc)(x:Int)(h1:z a=x)(h2 : ∀i,i<n->i≠a->z i=v i):(zE n v).set a (.int x)=zE n z:=by
 apply Ie;intro i;rw[Iw];by_cases hi:i<n
 ·by_cases e:a=i
  ·subst e;simp[ha,zE,h1]
  ·have:=h2 i hi (GN e)
   simp[e,zE,hi,this]
 ·have I:(zE n v)[i]? = none:=by simp[zE];omega
  have l2:(zE n z)[i]? = none:=by simp[zE];omega
  rw[I,l2,EQ ⋯]
def YX(w:Nat)(B:Nat->Vc)(l:RZ)(r:Nat):Vc:=λj=>sumTo (λk=>if l k=j then B k w else 0) r
def kj:=(zI (jk 6<|zG qi<|zb (zc 5) zF)<|zI (sIf (sB<|zv dEq (zc 6)<|zc 3) (qW<|zq .non) qT)<|wo 4 (zc 6)<|sIx (zh 5)<|zc 3)
section
variable{p:Int}{h w r:Nat}
theorem VE{l:RZ}(hm : ∀k m,k<m->m<r->l k<l m){k m:Nat}(I:k<r)(O:m<r)(e:l k=l m):k=m:=by
 rcases Mb k m with z | z | z
 ·have:=hm k m z O;omega
 ·exact z
 ·have:=hm m k z I;omega
def aug(w:Nat)(f:RK)(b:Vc):Nat->Vc:=λi j=>if j<w then f i j else b i
theorem Wi(a3:w+1<=lim)(O:IsB p (w+1) r B l)(hs:s<=r)(h1 : ∀k,k<s->l k<w)(es:List D)(a0 z I:Cell) :
 ∃c5 c6,xk (.nm 5) kj (zM s (w+1) B++es) [a0,z,I,.val<|.int w,.own<|zE w λ_=>0,.no,.no]=xk (.nm 5) kj es [a0,z,I,.val<|.int w,.own<|zE w<|YX w B l s,c5,c6]:=by
 obtain⟨γ',⟨c5,c6,rfl⟩,e⟩:=KN (T:= .nm 5) (F:=kj) (λt γ=>∃c5 c6,γ=[a0,z,I,.val<|.int w,.own<|zE w<|YX w B l t,c5,c6]) (zM s (w+1) B) es 0 [a0,z,I,.val<|.int w,.own<|zE w λ_=>0,.no,.no]
  ⟨.no,.no,by rw[xl (f:=YX w B l 0) (g:=λ_=>0) λi _=>rfl]⟩ (by
   rintro k d γ hd ⟨c5,c6,rfl⟩;rw[HW];have Y:k<s:=by have:=(Gq.mp hd).1;simpa using this
   have a4:d = .tup (zE (w+1)<|B k):=by simp[Y]at hd;exact hd.symm
   subst a4;have S:k<r:=by omega
   have Z:=h1 k Y;have le:=yf a3 (B k) (show l k<w+1 by omega) (λi hi=>O.bef k i S hi) (by rw[O.one k S];decide);refine⟨_,?_,.val<|.tup<|zE (w+1)<|B k,.val<|.int<|l k,rfl⟩;have U : ¬((l k:Int)=(w:Int)):=by omega
   have a5 : ¬l k=w:=by omega
   have hx:w<w+1:=by omega
   have ev:=JZ Z (YX w B l k) (YX w B l<|k+1) (B k w) (by
    unfold YX;simp only[sumTo,if_true];rw[zy (g:=λ_=>0) λm hm=>by rw[EQ λe=>by have:=O.mono m k hm S;omega],zN]
    omega) (λi hi U=>by
    unfold YX;simp only[sumTo];rw[EQ (GN U)];omega)
   simp[kj,jI,le,U,a5,Z,hx,ev])
 rw[VZ]at e;refine⟨c5,c6,?_⟩;rw[e];rw[HW]
theorem rM(w:Nat)(f:RK)(b:Vc)(i:Nat):zE w (f i)++[.int (b i)]=zE (w+1) (aug w f b i):=by
 unfold zE;rw[IB,Hk];congr 1
 ·exact GI λj z=>by simp[aug,Gc.mp z]
 ·simp[aug]
theorem Je(Y:Pr p)(hh:h<=90)(hw:w<=90)(f:RK)(b:Vc) :
 ∃r B l s,IsB p (w+1) r B l/\(∀v,Span p (w+1) (Fam r B) v↔Span p (w+1) (Fam h<|aug w f b) v)/\s<=r/\(∀k,k<s->l k<w)/\(∀k,s<=k->k<r->w<=l k)/\
  yu [.int p,jj h w f,.tup (zE h b)]=some (.val<|if s<r then .non else .tup (zE w<|YX w B l s)):=by
 have hl:=jz;have S:h<=lim:=by omega
 have Z:w<=lim:=by omega
 have O:w+1<=lim:=by omega
 obtain⟨r,B,l,e,I,a0⟩:=qa Y (show w+1<=100 by omega) S .L<|aug w f b;obtain⟨s,U,s1,s2⟩:=yi w I.mono;refine⟨r,B,l,s,I,a0,U,s1,s2,?_⟩;have rows:zL (.tp [0,1]) z6 (zv ju (zc 0)<|j3<|zb (zc 1) zF) [Cell.no,Cell.no] ((Ga h).map λi=>D.tup [.tup (zE w<|f i),.int (b i)])=some (zM h (w+1)<|aug w f b):=by unfold zM;refine zo _ _ λi hi=>zu rfl rfl ?_;simp[ju,O,rM]
 have zp:wY (zM h w f) (zE h b)=(Ga h).map λi=>D.tup [.tup (zE w<|f i),.int (b i)]:=by unfold wY zM zE;rw[LL];simp
 have a2:Ge w (D.int 0)=zE w λ_=>0:=by rw[kZ];rfl
 have c1:((w+1:Nat):Int)=(w:Int)+1:=by omega
 simp only[dsq]at e;rw[c1]at e;obtain⟨d,hd⟩ : ∃d,r=s+d:=⟨r - s,by omega⟩;have sp:zM r (w+1) B=zM s (w+1) B++zM d (w+1) λk=>B (s+k):=by unfold zM;rw[hd,Mc,Hk,Hm];rfl
 obtain⟨c5,c6,lp⟩:=Wi O I U s1 (zM d (w+1) λk=>B<|s+k) (.val<|.int p) (.val<|jj h w f)<|.val<|.tup<|zE h b;have x0:jG (jj h w f)=some (.T,[.int h,.int w,.tup (zM h w f)]):=rfl;have e0:yu=js 7 (zI (jk 3<|sIx (zh 1)<|zq<|.int 1)<|zI (kx 4<|gu (jQ<|kf<|zb (zq<|.int 0) zF)<|zc 3)<|zI (yJ (zJ<|zO<|jR<|jE qk<|zb (zc 0)<|zb (zv ju (zc 3)<|zq<|.int 1)<|zb (jR<|zH (K7 (sIx (zh 1)<|zq<|.int 2)<|zc 2) (.tp [0,1]) 2 [] z6 (zv ju (zc 0)<|j3<|zb (zc 1) zF)) zF) (.nm 5) kj)<|qW<|zP<|zh 4):=rfl;rw[e0];simp[js,z9,jI,x0,Z,zp,S,zW,Ge,rows,e];rw[a2,sp,lp];by_cases z:s<r
 ·
  have a7:d=1:=by
   rcases GB 1 d with q | q
   ·have h1:=I.mono s (s+1) ⋯ ⋯
    have h2:=s2 s (Gh _) z;have h3:=I.lt (s+1) ⋯;omega
   ·omega
  subst a7;have a8:l s=w:=by have:=s2 s (Gh _) z;have:=I.lt s z;omega
  have le:=yf O (B s) (show w<w+1 by omega) (λi hi=>I.bef s i z ⋯) (by have:=I.one s z;rw[a8]at this;rw[this];decide);have one:zM 1 (w+1) (λk=>B<|s+k)=[.tup (zE (w+1)<|B s)]:=rfl;rw[one,jX];simp[kj,jI,le,z]
 ·have a9:d=0:=by omega
  subst a9;have zero:zM 0 (w+1) (λk=>B<|s+k)=[]:=rfl;rw[zero];simp[xk,z]
end
def ZX(h w:Nat)(f g:RK)(i:Nat):Vc:=if i<h then j5 w (f i) (λ_=>0)else j5 w (λ_=>0) (g<|i - h)
theorem iY(h h' w:Nat)(f g F:RK)(h1 : ∀i j,i<h->j<w->F i j=f i j)(h2 : ∀i j,i<h'->j<w->F (h+i) j=g i j):zM h w f++zM h' w g=zM (h+h') w F:=by
 unfold zM;rw[Mc,Hk,Hm];congr 1
 ·exact GI λi hi=>by rw[xl λj z=>(h1 i j (Gc.mp hi) z).symm]
 ·exact GI λi hi=>by simp only[Function.comp];rw[xl λj z=>(h2 i j (Gc.mp hi) z).symm]
theorem pv(n:Nat):(Ge n [D.int 0]).flatten=zE n λ_=>0:=by
 induction n with
 | zero=>rfl
 | succ n z=>
  rw[Iv,IV,z];unfold zE;rw[<- kZ,<- kZ];rfl
theorem lE(f g:RK):zM h (w+w') (λi=>j5 w (f i) λ_=>0)++zM h' (w+w') (λi=>j5 w (λ_=>0)<|g i)=zM (h+h') (w+w') (ZX h w f g):=
 iY h h' _ _ _ _ (λi j hi _=>by unfold ZX;rw[RY hi]) λi j hi _=>by unfold ZX;rw[EQ ⋯,Hf]
theorem yA(f g:RK)(hh:h<=400)(hw:w<=400)(a6:h'<=400)(a7:w'<=400) :
 qe [jj h w f,jj h' w' g]=some (.val<|jj (h+h') (w+w')<|ZX h w f g):=by
 have hl:=jz;have I:h<=lim:=by omega
 have l2:w<=lim:=by omega
 have U:h'<=lim:=by omega
 have Y:w'<=lim:=by omega
 have S:w+w'<=lim:=by omega
 have Z:h+h'<=lim:=by omega
 have O : ∀(h w:Nat) (f:RK),jG (jj h w f)=some (.T,[.int h,.int w,.tup (zM h w f)]):=λ_ _ _=>rfl;have n2:qm (.tup [.int 0]) (.int w)=some (.tup<|zE w λ_=>0):=by show(if ([D.int 0]).length*(w:Int).toNat<=lim/\inR (w:Int)=true then _ else _)=_;rw[RY ⟨by simpa using l2,k9 l2⟩,Ih,pv]
 have g1:zL (.tp [0,1]) z6 (zv ju (zc 0)<|zc 1) [Cell.no,Cell.no] (wY (zM h w f)<|zM h w' λ_ _=>0)=some (zM h (w+w') λi=>j5 w (f i) λ_=>0):=by
  have z:wY (zM h w f) (zM h w' λ_ _=>0)=(Ga h).map λi=>D.tup [.tup (zE w<|f i),.tup (zE w' λ_=>0)]:=by unfold wY zM;rw[LL];simp
  rw[z];unfold zM;refine zo _ _ λi hi=>zu rfl rfl ?_;have e:ju (.tup<|zE w<|f i) (.tup<|zE w' λ_=>0)=some (.tup<|zE (w+w')<|j5 w (f i) λ_=>0):=by show(if (zE w<|f i).length+(zE w' λ_=>0).length<=lim then _ else _)=_;rw[RY (by simpa using S),xR]
  show zv _ _ _ [Cell.val (.tup<|zE w<|f i),Cell.val (.tup<|zE w' λ_=>0)]=_;simp[e]
 have g2:zL (.nm 0) z6 (zv ju (zv qm (j3<|zb (zq<|.int 0) zF)<|sIx (zh 1)<|zq<|.int 1)<|zc 0) [Cell.no,Cell.val (jj h w f)] (zM h' w' g)=some (zM h' (w+w') λi=>j5 w (λ_=>0)<|g i):=by
  unfold zM;refine zo _ _ λi hi=>zu rfl rfl ?_;have e:ju (.tup<|zE w λ_=>0) (.tup<|zE w'<|g i)=some (.tup<|zE (w+w')<|j5 w (λ_=>0)<|g i):=by show(if (zE w λ_=>0).length+(zE w'<|g i).length<=lim then _ else _)=_;rw[RY (by simpa using S),xR]
  simp[O,n2,e]
 have zl:(wY (zM h w f)<|zM h w' λ_ _=>0).length<=lim:=by unfold wY zM;simp;exact I
 have nj:vB [jj h w f,jj h' w' g]=some (.val<|jj h w' λ_ _=>0):=by simp[vB,js,z9,O,Y0 I Y]
 have tj:qy [jj h w f,jj h' w' g,jj h w' λ_ _=>0]=some (.val<|jj (h+h') (w+w')<|ZX h w f g):=by simp[qy,js,z9,jI,O,I,U,Z,zl,zW,xJ,Ge,g1,g2];rw[lE];simp[jj]
 simp[qe,js,z9,nj,tj]
@[simp] theorem V7(γ:Ctx)(F G g):bh F G g γ=(g γ).bind λl=>match l with
 | [p,.str z,t,b]=>((if z=("r" : Str)then F else G) [p,t,b]).bind rZ
 | _=>none:=rfl
section
variable{p:Int}{m:Nat}{w:RX}{wd:RZ}{T:RV}{a:Nat}
def Stp(p:Int)(w:RX)(wd:RZ)(T:RV)(k:Nat)(u v:Vc):Prop:=
 if w k then ∀x,x<wd k->u x%p=app (T k) (wd<|k+1) v x%p else ∀x,x<wd (k+1)->v x%p=app (T k) (wd k) u x%p
def V8(p:Int)(w:RX)(wd:RZ)(T:RV)(i a:Nat):Nat->Vc->Prop
 | 0,z=>∀x,x<a->z x%p=z (a+x)%p
 | t+1,z=>∃u:Vc,V8 p w wd T i a t (j5 a z u)/\Stp p w wd T (i+t) u λx=>z<|a+x
theorem yL(F:Nat->Int)(s:Nat) : ∀d,sumTo F (s+d)=sumTo F s+sumTo (λk=>F<|s+k) d
 | 0=>by simp[sumTo]
 | d+1=>by rw[<- MU];simp only[sumTo];rw[yL F s d];omega
theorem Jb(y:Vc)(x:Nat):app (ZX a a (λi j=>if i=j then 1 else 0) f) (a+c) y x=if x<a then y x else app f c (λj=>y<|a+j) (x - a):=by
 unfold app;rw[yL];by_cases h:x<a
 ·rw[RY h]
  have e1:sumTo (λj=>ZX a a (λi j=>if i=j then 1 else 0) f x j*y j) a=y x:=by
   rw[zQ (f:=λj=>ZX a a (λi j=>if i=j then 1 else 0) f x j*y j) (i:=x) h λj z O=>by unfold ZX;rw[RY h,zT z];simp[GN O]]
   unfold ZX;rw[RY h,zT h];simp
  have I:sumTo (λk=>ZX a a (λi j=>if i=j then 1 else 0) f x (a+k)*y (a+k)) c=0:=by rw[zy (g:=λ_=>0) λj _=>by unfold ZX;rw[RY h,ja];simp,zN]
  rw[e1,I];simp
 ·rw[EQ h]
  have e1:sumTo (λj=>ZX a a (λi j=>if i=j then 1 else 0) f x j*y j) a=0:=by rw[zy (g:=λ_=>0) λj z=>by unfold ZX;rw[EQ h,zT z];simp,zN]
  have I:sumTo (λk=>ZX a a (λi j=>if i=j then 1 else 0) f x (a+k)*y (a+k)) c=sumTo (λj=>f (x - a) j*y (a+j)) c:=
   zy λj _=>by unfold ZX;rw[EQ h,ja]
  rw[e1,I];simp
theorem uE(hw:w (i+t)=false)(I : ∀z,Span p (a+wd (i+t)) (Fam q B) z↔V8 p w wd T i a t z)
 (S : ∀v,Span p (a+wd (i+t+1)) (Fam q' B') v ↔ ∃y,Span p (a+wd (i+t)) (Fam q B) y/\∀x,x<a+wd (i+t+1)->v x%p=app (ZX a a (λi j=>if i=j then 1 else 0)<|T<|i+t) (a+wd (i+t)) y x%p) (v:Vc) :
 Span p (a+wd (i+t+1)) (Fam q' B') v↔V8 p w wd T i a (t+1) v:=by
 rw[S v];constructor
 ·rintro⟨y,U,O⟩
  refine⟨λx=>y<|a+x,(I _).mp (U.congr λx hx=>?_),?_⟩
  ·rcases GB x a with z | z
   ·rw[zT z]
    have:=O x ⋯;rw[Jb,RY z]at this;exact this
   ·obtain⟨k,rfl⟩ : ∃k,x=a+k:=⟨x - a,by omega⟩
    rw[ja]
  ·unfold Stp
   rw[hw,EQ GA];intro x hx;have:=O (a+x) ⋯;rw[Jb,EQ ⋯,Hf]at this;exact this
 ·rintro⟨u,h1,h2⟩
  unfold Stp at h2;rw[hw,EQ GA]at h2;refine⟨j5 a v u,(I _).mpr h1,λx hx=>?_⟩;rw[Jb];rcases GB x a with z | z
  ·rw[RY z,zT z]
  ·rw[EQ ⋯]
   obtain⟨k,rfl⟩ : ∃k,x=a+k:=⟨x - a,by omega⟩;rw[Hf,show(λj=>j5 a v u<|a+j)=u from funext λj=>ja j];exact h2 k ⋯
theorem uF(hw:w (i+t)=true)(I : ∀z,Span p (a+wd (i+t)) (Fam q B) z↔V8 p w wd T i a t z)
 (O : ∀v,Span p (a+wd (i+t+1)) (Fam q' B') v↔Span p (a+wd (i+t)) (Fam q B) (app (ZX a a (λi j=>if i=j then 1 else 0)<|T<|i+t) (a+wd (i+t+1)) v)) (v:Vc) :
 Span p (a+wd (i+t+1)) (Fam q' B') v↔V8 p w wd T i a (t+1) v:=by
 rw[O v];constructor
 ·intro S
  refine⟨λx=>app (T<|i+t) (wd<|i+t+1) (λj=>v<|a+j) x,(I _).mp (S.congr λx hx=>?_),?_⟩
  ·rw[Jb]
   rcases GB x a with z | z
   ·rw[zT z,RY z]
   ·obtain⟨k,rfl⟩ : ∃k,x=a+k:=⟨x - a,by omega⟩
    rw[ja,EQ ⋯,Hf]
  ·unfold Stp
   rw[hw,RY rfl];exact λx _=>rfl
 ·rintro⟨u,h1,h2⟩
  unfold Stp at h2;rw[hw,RY rfl]at h2;refine((I _).mpr h1).congr λx hx=>?_;rw[Jb];rcases GB x a with z | z
  ·rw[zT z,RY z]
  ·obtain⟨k,rfl⟩ : ∃k,x=a+k:=⟨x - a,by omega⟩
   rw[ja,EQ ⋯,Hf];exact(h2 k ⋯).symm
theorem iC:V9=js 6 (zI (jk 3<|zG jD<|zb (sIx (zO<|sIx (zh 0)<|zq<|.int 1)<|zc 1) zF)<|zI (kx 4<|zH (zJ<|zO<|sIx (zh 3)<|zq<|.int 2) (.nm 0) 1 [] z6 (zv ju (zc 0)<|zc 0))<|zI (yJ (zJ<|zO<|K8 (sIx (zh 0)<|zq<|.int 2) (sBd<|zc 1)<|sBd<|zc 2) (.nm 5) Yw)<|Zm 4):=rfl
theorem oneS_r:(Jl (wch b)=("r" : Str))↔b=false:=by cases b<;>decide
abbrev lk(p:Int)(m:Nat)(w:RX)(wd:RZ)(T:RV)(i j:Int)(a:Nat)(ds:List D)(c:Cell):Ctx:=[.val (j8 p m w wd T),.val (.int i),.val (.int j),.val (jj a a λi j=>if i=j then 1 else 0),.own ds,c]
theorem cH(S:Pr p)(Z : ∀k,wd k<=7)(ha:a<=7)(hT : ∀k x y,0<=T k x y/\T k x y<p)(i' j':Int)(hq:q<=20)(hB : ∀z,Span p (a+wd (i+t)) (Fam q B) z↔V8 p w wd T i a t z) :
 ∃I B' l',Yw (lk p m w wd T i' j' a (zM q (a+wd (i+t)) B)<|.val<|qD w wd T<|i+t)=some (.next<|lk p m w wd T i' j' a (zM I (a+wd (i+t+1)) B')<|.val<|qD w wd T<|i+t)/\IsB p (a+wd (i+t+1)) I B' l'/\
  ∀z,Span p (a+wd (i+t+1)) (Fam I B') z↔V8 p w wd T i a (t+1) z:=by
 have hl:=jz;have a8:=S.le;have h1:=Z<|i+t;have h2:=Z<|i+t+1;have tb:=yA (h:=a) (w:=a) (h':=hiW w wd<|i+t) (w':=wiW w wd<|i+t) (λi j=>if i=j then 1 else 0) (T<|i+t) ⋯ ⋯ (by unfold hiW;split<;>omega) (by unfold wiW;split<;>omega);have rs:jG (j8 p m w wd T)=some (.T,[.int p,.tup<|zE (m+1) λk=>(wd k:Int),.tup (j6 m w wd T)]):=rfl;have O:jG (qD w wd T<|i+t)=some (.T,[.str (Jl<|wch<|w<|i+t),jj (hiW w wd<|i+t) (wiW w wd<|i+t) (T<|i+t)]):=rfl;have bd : ∀x y,0<=ZX a a (λi j=>if i=j then 1 else 0) (T<|i+t) x y/\ZX a a (λi j=>if i=j then 1 else 0) (T<|i+t) x y<100:=λx y=>by
  have:=hT (i+t) (x - a)<|y - a;unfold ZX j5;split
  ·dsimp only
   split
   ·split<;>omega
   ·omega
  ·dsimp only
   split
   ·omega
   ·omega
 cases hw:w (i+t)with
 | false=>
  have hi:hiW w wd (i+t)=wd (i+t+1):=by unfold hiW;rw[hw];rfl
  have wi:wiW w wd (i+t)=wd (i+t):=by unfold wiW;rw[hw];rfl
  rw[hi,wi]at tb O;obtain⟨I,B',l',e,U,Y⟩:=Y1 S (h:=a+wd (i+t+1)) (w:=a+wd (i+t)) (q:=q) ⋯ ⋯ ⋯ (ZX a a (λi j=>if i=j then 1 else 0) (T (i+t))) (λx y _ _=>bd x y) B;refine⟨I,B',l',?_,U,uE hw hB Y⟩;have z:Jl (wch (w (i+t)))=("r" : Str):=oneS_r.mpr hw;unfold Yw;simp only[lk,mX,YU,V7,x9,vw,vx,jY,xD,ko,we,Gz,GC,ZW,HQ,HP,jb,z7,rs,O,Gk,GM,qg,GJ,Hu,ix0,ix1,tb,QH,z,if_true,e,Vo]
 | true=>
  have hi:hiW w wd (i+t)=wd (i+t):=by unfold hiW;rw[hw];rfl
  have wi:wiW w wd (i+t)=wd (i+t+1):=by unfold wiW;rw[hw];rfl
  rw[hi,wi]at tb O;obtain⟨I,B',l',e,U,Y⟩:=vC S (h:=a+wd (i+t)) (w:=a+wd (i+t+1)) (q:=q) ⋯ ⋯ ⋯ (ZX a a (λi j=>if i=j then 1 else 0) (T (i+t))) B;refine⟨I,B',l',?_,U,uF hw hB Y⟩;have z : ¬(Jl (wch (w (i+t)))=("r" : Str)):=λq=>by have:=oneS_r.mp q;rw[hw]at this;cases this
  unfold Yw;simp only[lk,mX,YU,V7,x9,vw,vx,jY,xD,ko,we,Gz,GC,ZW,HQ,HP,jb,z7,rs,O,Gk,GM,qg,GJ,Hu,ix0,ix1,tb,QH,z,if_false,e,Vo]
end
section
variable{p:Int}{m:Nat}{w:RX}{wd:RZ}{T:RV}
theorem fQ(I:Pr p)(a:Nat):IsB p (a+a) a (λx=>j5 a (jq x)<|jq x) id where
 lt:=λk z=>by simp only[id];omega
 mono:=λk m z _=>z
 one:=λk z=>by simp only[id];rw[zT z];exact RY rfl
 bef:=λk j z O=>by simp only[id]at O;rw[zT ⋯];exact EQ ⋯
 oth:=λk m z hm S=>by simp only[id];rw[zT hm];exact EQ ⋯
 rng:=λk i _ _=>by have:=I.two;unfold j5 jq;split<;>split<;>omega
theorem az(hp:Pr p)(i:Nat)(z:Vc):Span p (wd i+wd i) (Fam (wd i) λx=>j5 (wd i) (jq x)<|jq x) z↔V8 p w wd T i (wd i) 0 z:=by
 constructor
 ·intro I
  induction I with
  | @zero z I=>intro x hx;rw[I x ⋯,I (wd i+x) ⋯]
  | @step z u g c U hu O Y=>
   obtain⟨k,S,rfl⟩:=U;intro x hx;dsimp only at O;rw[O x ⋯,O (wd i+x) ⋯,zT hx,ja,GW,Y x hx,<- GW]
 ·intro I
  refine(Span.sum (u:=λx=>j5 (wd i) (jq x)<|jq x) z (m:=wd i) λk S=> .gen ⟨k,S,rfl⟩).congr λx hx=>?_;have one : ∀y,y<wd i->sumTo (λk=>z k*jq k y) (wd i)=z y:=λy Z=>by rw[zQ (f:=λk=>z k*jq k y) Z λj _ a0=>by simp[jq,a0]];simp[jq]
  rcases GB x (wd i)with q | q
  ·have:sumTo (λk=>z k*j5 (wd i) (jq k) (jq k) x) (wd i)=z x:=by
    rw[<- one x q];exact zy λk _=>by rw[zT q]
   rw[this]
  ·obtain⟨k,rfl⟩ : ∃k,x=wd i+k:=⟨x - wd i,by omega⟩
   have:sumTo (λj=>z j*j5 (wd i) (jq j) (jq j) (wd i+k)) (wd i)=z k:=by rw[<- one k ⋯];exact zy λj _=>by rw[ja]
   rw[this];exact(I k ⋯).symm
theorem fv(U:Pr p)(Y : ∀k,wd k<=7)(hT : ∀k x y,0<=T k x y/\T k x y<p)(a3:i<=j)(hj:j<=m) :
 ∃q B l,V9 [j8 p m w wd T,.int i,.int j]=some (.own<|zM q (wd i+wd j) B)/\IsB p (wd i+wd j) q B l/\∀z,Span p (wd i+wd j) (Fam q B) z↔V8 p w wd T i (wd i) (j - i) z:=by
 have hl:=jz;have ha:=Y i;have a0:wd i<=lim:=by omega
 have a5:wd i+wd i<=lim:=by omega
 have key : ∀(k t:Nat) (q:Nat) (B:Nat->Vc) (l:RZ) (c:Cell),t+k=j - i->IsB p (wd i+wd (i+t)) q B l->(∀z,Span p (wd i+wd (i+t)) (Fam q B) z↔V8 p w wd T i (wd i) t z)->
  ∃S B' l' Z,xk (.nm 5) Yw ((LX t k).map λk=>qD w wd T<|i+k) (lk p m w wd T i j (wd i) (zM q (wd i+wd (i+t)) B) c)=some (.next<|lk p m w wd T i j (wd i) (zM S (wd i+wd j) B') Z)/\IsB p (wd i+wd j) S B' l'/\
   ∀z,Span p (wd i+wd j) (Fam S B') z↔V8 p w wd T i (wd i) (j - i) z:=by
  intro k
  induction k with
  | zero=>
   intro t q B l c h I O;have e1:t=j - i:=by omega
   have e2:i+t=j:=by omega
   rw[e2]at I O ⊢;rw[<- e1];exact⟨q,B,l,c,rfl,I,O⟩
  | succ k ih=>
   intro t q B l c h I O;have hq:q<=wd i+wd (i+t):=QW I.mono I.lt;have:=Y<|i+t;obtain⟨q1,B1,l1,e,ad,al⟩:=cH (m:=m) U Y ha hT i j ⋯ O;obtain⟨S,B',l',Z,e',an,ap⟩:=ih (t+1) q1 B1 l1 (.val<|qD w wd T<|i+t) ⋯ ad al;refine⟨S,B',l',Z,?_,an,ap⟩;rw[La,GQ,jX];show((Yw<|lk p m w wd T i j (wd i) (zM q (wd i+wd (i+t)) B)<|.val<|qD w wd T<|i+t).bind _)=_;rw[e];exact e'
 obtain⟨q,B,l,c,e,I,O⟩:=key (j - i) 0 (wd i) (λx=>j5 (wd i) (jq x)<|jq x) id .no ⋯ (fQ U<|wd i)<|az U i;refine⟨q,B,l,?_,I,O⟩;have sm:=ku (n:=wd i) a0;have wi:i<m+1:=by omega
 have tw:zL (.nm 0) z6 (zv ju (zc 0)<|zc 0) [Cell.no] (zM (wd i) (wd i) λi j=>if i=j then 1 else 0)=some (zM (wd i) (wd i+wd i) λx=>j5 (wd i) (jq x)<|jq x):=by unfold zM;refine zo _ _ λx hx=>zu rfl rfl ?_;simp[ju,a5,xR];rfl
 have rs:jG (j8 p m w wd T)=some (.T,[.int p,.tup<|zE (m+1) λk=>(wd k:Int),.tup (j6 m w wd T)]):=rfl;have dq:jG (jj (wd i) (wd i) λi j=>if i=j then 1 else 0)=some (.T,[.int (wd i),.int<|wd i,.tup (zM (wd i) (wd i) λi j=>if i=j then 1 else 0)]):=rfl;have ix:ixD (m+1) (i:Int)=some i:=by rw[xC,RY wi]
 have wx:(zE (m+1) λk=>(wd k:Int))[i]? = some (.int<|wd i):=VY _ wi;have ca:V2 (j6 m w wd T) (some (i:Int)) (some (j:Int))=(Ga<|j - i).map λk=>qD w wd T (i+k):=by rw[AF a3 hj];rfl
 rw[<- Lw]at e;rw[iC];unfold js;have e0:z9 6 [j8 p m w wd T,.int i,.int j]=[.val (j8 p m w wd T),.val<|.int i,.val<|.int j,.no,.no,.no]:=rfl;have s1:(jk 3<|zG jD<|zb (sIx (zO<|sIx (zh 0)<|zq<|.int 1)<|zc 1) zF) [.val (j8 p m w wd T),.val<|.int i,.val<|.int j,.no,.no,.no]=some (.next [.val (j8 p m w wd T),.val<|.int i,.val<|.int j,.val<|jj (wd i) (wd i) λi j=>if i=j then 1 else 0,.no,.no]):=by simp only[vn,we,x9,vw,vx,vo,jY,xD,ko,Gz,GC,jb,z7,rs,eQ,Gk,GM,qg,GJ,Hu,ix1,vf,ix,wx,sm,QH];rfl
 have s2:(kx 4<|zH (zJ<|zO<|sIx (zh 3)<|zq<|.int 2) (.nm 0) 1 [] z6 (zv ju (zc 0)<|zc 0)) [.val (j8 p m w wd T),.val<|.int i,.val<|.int j,.val<|jj (wd i) (wd i) λi j=>if i=j then 1 else 0,.no,.no]=some (.next<|lk p m w wd T i j (wd i) (zM (wd i) (wd i+wd i) λx=>j5 (wd i) (jq x)<|jq x) .no):=by simp only[YU,xc,xm,vo,vx,jY,ko,Gz,GC,z7,dq,eQ,Gk,GM,qg,GJ,Hu,ix2,VZ,a0,if_true];rw[show zW 1 [] [Cell.val (j8 p m w wd T),Cell.val<|D.int (i:Int),Cell.val<|D.int (j:Int),Cell.val<|jj (wd i) (wd i) λi j=>if i=j then 1 else 0,Cell.no,Cell.no]=[Cell.no]from rfl,tw];rfl
 rw[e0,jI,s1,yM,jI,s2,yM,jI,K2];simp only[lk,xm,vo,AN,vx,jY,xD,ko,EE,Gz,GC,z7,jb,rs,eQ,Gk,GM,qg,GJ,Hu,ix2,ca];simp only[lk,Nl]at e;rw[e];simp
end
@[simp] theorem AU(γ:Ctx)(i f):Yg i f γ=(qx γ[i]?).bind λds=>(f γ).bind λes=>if ds.length+es.length<=lim then some (.next<|γ.set i<|.own<|ds++es)else none:=rfl
section
variable{p:Int}{m:Nat}{w:RX}{wd:RZ}{T:RV}
theorem qU:jG (j8 p m w wd T)=some (.T,[.int p,.tup<|zE (m+1) λk=>(wd k:Int),.tup (j6 m w wd T)]):=rfl
end
@[simp] theorem AV(γ:Ctx)(f):ba f γ=(f γ).bind λd=>match d with
 | .str z=>if xK z=true then some (qZ<|XT z)else none
 | _=>none:=rfl
def pr(a b:Nat):D:= .tup [.int a,.int b]
@[simp] theorem ER(a b):jG (pr a b)=some (.T,[.int (a:Int),.int (b:Int)]):=rfl
def mk(lo:Nat)(ch:List Int)(r:Nat):Int:=if lo<=r then ch.getD (r - lo) 0 else 0
def XB(h w:Nat)(f:RK):List D:=(Ga h).map λi=>D.lst<|zE w<|f i
@[simp] theorem iB(h w f):(XB h w f).length=h:=by simp[XB]
theorem vm(ds:List D):jG (.lst ds)=some (.L,ds):=rfl
theorem yp(ds:List D):jG (.tup ds)=some (.T,ds):=rfl
theorem Vm(s:Nat)(f:Nat->α):(Ga<|s+1).map f=(Ga s).map f++[f s]:=by rw[IB,Hk];rfl
theorem eT(s w wd T):j6 (s+1) w wd T=j6 s w wd T++[qD w wd T s]:=Vm _ _
section
variable{p:Int}{m:Nat}{w:RX}{wd wd':RZ}{T T' J:RV}
theorem aM(h w f):jG (jj h w f)=some (.T,[.int (h:Int),.int (w:Int),.tup (zM h w f)]):=rfl
theorem J0(h w f):(zM h w f).length=h:=by simp[zM]
theorem YJ(s w:Nat)(f:RK):zM (s+1) w f=zM s w f++[.tup (zE w<|f s)]:=Vm _ _
end
def kc:=js 3<|zI (kx 1<|kf zF)<|zI (yJ (zU<|zc 0) (.nm 2)<|Yg 1<|zH (xX (zc 2)<|zc 0) (.nm 0) 1 [2] z6 (j3<|zb (zc 1)<|zb (zc 0) zF))<|Zm 1
def CB(n k:Nat)(u:Nat->Int):Int:=if 0<k then (if k+1<n then u (k - 1)+(u (k+1)+0)else u (k - 1)+0)else if k+1<n then u (k+1)+0 else 0
def mv(n k:Nat)(u:Nat->Int)(i:Nat):Int:=if i=k then CB n k u - u k else u i
theorem rR(h : ∀k,k<r->l k≠j):YX w B l r j=0:=by unfold YX;rw[zy (g:=λ_=>0) λk z=>EQ<|h k z,zN]
theorem AW{p:Int}{w n r:Nat}{B:Nat->Vc}{l:RZ}(I:IsB p n r B l){k:Nat}(z:k<r):YX w B l r (l k)=B k w:=by unfold YX;rw[zQ z λm hm O=>EQ λe=>O<|VE I.mono hm z e,RY rfl]
theorem gd{p:Int}{h w:Nat}{f:RK}{b y:Vc}(S : ∀i,i<h->sumTo (λj=>f i j*y j) w%p=b i%p){v:Vc}(U:Span p (w+1) (Fam h<|aug w f b) v):(v w - sumTo (λj=>v j*y j) w)%p=0:=by
 induction U with
 | @zero v I=>
  have e:sumTo (λj=>v j*y j) w%p=sumTo (λ_=>0) w%p:=zK λj O=>by rw[Gi,I j ⋯];simp
  rw[IC,e,I w ⋯,zN];simp
 | @step v z g c Y a3 h1 Z=>
  obtain⟨i,hi,rfl⟩:=Y;have e1:sumTo (λj=>v j*y j) w%p=(sumTo (λj=>z j*y j) w+c*sumTo (λj=>f i j*y j) w)%p:=by
   rw[<- jo,<- jx];refine zK λj O=>?_;rw[Gi,h1 j ⋯,<- Gi];have:aug w f b i j=f i j:=by simp[aug,O]
   rw[this,MW,HB]
  have e2:v w%p=(z w+c*b i)%p:=by
   rw[h1 w ⋯];have:aug w f b i w=b i:=by simp[aug]
   rw[this]
  have e3:(c*sumTo (λj=>f i j*y j) w)%p=(c*b i)%p:=by rw[Gi,S i hi,<- Gi]
  rw[IC,e1,e2,<- IC];have e4:(z w+c*b i - (sumTo (λj=>z j*y j) w+c*sumTo (λj=>f i j*y j) w))=(z w - sumTo (λj=>z j*y j) w)+(c*b i - c*sumTo (λj=>f i j*y j) w):=by omega
  rw[e4,GW,Z,IC,e3];simp
theorem gh(U:Pr p)(hh:h<=90)(hw:w<=90)(f:RK)(b y:Vc)(S : ∀i,i<h->0<=b i/\b i<p)(hy : ∀i,i<h->sumTo (λj=>f i j*y j) w%p=b i) :
 ∃x:Vc,yu [.int p,jj h w f,.tup (zE h b)]=some (.val<|.tup<|zE w x)/\(∀j,0<=x j/\x j<p)/\∀i,i<h->sumTo (λj=>f i j*x j) w%p=b i:=by
 have p0:=U.pos;obtain⟨r,B,l,s,O,Y,hs,s1,s2,Z⟩:=Je U hh hw f b;have a3 : ¬s<r:=λz=>by
  have ad:=O.lt s z;have al:=s2 s (Gh _) z;have el:l s=w:=by omega
  have sp:=(Y<|B s).mp (.gen ⟨s,z,rfl⟩);have q:=gd (y:=y) (λi hi=>by rw[hy i hi,Iz (S i hi).1 (S i hi).2]) sp;have h1:=O.one s z;rw[el]at h1;have h2:sumTo (λj=>B s j*y j) w=0:=by rw[zy (g:=λ_=>0) λj hj=>by rw[O.bef s j z ⋯];simp];exact zN _
  rw[h1,h2,Int.sub_zero,U.one]at q;omega
 rw[EQ a3]at Z;have er:s=r:=by omega
 subst er;refine⟨_,Z,λj=>?_,λi hi=>?_⟩
 ·by_cases e : ∃k,k<s/\l k=j
  ·obtain⟨k,I,rfl⟩:=e
   rw[AW O I];exact O.rng k w I ⋯
  ·rw[rR λk I e'=>e ⟨k,I,e'⟩];exact⟨Int.le_refl _,p0⟩
 ·have co:=v9 O ((Y<|aug w f b i).mpr (.gen ⟨i,hi,rfl⟩)) w ⋯
  have a8:aug w f b i w=b i:=by simp[aug]
  rw[a8,Iz (S i hi).1 (S i hi).2]at co;rw[co];congr 1;unfold YX;rw[zy (g:=λj=>sumTo (λk=>f i j*(if l k=j then B k w else 0)) s) λj _=>(jo _ _ _).symm,qF];refine zy λk I=>?_;rw[zQ (i:=l k) (s1 k I) λj hj a9=>by rw[EQ (GN a9)];simp,RY rfl];simp only[aug,RY (s1 k I)]
def xO(wd:RZ)(b:Bar):List D:=(Ga b.n).map λi=>D.tup<|zE (wd<|b.s+i)<|b.v<|b.s+i
def jW(wd:RZ)(b:Bar):D:= .tup [.int b.s,.tup (xO wd b)]
@[simp] theorem WR(wd b):(xO wd b).length=b.n:=by simp[xO]
theorem VH(h:i<b.n):(xO wd b)[i]? = some (.tup<|zE (wd<|b.s+i)<|b.v<|b.s+i):=by simp[xO,h]
@[simp] theorem Ej(wd b):jG (jW wd b)=some (.T,[.int b.s,.tup (xO wd b)]):=rfl
section
variable{wd:RZ}{b:Bar}{bars:List Bar}
theorem JA(h1:1<=b.n)(hn:b.s+b.n<=100):jN [jW wd b]=some (.val<|.tup [.int b.s,.int ((b.s+b.n - 1:Nat):Int)]):=by
 have e:((b.s:Int)+(b.n:Int) - 1)=((b.s+b.n - 1:Nat):Int):=by omega
 simp[jN,js,z9,jW,Ge];omega
theorem kH(hn:b.s+b.n<=100)(r:Nat):jJ [jW wd b,.int r]=some (.val<|.bl<|b.has r):=by
 by_cases h:b.s<=r
 ·by_cases h2:r<b.s+b.n
  ·have:(r:Int)<(b.s:Int)+b.n:=by omega
   simp[jJ,js,z9,jW,Ge,Bar.has,h,h2,this]
  ·have : ¬((r:Int)<(b.s:Int)+b.n):=by omega
   simp[jJ,js,z9,jW,Ge,Bar.has,h,h2,this]
 ·simp[jJ,js,z9,jW,Ge,Bar.has,h]
theorem yH{N:Nat}{A:Nat->Bar}(z : ∀j,j<N->(A j).s+(A j).n<=100)(I:N<=lim)(r:Nat) :
 qp [.lst ((Ga N).map λj=>jW wd<|A j),.int r]=some (.own<|((Ga N).filter λj=>(A j).has r).map λj=>D.tup<|zE (wd r)<|(A j).v r):=by
 simp only[qp,js,z9,eW,xc,xm,jY,GQ,List.map_nil,GJ,Hu,Ge,Mp,NW,LM,Gz,yd,jG,GM,Gk,Gw,HX,I,if_true];rw[jv (λj=>(A j).has r) (λj=>D.tup<|zE (wd r)<|(A j).v r) (Ga N) λj O=>⟨_,rfl,?_,λU=>?_⟩]
 ·rfl
 ·have e:=kH (wd:=wd) (z j<|Gc.mp O) r
  simp[zW,e]
 ·obtain⟨h1,h2⟩:=has_iff.mp U
  obtain⟨i,rfl⟩:=Nat.exists_eq_add_of_le h1;have hi:i<(A j).n:=by omega
  have e1:(((A j).s+i:Nat):Int) - ((A j).s:Int)=(i:Int):=by omega
  have S:=VH (wd:=wd) hi;have I:=jz;have Y:=z j<|Gc.mp O;simp[zW,jW,hi,S];rw[show((A j).s:Int)+(i:Int) - ((A j).s:Int)=(i:Int)by omega,xC,RY hi];exact S
theorem wa(g:Nat->Vc)(z:q<=lim)(I:h<=lim):xF [.int h,.lst (zM q h g)]=some (.val<|jj h q λi j=>g j i):=by have e:=vz (h:=q) (w:=h) g z I;unfold jj at e;simp[xF,js,z9,Ge,z,e];rfl
theorem VG(h:Nat)(u:Nat->Vc)(L:List Nat):(L.map λj=>D.tup<|zE h<|u j)=zM L.length h λi=>u (L.getD i 0):=by
 unfold zM
 conv=>lhs;rw[<- jC 0 L]
 rw[Hm];rfl
theorem iz(u:Nat->Int)(L:List Nat):(L.map λj=>D.int<|u j)=zE L.length λi=>u (L.getD i 0):=by
 unfold zE
 conv=>lhs;rw[<- jC 0 L]
 rw[Hm];rfl
theorem yh(P:RX)(g:Nat->Int) : ∀N,sumTo (λi=>g<|((Ga N).filter P).getD i 0) ((Ga N).filter P).length=sumTo (λj=>if P j=true then g j else 0) N
 | 0=>rfl
 | N+1=>by
  have z:=yh P g N;rw[IB,MB];show _=sumTo _ N+_;rw[<- z];cases hP:P N with
  | false=>simp[hP]
  | true=>
   have e:([N].filter P)=[N]:=by simp[hP]
   rw[e,Hv,Lj];show sumTo _ _+_=_;simp only[if_true];congr 1
   ·refine zy λi hi=>?_
    simp[Gj,Hx hi]
   ·simp[Gj,hP]
end
section
variable{wd:RZ}{N m:Nat}{A:Nat->Bar}{p:Int}{w:RX}{T:RV}{t:Vc}
theorem fH:wY (zE N t) ((Ga N).map λj=>jW wd<|A j)=(Ga N).map λj=>D.tup [.int (t j),jW wd (A j)]:=by
 unfold wY zE;rw[List.zip_map,Hm];have e:(Ga N).zip (Ga N)=(Ga N).map λi=>(i,i):=by rw[List.zip_eq_zipWith,List.zipWith_self]
 rw[e,Hm];rfl
theorem QX(S:Pr p)(U : ∀j,j<N->(A j).s+(A j).n<=100)(hN:N<=60)(hm:m<=5)(Y : ∀k,wd k<=60)(hr:r<=m)(Z : ∀j i,j<N->(A j).has r=true->i<wd r->0<=(A j).v r i/\(A j).v r i<p) :
 xT [j8 p m w wd T,.lst<|(Ga N).map λj=>jW wd<|A j,.tup<|zE N t,.int r]=some (.val<|.tup<|zE (wd r)<|mxV p A N t r):=by
 have hl:=jz;have p7:=S.le;have ac:=Y r;have e1:=yH (wd:=wd) U (show N<=lim by omega) r;rw[VG (wd r) (λj=>(A j).v r)]at e1;have hq:((Ga N).filter λj=>(A j).has r).length<=N:=by have:=List.length_filter_le (λj=>(A j).has r)<|Ga N;simpa using this
 have e2:=wa (q:=((Ga N).filter λj=>(A j).has r).length) (h:=wd r) (λi=>(A<|((Ga N).filter λj=>(A j).has r).getD i 0).v r) ⋯ ⋯;have I:=Xz (p:=p) (h:=wd r) (w:=((Ga N).filter λj=>(A j).has r).length) .L (λi j=>(A<|((Ga N).filter λj=>(A j).has r).getD j 0).v r i) (λi=>t<|((Ga N).filter λj=>(A j).has r).getD i 0) S.pos ⋯ ⋯ (λi j hi O=>by
  have a1:((Ga N).filter λj=>(A j).has r).getD j 0∈(Ga N).filter λj=>(A j).has r:=by rw[Gj,Gd O];exact Lc _
  obtain⟨h1,h2⟩:=GT.mp a1;have:=Z _ i (Gc.mp h1) (by simpa using h2) hi;omega)
 have e4:(zE (wd r) λi=>sumTo (λj=>(A<|((Ga N).filter λj=>(A j).has r).getD j 0).v r i*t (((Ga N).filter λj=>(A j).has r).getD j 0)) ((Ga N).filter λj=>(A j).has r).length%p)=zE (wd r) (mxV p A N t r):=xl λi _=>by unfold mxV;rw[yh (λj=>(A j).has r) (λj=>(A j).v r i*t j) N];congr 1;refine zy λj _=>?_;rw[HF]
 rw[e4]at I;have e5:zL (.tp [0,1]) (sB<|zG jJ<|zb (zc 1)<|zb (zc 2) zF) (zc 0) [.no,.no,.val (.int r)] ((Ga N).map λj=>D.tup [.int (t j),jW wd (A j)])=some (zE ((Ga N).filter λj=>(A j).has r).length λi=>t<|((Ga N).filter λj=>(A j).has r).getD i 0):=by rw[<- iz];refine jv (λj=>(A j).has r) (λj=>D.int<|t j) _ λj O=>⟨_,rfl,?_,λ_=>rfl⟩;have e:=kH (wd:=wd) (U j<|Gc.mp O) r;simp[e]
 have a4:r<m+1:=by omega
 have z:=fH (N:=N) (wd:=wd) (t:=t) (A:=A);simp only[dsq]at I;have a5:N<=lim:=by omega
 refine jO<|zw (γ':=[.val (j8 p m w wd T),.val<|.lst<|(Ga N).map λj=>jW wd<|A j,.val<|.tup<|zE N t,.val<|.int r,.val (.lst<|zE ((Ga N).filter λj=>(A j).has r).length λi=>t<|((Ga N).filter λj=>(A j).has r).getD i 0)]) ?_ ?_
 ·simp[-Gj,z9,zW,Ge,z,e5,a5]
 ·simp[-Gj,j8,e1,e2,I,a4]
theorem iw(S:Pr p)(I : ∀j,j<N->(A j).s+(A j).n<=m+1)(U:N<=60)(hm:m<=5)(Y : ∀k,wd k<=60)(Z : ∀j r i,j<N->(A j).has r=true->i<wd r->0<=(A j).v r i/\(A j).v r i<p)(ha:a<N)(t0 : ∀i,i<a->t i=0)(t1:t a≠0) :
 Xy [j8 p m w wd T,.lst<|(Ga N).map λj=>jW wd<|A j,.tup (zE N t)]=some (.val<|jW wd<|mxB p A N t a):=by
 have hl:=jz;have a2:N<=lim:=by omega
 have e0:=yf a2 t ha t0 t1;have ac:=I a ha;have e1:zL (.nm 0) z6 (zG xT<|zb (zc 1)<|zb (zc 2)<|zb (zc 3)<|zb (zv ju (sIx (zh 4)<|zq<|.int 0)<|zc 0) zF) [.no,.val<|j8 p m w wd T,.val<|.lst<|(Ga N).map λj=>jW wd<|A j,.val<|.tup<|zE N t,.val (jW wd<|A a)] ((Ga (A a).n).map λ(i:Nat)=>D.int i)=some (xO wd<|mxB p A N t a):=by
  unfold xO;refine zo _ _ λi hi=>zu rfl rfl ?_;have hi:=Gc.mp hi;have e:=QX (T:=T) (w:=w) (t:=t) S (λj z=>by have:=I j z;omega) U hm Y (r:=(A a).s+i) (by have:i<(A a).n:=hi;omega) λj c z hh hc=>Z j _ c z hh hc;have e2:(((A a).s+i:Nat):Int)=((A a).s:Int)+(i:Int):=by omega
  rw[e2]at e;have i0:inR (((A a).s:Int)+(i:Int))=true:=decide_eq_true (by have:i<(A a).n:=hi;omega);simp[e];rfl
 have hn:(A a).n<=lim:=by omega
 have i1:inR ((A a).n:Int)=true:=decide_eq_true ⋯;refine jO<|zw (γ':=[.val (j8 p m w wd T),.val<|.lst<|(Ga N).map λj=>jW wd<|A j,.val<|.tup<|zE N t,.val<|jW wd<|A a,.no]) ?_ (zw (γ':=[.val (j8 p m w wd T),.val<|.lst<|(Ga N).map λj=>jW wd<|A j,.val<|.tup<|zE N t,.val<|jW wd<|A a,.val (.lst<|xO wd<|mxB p A N t a)]) ?_ ?_)
 ·simp[z9,Ge,e0,ha]
 ·have O:=e1
  rw[show((Ga (A a).n).map λ(i:Nat)=>D.int i)=zE (A a).n λi=>(i:Int)from rfl]at O;simp[zW,jL,i1,hn,O]
 ·have a8:(mxB p A N t a).n<=lim:=hn
  simp[WR,a8];rfl
end
def b1:=(sIf (ke<|sB<|zG J5<|zb (zc 1) zF) XW qT)
def b2:=(jk 3<|zv ju (oi<|zc 1)<|zq<|.int 1)
def b3:=(sIf (ke<|sB<|Be<|jQ<|zH (zJ<|zh 2) (.nm 0) 1 [3] z6 (zG wz<|zb (zc 1)<|zb (zc 0) zF)) XW qT)
def b4:=(jk 4<|jR<|lY<|zh 2)
def b5:=(jk 5<|jR<|zH (zU<|zc 3) (.nm 0) 1 [4] z6 (jR<|jE fw<|zb (zc 1)<|zb (zc 0) zF))
def b6:=(jk 6<|zP<|jQ<|zH (zJ<|zh 5) (.nm 0) 1 [] z6 (Jk<|zh 0))
def b7:=(sIf (sB<|zv dGt (lW<|zh 6)<|zq<|.int 30) XW qT)
def b8:=(jk 7<|jR<|zH (ba<|zc 1) (.tp [0,1]) 2 [5] z6 (j3<|zb (zc 1)<|zb (zG Y4<|zb (sIx (zh 2)<|zG lS<|zb (zc 0)<|zb (zc 1) zF)<|zb (sIx (zh 2)<|zG Js<|zb (zc 0)<|zb (zc 1) zF) zF) zF))
def x1:CO Xn:=(xIf (ke (sB (zG J5 (zb (zc 1) zF)))) (BO "NoRow") xNo)
def x3:CO Xn:=(xIf (ke (sB (Be (jQ (zH (zJ (zh 2)) (.nm 0) 1 [3] z6 (zG wz (zb (zc 1) (zb (zc 0) zF)))))))) (BO "NoRow") xNo)
def x7:CO Xn:=(xIf (sB (zv dGt (lW (zh 6)) (zq (.int 30)))) (BO "TooMany") xNo)
def tx(m:Nat)(bs:List (Int×Int)):List D:=(Ga<|m+1).map λ(r:Nat)=>D.lst<|CC<|mB bs r
def nu(m:Nat)(bs:List (Int×Int)):List D:=zE (m+1) λr=>((mB bs r).length:Int)
section
variable{p:Int}{m:Nat}{w:RX}{bs:List (Int×Int)}
abbrev g0(p:Int)(z:Str)(bs:List (Int×Int)):Ctx:=[.val (.int p),.val (.str z),.val (.lst (xZ bs)),.no,.no,.no,.no,.no]
abbrev g2(p:Int)(z:Str)(m:Nat)(bs:List (Int×Int)):Ctx:=[.val (.int p),.val (.str z),.val (.lst (xZ bs)),.val (.int ((m+1:Nat):Int)),.no,.no,.no,.no]
abbrev g6(p:Int)(z:Str)(m:Nat)(bs:List (Int×Int)):Ctx:=[.val (.int p),.val (.str z),.val (.lst (xZ bs)),.val (.int ((m+1:Nat):Int)),.val (.lst (xZ (Zj bs))),.val (.lst (tx m (Zj bs))),.val (.tup (nu m (Zj bs))),.no]
end
section
variable{p:Int}{m:Nat}{w:RX}{bs:List (Int×Int)}
theorem rL(w:RX)(k:Nat):((k:Int)+if w k=true then 1 else 0)=((begR w k:Nat):Int):=by unfold begR;split<;>omega
theorem pZ(w:RX)(k:Nat):((k:Int)+if (!w k)=true then 1 else 0)=((endR w k:Nat):Int):=by unfold endR;cases w k<;>simp
end
end DL
namespace DL
open PySem L2 PySem.W PyProof.Rows
def le2(x y:Int×Int):Prop:=yY y x=false
theorem y8(x):le2 x x:=by unfold le2 yY;simp
theorem QZ:le2 x y↔x.1<y.1\/(x.1=y.1/\x.2<=y.2):=by
 unfold le2 yY;by_cases h:y.1=x.1
 ·rw[RY h,decide_eq_false_iff_not];omega
 ·rw[EQ h,decide_eq_false_iff_not];omega
theorem cD:yY x y=true↔x.1<y.1\/(x.1=y.1/\x.2<y.2):=by
 unfold yY;by_cases h:x.1=y.1
 ·rw[RY h,decide_eq_true_iff];omega
 ·rw[EQ h,decide_eq_true_iff];omega
theorem yZ(a:le2 x y)(b:le2 y z):le2 x z:=by rw[QZ]at *;omega
theorem y9(a:yY x y=true):le2 x y:=by rw[cD]at a;rw[QZ];omega
theorem Ab(a:yY x y=true)(b:le2 y z):yY x z=true:=by rw[cD]at *;rw[QZ]at b;omega
theorem Xa(a:le2 x y)(b:le2 y x):x=y:=by rw[QZ]at *;obtain⟨x1,z⟩:=x;obtain⟨I,O⟩:=y;simp only[Prod.mk.injEq]at *;omega
section
variable(key:Nat->Int×Int)
def vA(p:Array Nat)(i:Nat):Int×Int:=key<|p.getD i 0
def ltK(i j:Nat):Bool:=yY (key i)<|key j
def Srt(p:Array Nat)(n:Nat):Prop:=∀i j,i<=j->j<n->le2 (vA key p i) (vA key p j)
def Dec(p:Array Nat)(n:Nat):Prop:=∀i j,i<=j->j<n->le2 (vA key p j) (vA key p i)
variable{key}
theorem kg(f:α->KasT β) : ∀t:KasT α,xn lt (t.bind f)=xn lt (f<|xn lt t)
 | .ret a=>rfl
 | .ask i j k=>kg f<|k<|lt i j
theorem kz(p:Array Nat)(i j):(kas_rev p i j).size=p.size:=mirror_size _ _ _ _
theorem BP(p:Array Nat)(i:Nat):vA key p i=key (p[i]?.getD 0):=by unfold vA;rw[Lh]
theorem aw(z:j<=p.size)(k:Nat):vA key (kas_rev p i j) k=if i<=k/\k<j then vA key p (i+j - 1 - k)else vA key p k:=by have:=getElem?_mirror_all (xs:=p) (i:=i) z k;unfold vA kas_rev;rw[Lh,this];split<;>rw[Lh]
theorem wZ(I:j<=p.size)(z : ∀k,i<=k->k<j->vA key p k=vA key p (j - 1))(k:Nat):vA key (kas_rev p i j) k=vA key p k:=by
 rw[aw I];split
 ·rename_i h
  rw[z _ ⋯ ⋯,z k h.1 h.2]
 ·rfl
theorem lT(z:k<p.size)(I:l<=k)(i:Nat):vA key (bubble p k<|k - l) i=if i=l then vA key p k else if l<i/\i<=k then vA key p (i - 1)else vA key p i:=by
 have:=getElem?_bubble (xs:=p) z (k - l) ⋯ i;rw[show k - (k - l)=l by omega]at this;simp only[BP];rw[this];split
 ·rfl
 ·split<;>rfl
theorem gc(hn:1<=n)(z:Srt key p n)(h:le2 (vA key p<|n - 1) (vA key p n)):Srt key p (n+1):=λi j I S=>by
 by_cases e:j=n
 ·subst e
  by_cases O:i=j
  ·subst O;exact y8 _
  ·exact yZ (z i (j - 1) ⋯ ⋯) h
 ·exact z i j I ⋯
theorem wN(hn:1<=n)(z:Dec key p n)(h:le2 (vA key p n) (vA key p<|n - 1)):Dec key p (n+1):=λi j I S=>by
 by_cases e:j=n
 ·subst e
  by_cases O:i=j
  ·subst O;exact y8 _
  ·exact yZ h<|z i (j - 1) ⋯ ⋯
 ·exact z i j I ⋯
theorem eP(p:Array Nat) : ∀(f n:Nat),1<=n->Srt key p n->n<=xn (ltK key) (kas_asc p f n)/\xn (ltK key) (kas_asc p f n)<=n+f/\Srt key p (xn (ltK key)<|kas_asc p f n)/\(xn (ltK key) (kas_asc p f n)=n+f\/yY (vA key p<|xn (ltK key)<|kas_asc p f n) (vA key p<|xn (ltK key) (kas_asc p f n) - 1)=true)
 | 0,n,hn,hs=>⟨Gh _,Gh _,hs,.inl rfl⟩
 | f+1,n,hn,hs=>by
  have e:xn (ltK key) (kas_asc p (f+1) n)=xn (ltK key) (if yY (vA key p n) (vA key p<|n - 1)=true then .ret n else kas_asc p f (n+1)):=rfl;rw[e];by_cases c:yY (vA key p n) (vA key p<|n - 1)=true
  ·rw[RY c]
   exact⟨Gh _,by show n<=n+(f+1);omega,hs,.inr c⟩
  ·rw[EQ c]
   obtain⟨O,S,z,I⟩:=eP p f (n+1) ⋯ (gc hn hs<|by unfold le2;simpa using c);exact⟨by omega,by omega,z,I.imp (λh=>by omega) id⟩
def Blk(key:Nat->Int×Int)(p:Array Nat)(n q:Nat):Prop:=q+1<=n/\∀i,n - (q+1)<=i->i<n->vA key p i=vA key p (n - 1)
theorem YR(p:Array Nat)(hn:1<=n):Blk key p n 0:=⟨hn,λi h1 h2=>by rw[show i=n - 1 by omega]⟩
theorem Xl : ∀(f:Nat) (p:Array Nat) (n q:Nat),Dec key p n->Blk key p n q->n+f<=p.size->
 ∃z n' I,xn (ltK key) (kas_desc f p n q)=(z,n',I)/\z.size=p.size/\n<=n'/\n'<=n+f/\Dec key z n'/\Blk key z n' I
 | 0,p,n,q,hd,hb,_=>⟨p,n,q,rfl,rfl,Gh _,Gh _,hd,hb⟩
 | f+1,p,n,q,hd,hb,hs=>by
  have hn:1<=n:=by have:=hb.1;omega
  have e:xn (ltK key) (kas_desc (f+1) p n q)=xn (ltK key) (if yY (vA key p n) (vA key p<|n - 1)=true then (if q>0 then kas_desc f (kas_rev p (n - (q+1)) n) (n+1) 0 else kas_desc f p (n+1) 0)
   else .ask (p.getD (n - 1) 0) (p.getD n 0) λd=>if d=true then .ret (p,n,q)else kas_desc f p (n+1) (q+1)):=rfl
  rw[e];by_cases c:yY (vA key p n) (vA key p<|n - 1)=true
  ·rw[RY c]
   by_cases Y:q>0
   ·rw[RY Y]
    have Z:=wZ (key:=key) (p:=p) (i:=n - (q+1)) (j:=n) ⋯ hb.2;have a2:Dec key (kas_rev p (n - (q+1)) n) (n+1):=λi j a3 hj=>by rw[Z,Z];exact wN hn hd (y9 c) i j a3 hj
    obtain⟨z,n',I,e1,O,e3,e4,S,U⟩:=Xl f (kas_rev p (n - (q+1)) n) (n+1) 0 a2 (YR _ ⋯) (by rw[kz];omega);exact⟨z,n',I,e1,by rw[O,kz],by omega,by omega,S,U⟩
   ·rw[EQ Y]
    obtain⟨z,n',I,e1,O,e3,e4,S,U⟩:=Xl f p (n+1) 0 (wN hn hd<|y9 c) (YR _ ⋯) ⋯;exact⟨z,n',I,e1,O,by omega,by omega,S,U⟩
  ·rw[EQ c]
   have e':xn (ltK key) (.ask (p.getD (n - 1) 0) (p.getD n 0) λd=>if d=true then .ret (p,n,q)else kas_desc f p (n+1) (q+1))=xn (ltK key) (if yY (vA key p<|n - 1) (vA key p n)=true then .ret (p,n,q)else kas_desc f p (n+1) (q+1)):=rfl;rw[e'];by_cases d:yY (vA key p<|n - 1) (vA key p n)=true
   ·rw[RY d]
    exact⟨p,n,q,rfl,rfl,Gh _,by omega,hd,hb⟩
   ·rw[EQ d]
    have l1:le2 (vA key p<|n - 1) (vA key p n):=by unfold le2;simpa using c
    have l2:le2 (vA key p n) (vA key p<|n - 1):=by unfold le2;simpa using d
    have eq:=Xa l1 l2;have a8:Blk key p (n+1) (q+1):=⟨by have:=hb.1;omega,λi h1 h2=>by
     rw[Nat.add_sub_cancel];by_cases hi:i=n
     ·rw[hi]
     ·rw[hb.2 i ⋯ ⋯,eq]⟩
    obtain⟨z,n',I,e1,O,e3,e4,S,U⟩:=Xl f p (n+1) (q+1) (wN hn hd l2) a8 ⋯;exact⟨z,n',I,e1,O,by omega,by omega,S,U⟩
def fB(key:Nat->Int×Int)(size nrem:Nat)(r:Nat×Array Nat):Prop:=1<=r.1/\r.1<=nrem/\r.2.size=size/\Srt key r.2 r.1
theorem Vh(hn:1<=n)(O:n<=nrem)(S:nrem<=p.size)(hd:Dec key p n):fB key p.size nrem (xn (ltK key)<|kas_tail3 n nrem p):=by
 have z:Srt key (kas_rev p 0 n) n:=λi j U Y=>by rw[aw ⋯,aw ⋯,RY ⟨by omega,by omega⟩,RY ⟨by omega,by omega⟩];exact hd _ _ ⋯ ⋯
 obtain⟨Z,a2,I,_⟩:=eP (kas_rev p 0 n) (nrem - n) n hn z;unfold kas_tail3;rw[kg];exact⟨by show 1<=xn _ _;omega,by show xn _ _<=nrem;omega,kz _ _ _,I⟩
theorem bV(hn:1<=n)(hr:n<nrem)(hs:nrem<=p.size)(S : ∀i,i<n->vA key p i=vA key p (n - 1))(a1:yY (vA key p n) (vA key p<|n - 1)=true):fB key p.size nrem (xn (ltK key)<|kas_descPart n nrem p):=by
 have hd:Dec key p n:=λi j U O=>by rw[S i ⋯,S j O];exact y8 _
 obtain⟨z,n',I,e1,Y,e3,e4,Z,e6⟩:=Xl (nrem - (n+1)) p (n+1) 0 (wN hn hd<|y9 a1) (YR _ ⋯) ⋯;unfold kas_descPart;rw[kg,e1];show fB key p.size nrem (xn (ltK key)<|if I>0 then kas_tail3 n' nrem (kas_rev z (n' - (I+1)) n')else kas_tail3 n' nrem z);split
 ·have ev:=wZ (key:=key) (p:=z) (i:=n' - (I+1)) (j:=n') ⋯ e6.2
  have:=Vh (p:=kas_rev z (n' - (I+1)) n') (n:=n') (nrem:=nrem) ⋯ ⋯ (by rw[kz];omega) (λi j U O=>by rw[ev,ev];exact Z i j U O);rw[kz,Y]at this;exact this
 ·have:=Vh (p:=z) (n:=n') (nrem:=nrem) ⋯ ⋯ ⋯ Z
  rw[Y]at this;exact this
theorem ly(hn:1<=nrem)(Z:nrem<=p.size):fB key p.size nrem (xn (ltK key)<|kas_count nrem p):=by
 have h1:Srt key p 1:=λi j a6 hj=>by rw[show i=j by omega];exact y8 _
 obtain⟨z,a2,I,S⟩:=eP p (nrem - 1) 1 (Gh _) h1;unfold kas_count;rw[kg];generalize xn (ltK key) (kas_asc p (nrem - 1) 1)=n at z a2 I S;show fB key p.size nrem (xn (ltK key)<|if (n==nrem)=true then .ret (n,p)else if n>1 then .ask (p.getD 0 0) (p.getD (n - 1) 0) λc=>if c=true then .ret (n,p)else kas_descPart n nrem (kas_rev p 0 n)else kas_descPart n nrem p);split
 ·rename_i h
  have:=eq_of_beq h;exact⟨z,by show n<=nrem;omega,rfl,I⟩
 ·rename_i h
  have a8:n≠nrem:=λe=>h (by rw[e];exact beq_self_eq_true _);have U:yY (vA key p n) (vA key p<|n - 1)=true:=S.resolve_left ⋯;split
  ·have e:xn (ltK key) (.ask (p.getD 0 0) (p.getD (n - 1) 0) λc=>if c=true then .ret (n,p)else kas_descPart n nrem (kas_rev p 0 n))=xn (ltK key) (if yY (vA key p 0) (vA key p<|n - 1)=true then .ret (n,p)else kas_descPart n nrem (kas_rev p 0 n)):=rfl
   rw[e];split
   ·exact⟨z,by show n<=nrem;omega,rfl,I⟩
   ·rename_i c
    have l:le2 (vA key p<|n - 1) (vA key p 0):=by unfold le2;simpa using c
    have Y : ∀i,i<n->vA key p i=vA key p (n - 1):=λi hi=>Xa (I i (n - 1) ⋯ ⋯)<|yZ l<|I 0 i ⋯ hi;have O:=wZ (key:=key) (p:=p) (i:=0) (j:=n) ⋯<|λk _ hk=>Y k hk;have:=bV (key:=key) (p:=kas_rev p 0 n) (n:=n) (nrem:=nrem) z ⋯ (by rw[kz];omega) (λi hi=>by rw[O,O];exact Y i hi) (by rw[O,O];exact U);rw[kz]at this;exact this
  ·exact bV z ⋯ Z (λi hi=>by rw[show i=n - 1 by omega]) U
theorem QO(I:Srt key p k) : ∀(f l r:Nat),l<=r->r<=k->r - l<=f->(∀i,i<l->le2 (vA key p i) (vA key p k))->(∀i,r<=i->i<k->yY (vA key p k) (vA key p i)=true)->
 xn (ltK key) (kas_place p k f l r)<=k/\(∀i,i<xn (ltK key) (kas_place p k f l r)->le2 (vA key p i) (vA key p k))/\∀i,xn (ltK key) (kas_place p k f l r)<=i->i<k->yY (vA key p k) (vA key p i)=true
 | 0,l,r,h1,h2,h3,h4,h5=>⟨by show l<=k;omega,h4,λi hi z=>h5 i (by have:l<=i:=hi;omega) z⟩
 | f+1,l,r,h1,h2,h3,h4,h5=>by
  have e:xn (ltK key) (kas_place p k (f+1) l r)=xn (ltK key) (if l>=r then .ret l else .ask (p.getD k 0) (p.getD ((l+r)/2) 0) λc=>if c=true then kas_place p k f l ((l+r)/2)else kas_place p k f ((l+r)/2+1) r):=rfl;rw[e];by_cases O:l>=r
  ·rw[RY O]
   exact⟨by show l<=k;omega,h4,λi hi z=>h5 i (by have:l<=i:=hi;omega) z⟩
  ·rw[EQ O]
   have S:xn (ltK key) (.ask (p.getD k 0) (p.getD ((l+r)/2) 0) λc=>if c=true then kas_place p k f l ((l+r)/2)else kas_place p k f ((l+r)/2+1) r)=xn (ltK key) (if yY (vA key p k) (vA key p<|(l+r)/2)=true then kas_place p k f l ((l+r)/2)else kas_place p k f ((l+r)/2+1) r):=rfl;rw[S];by_cases c:yY (vA key p k) (vA key p<|(l+r)/2)=true
   ·rw[RY c]
    exact QO I f l ((l+r)/2) ⋯ ⋯ ⋯ h4 λi hi z=>Ab c<|I _ _ hi z
   ·rw[EQ c]
    have U:le2 (vA key p<|(l+r)/2) (vA key p k):=by unfold le2;simpa using c
    exact QO I f ((l+r)/2+1) r ⋯ h2 ⋯ (λi hi=>yZ (I i ((l+r)/2) ⋯ ⋯) U) h5
theorem ue(O:k<p.size)(S:l<=k)(I:Srt key p k)(h1 : ∀i,i<l->le2 (vA key p i) (vA key p k))(h2 : ∀i,l<=i->i<k->yY (vA key p k) (vA key p i)=true):Srt key (bubble p k<|k - l) (k+1):=λi j Z hj=>by
 rw[lT O S,lT O S];by_cases hi:i=l
 ·subst hi
  rw[RY rfl];by_cases z:j=i
  ·rw[RY z];exact y8 _
  ·rw[EQ z,RY ⟨by omega,by omega⟩]
   exact y9<|h2 _ ⋯ ⋯
 ·rw[EQ hi]
  by_cases U:l<i/\i<=k
  ·rw[RY U,EQ (show ¬j=l by omega),RY ⟨by omega,by omega⟩]
   exact I _ _ ⋯ ⋯
  ·rw[EQ U]
   by_cases z:j=l
   ·rw[RY z];exact h1 i ⋯
   ·rw[EQ z]
    by_cases Y:l<j/\j<=k
    ·rw[RY Y];exact I _ _ ⋯ ⋯
    ·rw[EQ Y];exact I _ _ Z ⋯
theorem mU : ∀(f:Nat) (p:Array Nat) (k n:Nat),k+f=n->p.size=n->Srt key p k->Srt key (xn (ltK key)<|kas_bin f p k) n/\(xn (ltK key)<|kas_bin f p k).size=n
 | 0,p,k,n,h1,h2,hs=>by
  obtain rfl:k=n:=by omega
  exact⟨hs,h2⟩
 | f+1,p,k,n,h1,h2,hs=>by obtain⟨z,I,O⟩:=QO hs k 0 k ⋯ (Gh _) ⋯ (λi hi=>by omega) (λi S U=>by omega);unfold kas_bin;rw[kg];exact mU f _ (k+1) n ⋯ (by rw[bubble_size];exact h2)<|ue ⋯ z hs I O
theorem nO(hn:1<=n):Srt key (xn (ltK key)<|kas_sort n) n/\(xn (ltK key)<|kas_sort n).size=n:=by
 have hsz:(Mz<|Ga n).size=n:=by simp
 obtain⟨I,O,S,z⟩:=ly (key:=key) (p:=Mz<|Ga n) (nrem:=n) hn ⋯;unfold kas_sort;rw[kg];generalize xn (ltK key) (kas_count n<|Mz<|Ga n)=r at I O S z;show Srt key (xn (ltK key)<|if r.1<n then kas_bin (n - max r.1 1) r.2 (max r.1 1)else .ret r.2) n/\(xn (ltK key)<|if r.1<n then kas_bin (n - max r.1 1) r.2 (max r.1 1)else .ret r.2).size=n;rw[show max r.1 1=r.1 by omega];split
 ·exact mU (n - r.1) r.2 r.1 n ⋯ ⋯ z
 ·have:r.1=n:=by omega
  rw[this]at z;exact⟨z,by show r.2.size=n;omega⟩
end
theorem wm(bs:List (Int×Int)):(Zj bs).Pairwise le2:=by
 unfold Zj xy;by_cases h:bs.length<2
 ·rw[RY h]
  rcases bs with _ | ⟨a,_ | ⟨b,bs⟩⟩
  ·exact Ls.nil
  ·exact List.pairwise_singleton _ _
  ·simp only[GJ]at h;omega
 ·rw[EQ h]
  obtain⟨s1,s2⟩:=nO (key:=λi=>bs.getD i (0,0)) (n:=bs.length) ⋯;have e:(xn (λi j=>yY (bs.getD i (0,0))<|bs.getD j (0,0))<|kas_sort bs.length)=xn (ltK λi=>bs.getD i (0,0)) (kas_sort bs.length):=rfl;rw[e];generalize xn (ltK λi=>bs.getD i (0,0)) (kas_sort bs.length)=p at s1 s2;rw[IA];intro i j hi z I;simp only[Gw,HV]at hi z;have:=s1 i j ⋯ ⋯;unfold vA at this;simp only[Lh,Array.getElem?_eq_getElem hi,Array.getElem?_eq_getElem z,MM]at this;simpa using this
theorem Zh : ∀{a b:List (Int×Int)},a.Perm b->a.Pairwise le2->b.Pairwise le2->a=b
 | [],b,h,_,_=>by rw[h.nil_eq]
 | x::a,[],h,_,_=>by have:=h.length_eq;simp at this
 | x::a,y::b,h,ha,hb=>by
  have hx:x∈y::b:=h.mem_iff.mp Gu;have I:y∈x::a:=h.mem_iff.mpr Gu;have e:x=y:=by
   rcases Gr.mp hx with e | e
   ·exact e
   ·rcases Gr.mp I with z | z
    ·exact z.symm
    ·exact Xa (List.rel_of_pairwise_cons ha z)<|List.rel_of_pairwise_cons hb e
  subst e;rw[Zh (List.Perm.cons_inv h) ha.of_cons hb.of_cons]
theorem Yc(h:a.Perm b):Zj a=Zj b:=
 Zh ((JB a).trans (h.trans (JB b).symm)) (wm a) (wm b)
end DL
namespace DL
open PySem L2
theorem pA:jP=js 6 (zI Aa<|zI CJ<|zI CI Bl):=rfl
theorem pz:qf=js 11 (zI CH<|zI CG<|zI CF Bj):=rfl
def ltB:=(qt 4<|zP<|jQ<|zH (zJ<|zh 3) (.nm 0) 1 [0,5] z6 (zv jV (lW<|jQ<|zH (K7 (zc 2)<|zc 0) (.tp [0,1]) 2 [] z6 (zv qm (zc 0)<|zc 1))<|zc 1))
theorem aF(f g:RK)(Y:0<p)(hh:h<=400)(hm:m<=400)(hw:w<=400)(hg : ∀i j,i<m->j<w->0<=g i j/\g i j<100) :
 jP [.int p,jj h m f,jj m w g]=some (.val<|jj h w λi j=>sumTo (λk=>f i k*g k j) m%p):=by
 have hl:=jz;have l1:h<=lim:=by omega
 have l2:m<=lim:=by omega
 have Z:w<=lim:=by omega
 have t1:=aM h m f;have S:=aM m w g;have i0:ixD 3 0=some 0:=rfl;have i1:ixD 3 1=some 1:=rfl;have i2:ixD 3 2=some 2:=rfl;have k1 : ∀j:Nat,j<w->zL (.nm 0) z6 (sIx (zh 0)<|zc 1) [Cell.no,Cell.val (.int (j:Int))] (zM m w g)=some (zE m λk=>g k j):=λj I=>by
  rw[je];unfold zM;refine zo _ _ λi hi=>zu rfl rfl ?_;show sIx _ _ [Cell.val (.tup<|zE w<|g i),Cell.val (.int (j:Int))]=_;have e:(zE w<|g i)[j]? = some (.int<|g i j):=by unfold zE;simp[I]
  have el:(zE w<|g i).length=w:=by simp[zE]
  simp only[vx,jY,xD,Gz,GC,z7,jb,yp,Gk,qg,el,xC,I,if_true,e]
 have k2:zL (.nm 0) z6 (jR<|zH (zJ<|zO<|sIx (zh 1)<|zq<|.int 2) (.nm 0) 1 [0] z6 (sIx (zh 0)<|zc 1)) [Cell.no,Cell.val (jj m w g)] (zE w λi=>(i:Int))=some (XB w m λj k=>g k j):=by
  rw[je w λi=>(i:Int)];unfold XB;refine zo _ _ λj I=>zu rfl rfl ?_;have I:=Gc.mp I;have dl:(zM m w g).length<=lim:=by rw[J0];exact l2
  show jR _ [Cell.val (.int (j:Int)),Cell.val (jj m w g)]=_;simp only[K1,xc,xm,vo,vx,jY,ko,Gz,GC,GJ,Hu,HW,IZ,z7,Gk,GM,S,qg,i2,yp,dl,if_true];rw[show zW 1 [0] [Cell.val (.int (j:Int)),Cell.val (jj m w g)]=[Cell.no,Cell.val (.int (j:Int))]from rfl,k1 j I];rfl
 have s1:Aa (z9 6 [.int p,jj h m f,jj m w g])=some (.next [.val (.int p),.val<|jj h m f,.val<|jj m w g,.val<|.lst<|XB w m λj k=>g k j,.no,.no]):=by
  have a8:inR (w:Int)=true:=KG ⋯ ⋯;have dl:(zE w λi=>(i:Int)).length<=lim:=by simp[zE];exact Z
  show Aa [.val (.int p),.val<|jj h m f,.val<|jj m w g,.no,.no,.no]=_;unfold Aa;simp only[vn,K1,xc,vq,vx,jY,ko,Gz,GC,GJ,Hu,HW,IZ,z7,Gk,GM,S,qg,i1,a8,if_true,Ih,jL,dl];rw[show zW 1 [2] [.val (.int p),.val<|jj h m f,.val<|jj m w g,.no,.no,.no]=[Cell.no,Cell.val (jj m w g)]from rfl,k2];rfl
 have s2:CJ [.val (.int p),.val<|jj h m f,.val<|jj m w g,.val<|.lst<|XB w m λj k=>g k j,.no,.no]=some (.next [.val (.int p),.val<|jj h m f,.val<|jj m w g,.val<|.lst<|XB w m λj k=>g k j,.own [],.no]):=rfl;have k3 : ∀i:Nat,zL (.nm 0) z6 (zv jV (lW<|jQ<|zH (K7 (zc 2)<|zc 0) (.tp [0,1]) 2 [] z6 (zv qm (zc 0)<|zc 1))<|zc 1) [Cell.no,Cell.val<|.int p,Cell.val (.tup<|zE m<|f i)] (XB w m λj k=>g k j)=some (zE w λj=>sumTo (λk=>f i k*g k j) m%p):=λi=>by
  rw[je w];unfold XB;refine zo _ _ λj I=>zu rfl rfl ?_;have I:=Gc.mp I;have z:=wG m (f i) λk=>g k j;have k4:zL (.tp [0,1]) z6 (zv qm (zc 0)<|zc 1) [Cell.no,Cell.no] ((Ga m).map λk=>D.tup [.int (f i k),.int (g k j)])=some (zE m λk=>f i k*g k j):=by rw[je m λk=>f i k*g k j];refine zo _ _ λk U=>zu rfl rfl ?_;have U:=Gc.mp U;have b:=hg k j U I;have c:wy (f i k) (g k j)=true:=wu _ _ ⋯ ⋯;show zv _ _ _ [Cell.val (.int<|f i k),Cell.val (.int<|g k j)]=_;simp[c]
  have zl:((Ga m).map λk=>D.tup [.int (f i k),.int (g k j)]).length<=lim:=by simpa using l2
  have sm:=w9 (λk=>f i k*g k j) m;have bb:AH 0 p=true:=decide_eq_true Y;show zv _ _ _ [Cell.val (.lst<|zE m λk=>g k j),Cell.val<|.int p,Cell.val (.tup<|zE m<|f i)]=_;simp only[V6,AM,YV,xc,AL,xD,Gz,GC,jb,Gk,GM,vm,yp,z,zl,if_true];rw[show zW 2 [] [Cell.val (.lst<|zE m λk=>g k j),Cell.val<|.int p,Cell.val (.tup<|zE m<|f i)]=[Cell.no,Cell.no]from rfl,k4];simp only[GM,Gk,sm];simp[Y]
 obtain⟨γ',q,⟨c5,rfl⟩⟩ : ∃γ',xk (.nm 5) ltB (zM h m f) [.val (.int p),.val<|jj h m f,.val<|jj m w g,.val<|.lst<|XB w m λj k=>g k j,.own [],.no]=some (.next γ')/\∃c5,γ'=[.val (.int p),.val<|jj h m f,.val<|jj m w g,.val<|.lst<|XB w m λj k=>g k j,.own<|zM h w λi j=>sumTo (λk=>f i k*g k j) m%p,c5]:=by
  have key : ∀(k s:Nat) (c5:Cell),s+k=h->∃O,xk (.nm 5) ltB ((LX s k).map λi=>D.tup<|zE m<|f i) [.val (.int p),.val<|jj h m f,.val<|jj m w g,.val<|.lst<|XB w m λj k=>g k j,.own<|zM s w λi j=>sumTo (λk=>f i k*g k j) m%p,c5]=some (.next [.val (.int p),.val<|jj h m f,.val<|jj m w g,.val<|.lst<|XB w m λj k=>g k j,.own<|zM h w λi j=>sumTo (λk=>f i k*g k j) m%p,O]):=by
   intro k
   induction k with
   | zero=>
    intro s c5 e;obtain rfl:s=h:=by omega
    exact⟨c5,rfl⟩
   | succ k ih=>
    intro s c5 e;obtain⟨O,q⟩:=ih (s+1) (.val<|.tup<|zE m<|f s) ⋯;refine⟨O,?_⟩;rw[<- q,La,GQ,jX,YJ];have sl:s<lim:=by omega
    have ll:(XB w m λj k=>g k j).length<=lim:=by rw[iB];exact Z
    simp only[vk,Gk,ltB,Jd,yt,YV,xc,xm,jY,HQ,HP,Gz,GC,qx,z7,vm,GM,ll,if_true];rw[show zW 1 [0,5] [Cell.val (.int p),Cell.val<|jj h m f,Cell.val<|jj m w g,Cell.val<|.lst<|XB w m λj k=>g k j,Cell.own<|zM s w λi j=>sumTo (λk=>f i k*g k j) m%p,Cell.val (.tup<|zE m<|f s)]=[Cell.no,Cell.val<|.int p,Cell.val (.tup<|zE m<|f s)]from rfl,k3 s];simp only[GM,Gk,J0,sl,if_true]
  obtain⟨O,q⟩:=key h 0 .no ⋯;rw[<- Lw]at q;exact⟨_,q,O,rfl⟩
 have s3:CI [.val (.int p),.val<|jj h m f,.val<|jj m w g,.val<|.lst<|XB w m λj k=>g k j,.own [],.no]=some (.next [.val (.int p),.val<|jj h m f,.val<|jj m w g,.val<|.lst<|XB w m λj k=>g k j,.own<|zM h w λi j=>sumTo (λk=>f i k*g k j) m%p,c5]):=by show yJ _ _ ltB _=_;rw[K2];simp only[xm,vo,vx,jY,ko,Gz,GC,GJ,Hu,HW,IZ,z7,Gk,GM,t1,qg,i2,yp];exact q
 have s4:Bl [.val (.int p),.val<|jj h m f,.val<|jj m w g,.val<|.lst<|XB w m λj k=>g k j,.own<|zM h w λi j=>sumTo (λk=>f i k*g k j) m%p,c5]=some (.ret<|.val<|jj h w λi j=>sumTo (λk=>f i k*g k j) m%p):=by
  have as:3<=lim:=by omega
  unfold Bl;simp only[K0,KZ,x9,vw,vx,jY,ko,yt,Gz,GC,GJ,Hu,HW,IZ,z7,ZV,Gk,GM,t1,S,qg,i0,i1,as,if_true];rfl
 rw[pA];exact jO<|zw s1<|zw s2<|zw s3 s4
def rnd(n:Nat)(ks:List Nat)(u:Nat->Int):Nat->Int:=ks.foldl (λu k=>mv n k u) u
def sw(k i:Nat):Nat:=if i=k then k+1 else if i=k+1 then k else i
def itr(n:Nat)(ks:List Nat)(u:Nat->Int):Nat->Nat->Int
 | 0=>u
 | j+1=>rnd n ks<|itr n ks u j
def acc(n:Nat)(ks:List Nat)(u:Nat->Int):Nat->Nat->Int
 | 0=>λ_=>0
 | j+1=>λi=>acc n ks u j i+itr n ks u j i
theorem ik(n f):okD (.lst<|zE n f)=true:=mF (by
 have:=V1 n f;simp only[deep]at this ⊢;exact this) ⋯ (by
 have:=cc n f;simp only[okS]at this ⊢;exact this)
theorem ZQ(b:Bool):dEq (.str (Jl (wch b))) (.str "r")=some (.bl (!b)):=by cases b<;>kernel_rfl
def luB:=(zI (jk 9 (zv ju (zc 7) (vJ (zv dEq (sIx (zh 8) (zq (.int 0))) (zq (.str "l")))))) (zI (jk 10 (zv ju (zc 7) (vJ (zv dEq (sIx (zh 8) (zq (.int 0))) (zq (.str "r")))))) (qt 6 (j3 (zb (sIx (zh 8) (zq (.int 0))) (zb (zG jP (zb (zc 3) (zb (zG jP (zb (zc 3) (zb (sIx (zh 1) (zc 10)) (zb (sIx (zh 8) (zq (.int 1))) zF)))) (zb (sIx (zh 2) (zc 9)) zF)))) zF))))))
section
variable{p:Int}{m:Nat}{w:RX}{wd:RZ}{T f g:RV}
abbrev luc(p:Int)(m:Nat)(w:RX)(wd:RZ)(T f g:RV)(c6 c7 c8 c9 c10:Cell):Ctx:=[.val (j8 p m w wd T),.val (.lst (qE (m+1) wd f)),.val (.lst (qE (m+1) wd g)),.val (.int p),.val (.tup (zE (m+1) λk=>(wd k:Int))),.val (.tup (j6 m w wd T)),c6,c7,c8,c9,c10]
theorem XO(h:k<n)(wd:RZ)(f:RV):(qE n wd f)[k]? = some (jj (wd k) (wd k)<|f k):=by unfold qE;simp[h]
theorem WY(p0:0<p)(p7:p<=7)(hm:m<=5)(a3 : ∀k,wd k<=60)(hT : ∀k i j,k<m->i<hiW w wd k->j<wiW w wd k->0<=T k i j/\T k i j<p)(hg : ∀k i j,k<m+1->i<wd k->j<wd k->0<=g k i j/\g k i j<p) :
 qf [j8 p m w wd T,.lst<|qE (m+1) wd f,.lst (qE (m+1) wd g)]=some (.val<|j8 p m w wd<|qq p w wd f g T):=by
 have hl:=jz;have s1:CH (z9 11 [j8 p m w wd T,.lst<|qE (m+1) wd f,.lst (qE (m+1) wd g)])=some (.next<|luc p m w wd T f g .no .no .no .no .no):=rfl;have s2:CG (luc p m w wd T f g .no .no .no .no .no)=some (.next<|luc p m w wd T f g (.own []) .no .no .no .no):=rfl;have step : ∀s,s<m->∀c9 c10:Cell,∃z I,luB (luc p m w wd T f g (.own<|j6 s w wd<|qq p w wd f g T) (.val<|.int (s:Int)) (.val<|qD w wd T s) c9 c10)=some (.next<|luc p m w wd T f g (.own<|j6 (s+1) w wd<|qq p w wd f g T) (.val<|.int (s:Int)) (.val<|qD w wd T s) z I):=λs O c9 c10=>by
  have h1:=rf w O;have h2:=eJ w O;have a0:jG (qD w wd T s)=some (.T,[.str (Jl<|wch<|w s),jj (hiW w wd s) (wiW w wd s) (T s)]):=rfl;have S:ixD 2 0=some 0:=rfl;have i1:ixD 2 1=some 1:=rfl;have eL:=Aw<|w s;have eR:=ZQ<|w s;have b1:((s:Int)+if w s=true then 1 else 0)=((begR w s:Nat):Int):=rL w s;have b2:((s:Int)+if (!w s)=true then 1 else 0)=((endR w s:Nat):Int):=pZ w s;have ta:=XO h1 wd f;have tb:=XO h2 wd g;have l2:2<=lim:=by omega
  have sl:s<lim:=by omega
  refine⟨.val (.int ((begR w s:Nat):Int)),.val (.int ((endR w s:Nat):Int)),?_⟩;have q1:(jk 9 (zv ju (zc 7) (vJ (zv dEq (sIx (zh 8) (zq (.int 0))) (zq (.str "l")))))) (luc p m w wd T f g (.own (j6 s w wd (qq p w wd f g T))) (.val (.int (s:Int))) (.val (qD w wd T s)) c9 c10)=some (.next (luc p m w wd T f g (.own (j6 s w wd (qq p w wd f g T))) (.val (.int (s:Int))) (.val (qD w wd T s)) (.val (.int ((begR w s:Nat):Int))) c10)):=by rw[<- b1];simp only[luc,vn,V6,xD,eX,vx,jY,ko,Gz,GC,GJ,Hu,HW,IZ,jb,z7,Gk,GM,a0,qg,S,eL,HQ,HP];cases w s<;>simp
  have U:(jk 10 (zv ju (zc 7) (vJ (zv dEq (sIx (zh 8) (zq (.int 0))) (zq (.str "r")))))) (luc p m w wd T f g (.own (j6 s w wd (qq p w wd f g T))) (.val (.int (s:Int))) (.val (qD w wd T s)) (.val (.int ((begR w s:Nat):Int))) c10)=some (.next (luc p m w wd T f g (.own (j6 s w wd (qq p w wd f g T))) (.val (.int (s:Int))) (.val (qD w wd T s)) (.val (.int ((begR w s:Nat):Int))) (.val (.int ((endR w s:Nat):Int))))):=by rw[<- b2];simp only[luc,vn,V6,xD,eX,vx,jY,ko,Gz,GC,GJ,Hu,HW,IZ,jb,z7,Gk,GM,a0,qg,S,eR,HQ,HP];cases w s<;>simp
  refine zw q1<|zw U ?_;have bE:=a3<|endR w s;have bB:=a3<|begR w s;have al : ∀i j,i<wd (endR w s)->j<wd (begR w s)->0<=T s i j/\T s i j<100:=λi j hi Y=>by have:=hT s i j O (by rw[cZ];exact hi) (by rw[au];exact Y);omega
  have am : ∀i j,i<wd (begR w s)->j<wd (begR w s)->0<=g (begR w s) i j/\g (begR w s) i j<100:=λi j hi Y=>by have:=hg (begR w s) i j h2 hi Y;omega
  have m1:=aF (p:=p) (h:=wd<|endR w s) (m:=wd<|endR w s) (w:=wd<|begR w s) (f<|endR w s) (T s) p0 ⋯ ⋯ ⋯ al;have m2:=aF (p:=p) (h:=wd<|endR w s) (m:=wd<|begR w s) (w:=wd<|begR w s) (λi b=>sumTo (λa=>f (endR w s) i a*T s a b) (wd<|endR w s)%p) (g<|begR w s) p0 ⋯ ⋯ ⋯ am;have e1:hiW w wd s=wd (endR w s):=cZ w wd s;have e2:wiW w wd s=wd (begR w s):=au w wd s;have fe:(λi j=>sumTo (λb=>(sumTo (λa=>f (endR w s) i a*T s a b) (wd<|endR w s)%p)*g (begR w s) b j) (wd<|begR w s)%p)=qq p w wd f g T s:=by funext i j;unfold qq;congr 1;congr 1;funext b;rw[HF];congr 1;congr 1;congr 1;funext a;rw[HF]
  rw[fe]at m2;have ar:qD w wd (qq p w wd f g T) s = .tup [.str (Jl<|wch<|w s),jj (wd<|endR w s) (wd<|begR w s) (qq p w wd f g T s)]:=by unfold qD;rw[e1,e2]
  rw[eT,ar];simp only[luc,Jd,KZ,x9,vw,we,xD,vx,jY,ko,Gz,GC,GJ,Hu,HW,IZ,jb,z7,qx,Gk,GM,a0,qg,S,i1,vm,aJ,xC,h1,h2,if_true,ta,tb,e1,e2,m1,m2,mf,l2,eU,sl,HQ,HP]
 have key : ∀(k s:Nat) (c7 c8 c9 c10:Cell),s+k=m->∃Z a1 z I,xk (.tp [7,8]) luB ((LX s k).map λ(k:Nat)=>D.tup [.int k,qD w wd T k]) (luc p m w wd T f g (.own<|j6 s w wd<|qq p w wd f g T) c7 c8 c9 c10)=some (.next<|luc p m w wd T f g (.own<|j6 m w wd<|qq p w wd f g T) Z a1 z I):=by
  intro k
  induction k with
  | zero=>
   intro s c7 c8 c9 c10 e;obtain rfl:s=m:=by omega
   exact⟨c7,c8,c9,c10,rfl⟩
  | succ k ih=>
   intro s c7 c8 c9 c10 e;obtain⟨d9,b9,q⟩:=step s ⋯ c9 c10;obtain⟨Z,a1,z,I,U⟩:=ih (s+1) (.val<|.int (s:Int)) (.val<|qD w wd T s) d9 b9 ⋯;refine⟨Z,a1,z,I,?_⟩;rw[<- U,La,GQ,jX];have hb:qV (.tp [7,8]) (.tup [.int (s:Int),qD w wd T s]) (luc p m w wd T f g (.own<|j6 s w wd<|qq p w wd f g T) c7 c8 c9 c10)=some (luc p m w wd T f g (.own<|j6 s w wd<|qq p w wd f g T) (.val<|.int (s:Int)) (.val<|qD w wd T s) c9 c10):=rfl;rw[hb];simp only[Gk,q]
 obtain⟨c7,c8,c9,c10,q⟩:=key m 0 .no .no .no .no ⋯;rw[<- Lw]at q;have s3:CF (luc p m w wd T f g (.own []) .no .no .no .no)=some (.next<|luc p m w wd T f g (.own<|j6 m w wd<|qq p w wd f g T) c7 c8 c9 c10):=by
  show yJ _ _ luB _=_;have src:QE (zc 5) (luc p m w wd T f g (.own []) .no .no .no .no)=some ((Ga m).map λ(k:Nat)=>D.tup [.int k,qD w wd T k]):=by show some (qZ<|j6 m w wd T)=_;rw[show j6 m w wd T=(Ga m).map (qD w wd T)from rfl,JY]
  rw[K2,src];exact q
 have s4:Bj (luc p m w wd T f g (.own<|j6 m w wd<|qq p w wd f g T) c7 c8 c9 c10)=some (.ret<|.val<|j8 p m w wd<|qq p w wd f g T):=by
  have l3:3<=lim:=by omega
  unfold Bj;simp only[luc,K0,KZ,x9,vw,xD,yt,jY,Gz,GC,GJ,Hu,HW,IZ,jb,ZV,Gk,GM,l3,if_true];rfl
 rw[pz];exact jO<|zw s1<|zw s2<|zw s3 s4
end
section
variable{wd:RZ}{N m k r:Nat}{A:Nat->Bar}{p:Int}{w:RX}{T:RV}{B:Nat->Vc}{l:RZ}
theorem VS(l:RZ)(g:Nat->D)(i:Nat) : ∀(L:List Nat),VT (L.map λj=>D.int ((l j:Nat):Int)) (L.map g) (i:Int)=(L.find? λj=>l j==i).map g
 | []=>rfl
 | j::L=>by
  have z:=VS l g i L;simp only[GQ,VT,IW];by_cases h:l j=i
  ·simp[h]
  ·have h2 : ¬((l j:Nat):Int)=(i:Int):=by omega
   rw[EQ h2,z];have:(l j==i)=false:=by simpa using h
   rw[this]
theorem KB(l:RZ) : ∀L:List Nat,yx (L.map λj=>D.int ((l j:Nat):Int))=some (L.map λj=>((l j:Nat):Int))
 | []=>rfl
 | j::L=>by simp[yx,KB l L]
theorem WT(z:IsB p N r B l)(I:r<=lim):dP ((Ga r).map λj=>D.int ((l j:Nat):Int)) ((Ga r).map λj=>D.tup<|zE N<|B j)=some (.dic ((Ga r).map λj=>D.int ((l j:Nat):Int))<|(Ga r).map λj=>D.tup<|zE N<|B j):=by unfold dP;rw[KB];dsimp only;rw[RY];refine⟨by simp,?_,by simpa using I⟩;rw[List.nodup_iff_pairwise_ne,LY];refine Mh (λ{a b} ha O h=>?_)<|LW (n:=r);have:=z.mono a b h<|Gc.mp O;omega
theorem XH(f g:Nat->D) : ∀L:List Nat,xp (L.map λj=>D.tup [f j,g j])=some (L.map f,L.map g)
 | []=>rfl
 | j::L=>by simp[xp,XH f g L]
theorem ZZ(h:k<(j6 m w wd T).length):(j6 m w wd T)[k]=qD w wd T k:=by simp[j6]
theorem km(w wd T k):jG (qD w wd T k)=some (.T,[.str (Jl<|wch<|w k),jj (hiW w wd k) (wiW w wd k) (T k)]):=rfl
theorem YI:qZ ((Ga N).map λj=>jW wd<|A j)=(Ga N).map λ(i:Nat)=>D.tup [.int i,jW wd (A i)]:=by unfold qZ;simp only[Gw,HX];refine GI λi hi=>?_;have hi:=Gc.mp hi;simp[hi]
def Spec(p:Int)(w:RX)(wd:RZ)(T:RV)(k:Nat)(u:Vc):Prop:=if w k=true then Span p (wd k) (Fam (wd<|k+1) λj i=>T k i j) u else Ker p (wd<|k+1) (wd k) (T k) u
theorem Wh(S:Pr p)(U : ∀k,wd k<=8)(w)(T)(k:Nat) : ∃q g,q<=100/\(∀u,Span p (wd k) (Fam q g) u↔Spec p w wd T k u)/\
 (if w k=true then wj [.int p,jj (hiW w wd k) (wiW w wd k) (T k)]=some (.own<|zM q (wd k) g)else yv [.int p,jj (hiW w wd k) (wiW w wd k) (T k)]=some (.own<|zM q (wd k) g)):=by
 have hl:=jz;have Y:=U k;have a3:=U<|k+1;have Z : ∀{r n:Nat} {B:Nat->Vc} {l:RZ},IsB p n r B l->r<=n:=λ{r n B l} z=>by
  have mono : ∀k,k<r->k<=l k:=by
   intro k
   induction k with
   | zero=>intro _;omega
   | succ k ih=>intro Y;have:=ih ⋯;have:=z.mono k (k+1) ⋯ Y;omega
  cases r with
  | zero=>omega
  | succ a0=>have:=mono a0 ⋯;have:=z.lt a0 ⋯;omega
 cases hw:w k with
 | true=>
  have e1:hiW w wd k=wd k:=by unfold hiW;rw[hw];rfl
  have I:wiW w wd k=wd (k+1):=by unfold wiW;rw[hw];rfl
  obtain⟨r,B,l,e,z,O⟩:=J4 S (h:=wd k) (w:=wd<|k+1) ⋯ ⋯<|T k;refine⟨r,B,by have:=Z z;omega,λu=>by unfold Spec;rw[hw,RY rfl];exact O u,?_⟩;rw[RY rfl,e1,I];exact e
 | false=>
  have e1:hiW w wd k=wd (k+1):=by unfold hiW;rw[hw];rfl
  have I:wiW w wd k=wd k:=by unfold wiW;rw[hw];rfl
  obtain⟨q,K,l,s,e,z,O,_⟩:=kN S (h:=wd<|k+1) (w:=wd k) ⋯ ⋯<|T k;refine⟨q,K,by have:=Z z;omega,λu=>by unfold Spec;rw[hw,EQ ⋯];exact O u,?_⟩;rw[EQ ⋯,e1,I];exact e
theorem Yd:vy=js 8 (zI sd1<|zI sd2<|zI sd3<|zI sd4<|zI sd5 sd6):=rfl
theorem Wm(Y:Pr p)(hb : ∀j,j<N->(A j).s+(A j).n<=m+1)(Z : ∀j,j<N->(A j).has k=true)(a3:k<m)(hN:N<=8)(hm:m<=5)(a0 : ∀k,wd k<=8)(hv : ∀j r i,j<N->(A j).has r=true->i<wd r->0<=(A j).v r i/\(A j).v r i<p) :
 ∃r B l,IsB p N r B l/\(∀t,Span p N (Fam r B) t↔Spec p w wd T k (app (λi j=>(A j).v k i) N t))/\
  vy [j8 p m w wd T,.int k,.lst ((Ga N).map λj=>jW wd<|A j)]=some (.own<|(Ga N).map λi=>jW wd<|stB p A N r B l i):=by
 have hl:=jz;obtain⟨q,g,hq,a9,S⟩:=Wh Y a0 w T k;have be:=a0 k;obtain⟨r,B,l,e1,z,hs⟩:=vC Y (h:=wd k) (w:=N) (q:=q) ⋯ ⋯ hq (λi j=>(A j).v k i) g;refine⟨r,B,l,z,λt=>(hs t).trans (a9 _),?_⟩;have U:N<=lim:=by omega
 have ad:k<m+1:=by omega
 have rN:r<=N:=by
  have mono : ∀k,k<r->k<=l k:=by
   intro k
   induction k with
   | zero=>intro _;omega
   | succ k ih=>intro Z;have:=ih ⋯;have:=z.mono k (k+1) ⋯ Z;omega
  cases r with
  | zero=>omega
  | succ a4=>have:=mono a4 ⋯;have:=z.lt a4 ⋯;omega
 have a5:r<=lim:=by omega
 have e2:=yH (wd:=wd) (A:=A) (N:=N) (λj I=>by have:=hb j I;omega) U k;have ef:((Ga N).filter λj=>(A j).has k)=Ga N:=List.filter_eq_self.mpr λj I=>Z j<|Gc.mp I;rw[ef]at e2;have e3:=wa (q:=N) (h:=wd k) (λj=>(A j).v k) U ⋯;have ap:qp [.lst ((Ga N).map λj=>jW wd<|A j),.int k]=some (.own<|zM N (wd k) λj=>(A j).v k):=e2;have e4:zL (.nm 0) z6 (j3<|zb (zG qi<|zb (zc 0) zF)<|zb (zc 0) zF) [.no] (zM r N B)=some ((Ga r).map λj=>D.tup [.int ((l j:Nat):Int),.tup (zE N<|B j)]):=by unfold zM;refine zo _ _ λj I=>zu rfl rfl ?_;have I:=Gc.mp I;have e:=yf U (B j) (z.lt j I) (λi hi=>z.bef j i I hi) (by rw[z.one j I];decide);simp[e]
 have e5:=WT z a5;have e6:=XH (λj=>D.int ((l j:Nat):Int)) (λj=>D.tup<|zE N<|B j)<|Ga r;let ds:D:= .dic ((Ga r).map λj=>D.int ((l j:Nat):Int)) ((Ga r).map λj=>D.tup<|zE N<|B j);let L:D:= .lst ((Ga N).map λj=>jW wd<|A j);have e7:zL (.tp [0,1]) z6 (ak (sB<|tq (zc 0)<|zc 4) (zG Xy<|zb (zc 2)<|zb (zc 3)<|zb (Bd (zc 4)<|zc 0) zF)<|zc 1) [.no,.no,.val<|j8 p m w wd T,.val L,.val ds] ((Ga N).map λ(i:Nat)=>D.tup [.int i,jW wd (A i)])=some ((Ga N).map λi=>jW wd<|stB p A N r B l i):=by
  refine zo _ _ λi hi=>zu rfl rfl ?_;have hi:=Gc.mp hi;have O:=VS l (λj=>D.tup<|zE N<|B j) i<|Ga r;have b9:(Ga r).find? (λj=>l j==i)=ldx r l i:=rfl;rw[b9]at O;unfold stB;cases hx:ldx r l i with
  | none=>
   rw[hx]at O;simp[ds,tq,O]
  | some j=>
   rw[hx]at O;obtain⟨h1,h2⟩:=qP hx;have e:=iw (T:=T) (w:=w) (t:=B j) Y hb ⋯ hm (λk=>by have:=a0 k;omega) hv (a:=i) hi (λc hc=>z.bef j c h1 ⋯) (by rw[<- h2,z.one j h1];decide);simp[ds,tq,Bd,O,L,e]
 rw[Yd];refine jO (zw (γ':=[.val (j8 p m w wd T),.val<|.int k,.val L,.val<|.str<|Jl<|wch<|w k,.no,.no,.no,.no]) ?_
  (zw (γ':=[.val (j8 p m w wd T),.val<|.int k,.val L,.val<|.str<|Jl<|wch<|w k,.val<|jj (hiW w wd k) (wiW w wd k)<|T k,.no,.no,.no]) ?_
  (zw (γ':=[.val (j8 p m w wd T),.val<|.int k,.val L,.val<|.str<|Jl<|wch<|w k,.val<|jj (hiW w wd k) (wiW w wd k)<|T k,.val<|.lst<|zM q (wd k) g,.no,.no]) ?_
  (zw (γ':=[.val (j8 p m w wd T),.val<|.int k,.val L,.val<|.str<|Jl<|wch<|w k,.val<|jj (hiW w wd k) (wiW w wd k)<|T k,.val<|.lst<|zM q (wd k) g,.val<|.lst<|zM r N B,.no]) ?_
  (zw (γ':=[.val (j8 p m w wd T),.val<|.int k,.val L,.val<|.str<|Jl<|wch<|w k,.val<|jj (hiW w wd k) (wiW w wd k)<|T k,.val<|.lst<|zM q (wd k) g,.val<|.lst<|zM r N B,.val ds]) ?_ ?_)))))
 ·simp[sd1,z9,Ge,qU,km,ZZ,a3];rfl
 ·simp[sd2,qU,km,ZZ,a3]
 ·cases hw:w k with
  | true=>
   rw[hw,RY rfl]at S;have eq:=ZQ true;simp[sd3,qU,eq,S]
  | false=>
   rw[hw,EQ ⋯]at S;have eq:=ZQ false;simp[sd3,qU,eq,S]
 ·simp[sd4,qU,ad,L,ap,e3,e1]
 ·simp[sd5,zW,e4,a5,e6,e5];rfl
 ·simp[sd6,zW,L,YI,U,e7]
end
def oD(n:Nat):Option Vc->D
 | none=> .non
 | some y=> .tup (zE n y)
theorem Wj(S:Pr p)(U:h<=90)(hw:w<=90)(f:RK)(b:Vc)(O : ∀i,i<h->0<=b i/\b i<p) :
 ∃o:Option Vc,yu [.int p,jj h w f,.tup (zE h b)]=some (.val<|oD w o)/\(∀x,o=some x->(∀j,0<=x j/\x j<p)/\∀i,i<h->app f w x i%p=b i%p)/\(o=none->¬∃y:Vc,∀i,i<h->app f w y i%p=b i%p):=by
 have Y : ∀i,i<h->b i%p=b i:=λi hi=>Iz (O i hi).1 (O i hi).2;by_cases I : ∃y:Vc,∀i,i<h->app f w y i%p=b i%p
 ·obtain⟨y,I⟩:=I
  obtain⟨x,e,h1,h2⟩:=gh S U hw f b y O λi hi=>by rw[<- Y i hi,<- I i hi];rfl
  refine⟨some x,e,λx' e'=>?_,λz=>by cases z⟩;cases e';exact⟨h1,λi hi=>by rw[Y i hi];exact h2 i hi⟩
 ·obtain⟨r,B,l,s,hb,a4,hs,s1,s2,Z⟩:=Je S U hw f b
  have a0:s<r:=by
   refine HG λa0=>I ?_;have er:s=r:=by omega
   subst er;refine⟨YX w B l s,λi hi=>?_⟩;have co:=v9 hb ((a4<|aug w f b i).mpr (.gen ⟨i,hi,rfl⟩)) w ⋯;have a6:aug w f b i w=b i:=by simp[aug]
   rw[a6]at co;rw[co];congr 1;unfold app YX;rw[zy (g:=λj=>sumTo (λk=>f i j*(if l k=j then B k w else 0)) s) λj _=>(jo _ _ _).symm,qF];refine zy λk hk=>?_;rw[zQ (i:=l k) (s1 k hk) λj hj a7=>by rw[EQ (GN a7)];simp,RY rfl];simp only[aug,RY (s1 k hk)]
  rw[RY a0]at Z;exact⟨none,Z,nofun,λ_=>I⟩
section
variable{wd:RZ}{m k:Nat}{p:Int}{w:RX}{T:RV}
theorem iq:qM=js 4 (zI nl1<|zI nl2 nl3):=rfl
theorem Xj(b:Bool):dEq (.str (Jl (wch b))) (.str "l")=some (.bl b):=by cases b<;>kernel_rfl
theorem Ko(I:Pr p)(a2 : ∀k,wd k<=8)(hT : ∀i j,i<hiW w wd k->j<wiW w wd k->0<=T k i j/\T k i j<p)(u:Vc)(hu : ∀i,i<wd k->0<=u i/\u i<p) :
 ∃o:Option Vc,qM [.int p,qD w wd T k,.tup (zE (wd k) u)]=some (.val<|oD (wd<|k+1) o)/\(∀y,o=some y->∀c,c<wd (k+1)->0<=y c/\y c<p)/\
  (w k=false->(o=none->∀c,c<wd (k+1)->app (T k) (wd k) u c%p=0)/\∀y,o=some y->(∀c,c<wd (k+1)->app (T k) (wd k) u c%p=y c%p)/\∃c,c<wd (k+1)/\y c%p≠0)/\
  (w k=true->(o=none->¬∃y:Vc,∀c,c<wd k->app (T k) (wd<|k+1) y c%p=u c%p)/\∀y,o=some y->∀c,c<wd k->app (T k) (wd<|k+1) y c%p=u c%p):=by
 have hl:=jz;have p7:=I.le;have hk:=a2 k;have ac:=a2<|k+1;rw[iq];cases hw:w k with
 | true=>
  have e1:hiW w wd k=wd k:=by unfold hiW;rw[hw];rfl
  have O:wiW w wd k=wd (k+1):=by unfold wiW;rw[hw];rfl
  obtain⟨o,eo,h1,h2⟩:=Wj I (h:=wd k) (w:=wd<|k+1) ⋯ ⋯ (T k) u hu;refine⟨o,?_,λy e c _=>(h1 y e).1 c,nofun,λ_=>⟨h2,λy e=>(h1 y e).2⟩⟩;refine jO ?_;have S:=Xj true;have es:nl1 (z9 4 [.int p,qD w wd T k,.tup (zE (wd k) u)])=some (.ret<|.val<|oD (wd<|k+1) o):=by simp[nl1,z9,Ge,km,hw,S,e1,O,eo]
  rw[jI,es];rfl
 | false=>
  have e1:hiW w wd k=wd (k+1):=by unfold hiW;rw[hw];rfl
  have O:wiW w wd k=wd k:=by unfold wiW;rw[hw];rfl
  rw[e1,O]at hT;have Y:=Xz (p:=p) (h:=wd<|k+1) (w:=wd k) .T (T k) u I.pos ⋯ ⋯ λi j hi hj=>by have:=hT i j hi hj;omega
  simp only[dsq]at Y;have S:=Xj false;have tv:=Vf (λi=>sumTo (λj=>T k i j*u j) (wd k)%p)<|wd<|k+1;by_cases U : ∃c,c<wd (k+1)/\sumTo (λj=>T k c j*u j) (wd k)%p≠0
  ·refine⟨some λi=>sumTo (λj=>T k i j*u j) (wd k)%p,?_,(λy e c _=>by cases e;exact⟨GU _ (by have:=I.pos;omega),GH _ I.pos⟩),λ_=>⟨nofun,(λy e=>by cases e;exact⟨(λc _=>by rw[GG];rfl),(by obtain⟨c,h1,h2⟩:=U;exact⟨c,h1,(by rw[GG];exact h2)⟩)⟩)⟩,nofun⟩
   refine jO<|zw (γ':=[.val (.int p),.val<|qD w wd T k,.val<|.tup<|zE (wd k) u,.no]) ?_ (zw (γ':=[.val (.int p),.val<|qD w wd T k,.val<|.tup<|zE (wd k) u,.val (.tup<|zE (wd<|k+1) λi=>sumTo (λj=>T k i j*u j) (wd k)%p)]) ?_ ?_)
   ·simp[nl1,z9,Ge,km,hw,S]
   ·simp[nl2,km,e1,O,Y]
   ·have Z:(Ga<|wd<|k+1).any (λi=>(sumTo (λj=>T k i j*u j) (wd k)%p) != 0)=true:=by
     obtain⟨c,h1,h2⟩:=U;exact NX.mpr ⟨c,Gc.mpr h1,by simpa using h2⟩
    have ea:om (zh 3) [.val (.int p),.val<|qD w wd T k,.val<|.tup<|zE (wd k) u,.val (.tup<|zE (wd<|k+1) λi=>sumTo (λj=>T k i j*u j) (wd k)%p)]=some (.bl true):=by show((w5 _).map λs=>D.bl<|s.any id)=_;rw[tv];show some (D.bl<|((Ga<|wd<|k+1).map λi=>(sumTo (λj=>T k i j*u j) (wd k)%p) != 0).any id)=_;rw[List.any_map];rw[show(id∘λi=>(sumTo (λj=>T k i j*u j) (wd k)%p) != 0)=λi=>(sumTo (λj=>T k i j*u j) (wd k)%p) != 0 from rfl,Z]
    unfold nl3;simp only[K0,mW,Fi,ea];rfl
  ·refine⟨none,?_,nofun,λ_=>⟨λ_ c hc=>HG λz=>U ⟨c,hc,z⟩,nofun⟩,nofun⟩
   refine jO<|zw (γ':=[.val (.int p),.val<|qD w wd T k,.val<|.tup<|zE (wd k) u,.no]) ?_ (zw (γ':=[.val (.int p),.val<|qD w wd T k,.val<|.tup<|zE (wd k) u,.val (.tup<|zE (wd<|k+1) λi=>sumTo (λj=>T k i j*u j) (wd k)%p)]) ?_ ?_)
   ·simp[nl1,z9,Ge,km,hw,S]
   ·simp[nl2,km,e1,O,Y]
   ·have Z:(Ga<|wd<|k+1).any (λi=>(sumTo (λj=>T k i j*u j) (wd k)%p) != 0)=false:=NR.mpr λc hc z=>U ⟨c,Gc.mp hc,by simpa using z⟩
    have ea:om (zh 3) [.val (.int p),.val<|qD w wd T k,.val<|.tup<|zE (wd k) u,.val (.tup<|zE (wd<|k+1) λi=>sumTo (λj=>T k i j*u j) (wd k)%p)]=some (.bl false):=by show((w5 _).map λs=>D.bl<|s.any id)=_;rw[tv];show some (D.bl<|((Ga<|wd<|k+1).map λi=>(sumTo (λj=>T k i j*u j) (wd k)%p) != 0).any id)=_;rw[List.any_map];rw[show(id∘λi=>(sumTo (λj=>T k i j*u j) (wd k)%p) != 0)=λi=>(sumTo (λj=>T k i j*u j) (wd k)%p) != 0 from rfl,Z]
    unfold nl3;simp only[K0,mW,Fi,ea];rfl
end
section
variable{wd:RZ}{m k:Nat}{p:Int}{w:RX}{T:RV}
theorem iJ(h:1<=n):ixD n (-1)=some (n - 1):=by unfold ixD;rw[EQ ⋯,RY ⋯];congr 1;omega
theorem cG(z:b.s+b.n=k+1)(y:Vc):xO wd (exB k b<|some y)=xO wd b++[D.tup (zE (wd<|k+1) y)]:=by
 unfold xO exB;dsimp only;rw[IB,Hk];congr 1
 ·refine GI λi hi=>?_
  have hi:=Gc.mp hi;rw[EQ ⋯]
 ·simp[z]
theorem aG:kq=js 4 (zI tk1 tk2):=rfl
theorem fW(h1:1<=b.n)(I:b.s+b.n=k+1)(Y:k<=20)(e:qM [.int p,qD w wd T k,.tup (zE (wd k)<|b.v k)]=some (.val<|oD (wd<|k+1) o)) :
 kq [.int p,qD w wd T k,jW wd b]=some (.val<|jW wd<|exB k b o):=by
 have Z:=jz;have O:=iJ h1;have z:=VH (wd:=wd) (b:=b) (i:=b.n - 1) ⋯;rw[show b.s+(b.n - 1)=k by omega]at z;have a0:b.n - 1<b.n:=by omega
 rw[aG];refine jO<|zw (γ':=[.val (.int p),.val<|qD w wd T k,.val<|jW wd b,.val (oD (wd<|k+1) o)]) ?_ ?_
 ·unfold tk1
  have es:sIx (zO<|sIx (zh 2)<|zq<|.int 1) (rX<|zq<|.int 1) (z9 4 [.int p,qD w wd T k,jW wd b])=some (.tup<|zE (wd k)<|b.v k):=by have S : ∀γ:Ctx,rX (zq<|.int 1) γ=some (.int (-1)):=λ_=>rfl;simp[z9,Ge,O,S];exact z
  simp only[vn,we,x9,vw,es];simp[z9,Ge,e]
 ·cases o with
  | none=>simp[tk2,oD,AD,exB]
  | some y=>
   have hn:b.n+1<=lim:=by omega
   have U:=cG (wd:=wd) I y;simp[tk2,oD,AD,hn,ju];unfold jW;rw[U];rfl
def fi(p:Int)(w:RX)(wd:RZ)(T:RV)(k:Nat)(L:List Vc):Prop:=
 if w k=true then ∃q K l s,L=(Ga q).map K/\IsB p (wd<|k+1) q K l/\(∀v,Span p (wd<|k+1) (Fam q K) v↔Ker p (wd k) (wd<|k+1) (T k) v)/\Rk p (wd k) (wd<|k+1) (λj i=>T k i j) s/\q+s=wd (k+1)
 else ∃r B l,IsB p (wd<|k+1) r B l/\(∀v,Span p (wd<|k+1) (Fam r B) v↔Span p (wd<|k+1) (Fam (wd k) λj i=>T k i j) v)/\L=((Ga<|wd<|k+1).filter λ(c:Nat)=> !decide ((c:Int)∈(Ga r).map λj=>((l j:Nat):Int))).map jq
theorem pw:kM=js 3 (zI nw1<|zI nw2 nw3):=rfl
theorem JU(l:RZ) : ∀L:List Nat,YC (L.map λj=>D.int ((l j:Nat):Int))=some (L.map λj=>((l j:Nat):Int))
 | []=>rfl
 | j::L=>by simp[YC,JU l L]
theorem Zo(z:IsB p n r B l):r<=n:=by
 have mono : ∀k,k<r->k<=l k:=by
  intro k
  induction k with
  | zero=>intro _;omega
  | succ k O=>intro S;have:=O ⋯;have:=z.mono k (k+1) ⋯ S;omega
 cases r with
 | zero=>omega
 | succ I=>have:=mono I ⋯;have:=z.lt I ⋯;omega
theorem dD(n:Nat):qZ (zM n n λi j=>if i=j then 1 else 0)=(Ga n).map λ(i:Nat)=>D.tup [.int i,.tup (zE n<|jq i)]:=by unfold qZ zM;simp only[Gw,HX];refine GI λi hi=>?_;have hi:=Gc.mp hi;simp[hi];rfl
theorem Kp(Z:Pr p)(a0 : ∀k,wd k<=8) : ∃L:List Vc,fi p w wd T k L/\kM [.int p,qD w wd T k]=some (.own<|L.map λy=>D.tup<|zE (wd<|k+1) y):=by
 have hl:=jz;have hk:=a0 k;have ap:=a0<|k+1;rw[pw];unfold fi;cases hw:w k with
 | true=>
  have e1:hiW w wd k=wd k:=by unfold hiW;rw[hw];rfl
  have O:wiW w wd k=wd (k+1):=by unfold wiW;rw[hw];rfl
  obtain⟨q,K,l,s,e,z,S,hr,a5⟩:=kN Z (h:=wd k) (w:=wd<|k+1) ⋯ ⋯<|T k;refine⟨(Ga q).map K,by rw[RY rfl];exact⟨q,K,l,s,rfl,z,S,hr,a5⟩,jO ?_⟩;have U:=Xj true;have es:nw1 (z9 3 [.int p,qD w wd T k])=some (.ret<|.own<|zM q (wd<|k+1) K):=by simp[nw1,z9,Ge,km,hw,U,e1,O,e]
  rw[jI,es,Hm];rfl
 | false=>
  have e1:hiW w wd k=wd (k+1):=by unfold hiW;rw[hw];rfl
  have O:wiW w wd k=wd k:=by unfold wiW;rw[hw];rfl
  obtain⟨r,B,l,e,z,S⟩:=J4 Z (h:=wd<|k+1) (w:=wd k) ⋯ ⋯<|T k;have rn:=Zo z;have a6:r<=lim:=by omega
  have Y:wd (k+1)<=lim:=by omega
  refine⟨_,by rw[EQ ⋯];exact⟨r,B,l,z,S,rfl⟩,?_⟩;have U:=Xj false;have e4:zL (.nm 0) z6 (zG qi<|zb (zc 0) zF) [.no] (zM r (wd<|k+1) B)=some ((Ga r).map λj=>D.int ((l j:Nat):Int)):=by unfold zM;refine zo _ _ λj I=>zu rfl rfl ?_;have I:=Gc.mp I;have e:=yf Y (B j) (z.lt j I) (λi hi=>z.bef j i I hi) (by rw[z.one j I];decide);simp[e]
  have e5:zL (.tp [0,1]) (sB<|QC (zc 0)<|zh 2) (zc 1) [.no,.no,.val (.lst<|(Ga r).map λj=>D.int ((l j:Nat):Int))] ((Ga<|wd<|k+1).map λ(i:Nat)=>D.tup [.int i,.tup (zE (wd<|k+1)<|jq i)]) =
   some (((Ga<|wd<|k+1).filter λ(c:Nat)=> !decide ((c:Int)∈(Ga r).map λj=>((l j:Nat):Int))).map λ(i:Nat)=>D.tup<|zE (wd<|k+1)<|jq i):=by
   refine jv (λ(c:Nat)=> !decide ((c:Int)∈(Ga r).map λj=>((l j:Nat):Int))) (λ(i:Nat)=>D.tup<|zE (wd<|k+1)<|jq i) _ λi hi=>⟨_,rfl,?_,λ_=>rfl⟩;have im:=JU l<|Ga r;show(QC (zc 0) (zh 2) [.val (.int i),_,.val (.lst<|(Ga r).map λj=>D.int ((l j:Nat):Int))]).bind asB=_;show((YC<|(Ga r).map λj=>D.int ((l j:Nat):Int)).map λl=>D.bl<|!decide ((i:Int)∈l)).bind asB=_;rw[im];rfl
  have es:=ku (n:=wd<|k+1) Y;refine jO<|zw (γ':=[.val (.int p),.val<|qD w wd T k,.no]) ?_ (zw (γ':=[.val (.int p),.val<|qD w wd T k,.val (.lst<|(Ga r).map λj=>D.int ((l j:Nat):Int))]) ?_ ?_)
  ·simp[nw1,z9,Ge,km,hw,U]
  ·simp[nw2,zW,km,e1,O,e,a6,e4]
  ·have a1:jG (jj (hiW w wd k) (wiW w wd k)<|T k)=some (.T,[.int (wd (k+1):Nat),.int (wd k:Nat),.tup (zM (wd<|k+1) (wd k)<|T k)]):=by rw[e1,O];rfl
   have a2:jG (jj (wd<|k+1) (wd<|k+1) λi j=>if i=j then 1 else 0)=some (.T,[.int (wd (k+1):Nat),.int (wd (k+1):Nat),.tup (zM (wd<|k+1) (wd<|k+1) λi j=>if i=j then 1 else 0)]):=rfl;have a3:=dD<|wd<|k+1;simp[nw3,zW,km,a1,es,a2,a3,Y];rw[e5];exact congrArg some (congrArg (List.map _)<|List.filter_congr λc _=>by simp)
end
section
variable{wd:RZ}{m k r N:Nat}{p:Int}{w:RX}{T:RV}{B:Nat->Vc}{l:RZ}{A:Nat->Bar}
theorem mH(I:IsB p N r B l){j:Nat}(z:j<r):ldx r l (l j)=some j:=by
 cases h:ldx r l (l j)with
 | none=>exact absurd rfl<|wL h j z
 | some i=>
  obtain⟨h1,h2⟩:=qP h;rw[VE I.mono h1 z h2]
theorem Yy{a b:List Nat}(ha:a.Nodup)(z:b.Nodup)(h : ∀x,x∈a↔x∈b):a.length=b.length:=((List.perm_ext_iff_of_nodup ha z).mpr h).length_eq
theorem Xr(z:IsB p N r B l):(Ga N).countP (λi=>(ldx r l i).isSome)=r:=by
 rw[Hl];have e:((Ga N).filter λi=>(ldx r l i).isSome).length=((Ga r).map l).length:=by
  refine Yy (NV.sublist Ny) ?_ λx=>?_
  ·rw[List.nodup_iff_pairwise_ne,LY]
   refine Mh (λ{a b} ha I h=>?_)<|LW (n:=r);have:=z.mono a b h<|Gc.mp I;omega
  ·rw[GT,GO]
   constructor
   ·rintro⟨h1,h2⟩
    obtain⟨j,O⟩:=HR.mp h2;obtain⟨S,U⟩:=qP O;exact⟨j,Gc.mpr S,U⟩
   ·rintro⟨j,h1,h2⟩
    have h1:=Gc.mp h1;subst h2;exact⟨Gc.mpr<|z.lt j h1,by rw[mH z h1];rfl⟩
 rw[e];simp
theorem dZ(q:RX)(N:Nat):(Ga N).countP q+(Ga N).countP (λi=> !q i)=N:=by
 have:=NO q (l:=Ga N);rw[HX]at this;rw[this];congr 1
 ·rw[<- this]
 ·rw[<- this]
  exact Iy λi _=>by simp
theorem CD(z : ∀j,j<N->(A j).has k=true)(t:Vc)(c:Nat):mxV p A N t k c%p=app (λi j=>(A j).v k i) N t c%p:=by unfold mxV app;rw[GG];congr 1;exact zy λj I=>by rw[RY (z j I),HF]
theorem vG(z : ∀j,j<N->(A j).has k=true)(h:ldx r l i=some j)(c:Nat):(stB p A N r B l i).v k c%p=app (λi j=>(A j).v k i) N (B j) c%p:=by unfold stB;rw[h];exact CD z (B j) c
theorem QB(h:ldx r l i=none):stB p A N r B l i=A i:=by unfold stB;rw[h]
theorem W0(hp:Pr p)(a2 : ∀k,wd k<=8)(hk : ∀j,j<wd k->(A j).has k=true)(hs : ∀v:Vc,∃t,∀i,i<wd k->v i%p=app (λi j=>(A j).v k i) (wd k) t i%p)
 (Z:IsB p (wd k) r B l) (hW : ∀t,Span p (wd k) (Fam r B) t↔Spec p w wd T k (app (λi j=>(A j).v k i) (wd k) t)) {Y:List Vc} (hn:fi p w wd T k Y) {nx:Nat->Option Vc}
 (hr : ∀i,i<wd k->w k=false->(nx i=none->∀c,c<wd (k+1)->app (T k) (wd k) ((stB p A (wd k) r B l i).v k) c%p=0)/\∀y,nx i=some y->(∀c,c<wd (k+1)->app (T k) (wd k) ((stB p A (wd k) r B l i).v k) c%p=y c%p)/\∃c,c<wd (k+1)/\y c%p≠0)
 (hl : ∀i,i<wd k->w k=true->(nx i=none->¬∃y:Vc,∀c,c<wd k->app (T k) (wd<|k+1) y c%p=(stB p A (wd k) r B l i).v k c%p)/\∀y,nx i=some y->∀c,c<wd k->app (T k) (wd<|k+1) y c%p=(stB p A (wd k) r B l i).v k c%p) :
 (∀y,y∈Y->∀c,c<wd (k+1)->0<=y c/\y c<p)/\(∀y,y∈Y->w k=true->∀c,c<wd k->app (T k) (wd<|k+1) y c%p=0)/\
   (∀v,Span p (wd<|k+1) (λg=>(∃i,i<wd k/\nx i=some g)\/g∈Y) v)/\(Ga<|wd k).countP (λi=>(nx i).isSome)+Y.length=wd (k+1):=by
 have two:=hp.two;cases hw:w k with
 | false=>
  have a7 : ∀t,Span p (wd k) (Fam r B) t↔Ker p (wd<|k+1) (wd k) (T k) (app (λi j=>(A j).v k i) (wd k) t):=λt=>by have:=hW t;unfold Spec at this;rw[hw,EQ ⋯]at this;exact this
  unfold fi at hn;rw[hw,EQ ⋯]at hn;obtain⟨r2,B2,l2,an,hI,S⟩:=hn;obtain⟨g1,g2,g3,g4⟩:=sH hp (a2 k) (a2<|k+1) hs Z a7 an hI;have b0 : ∀c,c<wd (k+1)->(∀j,j<r2->l2 j≠c)->jq c∈Y:=λc O hn=>by rw[S];refine GO.mpr ⟨c,GT.mpr ⟨Gc.mpr O,?_⟩,rfl⟩;simp only[IX,decide_eq_false_iff_not,GO,Gc];rintro⟨j,h1,h2⟩;exact hn j h1 ⋯
  have on : ∀i,i<wd k->(nx i).isSome=(ldx r l i).isNone:=λi hi=>by
   cases hx:ldx r l i with
   | none=>
    obtain⟨c,h1,h2⟩:=g2 i hi<|wL hx;cases I:nx i with
    | some y=>rfl
    | none=>
     have:=(hr i hi hw).1 I c h1;rw[QB hx]at this;exact absurd this h2
   | some j=>
    obtain⟨h1,h2⟩:=qP hx;cases I:nx i with
    | none=>rfl
    | some y=>
     obtain⟨e,c,h3,h4⟩:=(hr i hi hw).2 y I;have z:=g1 j h1 c h3;rw[<- jF (λa _=>vG (B:=B) (r:=r) (l:=l) hk hx a) c,e c h3]at z;exact absurd z h4
  refine⟨λy I c O=>?_,(λy I z=>by cases z),λv=>g4 _ (λc O ac=>?_) (λc O ac=> .gen (.inr<|b0 c O ac)) v,?_⟩
  ·rw[S]at I
   obtain⟨i,_,rfl⟩:=GO.mp I;unfold jq;split<;>omega
  ·have hx:ldx r l c=none:=by
    cases hx:ldx r l c with
    | none=>rfl
    | some j=>exact absurd (qP hx).2 (ac j (qP hx).1)
   have a1:=on c O;rw[hx]at a1;obtain⟨y,I⟩:=HR.mp a1;refine(Span.gen<|.inl ⟨c,O,I⟩).congr λi hi=>?_;have:=((hr c O hw).2 y I).1 i hi;rw[QB hx]at this;exact this
  ·have e1:(Ga<|wd k).countP (λi=>(nx i).isSome)=(Ga<|wd k).countP λi=> !(ldx r l i).isSome:=Iy λi hi=>by
    rw[on i (Gc.mp hi)];cases ldx r l i<;>simp
   have e2:=dZ (λi=>(ldx r l i).isSome)<|wd k;rw[Xr Z]at e2;have e3:=dZ (λi=>(ldx r2 l2 i).isSome)<|wd<|k+1;rw[Xr an]at e3;have e4:Y.length=(Ga<|wd<|k+1).countP λi=> !(ldx r2 l2 i).isSome:=by
    rw[S,Gw,<- Hl];refine Iy λi hi=>?_;cases hx:ldx r2 l2 i with
    | none=>
     have:=wL hx;simp only[IX,decide_eq_false_iff_not,GO,Gc];constructor
     ·intro _;rfl
     ·rintro _ ⟨j,h1,h2⟩
      exact this j h1 ⋯
    | some j=>
     obtain⟨h1,h2⟩:=qP hx;simp only[IX,decide_eq_false_iff_not,GO,Gc];constructor
     ·intro z;exact absurd ⟨j,h1,by rw[h2]⟩ z
     ·intro z;cases z
   rw[e1,e4];omega
 | true=>
  have a7 : ∀t,Span p (wd k) (Fam r B) t↔Span p (wd k) (Fam (wd<|k+1) λj i=>T k i j) (app (λi j=>(A j).v k i) (wd k) t):=λt=>by have:=hW t;unfold Spec at this;rw[hw,RY rfl]at this;exact this
  unfold fi at hn;rw[hw,RY rfl]at hn;obtain⟨q,K,lK,s,S,bf,ar,bg,bi⟩:=hn;obtain⟨g1,g2,g3,g4⟩:=sJ hp (a2 k) (a2<|k+1) hs Z a7 ar bg bi;have on : ∀i,i<wd k->(nx i).isSome=(ldx r l i).isSome:=λi hi=>by
   cases hx:ldx r l i with
   | none=>
    cases I:nx i with
    | none=>rfl
    | some y=>
     have:=(hl i hi hw).2 y I;rw[QB hx]at this;exact absurd ⟨y,this⟩<|g2 i hi<|wL hx
   | some j=>
    obtain⟨h1,h2⟩:=qP hx;cases I:nx i with
    | some y=>rfl
    | none=>
     obtain⟨y,bl⟩:=g1 j h1;exact absurd ⟨y,λc O=>by rw[bl c O,vG hk hx c]⟩<|(hl i hi hw).1 I
  refine⟨λy I c O=>?_,λy I _ c O=>?_,λv=>g4 _ (λj=>(nx<|l j).getD λ_=>0) (λj U=>?_) (λj U=>?_) v,?_⟩
  ·rw[S]at I
   obtain⟨j,U,rfl⟩:=GO.mp I;exact bf.rng j c (Gc.mp U) O
  ·rw[S]at I
   obtain⟨j,U,rfl⟩:=GO.mp I;exact(ar<|K j).mp (.gen ⟨j,Gc.mp U,rfl⟩) c O
  ·have hx:=mH Z U
   have ad:=Z.lt j U;have a1:=on (l j) ad;rw[hx]at a1;obtain⟨y,I⟩:=HR.mp a1;rw[I];refine⟨.gen<|.inl ⟨l j,ad,I⟩,λc O=>?_⟩;have:=(hl (l j) ad hw).2 y I c O;rw[vG hk hx c]at this;exact this
  ·refine .gen (.inr ?_)
   rw[S];exact GO.mpr ⟨j,Gc.mpr U,rfl⟩
  ·have e1:(Ga<|wd k).countP (λi=>(nx i).isSome)=(Ga<|wd k).countP λi=>(ldx r l i).isSome:=Iy λi hi=>by
    rw[on i (Gc.mp hi)]
   rw[e1,Xr Z,S,Gw,HX];omega
end
section
variable{wd:RZ}{m k:Nat}{p:Int}{w:RX}{T:RV}
theorem dh:Jg=js 9 (zI gr1<|zI gr2<|zI gr3<|zI gr4<|zI gr5<|zI gr6 gr7):=rfl
theorem CA(y:Vc):jW wd (nuB k y) = .tup [.int ((k:Int)+1),.tup [.tup (zE (wd<|k+1) y)]]:=by unfold jW nuB xO;simp
theorem iS(hp:Pr p)(O : ∀k,wd k<=8)(hm:m<=5)(ac:k<m)(hT : ∀i j,i<hiW w wd k->j<wiW w wd k->0<=T k i j/\T k i j<p){bars:List Bar}(I:BrInv p w wd T k bars)(as:bars.length<=100) :
 ∃a4,BrInv p w wd T (k+1) a4/\a4.length<=bars.length+8/\Jg [j8 p m w wd T,.int k,.lst (bars.map<|jW wd)]=some (.val<|.lst<|a4.map<|jW wd):=by
 have hl:=jz;have p0:=hp.pos;have al:bars.length<=lim:=by omega
 have a5:(bars.filter λb=>b.has k).length=wd k:=by rw[<- Hl];exact I.ct k<|Gh _
 let A:Nat->Bar:=λj=>(bars.filter λb=>b.has k).getD j fC;have eA:(bars.filter λb=>b.has k)=(Ga<|wd k).map A:=by rw[<- a5];exact(jC fC _).symm
 have mA : ∀j,j<wd k->A j∈bars/\(A j).has k=true:=λj S=>by
  have:A j∈bars.filter λb=>b.has k:=by show(bars.filter λb=>b.has k).getD j fC∈_;rw[Gj,Gd ⋯];exact Lc _
  have:=GT.mp this;exact⟨this.1,by simpa using this.2⟩
 have a6 : ∀j,j<wd k->BarOk p w wd T k (A j):=λj S=>I.ok _ (mA j S).1;have hO : ∀i c,i<c->c<wd k->Ord w (A i) (A c):=λi c h1 h2=>by have:=IA.mp I.od i c ⋯ ⋯ h1;show Ord w ((bars.filter λb=>b.has k).getD i fC) ((bars.filter λb=>b.has k).getD c fC);rw[Gj,Gd ⋯,Gj,Gd ⋯];exact this
 have a3 : ∀j,j<wd k->(A j).has k=true:=λj S=>(mA j S).2;obtain⟨r,B,l,hB,hW,eS⟩:=Wm (T:=T) (w:=w) (A:=A) (N:=wd k) (k:=k) hp (λj S=>by have:=(a6 j S).le;omega) a3 ac (O k) hm O λj rm i S hh hi=>(a6 j S).rng rm i hh hi;have okS : ∀i,i<wd k->BarOk p w wd T k (stB p A (wd k) r B l i):=λi hi=>lV p0 hB a6 a3 hO hi;have an : ∀i,i<wd k->(stB p A (wd k) r B l i).has k=true:=λi hi=>by rw[Yb];exact a3 i hi
 have ex : ∀i,∃o:Option Vc,i<wd k->(qM [.int p,qD w wd T k,.tup (zE (wd k)<|(stB p A (wd k) r B l i).v k)]=some (.val<|oD (wd<|k+1) o)/\(∀y,o=some y->∀c,c<wd (k+1)->0<=y c/\y c<p)/\
  (w k=false->(o=none->∀c,c<wd (k+1)->app (T k) (wd k) ((stB p A (wd k) r B l i).v k) c%p=0)/\∀y,o=some y->(∀c,c<wd (k+1)->app (T k) (wd k) ((stB p A (wd k) r B l i).v k) c%p=y c%p)/\∃c,c<wd (k+1)/\y c%p≠0)/\
  (w k=true->(o=none->¬∃y:Vc,∀c,c<wd k->app (T k) (wd<|k+1) y c%p=(stB p A (wd k) r B l i).v k c%p)/\∀y,o=some y->∀c,c<wd k->app (T k) (wd<|k+1) y c%p=(stB p A (wd k) r B l i).v k c%p)):=λi=>by
  by_cases hi:i<wd k
  ·obtain⟨o,h⟩:=Ko (T:=T) (w:=w) (k:=k) hp O hT ((stB p A (wd k) r B l i).v k) λc hc=>(okS i hi).rng k c (an i hi) hc
   exact⟨o,λ_=>h⟩
  ·exact⟨none,λz=>absurd z hi⟩
 obtain⟨nx,Y⟩:=LB ex;obtain⟨U,hN,eN⟩:=Kp (T:=T) (w:=w) (k:=k) hp O;have hs : ∀v:Vc,∃t,∀i,i<wd k->v i%p=app (λi j=>(A j).v k i) (wd k) t i%p:=λv=>by
  have hv:Span p (wd k) (Fam (wd k) λj=>(A j).v k) v:=(I.sp k (Gh _) v).le λg hg=>by obtain⟨b,h1,h2,rfl⟩:=hg;have ap:b∈bars.filter λb=>b.has k:=GT.mpr ⟨h1,by simpa using h2⟩;rw[eA]at ap;obtain⟨j,S,rfl⟩:=GO.mp ap;exact .gen ⟨j,Gc.mp S,rfl⟩
  obtain⟨t,ht⟩:=Zf hv;exact⟨t,λi hi=>by rw[ht i hi];unfold app;rw[qH]⟩
 obtain⟨f1,f2,f3,f4⟩:=W0 (T:=T) (w:=w) (A:=A) hp O a3 hs hB hW hN (nx:=nx) (λi hi=>(Y i hi).2.2.1) λi hi=>(Y i hi).2.2.2;refine⟨yC p k w bars A (wd k) r B l nx U,dg p0 I a5 (λ_=>rfl) hB (λi y hi e=>(Y i hi).2.1 y e) f1 (λi hi e hw=>((Y i hi).2.2.1 hw).1 e) (λi y hi e hw=>(((Y i hi).2.2.1 hw).2 y e).1) (λi y hi e hw=>((Y i hi).2.2.2 hw).2 y e) f2 f3 f4,?_,?_⟩
 ·have h1:(bars.filter λb=> !b.has k).length+wd k=bars.length:=by
   have:=NO (λb:Bar=>b.has k) (l:=bars);rw[<- a5,<- Hl,<- Hl,this];have e:bars.countP (λb=> !b.has k)=bars.countP λb=>decide (¬b.has k=true):=Iy λb _=>by simp
   rw[e];omega
  have h2:=O<|k+1;unfold yC;rw[Hv];cases w k<;>simp<;>omega
 ·
  let L:D:= .lst (bars.map<|jW wd);have e3:zL (.nm 0) (ke<|sB<|zG jJ<|zb (zc 0)<|zb (zc 1) zF) (zc 0) [.no,.val (.int k)] (bars.map<|jW wd)=some ((bars.filter λb=> !b.has k).map (jW wd)):=by refine jv (g:=jW wd) (λb=> !b.has k) (jW wd) bars λb hb=>⟨[.val (jW wd b),.val (.int k)],rfl,?_,λ_=>by rfl⟩;have e:=kH (wd:=wd) (b:=b) (by have:=(I.ok b hb).le;omega) k;simp[e]
  have e4:zL (.nm 0) (sB<|zG jJ<|zb (zc 0)<|zb (zc 1) zF) (zc 0) [.no,.val (.int k)] (bars.map<|jW wd)=some ((Ga<|wd k).map λj=>jW wd<|A j):=by
   have:((bars.filter λb=>b.has k).map (jW wd))=(Ga<|wd k).map λj=>jW wd (A j):=by rw[eA,Hm];rfl
   rw[<- this];refine jv (g:=jW wd) (λb=>b.has k) (jW wd) bars λb hb=>⟨[.val (jW wd b),.val (.int k)],rfl,?_,λ_=>by rfl⟩;have e:=kH (wd:=wd) (b:=b) (by have:=(I.ok b hb).le;omega) k;simp[e]
  have e5:zL (.nm 0) z6 (zG kq<|zb (zc 1)<|zb (zc 2)<|zb (zc 0) zF) [.no,.val<|.int p,.val (qD w wd T k)] ((Ga<|wd k).map λi=>jW wd<|stB p A (wd k) r B l i)=some ((Ga<|wd k).map λi=>jW wd<|exB k (stB p A (wd k) r B l i)<|nx i):=by refine zo _ _ λi hi=>zu rfl rfl ?_;have hi:=Gc.mp hi;have h1:=has_iff.mp<|an i hi;have e:=fW (p:=p) (okS i hi).n1 (by have:=(okS i hi).le;omega) (show k<=20 by omega) (Y i hi).1;simp[e]
  have e6:zL (.nm 0) z6 (j3<|zb (zv ju (zc 1)<|zq<|.int 1)<|zb (j3<|zb (zc 0) zF) zF) [.no,.val (.int k)] (U.map λy=>D.tup<|zE (wd<|k+1) y)=some ((U.map<|nuB k).map (jW wd)):=by rw[Hm];refine zo _ _ λy hy=>zu rfl rfl ?_;show _=some (jW wd<|nuB k y);rw[CA];rfl
  have c5:U.length<=lim:=by have:=O<|k+1;omega
  have c6:wd k<=lim:=by have:=O k;omega
  let Z:D:= .lst ((bars.filter λb=> !b.has k).map (jW wd));let Se:D:= .lst ((Ga<|wd k).map λi=>jW wd<|stB p A (wd k) r B l i);let Ol:D:= .lst ((Ga<|wd k).map λi=>jW wd<|exB k (stB p A (wd k) r B l i)<|nx i);let Ne:D:= .lst ((U.map<|nuB k).map (jW wd));rw[dh];refine jO (zw (γ':=[.val (j8 p m w wd T),.val<|.int k,.val L,.val<|.int p,.no,.no,.no,.no,.no]) ?_
   (zw (γ':=[.val (j8 p m w wd T),.val<|.int k,.val L,.val<|.int p,.val<|qD w wd T k,.no,.no,.no,.no]) ?_
   (zw (γ':=[.val (j8 p m w wd T),.val<|.int k,.val L,.val<|.int p,.val<|qD w wd T k,.val Z,.no,.no,.no]) ?_
   (zw (γ':=[.val (j8 p m w wd T),.val<|.int k,.val L,.val<|.int p,.val<|qD w wd T k,.val Z,.val Se,.no,.no]) ?_
   (zw (γ':=[.val (j8 p m w wd T),.val<|.int k,.val L,.val<|.int p,.val<|qD w wd T k,.val Z,.val Se,.val Ol,.no]) ?_
   (zw (γ':=[.val (j8 p m w wd T),.val<|.int k,.val L,.val<|.int p,.val<|qD w wd T k,.val Z,.val Se,.val Ol,.val Ne]) ?_ ?_))))))
  ·simp[gr1,z9,Ge,qU,L]
  ·simp[gr2,qU,ZZ,ac]
  ·simp[gr3,zW,L,al,e3,Z]
  ·simp[gr4,zW,L,al,e4,eS,Se]
  ·simp[gr5,zW,Se,c6,e5,Ol]
  ·simp[gr6,zW,eN,c5]
   rw[e6];simp[Ne]
  ·have c9:(bars.filter λb=> !b.has k).length<=100:=HE (List.length_filter_le _ _) as
   have q1:=O k;have q2:=O<|k+1;cases hw:w k with
   | false=>
    have eq:=ZQ false;have h1:U.length+wd k<=lim:=by omega
    have h2:(bars.filter λb=> !b.has k).length+(U.length+wd k)<=lim:=by omega
    simp[gr7,km,hw,eq,Z,Ol,Ne,yC,h1,h2]
   | true=>
    have eq:=ZQ true;have h1:wd k+U.length<=lim:=by omega
    have h2:(bars.filter λb=> !b.has k).length+(wd k+U.length)<=lim:=by omega
    simp[gr7,km,hw,eq,Z,Ol,Ne,yC,h1,h2]
end
section
variable{wd:RZ}{m k:Nat}{p:Int}{w:RX}{T:RV}
def fF(c:Nat):Bar:=⟨0,1,λ_=>jq c⟩
theorem pS(U:Pr p):BrInv p w wd T 0 ((Ga<|wd 0).map fF):=by
 have two:=U.two;have mem : ∀b,b∈(Ga<|wd 0).map fF ↔ ∃c,c<wd 0/\b=fF c:=λb=>by rw[GO];exact⟨λ⟨c,h1,h2⟩=>⟨c,Gc.mp h1,h2.symm⟩,λ⟨c,h1,h2⟩=>⟨c,Gc.mpr h1,h2.symm⟩⟩
 have S : ∀c,(fF c).has 0=true:=λc=>has_iff.mpr ⟨Gh _,by show 0<0+1;omega⟩;refine⟨λb I=>?_,λr Y v=>?_,λr Y=>?_,?_⟩
 ·obtain⟨c,O,rfl⟩:=(mem b).mp I
  exact⟨Gh _,by show 0+1<=0+1;omega,λr i _ _=>by show 0<=jq c i/\jq c i<p;unfold jq;split<;>omega,λj hj=>by omega⟩
 ·have:r=0:=by omega
  subst this;refine(KL (wd 0) v).le λg Z=>?_;obtain⟨c,O,rfl⟩:=Z;exact .gen ⟨fF c,(mem _).mpr ⟨c,O,rfl⟩,S c,rfl⟩
 ·have:r=0:=by omega
  subst this;rw[List.countP_eq_length.mpr λb I=>?_]
  ·simp
  ·obtain⟨c,O,rfl⟩:=(mem b).mp I
   exact S c
 ·refine MJ _ ?_
  rw[LY];exact IA.mpr λ_ _ _ _ _=>⟨λz=>absurd z<|Hn 0,λz=>absurd z<|Hn 0⟩
theorem Xx:kP=js 3 (zI ag1<|zI ag2 ag3):=rfl
def XC(b:Bar):Int×Int:=((b.s:Int),((b.s+b.n - 1:Nat):Int))
theorem cK : ∀bars:List Bar,(∀b,b∈bars->1<=b.n/\b.s+b.n<=100)->Kw jN (bars.map<|jW wd)=some (bars.map XC)
 | [],_=>rfl
 | b::bars,h=>by have h1:=h b Gu;have e:=JA (wd:=wd) h1.1 h1.2;have z:=cK bars λb I=>h b<|Gn _ I;simp only[GQ,Kw,e,z,Gk];rfl
def xq(bars:List Bar):List Bar:=(xy<|bars.map XC).map λi=>bars.getD i fC
theorem Zi(bars:List Bar):(xq bars).Perm bars:=by have h:=qo<|bars.map XC;rw[Gw]at h;have:=h.map λi=>bars.getD i fC;rw[jC]at this;exact this
theorem XS(bars:List Bar):(xq bars).map XC=Zj (bars.map XC):=by unfold xq Zj;rw[Hm];refine GI λi hi=>?_;have h:=qo<|bars.map XC;have hi:=Gc.mp<|h.mem_iff.mp hi;rw[Gw]at hi;simp[hi]
theorem K3(z:Pr p)(O : ∀k,wd k<=8)(hm:m<=5)(hT : ∀k i j,k<m->i<hiW w wd k->j<wiW w wd k->0<=T k i j/\T k i j<p) :
 ∃bars,BrInv p w wd T m bars/\bars.length<=48/\kP [j8 p m w wd T]=some (.own<|(xq bars).map (jW wd)):=by
 have hl:=jz;have h0:=O 0;have S:wd 0<=lim:=by omega
 have es:=ku (n:=wd 0) S;have a2:jG (jj (wd 0) (wd 0) λi j=>if i=j then 1 else 0)=some (.T,[.int (wd 0:Nat),.int (wd 0:Nat),.tup (zM (wd 0) (wd 0) λi j=>if i=j then 1 else 0)]):=rfl;have e1:zL (.nm 0) z6 (j3<|zb (zq<|.int 0)<|zb (j3<|zb (zc 0) zF) zF) [.no] (zM (wd 0) (wd 0) λi j=>if i=j then 1 else 0)=some (((Ga<|wd 0).map fF).map (jW wd)):=by rw[Hm];unfold zM;refine zo _ _ λi hi=>zu rfl rfl ?_;show some _=some (jW wd<|fF i);unfold jW fF xO;simp;rfl
 have x1:ag1 (z9 3 [j8 p m w wd T])=some (.next [.val (j8 p m w wd T),.val<|.lst<|((Ga<|wd 0).map fF).map (jW wd),.no]):=by simp[ag1,z9,Ge,qU,es,a2,zW,S];rw[e1];simp
 obtain⟨γ',x2,bars,c,I,a4,rfl⟩:=ki (T:= .nm 2) (F:=jk 1<|zG Jg<|zb (zc 0)<|zb (zc 2)<|zb (zc 1) zF) (f:=Jk<|zO<|sIx (zh 0)<|zq<|.int 2)
  (λj γ=>∃bars c,BrInv p w wd T j bars/\bars.length<=8*(j+1)/\γ=[.val (j8 p m w wd T),.val<|.lst<|bars.map<|jW wd,c]) m ⋯ (γ:=[.val (j8 p m w wd T),.val<|.lst<|((Ga<|wd 0).map fF).map (jW wd),.no])
  (by simp[qU]) ⟨_,_,pS z,by simp;omega,rfl⟩ λs U γ hγ=>by obtain⟨bars,c,I,a4,rfl⟩:=hγ;obtain⟨Y,I',h',e⟩:=iS (T:=T) (w:=w) (k:=s) z O hm U (hT s · · U) I ⋯;refine⟨_,[.val (j8 p m w wd T),.val<|.lst<|Y.map<|jW wd,.val (.int s)],rfl,?_,Y,_,I',by omega,rfl⟩;simp[e]
 refine⟨bars,I,by omega,?_⟩;have ek:=cK (wd:=wd) bars λb Z=>⟨(I.ok b Z).n1,by have:=(I.ok b Z).le;omega⟩;rw[Xx];refine jO<|zw x1<|zw (show ag2 _=_ from x2) ?_;have a8:bars.length<64:=by omega
 unfold ag3;have e3:aX jN (zh 1) [.val (j8 p m w wd T),.val<|.lst<|bars.map<|jW wd,c]=some ((xq bars).map (jW wd)):=by show((Kw jN<|bars.map<|jW wd).bind λps=>if (bars.map<|jW wd).length<64 then some ((xy ps).map λi=>(bars.map<|jW wd).getD i .non)else none)=_;rw[ek];simp only[Gk,Gw,a8,if_true];congr 1;unfold xq;rw[Hm];refine GI λi hi=>?_;have h:=qo<|bars.map XC;have hi:=Gc.mp<|h.mem_iff.mp hi;rw[Gw]at hi;simp[hi]
 rw[eW,e3];rfl
theorem BrInv.perm(h:bars'.Perm bars)(I:BrInv p w wd T k bars):(∀b,b∈bars'->BarOk p w wd T k b)/\(∀r,r<=k->∀v,Span p (wd r) (GenB bars' r) v)/\∀r,r<=k->bars'.countP (λb=>b.has r)=wd r:=by
 refine⟨λb O=>I.ok b<|h.mem_iff.mp O,λr z v=>(I.sp r z v).le λg S=>?_,λr z=>?_⟩
 ·obtain⟨b,h1,h2,U⟩:=S
  exact .gen ⟨b,h.mem_iff.mpr h1,h2,U⟩
 ·rw[h.countP_eq];exact I.ct r z
end
abbrev TB:=Nat×Nat×(Nat->Nat->Int)
def tD(t:TB):D:=jj t.1 t.2.1 t.2.2
def Vz(bs:List (Int×Int))(z us:List TB):D:= .tup [.lst (xZ bs),.lst<|z.map tD,.lst (us.map tD)]
theorem sA:qA=js 15 (zI tn1<|zI tn2<|zI tn3<|zI tn4<|zI tn5 tn6):=rfl
def tnS:=(zI (wo 4 (zc 8)<|jR<|zH (zJ<|zO<|sIx (zh 4)<|zc 8) (.nm 0) 1 [2,10] z6 (zv jV (zv qm (zc 2)<|zc 0)<|zc 1))<|zI (jk 11<|sIx (jQ<|zH (zU<|zc 2) (.nm 0) 1 [2,10] (sB<|zv dEq (zv jV (zv qm (zc 0)<|zc 2)<|zc 1)<|zq<|.int 1) (zc 0))<|zq<|.int 0)<|vK 5 12 (zc 8)<|zv jV (zv qm (sIx (zh 12)<|zc 8)<|zc 11)<|zc 2)
def tnA:=(zI (wo 4 (zc 9)<|jR<|zH (K7 (sIx (zh 4)<|zc 9)<|sIx (zh 4)<|zc 8) (.tp [0,1]) 2 [2,10] z6 (zv jV (zv ju (zc 0)<|zv qm (zc 3)<|zc 1)<|zc 2))<|vK 5 12 (zc 8)<|zv jV (zv wt (sIx (zh 12)<|zc 8)<|zv qm (zc 10)<|sIx (zh 12)<|zc 9)<|zc 2)
def tnI:=(sIf (sB<|zv dEq (zc 8)<|zc 9) tnS tnA)
def tnB:=(zI (jk 7<|zG zR<|zb (zc 0)<|zb (zv ju (zc 1)<|zc 6) zF)<|zI (jk 8<|zv jV (zc 7)<|zc 3)<|zI (jk 9<|zv jV (zv yb (zc 7)<|zc 3)<|zc 3)<|zI (jk 10<|zv ju (zq<|.int 1)<|zv jV (zv yb (zc 7)<|zq<|.int 97)<|zv wt (zc 2)<|zq<|.int 1) tnI)
theorem nH:tn3=yJ (zU<|zv qm (zq<|.int 3)<|zc 3) (.nm 6) tnB:=rfl
section
variable{p:Int}{n:Nat}
theorem aA(hp:Pr p)(a8:n<=60)(h:Pair p n f g)(I:u<n)(Y:o<n)(ht:1<=tm/\tm<p)(a0 a1 a6 a9 ac:Cell) :
 ∃f' g' as ax,Pair p n f' g'/\tnI [a0,a1,.val<|.int p,.val<|.int n,.own<|jA n f,.nest<|j7 n g,a6,.val<|.int cell,.val<|.int u,.val<|.int o,.val<|.int tm,a9,ac,.no,.no]=some (.next [a0,a1,.val<|.int p,.val<|.int n,.own<|jA n f',.nest<|j7 n g',a6,.val<|.int cell,.val<|.int u,.val<|.int o,.val<|.int tm,as,ax,.no,.no]):=by
 have hl:=jz;have a8:n<=lim:=by omega
 have U:=hp.pos;have p7:=hp.le;have one:=hp.one;have mr : ∀z:Int,0<=z%p/\z%p<p:=λz=>⟨GU _ ⋯,GH _ U⟩;have ct : ∀x,wy tm x=true:=λx=>kW _ _ ⋯ ⋯;by_cases hc:u=o
 ·subst hc
  have am:zL (.nm 0) (sB<|zv dEq (zv jV (zv qm (zc 0)<|zc 2)<|zc 1)<|zq<|.int 1) (zc 0) [Cell.no,Cell.val<|.int p,Cell.val (.int tm)] (zE p.toNat λi=>(i:Int))=some (((Ga p.toNat).filter λ(i:Nat)=>decide<|(i:Int)*tm%p=1).map λ(i:Nat)=>D.int (i:Int)):=by rw[je];refine jv _ _ _ λi hi=>⟨_,rfl,?_,λ_=>rfl⟩;have bv:=Gc.mp hi;simp[kW (i:Int) tm ⋯ ⋯,U]
  obtain⟨y0,bx,c0,b9⟩:=mN hp (x:=tm) ⋯ ht.2;cases hg:(Ga p.toNat).filter λ(i:Nat)=>decide ((i:Int)*tm%p=1)with
  | nil=>
   have:=Kn hg y0 ⋯;simp[b9]at this
  | cons b c2=>
   obtain⟨c3,bb,_⟩:=wq hg;rw[hg]at am;have an:(b:Int)*tm%p=1:=by simpa using bb
   have c4:(b:Int)<p:=by omega
   refine⟨λi j=>if i=u then tm*f u j%p else f i j,λi j=>if j=u then g i u*(b:Int)%p else g i j,.val<|.int (b:Int),.no,⟨λi j hi O=>?_,λi j hi O=>?_,?_,?_⟩,?_⟩
   ·by_cases e:i=u
    ·simp only[RY e];exact mr _
    ·simp only[EQ e];exact h.bf i j hi O
   ·by_cases e:j=u
    ·simp only[RY e];exact mr _
    ·simp only[EQ e];exact h.bg i j hi O
   ·refine Wb (a:=tm) (b:=(b:Int)) (u:=u) (by rw[HF,an,one]) h.fg (λi k _ _=>?_) (λk j _ _=>?_)
    ·by_cases e:i=u
     ·simp only[RY e];rw[GG,e]
     ·simp only[EQ e,Ln]
    ·by_cases e:j=u
     ·simp only[RY e];rw[GG,e,HF]
     ·simp only[EQ e,Ln]
   ·refine Ya (a:=tm) (b:=(b:Int)) (u:=u) (by rw[an,one]) h.gf (λi k _ _=>?_) (λk j _ _=>?_)
    ·by_cases e:i=u
     ·simp only[RY e];rw[GG,e]
     ·simp only[EQ e,Ln]
    ·by_cases e:j=u
     ·simp only[RY e];rw[GG,e,HF]
     ·simp only[EQ e,Ln]
   ·have c1:zL (.nm 0) z6 (zv jV (zv qm (zc 2)<|zc 0)<|zc 1) [Cell.no,Cell.val<|.int p,Cell.val (.int tm)] (zE n<|f u)=some (zE n λj=>tm*f u j%p):=by
     rw[je,je];refine zo _ _ λj O=>zu rfl rfl ?_;simp[ct,U]
    have s1:=XY I f (λi j=>if i=u then tm*f u j%p else f i j) (λj=>tm*f u j%p) (λj _=>by simp) (λi j _ S _=>by simp[S]);have r1 : ∀Z:Cell,qQ 5 12 (zc 8) (zv jV (zv qm (sIx (zh 12)<|zc 8)<|zc 11)<|zc 2) [a0,a1,.val<|.int p,.val<|.int n,Z,.nest<|j7 n g,a6,.val<|.int cell,.val<|.int u,.val<|.int u,.val<|.int tm,.val<|.int (b:Int),ac,.no,.no] (j7 n g)=some (j7 n λi j=>if j=u then g i u*(b:Int)%p else g i j):=λZ=>by
     unfold j7;refine v7 _ λk hk=>⟨.int<|g k u*(b:Int)%p,u,u,?_,rfl,?_,ZS I _ _ _ ⋯ λi _ S=>by simp[S]⟩
     ·have q:=h.bg k u (Gc.mp hk) I
      have cv:=kW (g k u) (b:Int) ⋯ ⋯;simp[kQ,I,cv,U]
     ·simp[I]
    have be:inR p=true:=KG ⋯ ⋯;have lp:p.toNat<=lim:=by omega
    simp[tnI,tnS,jI,I,a8,zW,Ge,c1,s1,r1,be,jL,lp,am]
 ·refine⟨λi j=>if i=o then (f o j+tm*f u j)%p else f i j,λi j=>if j=u then (g i u - tm*g i o)%p else g i j,a9,.no,⟨λi j hi O=>?_,λi j hi O=>?_,?_,?_⟩,?_⟩
  ·by_cases e:i=o
   ·simp only[RY e];exact mr _
   ·simp only[EQ e];exact h.bf i j hi O
  ·by_cases e:j=u
   ·simp only[RY e];exact mr _
   ·simp only[EQ e];exact h.bg i j hi O
  ·refine fP (t:=tm) (u:=o) (o:=u) Y I (GN hc) h.fg (λi k _ _=>?_) (λk j _ _=>?_)
   ·by_cases e:i=o
    ·simp only[RY e];rw[GG,e]
    ·simp only[EQ e,Lm,Lo]
   ·by_cases e:j=u
    ·simp only[RY e];rw[GG,e,Int.neg_mul];rfl
    ·simp only[EQ e,Lm,Lo]
  ·refine ay (t:=tm) (u:=o) (o:=u) Y I (GN hc) h.gf (λi k _ _=>?_) (λk j _ _=>?_)
   ·by_cases e:i=o
    ·simp only[RY e];rw[GG,e]
    ·simp only[EQ e,Lm,Lo]
   ·by_cases e:j=u
    ·simp only[RY e];rw[GG,e,Int.neg_mul];rfl
    ·simp only[EQ e,Lm,Lo]
  ·have c1:zL (.tp [0,1]) z6 (zv jV (zv ju (zc 0)<|zv qm (zc 3)<|zc 1)<|zc 2) [Cell.no,Cell.no,Cell.val<|.int p,Cell.val (.int tm)] ((Ga n).map λj=>D.tup [.int (f o j),.int (f u j)])=some (zE n λj=>(f o j+tm*f u j)%p):=by
    rw[je];refine zo _ _ λj O=>zu rfl rfl ?_;simp[ct,U]
   have s1:=XY Y f (λi j=>if i=o then (f o j+tm*f u j)%p else f i j) (λj=>(f o j+tm*f u j)%p) (λj _=>by simp) (λi j _ S _=>by simp[S]);have r1 : ∀Z:Cell,qQ 5 12 (zc 8) (zv jV (zv wt (sIx (zh 12)<|zc 8)<|zv qm (zc 10)<|sIx (zh 12)<|zc 9)<|zc 2) [a0,a1,.val<|.int p,.val<|.int n,Z,.nest<|j7 n g,a6,.val<|.int cell,.val<|.int u,.val<|.int o,.val<|.int tm,a9,ac,.no,.no] (j7 n g)=some (j7 n λi j=>if j=u then (g i u - tm*g i o)%p else g i j):=λZ=>by
    unfold j7;refine v7 _ λk hk=>⟨.int<|(g k u - tm*g k o)%p,u,u,?_,rfl,?_,ZS I _ _ _ ⋯ λi _ S=>by simp[S]⟩
    ·simp[kQ,I,Y,ct,U]
    ·simp[I]
   have bl : ¬((u:Int)=(o:Int)):=by omega
   simp[tnI,tnA,jI,hc,bl,I,Y,a8,zW,Ge,wG,c1,s1,r1]
end
section
variable{p:Int}{n:Nat}
theorem su(am:ns.length<=63)(S:Pr p)(hn:n<=60)(h0:0<=at')(h1:at'<=10000) :
 ∃f g,Pair p n f g/\qA [qC ns,.int at',.int p,.int n]=some (.own [jj n n f,jj n n g]):=by
 have hl:=jz;have O:n<=lim:=by omega
 have p0:=S.pos;have two:=S.two;have p7:=S.le;have one:=S.one;have a0 : ∀i:Nat,zL (.nm 0) z6 (vJ<|zv dEq (zc 1)<|zc 0) [Cell.no,Cell.val (.int i)] ((Ga n).map λ(j:Nat)=>D.int j)=some (zE n<|dlt i):=λi=>by
  rw[je];refine zo _ _ λj hj=>zu rfl rfl ?_;by_cases e:i=j
  ·subst e;simp[dlt]
  ·have e' : ¬((i:Int)=(j:Int)):=by omega
   simp[dlt,e,e']
 have ar:zL (.nm 0) z6 (jR<|zH (zU<|zc 1) (.nm 0) 1 [0] z6 (vJ<|zv dEq (zc 1)<|zc 0)) [Cell.no,Cell.val (.int n)] ((Ga n).map λ(j:Nat)=>D.int j)=some (jA n dlt):=by unfold jA;refine zo _ _ λi hi=>zu rfl rfl ?_;simp[O,jL,zW,Ge];rw[je n λi=>(i:Int),a0]
 have as:kJ (.nm 0) (zH (zU<|zc 1) (.nm 0) 1 [0] z6 (vJ<|zv dEq (zc 1)<|zc 0)) [Cell.no,Cell.val (.int n)] ((Ga n).map λ(j:Nat)=>D.int j)=some (j7 n dlt):=by unfold j7;refine ZT _ λi hi=>⟨_,rfl,?_⟩;simp[O,jL,zW,Ge];rw[je n λi=>(i:Int),a0]
 have start:Pair p n dlt dlt:=by
  have b : ∀i j:Nat,i<n->j<n->0<=dlt i j/\dlt i j<p:=λi j _ _=>by unfold dlt;split<;>omega
  have u:Undo p n dlt dlt:=λi j hi hj=>by rw[zQ (i:=i) hi λk _ ax=>by unfold dlt;rw[EQ (GN ax)];simp];simp[dlt]
  exact⟨b,b,u,u⟩
 have s1:tn1 (z9 15 [qC ns,.int at',.int p,.int n])=some (.next [.val (qC ns),.val<|.int at',.val<|.int p,.val<|.int n,.own<|jA n dlt,.no,.no,.no,.no,.no,.no,.no,.no,.no,.no]):=by show tn1 [.val (qC ns),.val<|.int at',.val<|.int p,.val<|.int n,.no,.no,.no,.no,.no,.no,.no,.no,.no,.no,.no]=_;unfold tn1;simp[O,jL,zW,Ge];rw[je n λi=>(i:Int),ar]
 have s2:tn2 [.val (qC ns),.val<|.int at',.val<|.int p,.val<|.int n,.own<|jA n dlt,.no,.no,.no,.no,.no,.no,.no,.no,.no,.no]=some (.next [.val (qC ns),.val<|.int at',.val<|.int p,.val<|.int n,.own<|jA n dlt,.nest<|j7 n dlt,.no,.no,.no,.no,.no,.no,.no,.no,.no]):=by unfold tn2;simp[O,jL,zW,Ge];rw[je n λi=>(i:Int),as];simp[jM,O]
 have cm:wy 3 (n:Int)=true:=kW _ _ ⋯ ⋯;obtain⟨γ',s3,f,g,c6,c7,c8,c9,c10,z,I,Z,rfl⟩:=ki (T:= .nm 6) (F:=tnB) (f:=zv qm (zq<|.int 3)<|zc 3)
  (λt γ=>∃f g c6 c7 c8 c9 c10 z I,Pair p n f g/\γ=[.val (qC ns),.val<|.int at',.val<|.int p,.val<|.int n,.own<|jA n f,.nest<|j7 n g,c6,c7,c8,c9,c10,z,I,.no,.no])
  (3*n) ⋯ (γ:=[.val (qC ns),.val<|.int at',.val<|.int p,.val<|.int n,.own<|jA n dlt,.nest<|j7 n dlt,.no,.no,.no,.no,.no,.no,.no,.no,.no]) (by
    have:((3*n:Nat):Int)=3*(n:Int):=by omega
    rw[this];simp[cm]) ⟨dlt,dlt,.no,.no,.no,.no,.no,.no,.no,start,rfl⟩ (by
    rintro t ht γ ⟨f,g,c6,c7,c8,c9,c10,z,I,Z,rfl⟩;have a3:0<n:=by omega
    obtain⟨ec,a1,b1⟩:=wb am (k:=at'+(t:Int)) ⋯ ⋯;generalize vi ns (at'+(t:Int))=cell at ec a1 b1;obtain⟨u,eu,hu⟩:=JO (m:=cell) (n:Int) ⋯;obtain⟨o,eo,ho⟩:=JO (m:=cell/(n:Int)) (n:Int) ⋯;have ci:=GU (cell/97) (show p - 1≠0 by omega);have cj:=GH (cell/97) (show 0<p - 1 by omega);have be:1<=1+cell/97%(p - 1)/\1+cell/97%(p - 1)<p:=by omega
    obtain⟨f',g',ac,ad,bf,es⟩:=aA S hn Z (u:=u) (o:=o) (tm:=1+cell/97%(p - 1)) (cell:=cell) ⋯ ⋯ be (.val<|qC ns) (.val<|.int at') (.val<|.int t) z I;refine⟨[.val (qC ns),.val<|.int at',.val<|.int p,.val<|.int n,.own<|jA n f,.nest<|j7 n g,.val<|.int t,c7,c8,c9,c10,z,I,.no,.no],[.val (qC ns),.val<|.int at',.val<|.int p,.val<|.int n,.own<|jA n f',.nest<|j7 n g',.val<|.int t,.val<|.int cell,.val<|.int u,.val<|.int o,.val<|.int<|1+cell/97%(p - 1),ac,ad,.no,.no],rfl,?_,f',g',.val<|.int t,.val<|.int cell,.val<|.int u,.val<|.int o,.val<|.int<|1+cell/97%(p - 1),ac,ad,bf,rfl⟩;have al:(0:Int)<(n:Int):=by omega
    have pm:0<p - 1:=by omega
    have a7:(jk 7<|zG zR<|zb (zc 0)<|zb (zv ju (zc 1)<|zc 6) zF) [.val (qC ns),.val<|.int at',.val<|.int p,.val<|.int n,.own<|jA n f,.nest<|j7 n g,.val<|.int t,c7,c8,c9,c10,z,I,.no,.no]=some (.next [.val (qC ns),.val<|.int at',.val<|.int p,.val<|.int n,.own<|jA n f,.nest<|j7 n g,.val<|.int t,.val<|.int cell,c8,c9,c10,z,I,.no,.no]):=by simp[ec]
    have a8:(jk 8<|zv jV (zc 7)<|zc 3) [.val (qC ns),.val<|.int at',.val<|.int p,.val<|.int n,.own<|jA n f,.nest<|j7 n g,.val<|.int t,.val<|.int cell,c8,c9,c10,z,I,.no,.no]=some (.next [.val (qC ns),.val<|.int at',.val<|.int p,.val<|.int n,.own<|jA n f,.nest<|j7 n g,.val<|.int t,.val<|.int cell,.val<|.int u,c9,c10,z,I,.no,.no]):=by simp[al,a3,eu]
    have a9:(jk 9<|zv jV (zv yb (zc 7)<|zc 3)<|zc 3) [.val (qC ns),.val<|.int at',.val<|.int p,.val<|.int n,.own<|jA n f,.nest<|j7 n g,.val<|.int t,.val<|.int cell,.val<|.int u,c9,c10,z,I,.no,.no]=some (.next [.val (qC ns),.val<|.int at',.val<|.int p,.val<|.int n,.own<|jA n f,.nest<|j7 n g,.val<|.int t,.val<|.int cell,.val<|.int u,.val<|.int o,c10,z,I,.no,.no]):=by
     have nb:(n:Int)<1073741824:=by omega
     simp[al,a3,nb,eo]
    have bn:1<p:=by omega
    have bv:(jk 10<|zv ju (zq<|.int 1)<|zv jV (zv yb (zc 7)<|zq<|.int 97)<|zv wt (zc 2)<|zq<|.int 1) [.val (qC ns),.val<|.int at',.val<|.int p,.val<|.int n,.own<|jA n f,.nest<|j7 n g,.val<|.int t,.val<|.int cell,.val<|.int u,.val<|.int o,c10,z,I,.no,.no]=some (.next [.val (qC ns),.val<|.int at',.val<|.int p,.val<|.int n,.own<|jA n f,.nest<|j7 n g,.val<|.int t,.val<|.int cell,.val<|.int u,.val<|.int o,.val<|.int<|1+cell/97%(p - 1),z,I,.no,.no]):=by simp[pm,bn]
    exact zw a7<|zw a8<|zw a9<|zw bv es)
 rw[<- nH]at s3;refine⟨f,g,Z,?_⟩;have bx : ∀h:RK,zL (.nm 0) z6 (zP<|zh 0) [Cell.no] (jA n h)=some (zM n n h):=λh=>by unfold jA zM;refine zo _ _ λi hi=>zu rfl rfl ?_;simp
 have s4:tn4 [.val (qC ns),.val<|.int at',.val<|.int p,.val<|.int n,.own<|jA n f,.nest<|j7 n g,c6,c7,c8,c9,c10,z,I,.no,.no]=some (.next [.val (qC ns),.val<|.int at',.val<|.int p,.val<|.int n,.own<|jA n f,.nest<|j7 n g,c6,c7,c8,c9,c10,z,I,.own [],.no]):=rfl;have s5:tn5 [.val (qC ns),.val<|.int at',.val<|.int p,.val<|.int n,.own<|jA n f,.nest<|j7 n g,c6,c7,c8,c9,c10,z,I,.own [],.no]=some (.next [.val (qC ns),.val<|.int at',.val<|.int p,.val<|.int n,.val<|.lst<|jA n f,.val<|.lst<|jA n g,c6,c7,c8,c9,c10,z,I,.own [jj n n f,jj n n g],.val (.lst<|jA n g)]):=by
  have l3:3<=lim:=by omega
  have l2:2<=lim:=by omega
  have z1 : ∀(acc:List D) (h:RK) (U Y:Cell),acc.length<=1->(qt 13<|j3<|zb (zc 3)<|zb (zc 3)<|zb (zP<|jQ<|zH (zJ<|zh 14) (.nm 0) 1 [] z6 (zP<|zh 0)) zF) [.val (qC ns),.val<|.int at',.val<|.int p,.val<|.int n,U,Y,c6,c7,c8,c9,c10,z,I,.own acc,.val (.lst<|jA n h)]=some (.next [.val (qC ns),.val<|.int at',.val<|.int p,.val<|.int n,U,Y,c6,c7,c8,c9,c10,z,I,.own<|acc++[jj n n h],.val (.lst<|jA n h)]):=λacc h U Y ha=>by
   have la:acc.length<lim:=by omega
   have rl:(jA n h).length<=lim:=by rw[bo];exact O
   simp only[Jd,KZ,x9,vw,xD,yt,YV,xc,xm,jY,Gz,GC,GJ,Hu,HW,IZ,jb,z7,qx,vm,Gk,GM,rl,if_true];rw[show zW 1 [] [Cell.val (qC ns),.val<|.int at',.val<|.int p,.val<|.int n,U,Y,c6,c7,c8,c9,c10,z,I,.own acc,.val (.lst<|jA n h)]=[Cell.no]from rfl,bx];simp only[GM,Gk,l3,if_true,la,HQ,HP];rfl
  have e:tn5 [.val (qC ns),.val<|.int at',.val<|.int p,.val<|.int n,.own<|jA n f,.nest<|j7 n g,c6,c7,c8,c9,c10,z,I,.own [],.no]=xk (.nm 14) (qt 13<|j3<|zb (zc 3)<|zb (zc 3)<|zb (zP<|jQ<|zH (zJ<|zh 14) (.nm 0) 1 [] z6 (zP<|zh 0)) zF) [.lst (jA n f),.lst ((j7 n g).map D.lst)] [.val (qC ns),.val<|.int at',.val<|.int p,.val<|.int n,.val<|.lst<|jA n f,.val<|.lst<|(j7 n g).map D.lst,c6,c7,c8,c9,c10,z,I,.own [],.no]:=rfl;rw[e,bj,jX];simp only[vk,Gk,HQ,HP];rw[z1 [] f _ _ ⋯];simp only[Gk,LM];rw[jX];simp only[vk,Gk,HQ,HP];rw[z1 [jj n n f] g _ _ (Gh 1)];rfl
 rw[sA];exact jO<|zw s1<|zw s2<|zw s3<|zw s4<|zw s5 rfl
end
theorem fU(z:0<p)(w:RX)(wd:RZ)(f g T:RV)(k i j:Nat):0<=qq p w wd f g T k i j/\qq p w wd f g T k i j<p:=
 ⟨GU _ ⋯,GH _ z⟩
def fX(m:Nat)(wd:RZ)(f:RV):List TB:=(Ga<|m+1).map λk=>(wd k,wd k,f k)
theorem aH(m wd f):(fX m wd f).map tD=qE (m+1) wd f:=by unfold fX qE;rw[Hm];rfl
section
variable{p:Int}{n:Nat}
theorem fz(hp:Pr p)(hn:n<=20)(f:RK) : ∃r B l,IsB p (n+n) r B l/\(∀v,Span p (n+n) (Fam r B) v↔Span p (n+n) (Fam n λi=>j5 n (f i)<|jq i) v)/\
 xG [.int p,jj n n f]=some (.val<|if eqD (.lst<|zM r n B) (.lst<|zM n n jq)=true then .tup [.int n,.int n,.tup (zM r n λk j=>B k<|n+j)]else .non):=by
 have hl:=jz;have z:n<=lim:=by omega
 have a1:n+n<=lim:=by omega
 obtain⟨r,B,l,e,I,a2⟩:=qa hp (show n+n<=100 by omega) z .L λi=>j5 n (f i)<|jq i;refine⟨r,B,l,I,a2,?_⟩;have O:r<=lim:=by have:r<=n+n:=QW I.mono I.lt;omega
 have S:=ku (n:=n) z;have rows:zL (.tp [0,1]) z6 (zv ju (zc 0)<|zc 1) [Cell.no,Cell.no] ((Ga n).map λi=>D.tup [.tup (zE n<|f i),.tup (zE n λk=>if i=k then 1 else 0)])=some (zM n (n+n) λi=>j5 n (f i)<|jq i):=by unfold zM;refine zo _ _ λj hj=>zu rfl rfl ?_;simp[ju,a1,xR];rfl
 have U:=fG n n f λi j=>if i=j then 1 else 0;have c1:((n:Int)+(n:Int))=((n+n:Nat):Int):=by omega
 simp only[dsq]at e;rw[<- c1]at e;have Y:zL (.nm 0) z6 (K8 (zc 0) Vj<|sBd<|zc 1) [Cell.no,Cell.val (.int n)] (zM r (n+n) B)=some (zM r n B):=by unfold zM;refine zo _ _ λk hk=>zu rfl rfl ?_;simp[Xp]
 have a5:zL (.nm 0) z6 (K8 (zc 0) (sBd<|zc 1) Vj) [Cell.no,Cell.val (.int n)] (zM r (n+n) B)=some (zM r n λk j=>B k<|n+j):=by unfold zM;refine zo _ _ λk hk=>zu rfl rfl ?_;simp[Xo]
 have ne:dNe (.lst<|zM r n B) (.lst<|zM n n λi j=>if i=j then 1 else 0)=some (.bl<|!eqD (.lst<|zM r n B) (.lst<|zM n n jq)):=by unfold dNe;rw[RY ⟨VB _ _ _,VB _ _ _⟩];rfl
 have Z : ∀(h w:Nat) (f:RK),jG (jj h w f)=some (.T,[.int h,.int w,.tup (zM h w f)]):=λ_ _ _=>rfl;by_cases q:eqD (.lst<|zM r n B) (.lst<|zM n n jq)=true
 ·rw[q]at ne
  rw[RY q];simp[xG,js,z9,jI,Z,S,U,z,O,zW,xJ,Ge,rows,e,Y,a5,ne]
 ·have q':eqD (.lst<|zM r n B) (.lst<|zM n n jq)=false:=by simpa using q
  rw[q']at ne;rw[EQ q];simp[xG,js,z9,jI,Z,S,U,z,O,zW,xJ,Ge,rows,e,Y,ne]
theorem Y5(S:Pr p)(hn:n<=20)(h1:Undo p n f g)(h2:Undo p n g f)(bg : ∀i j,i<n->j<n->0<=g i j/\g i j<p):xG [.int p,jj n n f]=some (.val<|jj n n g):=by
 obtain⟨r,B,l,hb,a0,e⟩:=fz S hn f;have two:=S.two;have one:=S.one;have a4:IsB p (n+n) n (λk=>j5 n (jq k)<|g k) id:={
  lt:=λk I=>by simp only[id];omega
  mono:=λk m I _=>I
  one:=λk I=>by simp only[id];rw[zT I];exact RY rfl
  bef:=λk j I U=>by simp only[id]at U;rw[zT ⋯];exact EQ ⋯
  oth:=λk m I hm Y=>by simp only[id];rw[zT hm];exact EQ ⋯
  rng:=λk i I hi=>by
   rcases GB i n with z | z
   ·rw[zT z];unfold jq;split<;>omega
   ·obtain⟨j,rfl⟩ : ∃j,i=n+j:=⟨i - n,by omega⟩
    rw[ja];exact bg k j I ⋯}
 have a1 : ∀v,Span p (n+n) (Fam n λk=>j5 n (jq k)<|g k) v->Span p (n+n) (Fam n λi=>j5 n (f i)<|jq i) v:=λv O=>O.le λs Z=>by
  obtain⟨k,I,es⟩:=Z;subst es;refine(Span.sum (u:=λi=>j5 n (f i)<|jq i) (λi=>g k i) (m:=n) λi hi=> .gen ⟨i,hi,rfl⟩).congr λj U=>?_;rcases GB j n with z | z
  ·simp only[zT z]
   exact(h2 k j I z).symm
  ·obtain⟨m,rfl⟩ : ∃m,j=n+m:=⟨j - n,by omega⟩
   simp only[ja];rw[zQ (i:=m) ⋯ λi _ Y=>by simp[jq,Y]];simp[jq]
 have a2 : ∀v,Span p (n+n) (Fam n λi=>j5 n (f i)<|jq i) v->Span p (n+n) (Fam n λk=>j5 n (jq k)<|g k) v:=λv O=>O.le λs Z=>by
  obtain⟨i,hi,es⟩:=Z;subst es;refine(Span.sum (u:=λk=>j5 n (jq k)<|g k) (λk=>f i k) (m:=n) λk I=> .gen ⟨k,I,rfl⟩).congr λj U=>?_;rcases GB j n with z | z
  ·simp only[zT z]
   rw[zQ (i:=j) z λk _ Y=>by simp[jq,Y]];simp[jq]
  ·obtain⟨m,rfl⟩ : ∃m,j=n+m:=⟨j - n,by omega⟩
   simp only[ja];exact(h1 i m hi ⋯).symm
 obtain⟨rfl,_,u⟩:=ZY S hb a4 (λv O=>a2 v<|(a0 v).mp O)<|λv O=>(a0 v).mpr (a1 v O);have eh:zM r r B=zM r r jq:=V0 λk i I hi=>by rw[u k i I ⋯,zT hi]
 have et:zM r r (λk j=>B k<|r+j)=zM r r g:=V0 λk j I U=>by rw[u k (r+j) I ⋯,ja]
 rw[e,eh,RY<|eqD_refl _,et];rfl
end
section
variable{wd:RZ}{m k N:Nat}{p:Int}{w:RX}{T:RV}{A:Nat->Bar}
def ixs(A:Nat->Bar)(N r:Nat):List Nat:=(Ga N).filter λj=>(A j).has r
def wc(A:Nat->Bar)(N r:Nat):Nat->Nat->Int:=λi j=>(A<|(ixs A N r).getD j 0).v r i
theorem XJ(I:Pr p)(hn:n<=8)(O : ∀v:Vc,∃t,∀i,i<n->v i%p=app f n t i%p) : ∃g:RK,Undo p n f g/\Undo p n g f/\∀i j,0<=g i j/\g i j<p:=by
 have Y:=I.pos;obtain⟨t,S⟩:=LB λj=>O<|jq j;refine⟨λi j=>t j i%p,?_,?_,λi j=>⟨GU _ ⋯,GH _ Y⟩⟩
 ·intro i j hi U
  have e:sumTo (λk=>f i k*(t j k%p)) n%p=app f n (t j) i%p:=zK λk _=>Kq p _ _;rw[e,<- S j i hi];unfold jq dlt;simp only[eq_comm]
 ·intro i j hi U
  have z : ∀a,a<n->app f n (λb=>sumTo (λk=>(t k b%p)*f k j) n - jq j b) a%p=0:=λa ha=>by
   rw[Ja,wV f U,IC];have e:app f n (λb=>sumTo (λk=>(t k b%p)*f k j) n) a%p=f a j%p:=by
    have e1:app f n (λb=>sumTo (λk=>(t k b%p)*f k j) n) a=sumTo (λk=>f k j*app f n (λb=>t k b%p) a) n:=by rw[<- ye];congr 1;funext b;exact qH ..
    rw[e1];have Z:sumTo (λk=>f k j*app f n (λb=>t k b%p) a) n%p=sumTo (λk=>f k j*jq k a) n%p:=zK λk _=>by rw[Gi,jF (u:=t k) (λb _=>GG _ _) a,<- S k a ha,<- Gi]
    rw[Z,zQ (f:=λk=>f k j*jq k a) ha λk _ hk=>by simp[jq,hk]];simp[jq]
   rw[e];simp
  have:=yI I hn O z i hi;have e3:(sumTo (λk=>(t k i%p)*f k j) n)%p=jq j i%p:=IF.mpr this;show sumTo (λk=>(t k i%p)*f k j) n%p=dlt i j%p;rw[e3];unfold jq dlt;simp only[eq_comm]
theorem af:yw=js 4 (zI ba1<|zI ba2<|zI ba3 ba4):=rfl
theorem eM(hp:Pr p)(Y : ∀k,wd k<=8)(hm:m<=5)(hT : ∀k i j,k<m->i<hiW w wd k->j<wiW w wd k->0<=T k i j/\T k i j<p) :
 ∃(N:Nat) (A:Nat->Bar) (g:RV),N<=48/\(∀j,j<N->BarOk p w wd T m (A j))/\(∀r,r<=m->(ixs A N r).length=wd r)/\(∀r,r<=m->Undo p (wd r) (wc A N r) (g r)/\Undo p (wd r) (g r) (wc A N r)/\∀i j,0<=g r i j/\g r i j<p)/\
  Zj ((Ga N).map λj=>XC<|A j)=((Ga N).map λj=>XC<|A j)/\
  yw [j8 p m w wd T]=some (.val<|Vz ((Ga N).map λj=>XC<|A j) (fX m wd g)<|fX m wd λr=>wc A N r):=by
 have hl:=jz;obtain⟨bars,I,a8,eg⟩:=K3 (T:=T) (w:=w) hp Y hm hT;obtain⟨ok,sp,ct⟩:=I.perm<|Zi bars;have a9:(xq bars).length=bars.length:=(Zi bars).length_eq;let A:Nat->Bar:=λj=>(xq bars).getD j fC;have U:xq bars=(Ga bars.length).map A:=by rw[<- a9];exact(jC fC _).symm
 have a1 : ∀j,j<bars.length->BarOk p w wd T m (A j):=λj S=>ok _ (by
  rw[U];exact GO.mpr ⟨j,Gc.mpr S,rfl⟩)
 have cnt : ∀r,r<=m->(ixs A bars.length r).length=wd r:=λr O=>by have:=ct r O;rw[U,Ll,Hl]at this;exact this
 have ac : ∀r,r<=m->∀v:Vc,∃t,∀i,i<wd r->v i%p=app (wc A bars.length r) (wd r) t i%p:=λr O v=>by
  have hv:Span p (wd r) (Fam (wd r) λj i=>wc A bars.length r i j) v:=(sp r O v).le λgg Z=>by obtain⟨b,h1,h2,rfl⟩:=Z;rw[U]at h1;obtain⟨j,S,rfl⟩:=GO.mp h1;have al:j∈ixs A bars.length r:=GT.mpr ⟨S,by simpa using h2⟩;obtain⟨i,hi,e⟩:=Mo al;refine .gen ⟨i,by rw[<- cnt r O];exact hi,?_⟩;funext c;show(A j).v r c=(A<|(ixs A bars.length r).getD i 0).v r c;rw[Gj,Gd hi];simp[e]
  exact col_span.mp hv
 have am : ∀r,∃g:RK,r<=m->Undo p (wd r) (wc A bars.length r) g/\Undo p (wd r) g (wc A bars.length r)/\∀i j,0<=g i j/\g i j<p:=λr=>by
  by_cases O:r<=m
  ·obtain⟨g,h⟩:=XJ hp (Y r) (ac r O)
   exact⟨g,λ_=>h⟩
  ·exact⟨λ_ _=>0,λz=>absurd z O⟩
 obtain⟨g,Z⟩:=LB am;have eK:(xq bars).map XC=(Ga bars.length).map λj=>XC (A j):=by
  conv=>lhs;rw[U,Hm]
  rfl
 refine⟨bars.length,A,g,a8,a1,cnt,Z,?_,?_⟩
 ·rw[<- eK,XS]
  refine Yc ?_;have:=(Zi bars).map XC;rw[XS]at this;exact this
 ·have a4:bars.length<=lim:=by omega
  have eL:((xq bars).map (jW wd))=(Ga bars.length).map λj=>jW wd (A j):=by
   conv=>lhs;rw[U,Hm]
   rfl
  rw[eL]at eg;let L:D:= .lst ((Ga bars.length).map λj=>jW wd<|A j);have a5 : ∀j,j<bars.length->(A j).s+(A j).n<=100:=λj S=>by have:=(a1 j S).le;omega
  have e2:zL (.tp [0,1]) z6 (zG xF<|zb (zc 1)<|zb (jR<|jE qp<|zb (zc 2)<|zb (zc 0) zF) zF) [.no,.no,.val L] ((Ga<|m+1).map λ(i:Nat)=>D.tup [.int i,.int (wd i:Nat)])=some (qE (m+1) wd λr=>wc A bars.length r):=by unfold qE;refine zo _ _ λr O=>zu rfl rfl ?_;have O:=Gc.mp O;have e1:=yH (wd:=wd) a5 a4 r;rw[VG (wd r) (λj=>(A j).v r),show((Ga bars.length).filter λj=>(A j).has r)=ixs A bars.length r from rfl,cnt r ⋯]at e1;have be:=Y r;have e3:=wa (q:=wd r) (h:=wd r) (λi=>(A<|(ixs A bars.length r).getD i 0).v r) ⋯ ⋯;simp[-Gj,L,e1,e3];rfl
  have e3:zL (.nm 0) z6 (zG xG<|zb (sIx (zh 1)<|zq<|.int 0)<|zb (zc 0) zF) [.no,.val (j8 p m w wd T)] (qE (m+1) wd λr=>wc A bars.length r)=some (qE (m+1) wd g):=by unfold qE;refine zo _ _ λr O=>zu rfl rfl ?_;have O:=Gc.mp O;obtain⟨h1,h2,h3⟩:=Z r ⋯;have e:=Y5 hp (n:=wd r) (by have:=Y r;omega) h1 h2 λi j _ _=>h3 i j;simp[qU,e]
  have e4:zL (.nm 0) z6 (zG jN<|zb (zc 0) zF) [.no] ((Ga bars.length).map λj=>jW wd<|A j)=some (xZ<|(Ga bars.length).map λj=>XC<|A j):=by unfold xZ;rw[Hm];refine zo _ _ λj S=>zu rfl rfl ?_;have S:=Gc.mp S;have e:=JA (wd:=wd) (a1 j S).n1 (a5 j S);simp[e];exact⟨rfl,rfl⟩
  have ew:qZ (zE (m+1) λk=>(wd k:Int))=(Ga<|m+1).map λ(i:Nat)=>D.tup [.int i,.int (wd i:Nat)]:=VX _ _;have a6:m+1<=lim:=by omega
  have b9 : ∀g:RV,(qE (m+1) wd g).length=m+1:=λg=>by simp[qE]
  rw[af];refine jO<|zw (γ':=[.val (j8 p m w wd T),.val L,.no,.no]) ?_ (zw (γ':=[.val (j8 p m w wd T),.val L,.val<|.lst<|qE (m+1) wd λr=>wc A bars.length r,.no]) ?_ (zw (γ':=[.val (j8 p m w wd T),.val L,.val<|.lst<|qE (m+1) wd λr=>wc A bars.length r,.val (.lst<|qE (m+1) wd g)]) ?_ ?_))
  ·simp[ba1,z9,Ge,eg,L]
  ·simp[ba2,zW,qU,ew,a6,e2]
  ·simp[ba3,zW,b9,a6,e3]
  ·unfold Vz
   rw[aH,aH];simp[ba4,zW,L,a4,e4]
end
section
variable{wd:RZ}{m k N:Nat}{p:Int}{w:RX}{T:RV}{A:Nat->Bar}{g:RV}
theorem cQ(A N r):(ixs A N r).Nodup:=NV.sublist Ny
end
structure Decp(p:Int)(w:RX)(wd:RZ)(T:RV)(m N:Nat)(A:Nat->Bar):Prop where
 ok : ∀j,j<N->BarOk p w wd T m (A j)
 sp : ∀r,r<=m->∀v:Vc,∃t:Vc,∀i,i<wd r->v i%p=sumTo (λj=>if (A j).has r=true then t j*(A j).v r i else 0) N%p
 inj : ∀r,r<=m->∀t:Vc,(∀i,i<wd r->sumTo (λj=>if (A j).has r=true then t j*(A j).v r i else 0) N%p=0)->∀j,j<N->(A j).has r=true->t j%p=0
 cnt : ∀r,r<=m->(ixs A N r).length=wd r
def Lk(p:Int)(w:RX)(wd:RZ)(T:RV)(k:Nat)(y z:Vc):Prop:=
 if w k=true then ∀i,i<wd k->y i%p=app (T k) (wd<|k+1) z i%p else ∀i,i<wd (k+1)->z i%p=app (T k) (wd k) y i%p
def Wk(p:Int)(w:RX)(wd:RZ)(T:RV)(d:Nat):Nat->Vc->Vc->Prop
 | 0,u,z=>∀i,i<wd d->u i%p=z i%p
 | n+1,u,z=>∃y,Wk p w wd T d n u y/\Lk p w wd T (d+n) y z
section
variable{p:Int}{w:RX}{wd:RZ}{T:RV}{m N N':Nat}{A A':Nat->Bar}{d:Nat}
theorem Ys(h1:a%p=b%p)(h2:a'%p=b'%p):(a+c*a')%p=(b+c*b')%p:=by rw[GW,h1,Gi,h2,<- Gi,<- GW]
theorem AZ(c:Int)(h:Lk p w wd T k y z)(h':Lk p w wd T k y' z'):Lk p w wd T k (λi=>y i+c*y' i) λi=>z i+c*z' i:=by
 unfold Lk at *;split
 ·next hw=>
  rw[RY hw]at h h';intro i hi;rw[Ys (h i hi) (h' i hi)];exact(Jc (λ_ _=>rfl) i).symm
 ·next hw=>
  rw[EQ hw]at h h';intro i hi;rw[Ys (h i hi) (h' i hi)];exact(Jc (λ_ _=>rfl) i).symm
theorem mZ : ∀(n:Nat) {u z I O:Vc} (c:Int),Wk p w wd T d n u z->Wk p w wd T d n I O->Wk p w wd T d n (λi=>u i+c*I i) λi=>z i+c*O i
 | 0,u,z,I,O,c,h,h'=>λi hi=>Ys (h i hi)<|h' i hi
 | n+1,u,z,I,O,c,⟨y,h1,h2⟩,⟨y',h1',h2'⟩=>⟨_,mZ n c h1 h1',AZ c h2 h2'⟩
theorem fj(k:Nat):Lk p w wd T k (λ_=>0) λ_=>0:=by unfold Lk;split<;>exact λi _=>by rw[yq (λ_ _=>by simp) i];simp
theorem YY : ∀n,Wk p w wd T d n (λ_=>0) λ_=>0
 | 0=>λ_ _=>rfl
 | n+1=>⟨_,YY n,fj _⟩
theorem lQ(h:Lk p w wd T k y z)(I : ∀i,i<wd (k+1)->z' i%p=z i%p):Lk p w wd T k y z':=by
 unfold Lk at *;split
 ·next hw=>rw[RY hw]at h;intro i hi;rw[h i hi];exact(jF I i).symm
 ·next hw=>rw[EQ hw]at h;intro i hi;rw[I i hi,h i hi]
theorem EG : ∀{n:Nat} {u z I:Vc},Wk p w wd T d n u z->(∀i,i<wd (d+n)->I i%p=z i%p)->Wk p w wd T d n u I
 | 0,u,z,I,h,hz=>λi hi=>by rw[h i hi,hz i hi]
 | n+1,u,z,I,⟨y,h1,h2⟩,hz=>⟨y,h1,lQ h2 hz⟩
theorem K4 : ∀{n:Nat} {u I z:Vc},Wk p w wd T d n u z->(∀i,i<wd d->I i%p=u i%p)->Wk p w wd T d n I z
 | 0,u,I,z,h,hu=>λi hi=>by rw[hu i hi,h i hi]
 | n+1,u,I,z,⟨y,h1,h2⟩,hu=>⟨y,K4 h1 hu,h2⟩
theorem mY(t:Vc)(u z:Nat->Vc) : ∀K,(∀j,j<K->Wk p w wd T d n (u j) (z j))->Wk p w wd T d n (λi=>sumTo (λj=>t j*u j i) K) λi=>sumTo (λj=>t j*z j i) K
 | 0,_=>YY n
 | K+1,h=>mZ n (t K) (mY t u z K λj I=>h j ⋯)<|h K ⋯
theorem lF(O:BarOk p w wd T m b)(S:k<m)(h1:b.has k=true)(h2:b.has (k+1)=true):Lk p w wd T k (b.v k) (b.v<|k+1):=by
 unfold Lk;cases hw:w k with
 | true=>
  have z:begR w k=k+1:=by unfold begR;rw[hw];rfl
  have I:endR w k=k:=by unfold endR;rw[hw];rfl
  rw[RY rfl];intro i hi;have:=O.arr k S (by rw[z];exact h2) i (by rw[I];exact hi);rw[z,I,h1,RY rfl]at this;exact this.symm
 | false=>
  have z:begR w k=k:=by unfold begR;rw[hw];rfl
  have I:endR w k=k+1:=by unfold endR;rw[hw];rfl
  rw[EQ ⋯];intro i hi;have:=O.arr k S (by rw[z];exact h1) i (by rw[I];exact hi);rw[z,I,h2,RY rfl]at this;exact this.symm
theorem Xv(z:BarOk p w wd T m b)(h1:b.has d=true) : ∀n,d+n<=m->b.has (d+n)=true->Wk p w wd T d n (b.v d) (b.v<|d+n)
 | 0,_,_=>λ_ _=>rfl
 | n+1,hn,h2=>by have I:b.has (d+n)=true:=has_iff.mpr (by have:=has_iff.mp h1;have:=has_iff.mp h2;omega);exact⟨_,Xv z h1 n ⋯ I,lF z ⋯ I h2⟩
theorem eO(I:BarOk p w wd T m b)(h1:b.has d=true)(hw:w (b.s+b.n - 1)=false) : ∀n,d+n<=m->b.has (d+n)=false->Wk p w wd T d n (b.v d) λ_=>0
 | 0,_,h2=>by rw[Nl,h1]at h2;cases h2
 | n+1,hn,h2=>by
  cases h3:b.has (d+n)with
  | false=>exact⟨_,eO I h1 hw n ⋯ h3,fj _⟩
  | true=>
   refine⟨_,Xv I h1 n ⋯ h3,?_⟩;have Y:=has_iff.mp h3;have Z : ¬(d+n+1<b.s+b.n):=λz=>by have:b.has (d+(n+1))=true:=has_iff.mpr ⋯;rw[this]at h2;cases h2
   have O:b.s+b.n - 1=d+n:=by omega
   rw[O]at hw;have S:begR w (d+n)=d+n:=by unfold begR;rw[hw];rfl
   have U:endR w (d+n)=d+n+1:=by unfold endR;rw[hw];rfl
   have:=I.arr (d+n) ⋯;rw[S,U]at this;unfold Lk;rw[hw,EQ ⋯];intro i hi;rw[this h3 i hi,show b.has (d+n+1)=false from h2];simp
theorem Jv(D:Decp p w wd T m N A) : ∀n,d+n<=m->∀{u z:Vc},Wk p w wd T d n u z->∀{a b:Vc},(∀i,i<wd d->u i%p=sumTo (λj=>if (A j).has d=true then a j*(A j).v d i else 0) N%p)->(∀i,i<wd (d+n)->z i%p=sumTo (λj=>if (A j).has (d+n)=true then b j*(A j).v (d+n) i else 0) N%p)->
 ∀j,j<N->(A j).has d=true->((A j).has (d+n)=true->a j%p=b j%p)/\((A j).has (d+n)=false->w ((A j).s+(A j).n - 1)=true->a j%p=0):=by
 have Z : ∀r,r<=m->∀{v:Vc} {a b:Vc},(∀i,i<wd r->v i%p=sumTo (λj=>if (A j).has r=true then a j*(A j).v r i else 0) N%p)->(∀i,i<wd r->v i%p=sumTo (λj=>if (A j).has r=true then b j*(A j).v r i else 0) N%p)->∀j,j<N->(A j).has r=true->a j%p=b j%p:=λr hr v a b h1 h2 j O S=>by
  have:=D.inj r hr (λj=>a j - b j) (λi hi=>by
   have e:sumTo (λj=>if (A j).has r=true then (a j - b j)*(A j).v r i else 0) N=sumTo (λj=>if (A j).has r=true then a j*(A j).v r i else 0) N+sumTo (λj=>(if (A j).has r=true then b j*(A j).v r i else 0)*(-1)) N:=by
    rw[<- jx];refine zy λj _=>?_;split
    ·rw[Int.sub_mul];omega
    ·simp
   rw[e,qG,GW,<- h1 i hi,Gi,<- h2 i hi,<- Gi,<- GW,show v i+v i * -1=0 by omega];simp) j O S
  exact IF.mpr this
 have a5 : ∀k,k<m->∀(c:Vc) (r r':Nat),r=begR w k->r'=endR w k->∀i,i<wd r'->app (T k) (wd r) (mxV p A N c r) i%p=sumTo (λj=>if (A j).has r'=true then (if (A j).has r=true then c j else 0)*(A j).v r' i else 0) N%p:=λk hk c r r' e1 e2 i hi=>by
  rw[eV];refine zK λj O=>?_;cases hx:(A j).has r with
  | false=>simp
  | true=>
   have q:=(D.ok j O).arr k hk (by rw[<- e1];exact hx) i (by rw[<- e2];exact hi);rw[<- e1,<- e2]at q;simp only[if_true];rw[Gi,q,<- Gi];cases hy:(A j).has r'<;>simp
 intro n
 induction n with
 | zero=>
  intro hn u z a0 a b ha Y j O S;refine⟨λ_=>Z d ⋯ ha (λi hi=>by rw[a0 i hi];exact Y i hi) j O S,λh=>?_⟩;rw[Nl,S]at h;cases h
 | succ n ih=>
  intro hn u z a0 a b ha Y j O S;obtain⟨y,h1,h2⟩:=a0;obtain⟨c,hc⟩:=D.sp (d+n) ⋯ y;obtain⟨i1,i2⟩:=ih ⋯ h1 ha hc j O S;have ad : ∀i,i<wd (d+n)->y i%p=mxV p A N c (d+n) i%p:=λi hi=>by rw[hc i hi];unfold mxV;rw[GG]
  have al : ∀i,i<wd (d+n+1)->z i%p=mxV p A N b (d+n+1) i%p:=λi hi=>by rw[Y i hi];unfold mxV;rw[GG];rfl
  have qd:=has_iff.mp S;cases hw:w (d+n)with
  | false=>
   have eb:begR w (d+n)=d+n:=by unfold begR;rw[hw];rfl
   have ee:endR w (d+n)=d+n+1:=by unfold endR;rw[hw];rfl
   unfold Lk at h2;rw[hw,EQ ⋯]at h2;have key:=Z (d+n+1) ⋯ (v:=z) Y (b:=λj=>if (A j).has (d+n)=true then c j else 0) λi hi=>by rw[h2 i hi,jF ad i];exact a5 (d+n) ⋯ c (d+n) (d+n+1) eb.symm ee.symm i hi
   refine⟨λh=>?_,λh U=>?_⟩
   ·have I:(A j).has (d+n)=true:=has_iff.mpr (by have:=has_iff.mp h;omega)
    have:=key j O h;rw[I,RY rfl]at this;rw[i1 I,this]
   ·cases I:(A j).has (d+n)with
    | false=>exact i2 I U
    | true=>
     have q3:=has_iff.mp I;have q2 : ¬(d+n+1<(A j).s+(A j).n):=λz=>by have:(A j).has (d+(n+1))=true:=has_iff.mpr ⋯;rw[this]at h;cases h
     rw[show(A j).s+(A j).n - 1=d+n by omega,hw]at U;cases U
  | true=>
   have eb:begR w (d+n)=d+n+1:=by unfold begR;rw[hw];rfl
   have ee:endR w (d+n)=d+n:=by unfold endR;rw[hw];rfl
   unfold Lk at h2;rw[hw,RY rfl]at h2;have key:=Z (d+n) ⋯ (v:=y) hc (b:=λj=>if (A j).has (d+n+1)=true then b j else 0) λi hi=>by rw[h2 i hi,jF al i];exact a5 (d+n) ⋯ b (d+n+1) (d+n) eb.symm ee.symm i hi
   refine⟨λh=>?_,λh U=>?_⟩
   ·have I:(A j).has (d+n)=true:=has_iff.mpr (by have:=has_iff.mp h;omega)
    have:=key j O I;rw[show(A j).has (d+n+1)=true from h,RY rfl]at this;rw[i1 I,this]
   ·cases I:(A j).has (d+n)with
    | false=>exact i2 I U
    | true=>
     have:=key j O I;rw[show(A j).has (d+n+1)=false from h,EQ ⋯]at this;rw[i1 I,this];simp
end
section
variable{p:Int}{n:Nat}
theorem mO{l:RZ} : ∀{r:Nat},(∀k m,k<m->m<r->l k<l m)->∃j,j<=r/\∀k,k<r->l k≠j
 | 0,_=>⟨0,Gh _,λk I=>absurd I<|GP _⟩
 | r+1,h=>by
  obtain⟨j,h1,h2⟩:=mO (r:=r) λk m a b=>h k m a ⋯;by_cases e:l r=j
  ·refine⟨r+1,Gh _,λk I=>?_⟩
   rcases GB k r with z | z
   ·have:=h k r z ⋯;omega
   ·rw[show k=r by omega];omega
  ·refine⟨j,by omega,λk I=>?_⟩
   rcases GB k r with z | z
   ·exact h2 k z
   ·rw[show k=r by omega];exact e
theorem Ap(hp:Pr p){h N:Nat}{f:RK}(inj : ∀t:Vc,(∀i,i<h->app f N t i%p=0)->∀j,j<N->t j%p=0):N<=h:=by
 rcases GB h N with a8 | a6
 ·exfalso
  obtain⟨r,hr,B,l,Y,hs⟩:=br (n:=N) hp h f;obtain⟨O,ac,a2⟩:=mO Y.mono;have a3:O<N:=by omega
  let t:Vc:=λj=>if j=O then 1 else sumTo (λk=>if l k=j then B k O*(-1)else 0) r;have t0:t O=1:=RY rfl;have tl : ∀k,k<r->t (l k)=B k O*(-1):=λk S=>by
   show(if l k=O then _ else _)=_;rw[EQ (a2 k S),zQ (f:=λI=>if l I=l k then B I O*(-1)else 0) S λI U Z=>by
    rw[EQ λe=>Z (by
     rcases Mb I k with z | z | z
     ·have:=Y.mono I k z S;omega
     ·exact z
     ·have:=Y.mono k I z U;omega)]]
   rw[RY rfl]
  have key : ∀k,k<r->sumTo (λj=>B k j*t j) N=0:=λk S=>by
   have e:sumTo (λj=>B k j*t j) N=sumTo (λj=>(if j=O then B k O else 0)+sumTo (λI=>if l I=j then B k (l I)*(B I O*(-1))else 0) r) N:=zy λj hj=>by
    by_cases z:j=O
    ·subst z
     rw[t0,RY rfl,zy (g:=λ_=>0) λI U=>EQ<|a2 I U,zN];simp
    ·show B k j*(if j=O then _ else _)=_
     rw[EQ z,EQ z,Int.zero_add,HF,<- qG];refine zy λI U=>?_;by_cases e:l I=j
     ·rw[RY e,RY e,<- e,HF]
     ·rw[EQ e,EQ e];simp
   rw[e,jx,zQ (f:=λj=>if j=O then B k O else 0) a3<|λj _ Z=>EQ Z,RY rfl,qF];have e2:sumTo (λI=>sumTo (λj=>if l I=j then B k (l I)*(B I O*(-1))else 0) N) r=sumTo (λI=>B k (l I)*(B I O*(-1))) r:=zy λI U=>by rw[zQ (f:=λj=>if l I=j then B k (l I)*(B I O*(-1))else 0) (Y.lt I U) λj _ Z=>EQ<|GN Z,RY rfl]
   rw[e2,zQ (f:=λI=>B k (l I)*(B I O*(-1))) S λI U Z=>by rw[Y.oth k I S U Z];simp];rw[Y.one k S];omega
  have:=inj t (λi hi=>by
   have c:=v9 Y<|(hs<|f i).mpr (.gen ⟨i,hi,rfl⟩);unfold app;have e:sumTo (λj=>f i j*t j) N%p=sumTo (λj=>sumTo (λk=>f i (l k)*B k j) r*t j) N%p:=zK λj hj=>by rw[Gi,c j hj,<- Gi]
   rw[e];have e2:sumTo (λj=>sumTo (λk=>f i (l k)*B k j) r*t j) N=sumTo (λk=>f i (l k)*sumTo (λj=>B k j*t j) N) r:=by rw[zy (g:=λj=>sumTo (λk=>f i (l k)*B k j*t j) r) λj _=>(qG _ _ _).symm,qF];refine zy λk _=>?_;rw[<- jo];exact zy λj _=>HB _ _ _
   rw[e2,zy (g:=λ_=>0) λk S=>by rw[key k S,MC],zN];simp) O a3
  rw[t0,hp.one]at this;cases this
 ·exact a6
theorem QA(W:Nat->Vc)(t:Vc):Span p n (Fam m W) λi=>sumTo (λj=>t j*W j i) m:=Span.sum (u:=W) t λj z=> .gen ⟨j,z,rfl⟩
theorem AA(z:Pr p)(I:IsB p n s B l)(sp : ∀v,Span p n (Fam s B) v↔Span p n (Fam m W) v)(O : ∀t:Vc,(∀i,i<n->sumTo (λj=>t j*W j i) m%p=0)->∀j,j<m->t j%p=0):m=s:=by
 have h1:s<=m:=by obtain⟨r,Z,S⟩:=br (n:=n) z m W;have:=yF z (m:=m) (W:=W) ⟨B,l,I,sp⟩ S;omega
 have hs:s<=n:=Zo I;have h2:m<=s:=Ap z (f:=λi j=>W j<|l i) λt U=>O t λi hi=>by
  have c:=v9 I ((sp _).mpr (QA (n:=n) W t)) i hi;rw[c];have:sumTo (λk=>sumTo (λj=>t j*W j (l k)) m*B k i) s%p=sumTo (λ_=>0) s%p:=zK λk Y=>by have:=U k Y;unfold app at this;rw[qH]at this;rw[Gi,this];simp
  rw[this,zN];simp
 omega
theorem lh(hp:Pr p){s q c:Nat}{B B2 V:Nat->Vc}{l l2:RZ}(hX:IsB p n s B l)(S:IsB p n q B2 l2)(a4 : ∀j,j<c->Span p n (Fam s B) (V j))(KX : ∀v,Span p n (Fam q B2) v->Span p n (Fam s B) v)
 (spX : ∀v,Span p n (Fam s B) v->∃t:Vc,Span p n (Fam q B2) λi=>v i - sumTo (λj=>t j*V j i) c) (a6 : ∀t:Vc,Span p n (Fam q B2) (λi=>sumTo (λj=>t j*V j i) c)->∀j,j<c->t j%p=0):q+c=s:=by
 let W:Nat->Vc:=λj=>if j<q then B2 j else V (j - q);have w1 : ∀j,j<q->W j=B2 j:=λj I=>RY I;have w2 : ∀j,W (q+j)=V j:=λj=>by show(if q+j<q then _ else _)=_;rw[EQ ⋯,Hf]
 have Z : ∀t:Vc,∀i,sumTo (λj=>t j*W j i) (q+c)=sumTo (λj=>t j*B2 j i) q+sumTo (λj=>t (q+j)*V j i) c:=λt i=>by
  rw[yL];congr 1
  ·exact zy λj I=>by rw[w1 j I]
  ·exact zy λj I=>by rw[w2 j]
 refine AA hp hX (W:=W) (λv=>⟨λU=>?_,λU=>U.le λg Y=>?_⟩) λt ht=>?_
 ·obtain⟨t,h⟩:=spX v U
  have h1:Span p n (Fam (q+c) W) λi=>v i - sumTo (λj=>t j*V j i) c:=h.le λg Y=>by obtain⟨k,O,rfl⟩:=Y;rw[<- w1 k O];exact .gen ⟨k,by omega,rfl⟩
  have h2:Span p n (Fam (q+c) W) λi=>sumTo (λj=>t j*V j i) c:=Span.sum t λj I=>by rw[<- w2 j];exact .gen ⟨q+j,by omega,rfl⟩
  exact(h2.add h1 1).congr λi _=>by rw[Ln,Int.sub_add_cancel]
 ·obtain⟨k,O,rfl⟩:=Y
  rcases GB k q with z | z
  ·rw[w1 k z];exact KX _<|.gen ⟨k,z,rfl⟩
  ·obtain⟨j,rfl⟩ : ∃j,k=q+j:=⟨k - q,by omega⟩
   rw[w2 j];exact a4 j ⋯
 ·have hz : ∀j,j<c->t (q+j)%p=0:=a6 (λj=>t<|q+j) ((QA (n:=n) B2 λj=> -1*t j).congr λi hi=>by
   have:=ht i hi;rw[Z]at this;have e:sumTo (λj=> -1*t j*B2 j i) q=sumTo (λj=>t j*B2 j i) q * -1:=by rw[<- qG];exact zy λj _=>by rw[HF (-1),HB,HF (-1),HB]
   rw[e];refine IF.mpr ?_;rw[<- this];congr 1;omega)
  intro j I;rcases GB j q with z | z
  ·have h0 : ∀i,i<n->sumTo (λj=>t j*B2 j i) q%p=0:=λi hi=>by
    have:=ht i hi;rw[Z,GW]at this;have e:sumTo (λj=>t (q+j)*V j i) c%p=sumTo (λ_=>0) c%p:=zK λj I=>by rw[Gi,hz j I];simp
    rw[e,zN]at this;simpa using this
   have h1:=h0 (l2 j)<|S.lt j z;rw[zQ (f:=λk=>t k*B2 k (l2 j)) z λk O a8=>by rw[S.oth k j O z (GN a8)];simp]at h1;rw[S.one j z,NH]at h1;exact h1
  ·obtain⟨k,rfl⟩ : ∃k,j=q+k:=⟨j - q,by omega⟩
   exact hz k ⋯
end
def cvL(A:Nat->Bar)(N d e:Nat):List Nat:=(Ga N).filter λj=>(A j).has d && (A j).has e
section
variable{p:Int}{w:RX}{wd:RZ}{T:RV}{m N n:Nat}{A:Nat->Bar}{d:Nat}
theorem dW(z:k<(cvL A N d e).length):(cvL A N d e).getD k 0<N/\(A<|(cvL A N d e).getD k 0).has d=true/\(A<|(cvL A N d e).getD k 0).has e=true:=by
 have hm:(cvL A N d e).getD k 0∈cvL A N d e:=by rw[Gj,Gd z];exact Lc _
 obtain⟨h1,h2⟩:=GT.mp hm;simp only[Gs]at h2;exact⟨Gc.mp h1,h2.1,h2.2⟩
theorem AE(D:Decp p w wd T m N A)(hd:d<=m)(e:Nat):(cvL A N d e).length<=wd d:=by rw[<- D.cnt d hd];unfold cvL ixs;rw[<- Hl,<- Hl];exact List.countP_mono_left λj _ h=>by simp only[Gs]at h;exact h.1
theorem lx(d e:Nat)(t:Vc) : ∃a:Vc,∀k,k<(cvL A N d e).length->a ((cvL A N d e).getD k 0)=t k:=by refine⟨λj=>t<|(cvL A N d e).idxOf j,λk z=>?_⟩;have nd:(cvL A N d e).Nodup:=NV.sublist Ny;show t _=_;rw[Gj,Gd z,MM,nd.idxOf_getElem _ z]
theorem dU(d e:Nat)(a:Vc)(i:Nat):sumTo (λk=>a ((cvL A N d e).getD k 0)*(A<|(cvL A N d e).getD k 0).v d i) (cvL A N d e).length=sumTo (λj=>if (A j).has d=true then (if (A j).has e=true then a j else 0)*(A j).v d i else 0) N:=by have:=yh (λj=>(A j).has d && (A j).has e) (λj=>a j*(A j).v d i) N;refine this.trans<|zy λj _=>?_;cases (A j).has d<;>cases (A j).has e<;>simp
theorem iG(hp:Pr p)(D:Decp p w wd T m N A)(hd:d+n<=m){s q:Nat}{B B2:Nat->Vc}{l l2:RZ}(hX:IsB p (wd d) s B l)(S : ∀u,Span p (wd d) (Fam s B) u ↔ ∃z,Wk p w wd T d n u z)
 (hK:IsB p (wd d) q B2 l2) (U : ∀u,Span p (wd d) (Fam q B2) u↔Wk p w wd T d n u λ_=>0):q+(cvL A N d<|d+n).length=s:=by
 have hc:=AE D (show d<=m by omega)<|d+n;have hq:=Zo hK;refine lh hp hX hK (V:=λk=>(A<|(cvL A N d<|d+n).getD k 0).v d) (λk I=>?_) (λv Y=>(S v).mpr ⟨_,(U v).mp Y⟩) (λv Y=>?_) λt ht=>?_
 ·obtain⟨h1,h2,O⟩:=dW I
  exact(S _).mpr ⟨_,Xv (D.ok _ h1) h2 n hd O⟩
 ·obtain⟨z,Z⟩:=(S v).mp Y
  obtain⟨a,ha⟩:=D.sp d ⋯ v;obtain⟨b,hb⟩:=D.sp (d+n) hd z;have a0:=Jv D n hd Z ha hb;refine⟨λk=>a<|(cvL A N d<|d+n).getD k 0,(U _).mpr ?_⟩;let u:Nat->Vc:=λj=>if (A j).has d=true/\(A j).has (d+n)=false/\w ((A j).s+(A j).n - 1)=false then (A j).v d else λ_=>0;have hu : ∀j,j<N->Wk p w wd T d n (u j) λ_=>0:=λj hj=>by
   show Wk p w wd T d n (if _ then _ else _) _;split
   ·next h=>exact eO (D.ok j hj) h.1 h.2.2 n hd h.2.1
   ·exact YY n
  have hs:=mY a u (λ_ _=>0) N hu;refine EG (K4 hs λi hi=>?_) λi _=>by simp[zN]
  rw[dU d (d+n) a i];rw[IC,ha i hi,<- IC];have e:sumTo (λj=>if (A j).has d=true then a j*(A j).v d i else 0) N - sumTo (λj=>if (A j).has d=true then (if (A j).has (d+n)=true then a j else 0)*(A j).v d i else 0) N=sumTo (λj=>(if (A j).has d=true then a j*(A j).v d i else 0)+(if (A j).has d=true then (if (A j).has (d+n)=true then a j else 0)*(A j).v d i else 0) * -1) N:=by rw[jx,qG];omega
  rw[e];refine zK λj hj=>?_;show _=a j*(if _ then (A j).v d else λ_=>0) i%p;cases h1:(A j).has d with
  | false=>simp
  | true=>
   cases h2:(A j).has (d+n)with
   | true=>
    have e0:a j*(A j).v d i+a j*(A j).v d i * -1=0:=by omega
    simp only[if_true,e0,Bool.true_eq_false,false_and,and_false,if_false,MC]
   | false=>
    cases O:w ((A j).s+(A j).n - 1)with
    | false=>simp
    | true=>
     have:=(a0 j hj h1).2 h2 O;simp only[if_true,Il,if_false,Lm,Lo,MC,Bool.true_eq_false,and_false];rw[Gi,this];simp
 ·obtain⟨a,ha⟩:=lx (A:=A) (N:=N) d (d+n) t
  have Z:=(U _).mp ht;have a0:=Jv D n hd Z (a:=λj=>if (A j).has (d+n)=true then a j else 0) (b:=λ_=>0) (λi hi=>by
   rw[<- dU d (d+n) a i];congr 1;exact zy λk I=>by rw[ha k I]) (λi _=>by
   have:sumTo (λj=>if (A j).has (d+n)=true then 0*(A j).v (d+n) i else 0) N=sumTo (λ_=>0) N:=zy λj _=>by simp
   rw[this,zN])
  intro k I;obtain⟨h1,h2,O⟩:=dW I;have:=(a0 _ h1 h2).1 O;rw[O,RY rfl,ha k I]at this;simpa using this
theorem QS : ∀(t:Nat) (z:Vc),V8 p w wd T d (wd d) t z↔Wk p w wd T d t z λx=>z (wd d+x)
 | 0,z=>Iff.rfl
 | t+1,z=>by
  have e : ∀u:Vc,V8 p w wd T d (wd d) t (j5 (wd d) z u)↔Wk p w wd T d t z u:=λu=>by rw[QS t];have e1:(λx=>j5 (wd d) z u<|wd d+x)=u:=funext λx=>ja x;rw[e1];exact⟨λh=>K4 h λi hi=>by rw[zT hi],λh=>K4 h λi hi=>by rw[zT hi]⟩
  show(∃u:Vc,V8 p w wd T d (wd d) t (j5 (wd d) z u)/\Stp p w wd T (d+t) u λx=>z<|wd d+x) ↔ ∃y,Wk p w wd T d t z y/\Lk p w wd T (d+t) y λx=>z<|wd d+x;exact exists_congr λu=>and_congr (e u) Iff.rfl
end
section
variable{p:Int}{w:RX}{wd:RZ}{T:RV}{m N:Nat}{A:Nat->Bar}
theorem iI(r:Nat)(t:Vc) : ∃a:Vc,∀k,k<(ixs A N r).length->a ((ixs A N r).getD k 0)=t k:=by refine⟨λj=>t<|(ixs A N r).idxOf j,λk z=>?_⟩;show t _=_;rw[Gj,Gd z,MM,(cQ A N r).idxOf_getElem _ z]
theorem cP(r:Nat)(a:Vc)(i:Nat):sumTo (λj=>if (A j).has r=true then a j*(A j).v r i else 0) N=app (wc A N r) (ixs A N r).length (λk=>a<|(ixs A N r).getD k 0) i:=by have:=yh (λj=>(A j).has r) (λj=>a j*(A j).v r i) N;rw[<- this];unfold app;rw[qH];rfl
theorem Ai(z:j<N)(I:(A j).has r=true) : ∃k,k<(ixs A N r).length/\(ixs A N r).getD k 0=j:=by have O:j∈ixs A N r:=GT.mpr ⟨Gc.mpr z,by simpa using I⟩;obtain⟨i,hi,e⟩:=Mo O;exact⟨i,hi,by rw[Gj,Gd hi];simpa using e⟩
theorem rj(U:Pr p)(Y : ∀k,wd k<=8)(ok : ∀j,j<N->BarOk p w wd T m (A j))(cnt : ∀r,r<=m->(ixs A N r).length=wd r)(S : ∀r,r<=m->∀v:Vc,∃t,∀i,i<wd r->v i%p=app (wc A N r) (wd r) t i%p):Decp p w wd T m N A where
 ok:=ok
 cnt:=cnt
 sp:=λr z v=>by obtain⟨t,I⟩:=S r z v;obtain⟨a,ha⟩:=iI (A:=A) (N:=N) r t;refine⟨a,λi hi=>?_⟩;rw[I i hi,cP,cnt r z];unfold app;congr 1;exact zy λk O=>by show _=_*a _;rw[ha k (by rw[cnt r z];exact O)]
 inj:=λr z t I j Z hh=>by
  obtain⟨k,O,e⟩:=Ai Z hh;have:=yI U (Y r) (S r z) (t:=λk=>t<|(ixs A N r).getD k 0) (λi hi=>by have:=I i hi;rw[cP,cnt r z]at this;exact this) k (by rw[<- cnt r z];exact O)
  rw[e]at this;exact this
end
section
variable{p:Int}{w:RX}{wd:RZ}{T f g:RV}{m N:Nat}{A:Nat->Bar}
theorem YT(F G:RK)(n k:Nat)(u:Vc)(i:Nat):app F n (app G k u) i=sumTo (λj=>sumTo (λb=>F i b*G b j) n*u j) k:=by
 unfold app;have e:sumTo (λb=>F i b*sumTo (λj=>G b j*u j) k) n=sumTo (λb=>sumTo (λj=>F i b*G b j*u j) k) n:=zy λb _=>by rw[<- jo];exact zy λj _=>(HB _ _ _).symm
 rw[e,qF];exact zy λj _=>qG _ _ _
theorem wH(h:Undo p n F G)(u:Vc)(hi:i<n):app F n (app G n u) i%p=u i%p:=by
 rw[YT];have e:sumTo (λj=>sumTo (λb=>F i b*G b j) n*u j) n%p=sumTo (λj=>dlt i j*u j) n%p:=zK λj z=>by rw[Gi,h i j hi z,<- Gi]
 rw[e,zQ (f:=λj=>dlt i j*u j) hi λj _ I=>by unfold dlt;rw[EQ (GN I),Lm]];unfold dlt;rw[RY rfl,Ln]
theorem fT(k:Nat)(u:Vc)(i:Nat):app (qq p w wd f g T k) (wd<|begR w k) u i%p=app (f<|endR w k) (wd<|endR w k) (app (T k) (wd<|begR w k)<|app (g<|begR w k) (wd<|begR w k) u) i%p:=by
 rw[YT];show _=app (λi b=>sumTo (λa=>f (endR w k) i a*T k a b)<|wd<|endR w k) (wd<|begR w k) (app (g<|begR w k) (wd<|begR w k) u) i%p;rw[YT];have e:app (qq p w wd f g T k) (wd<|begR w k) u i%p=sumTo (λj=>sumTo (λb=>sumTo (λa=>f (endR w k) i a*T k a b) (wd<|endR w k)*g (begR w k) b j) (wd<|begR w k)*u j) (wd<|begR w k)%p:=by
  unfold app;refine zK λj _=>?_;rw[Gi];have z:qq p w wd f g T k i j%p=sumTo (λb=>sumTo (λa=>f (endR w k) i a*T k a b) (wd<|endR w k)*g (begR w k) b j) (wd<|begR w k)%p:=by unfold qq;rw[GG];refine zK λb _=>?_;rw[Gi,GG,<- Gi,HF,zy (g:=λa=>f (endR w k) i a*T k a b) λa _=>HF _ _]
  rw[z,<- Gi]
 exact e
def XM(p:Int)(wd:RZ)(f:RV)(x:Bar):Bar:=⟨x.s,x.n,λr i=>app (f r) (wd r) (x.v r) i%p⟩
theorem w4(x:Bar)(r i:Nat):(XM p wd f x).v r i%p=app (f r) (wd r) (x.v r) i%p:=GG _ _
theorem sG(q:RX)(t:Vc)(F:RK)(n r i:Nat)(X:Nat->Bar):sumTo (λj=>if q j=true then t j*app F n ((X j).v r) i else 0) N=app F n (λi=>sumTo (λj=>if q j=true then t j*(X j).v r i else 0) N) i:=by
 have e1:(λi=>sumTo (λj=>if q j=true then t j*(X j).v r i else 0) N)=λi=>sumTo (λj=>(if q j=true then t j else 0)*(X j).v r i) N:=by funext i;exact zy λj _=>by split<;>simp
 rw[e1,ye F n (λj=>if q j=true then t j else 0) (λj=>(X j).v r) N i];exact zy λj _=>by split<;>simp
theorem aD(hp:0<p)(fg : ∀r,r<=m->Undo p (wd r) (f r) (g r))(gf : ∀r,r<=m->Undo p (wd r) (g r) (f r))(D:Decp p w wd T m N A):Decp p w wd (qq p w wd f g T) m N λj=>XM p wd f (A j):=by
 have md : ∀z:Int,0<=z%p/\z%p<p:=λz=>⟨GU _ ⋯,GH _ hp⟩;have Z : ∀r i (t:Vc),sumTo (λj=>if (A j).has r=true then t j*(XM p wd f<|A j).v r i else 0) N%p=app (f r) (wd r) (λi=>sumTo (λj=>if (A j).has r=true then t j*(A j).v r i else 0) N) i%p:=λr i t=>by
  rw[<- sG (λj=>(A j).has r) t (f r) (wd r) r i A];refine zK λj _=>?_;split
  ·rw[Gi,w4,<- Gi]
  ·rfl
 refine⟨λj O=>?_,λr I v=>?_,λr I t S j O U=>?_,D.cnt⟩
 ·have b:=D.ok j O
  refine⟨b.n1,b.le,λr i _ _=>md _,λk hk U i hi=>?_⟩;have a3:begR w k<=m:=by have:=eJ w hk;omega
  have Y:(A j).has (begR w k)=true:=U;rw[fT];have e1 : ∀x,x<wd (begR w k)->app (g<|begR w k) (wd<|begR w k) ((XM p wd f<|A j).v (begR w k)) x%p=(A j).v (begR w k) x%p:=λx hx=>by rw[jF (u:=app (f<|begR w k) (wd<|begR w k)<|(A j).v (begR w k)) (λy _=>w4 _ _ _),wH (gf _ a3) _ hx]
  have e2 : ∀x,x<wd (endR w k)->app (T k) (wd<|begR w k) (app (g<|begR w k) (wd<|begR w k)<|(XM p wd f<|A j).v (begR w k)) x%p=(if (A j).has (endR w k)=true then (A j).v (endR w k) x else 0)%p:=λx hx=>by rw[jF (u:=(A j).v (begR w k)) e1];exact b.arr k hk Y x hx
  rw[jF e2];show _=(if (A j).has (endR w k)=true then (XM p wd f<|A j).v (endR w k) i else 0)%p;by_cases hx:(A j).has (endR w k)=true
  ·simp only[hx,if_true]
   exact(w4 _ _ _).symm
  ·simp only[hx,if_false]
   rw[yq (λ_ _=>by simp) i];simp
 ·obtain⟨t,S⟩:=D.sp r I (app (g r) (wd r) v)
  refine⟨t,λi hi=>?_⟩;show _=sumTo (λj=>if (A j).has r=true then t j*(XM p wd f<|A j).v r i else 0) N%p;rw[Z,<- wH (fg r I) v hi];exact jF S i
 ·have Y:(A j).has r=true:=U
  refine D.inj r I t (λi hi=>?_) j O Y;have z : ∀x,x<wd r->app (f r) (wd r) (λi=>sumTo (λj=>if (A j).has r=true then t j*(A j).v r i else 0) N) x%p=0:=λx hx=>by rw[<- Z];exact S x hx
  rw[<- wH (gf r I) (λi=>sumTo (λj=>if (A j).has r=true then t j*(A j).v r i else 0) N) hi];exact yq z i
end
def kp1:=jk 3<|jR<|jE V9<|zb (zc 0)<|zb (zc 1)<|zb (zc 2) zF
def kp2:=jk 4<|sIx (zO<|sIx (zh 0)<|zq<|.int 1)<|zc 1
def kp3:=jk 5<|sIx (zO<|sIx (zh 0)<|zq<|.int 1)<|zc 2
def kp4:=jk 6<|jR<|jE qk<|zb (sIx (zh 0)<|zq<|.int 0)<|zb (zv ju (zc 5)<|zc 4)<|zb (jR<|zH (zJ<|zh 3) (.nm 0) 1 [4] z6 (zv ju (K8 (zc 0) (sBd<|zc 1) Vj)<|K8 (zc 0) Vj<|sBd<|zc 1)) zF
def kp5:=qW<|zv wt (zv wt (Jk<|zh 3)<|Jk<|jQ<|jE jK<|zb (zc 5)<|zb (zc 6) zF)<|Jk<|jQ<|jE jK<|zb (zc 4)<|zb (zc 3) zF
def vD:=js 7<|zI kp1<|zI kp2<|zI kp3<|zI kp4 kp5
def no1:=jk 3<|zv ju (Yf (zc 0) (j3<|zb (zv wt (zc 1)<|zq<|.int 1)<|zb (zc 2) zF)<|zq<|.int 0)<|Yf (zc 0) (j3<|zb (zc 1)<|zb (zv ju (zc 2)<|zq<|.int 1) zF)<|zq<|.int 0
def no2:=qW<|zv ju (zv wt (oj (zc 0)<|j3<|zb (zc 1)<|zb (zc 2) zF)<|zc 3)<|Yf (zc 0) (j3<|zb (zv wt (zc 1)<|zq<|.int 1)<|zb (zv ju (zc 2)<|zq<|.int 1) zF)<|zq<|.int 0
def xE:=js 4<|zI no1 no2
def nm1:=jk 1<|jR<|jE kc<|zb (Jk<|zO<|sIx (zh 0)<|zq<|.int 1) zF
def nm2:=jk 2<|Vl<|zH (zJ<|zh 1) (.tp [0,1]) 2 [0] z6 (j3<|zb (j3<|zb (zc 0)<|zb (zc 1) zF)<|zb (zG vD<|zb (zc 2)<|zb (zc 0)<|zb (zc 1) zF) zF)
def nm3:=qW<|Vl<|zH (zJ<|zh 1) (.tp [0,1]) 2 [2] z6 (j3<|zb (j3<|zb (zc 0)<|zb (zc 1) zF)<|zb (zG xE<|zb (zc 2)<|zb (zc 0)<|zb (zc 1) zF) zF)
def qz:=js 3<|zI nm1<|zI nm2 nm3
def Ar:CO D:=jR<|jE qA<|zb (zc 2)<|zb (zv ju (zc 3)<|zv qm (zq<|.int 20)<|zc 0)<|zb (sIx (zh 4)<|zq<|.int 0)<|zb (zc 1) zF
def VP:=jk 3<|jR<|zH (QE<|sIx (zh 2)<|zq<|.int 1) (.tp [0,1]) 2 [0,1,2] z6 Ar
def dc:=qW<|zG qf<|zb (zc 2)<|zb (jR<|zH (zJ<|zh 3) (.nm 0) 1 [] z6 (sIx (zh 0)<|zq<|.int 0))<|zb (jR<|zH (zJ<|zh 3) (.nm 0) 1 [] z6 (sIx (zh 0)<|zq<|.int 1)) zF
def xU:=js 4<|zI VP dc
def nE:=jk 1<|zv ju (zq<|.int 1)<|zv jV (zG zR<|zb (zc 0)<|zb (zq<|.int 0) zF)<|zq<|.int 5
def si:=jk 2<|zG qB<|zb (zc 0)<|zb (zq<|.int 1)<|zb (zc 1)<|zb (zq<|.int 3) zF
def nD:=jk 3<|zG xU<|zb (zc 0)<|zb (zq<|.int 80)<|zb (zc 2) zF
def nC:=jk 4<|zG qz<|zb (zc 2) zF
def ny:CO D:=zv yb (zv qm (zc 1)<|zv ju (zc 1)<|zq<|.int 1)<|zq<|.int 2
def fN:CO Bool:=Wr (ke<|sB<|lZ<|zc 4)<|Wr (sB<|zv AC (zG qz<|zb (zc 3) zF)<|zc 4)<|sB<|zv dNe (aZ<|zc 4) ny
def nB:=sIf fN (qW<|zq<|.bl false) qT
def nA:=jk 5<|jR<|kf<|zb (sIx (zO<|zG yw<|zb (zc 2) zF)<|zq<|.int 0)<|zb (sIx (zO<|zG yw<|zb (zc 3) zF)<|zq<|.int 0) zF
def Va:CO D:=Yh (zO<|sIx (zh 5)<|zq<|.int 0)<|j3<|zb (zc 6)<|zb (zc 7) zF
def Y9:CO D:=Yh (zO<|sIx (zh 5)<|zq<|.int 1)<|j3<|zb (zc 6)<|zb (zc 7) zF
def XG:=jk 8<|Yf (zc 4) (j3<|zb (zc 6)<|zb (zc 7) zF)<|rX<|zq<|.int 1
def K9:=sIf (Wr (ke<|sB<|zG qN<|zb (zc 8) zF)<|Wr (sB<|zv dNe (zc 8) Va)<|sB<|zv dNe (zc 8) Y9) (qW<|zq<|.bl false) qT
def fO:CO (List D):=zH (zU<|zc 1) (.nm 0) 1 [2] z6 (zG vD<|zb (zc 1)<|zb (zc 0)<|zb (zc 0) zF)
def sh:=qW<|zv dEq (jR fO)<|jR<|QD<|zO<|sIx (zh 2)<|zq<|.int 1
def F_law_k31:=js 9<|zI nE<|zI si<|zI nD<|zI nC<|zI nB<|zI nA<|zI (yJ (zU<|zc 1) (.nm 6)<|yJ (xX (zc 6)<|zc 1) (.nm 7)<|zI XG K9) sh
section
variable{p:Int}{ns:List Int}
def j4(h w:Nat)(f:RK):List (List D):=(Ga h).map λi=>zE w<|f i
@[simp] theorem uY(h w f):(j4 h w f).length=h:=by simp[j4]
theorem vW(f)(hi:i<(j4 h w f).length):(j4 h w f)[i]=zE w (f i):=by simp[j4]
theorem cn(f:RK)(hi:i<h)(z:j<w)(x:Int):(j4 h w f).set i ((zE w<|f i).set j (.int x))=j4 h w λa b=>if a=i/\b=j then x else f a b:=by
 rw[JZ z (f i) (λb=>if b=j then x else f i b) x ⋯ (λb _ I=>by simp[I])];apply Ie;intro a;rw[Iw];by_cases ha:a<h
 ·by_cases e:i=a
  ·subst e
   simp[j4,ha]
  ·simp[j4,ha,e,GN e]
 ·have O:(j4 h w f)[a]? = none:=by simp[j4];omega
  have l2 : ∀f',(j4 h w f')[a]? = none:=λf'=>by simp[j4];omega
  rw[O,l2,EQ ⋯]
theorem cp(f:RK)(hi:i<h)(v:Vc):(j4 h w f).set i (zE w v)=j4 h w λa b=>if a=i then v b else f a b:=by
 apply Ie;intro a;rw[Iw];by_cases ha:a<h
 ·by_cases e:i=a
  ·subst e
   simp[j4,ha]
  ·simp[j4,ha,e]
   refine xl λb _=>?_;rw[EQ λz=>e z.symm]
 ·have I:(j4 h w f)[a]? = none:=by simp[j4];omega
  have l2 : ∀f',(j4 h w f')[a]? = none:=λf'=>by simp[j4];omega
  rw[I,l2,EQ ⋯]
def EO:=(zI (jk 13<|zG zR<|zb (zc 0)<|zb (zv ju (zv ju (zv ju (zc 1)<|zq<|.int 14)<|zv qm (zq<|.int 12)<|zc 7)<|zc 12) zF)<|sIf (sB<|zv dGt (zv qm (zc 9)<|zc 10)<|zq<|.int 0) (Wq 11 (zv jV (zc 13)<|zc 10) (zv jV (zv yb (zc 13)<|zq<|.int 8)<|zc 9)<|zv jV (zv yb (zc 13)<|zq<|.int 64)<|zc 4) qT)
def yP(ns:List Int)(p:Int)(z I c5 c6 c8:Cell)(k h w:Nat)(f:RK)(O S:Cell):Ctx:=
 [.val (qC ns),.val<|.int 1,z,I,.val<|.int p,c5,c6,.val<|.int k,c8,.val<|.int w,.val<|.int h,.nest<|j4 h w f,O,S]
theorem uf(a3:ns.length<=63)(hp:Pr p){k h w s:Nat}(hk:k<=10)(hs:s<=100)(hh:h<=8)(hw:w<=8){f:RK}(Y : ∀i j,0<=f i j/\f i j<p)(I O c5 c6 c8 Z:Cell) :
 ∃f' x,(∀i j,0<=f' i j/\f' i j<p)/\EO (yP ns p I O c5 c6 c8 k h w f (.val<|.int s) Z)=some (.next<|yP ns p I O c5 c6 c8 k h w f' (.val<|.int s)<|.val<|.int x):=by
 obtain⟨e1,a1,b1⟩:=wb a3 (k:=1+14+12*(k:Int)+(s:Int)) ⋯ ⋯;generalize vi ns (1+14+12*(k:Int)+(s:Int))=z at e1 a1 b1;have p0:=hp.pos;have x1:jk 13 (zG zR<|zb (zc 0)<|zb (zv ju (zv ju (zv ju (zc 1)<|zq<|.int 14)<|zv qm (zq<|.int 12)<|zc 7)<|zc 12) zF) (yP ns p I O c5 c6 c8 k h w f (.val<|.int s) Z)=some (.next<|yP ns p I O c5 c6 c8 k h w f (.val<|.int s)<|.val<|.int z):=by have m1:wy 12 (k:Int)=true:=kW _ _ ⋯ ⋯;rw[show(1+14+12*(k:Int)+(s:Int))=15+12*(k:Int)+(s:Int)by omega]at e1;simp[yP,m1,e1]
 by_cases hz:h=0\/w=0
 ·refine⟨f,z,Y,zw x1 ?_⟩
  have S:wy (w:Int) (h:Int)=true:=wu _ _ ⋯ ⋯;have U : ¬((0:Int)<(w:Int)*(h:Int)):=by rcases hz with rfl | rfl<;>simp
  simp[yP,S,U]
 ·have h0:0<h:=by omega
  have w0:0<w:=by omega
  obtain⟨i,ei,hi⟩ : ∃i:Nat,z%(h:Int)=i/\i<h:=by obtain⟨a,ha⟩:=IG (GU z<|show(h:Int)≠0 by omega);have:=GH z (show(0:Int)<h by omega);exact⟨a,ha,by omega⟩
  obtain⟨j,ej,hj⟩ : ∃j:Nat,z/8%(w:Int)=j/\j<w:=by obtain⟨a,ha⟩:=IG (GU (z/8)<|show(w:Int)≠0 by omega);have:=GH (z/8) (show(0:Int)<w by omega);exact⟨a,ha,by omega⟩
  refine⟨λa b=>if a=i/\b=j then z/64%p else f a b,z,λa b=>?_,zw x1 ?_⟩
  ·dsimp only
   split
   ·exact⟨GU _ ⋯,GH _ p0⟩
   ·exact Y a b
  ·have S:wy (w:Int) (h:Int)=true:=wu _ _ ⋯ ⋯
   have U:(0:Int)<(w:Int)*(h:Int):=Int.mul_pos ⋯ ⋯;have as:(0:Int)<(h:Int):=by omega
   have ax:(0:Int)<(w:Int):=by omega
   have r1:QG 11 (zv jV (zc 13)<|zc 10) (yP ns p I O c5 c6 c8 k h w f (.val<|.int s)<|.val<|.int z)=some (j4 h w f,i,zE w<|f i):=by unfold QG;simp[yP,qR,h0,ei,hi,vW]
   have r2:Wq 11 (zv jV (zc 13)<|zc 10) (zv jV (zv yb (zc 13)<|zq<|.int 8)<|zc 9) (zv jV (zv yb (zc 13)<|zq<|.int 64)<|zc 4) (yP ns p I O c5 c6 c8 k h w f (.val<|.int s)<|.val<|.int z)=some (.next<|yP ns p I O c5 c6 c8 k h w (λa b=>if a=i/\b=j then z/64%p else f a b) (.val<|.int s)<|.val<|.int z):=by unfold Wq;rw[r1];simp[yP,p0,w0,ej,hj];rw[cn f hi hj]
   have t1:sB (zv dGt (zv qm (zc 9)<|zc 10)<|zq<|.int 0) (yP ns p I O c5 c6 c8 k h w f (.val<|.int s)<|.val<|.int z)=some true:=by simp[yP,S,U]
   rw[rQ,t1];exact r2
end
def lO:=jk 8<|zG zR<|zb (zc 0)<|zb (zv ju (zv ju (zc 1)<|zq<|.int 8)<|zc 7) zF
def lN:=jk 9<|sIx (zh 5)<|zv ju (zc 7)<|zv jV (zc 8)<|zq<|.int 2
def lM:=jk 10<|sIx (zh 5)<|zv wt (zv ju (zc 7)<|zq<|.int 1)<|zv jV (zc 8)<|zq<|.int 2
def lJ:=Ye 11<|yO (zU<|zc 10) (.nm 0) 1 [9] (zH (zU<|zc 1) (.nm 0) 1 [] z6 (zq<|.int 0))
def rT:=yJ (zU<|zv ju (zv jV (zv yb (zc 8)<|zq<|.int 2)<|zv ju (zv qm (zc 9)<|zc 10)<|zq<|.int 1)<|zq<|.int 1) (.nm 12)<|zI (jk 13<|zG zR<|zb (zc 0)<|zb (zv ju (zv ju (zv ju (zc 1)<|zq<|.int 14)<|zv qm (zq<|.int 12)<|zc 7)<|zc 12) zF)<|sIf (sB<|zv dGt (zv qm (zc 9)<|zc 10)<|zq<|.int 0) (Wq 11 (zv jV (zc 13)<|zc 10) (zv jV (zv yb (zc 13)<|zq<|.int 8)<|zc 9)<|zv jV (zv yb (zc 13)<|zq<|.int 64)<|zc 4) qT
def eZ:=sIf (Yi (sB<|zv dEq (zv jV (zv yb (zc 8)<|zq<|.int 256)<|zq<|.int 3)<|zq<|.int 0)<|sB<|zv dGt (zc 10)<|zq<|.int 1) (aY 11 (zv wt (zc 10)<|zq<|.int 1)<|zH (zJ<|Wp 11<|zq<|.int 0) (.nm 0) 1 [4,8] z6 (zv jV (zv qm (zv yb (zc 2)<|zq<|.int 1024)<|zc 0)<|zc 1)) qT
def rS:=Ws 11 (qt 6 (j3 (zb (JD (zq (.str "rl")) (zv jV (zc 8) (zq (.int 2)))) (zb (j3 (zb (zc 10) (zb (zc 9) (zb (zP (jQ (zH (zJ (zh 11)) (.nm 0) 1 [] z6 (zP (zh 0))))) zF)))) zF))))
theorem AX:qB=js 14 (zI an1<|zI an2<|zI an3<|zI an4 an5):=rfl
section
variable{p:Int}{ns:List Int}{m k:Nat}{wd:RZ}
def acx(ns:List Int)(p:Int)(m:Nat)(wd:RZ)(L:List D)(c7 c8 c9 c10 z I O:Cell):Ctx:=
 [.val (qC ns),.val<|.int 1,.val<|.int ((m+1:Nat):Int),.val<|.int 3,.val<|.int p,.val<|.lst<|zE (m+1) λk=>(wd k:Int),.own L,c7,c8,c9,c10,z,I,O]
def XA(ns:List Int)(k:Nat):Bool:=decide<|vi ns (1+8+(k:Int))%2=1
theorem ag(ax:ns.length<=63)(hp:Pr p)(hm:m<=5)(hk:k<m)(b0 : ∀k,wd k<=3)(hL:L.length<100)(n8:jM c8=false)(n9:jM c9=false)(da:jM c10=false)(bv:jM c11=false)(b9:jM O=false)(bb:jM S=false) :
 ∃(f:RK) (d8 d9 bf bi am ac:Cell),(∀i j,0<=f i j/\f i j<p)/\jM d8=false/\jM d9=false/\jM bf=false/\jM bi=false/\jM am=false/\jM ac=false/\
  (zI lO<|zI lN<|zI lM<|zI lJ<|zI rT<|zI eZ rS) (acx ns p m wd L (.val<|.int k) c8 c9 c10 c11 O S)=some (.next<|acx ns p m wd (L++[qD (XA ns) wd (λ_=>f) k]) (.val<|.int k) d8 d9 bf bi am ac):=by
 have hl:=jz;have p0:=hp.pos;have two:=hp.two;obtain⟨e1,a1,b1⟩:=wb ax (k:=1+8+(k:Int)) ⋯ ⋯;have ad:XA ns k=decide (vi ns (1+8+(k:Int))%2=1):=rfl;generalize vi ns (1+8+(k:Int))=c at e1 a1 b1 ad;have q:c%2=0\/c%2=1:=by omega
 have hb : ∃b:Nat,(k:Int)+c%2=b/\b=begR (XA ns) k/\b<m+1:=by
  refine⟨begR (XA ns) k,?_,rfl,?_⟩
  ·unfold begR;rw[ad];rcases q with q | q<;>simp[q]
  ·unfold begR;split<;>omega
 have he : ∃b:Nat,(k:Int)+1 - c%2=b/\b=endR (XA ns) k/\b<m+1:=by
  refine⟨endR (XA ns) k,?_,rfl,?_⟩
  ·unfold endR;rw[ad];rcases q with q | q<;>simp[q]
  ·unfold endR;split<;>omega
 obtain⟨bg,c1,c2,c3⟩:=hb;obtain⟨I,c4,c5,c6⟩:=he;have c7:=b0 bg;have ca:=b0 I;have x1:lO (acx ns p m wd L (.val<|.int k) c8 c9 c10 c11 O S)=some (.next<|acx ns p m wd L (.val<|.int k) (.val<|.int c) c9 c10 c11 O S):=by rw[show(1+8+(k:Int))=9+(k:Int)by omega]at e1;simp[lO,acx,e1]
 have x2:lN (acx ns p m wd L (.val<|.int k) (.val<|.int c) c9 c10 c11 O S)=some (.next<|acx ns p m wd L (.val<|.int k) (.val<|.int c) (.val<|.int (wd bg:Nat)) c10 c11 O S):=by simp[lN,acx,c1,c3]
 have x3:lM (acx ns p m wd L (.val<|.int k) (.val<|.int c) (.val<|.int (wd bg:Nat)) c10 c11 O S)=some (.next<|acx ns p m wd L (.val<|.int k) (.val<|.int c) (.val<|.int (wd bg:Nat)) (.val<|.int (wd I:Nat)) c11 O S):=by simp[lM,acx,c4,c6]
 have x4:lJ (acx ns p m wd L (.val<|.int k) (.val<|.int c) (.val<|.int (wd bg:Nat)) (.val<|.int (wd I:Nat)) c11 O S)=some (.next<|acx ns p m wd L (.val<|.int k) (.val<|.int c) (.val<|.int (wd bg:Nat)) (.val<|.int (wd I:Nat)) (.nest<|j4 (wd I) (wd bg) λ_ _=>0) O S):=by
  have i1:wd I<=lim:=by omega
  have i2:wd bg<=lim:=by omega
  have ec:kJ (.nm 0) (zH (zU<|zc 1) (.nm 0) 1 [] z6 (zq<|.int 0)) [.no,.val (.int (wd bg:Nat))] ((Ga<|wd I).map λ(i:Nat)=>D.int i)=some (j4 (wd I) (wd bg) λ_ _=>0):=by
   unfold j4;refine ZT _ λi hi=>⟨_,rfl,?_⟩;have e0:zL (.nm 0) z6 (zq<|.int 0) [.no] ((Ga<|wd bg).map λ(i:Nat)=>D.int i)=some (zE (wd bg) λ_=>0):=by unfold zE;exact zo _ _ λi hi=>zu rfl rfl rfl
   simp[zW,k9 i2,jL,i2];exact e0
  have nn:(acx ns p m wd L (.val<|.int k) (.val<|.int c) (.val<|.int (wd bg:Nat)) (.val<|.int (wd I:Nat)) c11 O S).any jM=false:=by have v : ∀d,jM (.val d)=false:=λ_=>rfl;have o : ∀d,jM (.own d)=false:=λ_=>rfl;simp only[acx,Lr,List.any_nil,v,o,bv,b9,bb];rfl
  unfold lJ Ye;have cf:yO (zU<|zc 10) (.nm 0) 1 [9] (zH (zU<|zc 1) (.nm 0) 1 [] z6 (zq<|.int 0)) (acx ns p m wd L (.val<|.int k) (.val<|.int c) (.val<|.int (wd bg:Nat)) (.val<|.int (wd I:Nat)) c11 O S)=some (j4 (wd I) (wd bg) λ_ _=>0):=by unfold yO;simp[acx,k9 i1,jL,i1,zW];exact ec
  rw[cf,Gk,RY nn];rfl
 obtain⟨nn,ch,dd⟩ : ∃nn:Nat,c/2%((wd bg:Int)*(wd I:Int)+1)+1=(nn:Int)/\nn<=20:=by
  have di:(wd bg:Int)*(wd I:Int)<=9:=by
   have:=Nat.mul_le_mul c7 ca;have e:((wd bg*wd I:Nat):Int)=(wd bg:Int)*(wd I:Int):=by simp
   omega
  have bm:(0:Int)<=(wd bg:Int)*(wd I:Int):=Int.mul_nonneg ⋯ ⋯;have g1:=GU (c/2) (show(wd bg:Int)*(wd I:Int)+1≠0 by omega);have g2:=GH (c/2) (show(0:Int)<(wd bg:Int)*(wd I:Int)+1 by omega);refine⟨(c/2%((wd bg:Int)*(wd I:Int)+1)+1).toNat,?_,?_⟩
  ·rw[LD ⋯]
  ·omega
 have bm:(0:Int)<(wd bg:Int)*(wd I:Int)+1:=by have:(0:Int)<=(wd bg:Int)*(wd I:Int):=Int.mul_nonneg ⋯ ⋯;omega
 let C2:Cell:= .val (.int ((m+1:Nat):Int));let C3:Cell:= .val (.int 3);let C5:Cell:= .val (.lst<|zE (m+1) λk=>(wd k:Int));let C6:Cell:= .own L;let U:Cell:= .val (.int c);obtain⟨γ',x5,f,Y,Z,hf,cj,cl,rfl⟩:=ki (T:= .nm 12) (F:=EO) (f:=zv ju (zv jV (zv yb (zc 8)<|zq<|.int 2)<|zv ju (zv qm (zc 9)<|zc 10)<|zq<|.int 1)<|zq<|.int 1)
  (λ_ γ=>∃f O S,(∀i j,0<=f i j/\f i j<p)/\jM O=false/\jM S=false/\γ=yP ns p C2 C3 C5 C6 U k (wd I) (wd bg) f O S) nn ⋯
  (γ:=yP ns p C2 C3 C5 C6 U k (wd I) (wd bg) (λ_ _=>0) O S) (by
    have m2:wy (wd bg:Int) (wd I:Int)=true:=wu _ _ ⋯ ⋯;simp[yP,U,m2,bm,ch]) ⟨_,O,S,λ_ _=>⟨Int.le_refl _,p0⟩,b9,bb,rfl⟩ λs hs γ hγ=>by
    obtain⟨f,am,ac,hf,_,_,rfl⟩:=hγ;obtain⟨f',x,ap,e⟩:=uf ax hp (k:=k) (h:=wd I) (w:=wd bg) (s:=s) ⋯ ⋯ ⋯ ⋯ hf C2 C3 C5 C6 U ac;exact⟨_,_,rfl,e,f',_,_,ap,rfl,rfl,rfl⟩
 obtain⟨f',ap,x6⟩ : ∃f':RK,(∀i j,0<=f' i j/\f' i j<p)/\eZ (yP ns p C2 C3 C5 C6 U k (wd I) (wd bg) f Y Z)=some (.next<|yP ns p C2 C3 C5 C6 U k (wd I) (wd bg) f' Y Z):=by
  by_cases hc:c/256%3=0/\1<wd I
  ·refine⟨λa b=>if a=wd I - 1 then (c/1024*f 0 b)%p else f a b,λi j=>?_,?_⟩
   ·dsimp only
    split
    ·exact⟨GU _ ⋯,GH _ p0⟩
    ·exact hf i j
   ·have t1:Yi (sB<|zv dEq (zv jV (zv yb (zc 8)<|zq<|.int 256)<|zq<|.int 3)<|zq<|.int 0) (sB<|zv dGt (zc 10)<|zq<|.int 1) (yP ns p C2 C3 C5 C6 U k (wd I) (wd bg) f Y Z)=some true:=by
     have h3:(1:Int)<(wd I:Int):=by have:=hc.2;omega
     simp[yP,U,hc.1,h3]
    have e1:(wd I:Int) - 1=((wd I - 1:Nat):Int):=by omega
    have h1:wd I - 1<wd I:=by omega
    have h0:0<wd I:=by omega
    have r1:QG 11 (zv wt (zc 10)<|zq<|.int 1) (yP ns p C2 C3 C5 C6 U k (wd I) (wd bg) f Y Z)=some (j4 (wd I) (wd bg) f,wd I - 1,zE (wd bg)<|f<|wd I - 1):=by unfold QG;simp[yP,qR,e1,h1,vW]
    have r0:Wp 11 (zq<|.int 0) (yP ns p C2 C3 C5 C6 U k (wd I) (wd bg) f Y Z)=some (.L,zE (wd bg)<|f 0):=by
     unfold Wp QG;have i0:ixD (wd I) 0=some 0:=by have:=xC (wd I) 0;rw[RY h0]at this;exact this
     simp[yP,qR,i0,h0,vW]
    have ec:zL (.nm 0) z6 (zv jV (zv qm (zv yb (zc 2)<|zq<|.int 1024)<|zc 0)<|zc 1) [.no,.val<|.int p,.val (.int c)] (zE (wd bg)<|f 0)=some (zE (wd bg) λb=>(c/1024*f 0 b)%p):=by unfold zE;refine zo _ _ λb hb=>zu rfl rfl ?_;have q1:=hf 0 b;have q2:=hp.le;have m3:wy (c/1024) (f 0 b)=true:=wu _ _ ⋯ ⋯;simp[m3,p0]
    have i2:wd bg<=lim:=by omega
    have es:zH (zJ<|Wp 11<|zq<|.int 0) (.nm 0) 1 [4,8] z6 (zv jV (zv qm (zv yb (zc 2)<|zq<|.int 1024)<|zc 0)<|zc 1) (yP ns p C2 C3 C5 C6 U k (wd I) (wd bg) f Y Z)=some (zE (wd bg) λb=>(c/1024*f 0 b)%p):=by rw[xc,xm,r0];simp only[GM,Gk,vf,i2,if_true];exact ec
    unfold eZ;rw[rQ,t1];show aY 11 _ _ _=_;unfold aY;rw[es,r1];show some (Fl.next<|(yP ns p C2 C3 C5 C6 U k (wd I) (wd bg) f Y Z).set 11 (.nest<|(j4 (wd I) (wd bg) f).set (wd I - 1) (zE (wd bg) λb=>(c/1024*f 0 b)%p)))=_;rw[cp f h1];rfl
  ·refine⟨f,hf,?_⟩
   have t1:Yi (sB<|zv dEq (zv jV (zv yb (zc 8)<|zq<|.int 256)<|zq<|.int 3)<|zq<|.int 0) (sB<|zv dGt (zc 10)<|zq<|.int 1) (yP ns p C2 C3 C5 C6 U k (wd I) (wd bg) f Y Z)=some false:=by
    by_cases h1:c/256%3=0
    ·have : ¬(1:Int)<(wd I:Int):=λz=>hc ⟨h1,by omega⟩
     simp[yP,U,h1];omega
    ·simp[yP,U,h1]
   unfold eZ;rw[rQ,t1];rfl
 refine⟨f',.val (.int c),.val (.int (wd bg:Nat)),.val (.int (wd I:Nat)),.val (.lst ((j4 (wd I) (wd bg) f').map D.lst)),Y,Z,ap,rfl,rfl,rfl,rfl,cj,cl,?_⟩;refine zw x1 (zw x2 (zw x3 (zw x4 (zw (show rT _=_ from x5) (zw x6 ?_)))));have sx:JD (zq (.str "rl")) (zv jV (zc 8) (zq (.int 2))) (acx ns p m wd L (.val (.int k)) (.val (.int c)) (.val (.int (wd bg:Nat))) (.val (.int (wd I:Nat))) (.val (.lst ((j4 (wd I) (wd bg) f').map D.lst))) Y Z)=some (.str (Jl (wch (XA ns k)))):=by
  have ev:zv jV (zc 8) (zq<|.int 2) (acx ns p m wd L (.val<|.int k) (.val<|.int c) (.val<|.int (wd bg:Nat)) (.val<|.int (wd I:Nat)) (.val<|.lst<|(j4 (wd I) (wd bg) f').map D.lst) Y Z)=some (.int<|c%2):=by simp[acx]
  rw[lH,ev,ad];rcases q with q | q
  ·rw[q];rfl
  ·rw[q];rfl
 have i1:wd I<=lim:=by omega
 have i2:wd bg<=lim:=by omega
 have ec:zL (.nm 0) z6 (zP<|zh 0) [.no] ((j4 (wd I) (wd bg) f').map D.lst)=some (zM (wd I) (wd bg) f'):=by unfold j4 zM;rw[Hm];refine zo _ _ λi hi=>zu rfl rfl ?_;simp[i2]
 have d0:L.length<lim:=by omega
 have eh:hiW (XA ns) wd k=wd I:=by rw[cZ,c5]
 have ew:wiW (XA ns) wd k=wd bg:=by rw[au,c2]
 unfold rS Ws;show(qt 6 _ (acx ns p m wd L (.val (.int k)) (.val (.int c)) (.val (.int (wd bg:Nat))) (.val (.int (wd I:Nat))) (.val (.lst ((j4 (wd I) (wd bg) f').map D.lst))) Y Z))=_;have et:j3 (zb (JD (zq (.str "rl")) (zv jV (zc 8) (zq (.int 2)))) (zb (j3 (zb (zc 10) (zb (zc 9) (zb (zP (jQ (zH (zJ (zh 11)) (.nm 0) 1 [] z6 (zP (zh 0))))) zF)))) zF)) (acx ns p m wd L (.val (.int k)) (.val (.int c)) (.val (.int (wd bg:Nat))) (.val (.int (wd I:Nat))) (.val (.lst ((j4 (wd I) (wd bg) f').map D.lst))) Y Z)=some (qD (XA ns) wd (λ_=>f') k):=by rw[KZ,x9,sx];simp[acx,zW,i1,ec];unfold qD;rw[eh,ew];rfl
 unfold qt;rw[et];simp[acx,d0]
end
section
variable{p:Int}{ns:List Int}{m:Nat}
theorem uq(h:0<=c)(γ:Ctx)(f:CO D)(z:f γ=some (.int<|c%4)) : ∃p:Int,Pr p/\(sIx (jQ<|kf<|zb (zq<|.int 2)<|zb (zq<|.int 3)<|zb (zq<|.int 5)<|zb (zq<|.int 7) zF) f) γ=some (.int p):=by
 have q:c%4=0\/c%4=1\/c%4=2\/c%4=3:=by omega
 rw[vx,z];unfold Pr;rcases q with q | q | q | q<;>rw[q]
 ·exact⟨2,by omega,rfl⟩
 ·exact⟨3,by omega,rfl⟩
 ·exact⟨5,by omega,rfl⟩
 ·exact⟨7,by omega,rfl⟩
theorem ah(Y:ns.length<=63)(hm:m<=5) : ∃(p:Int) (wd:RZ) (T:RV),Pr p/\(∀k,wd k<=3)/\(∀k i j,0<=T k i j/\T k i j<p)/\qB [qC ns,.int 1,.int ((m+1:Nat):Int),.int 3]=some (.val<|j8 p m (XA ns) wd T):=by
 have hl:=jz;obtain⟨e1,a1,b1⟩:=wb Y (k:=1) ⋯ ⋯;obtain⟨p,Z,ep⟩:=uq a1 (z9 14 [qC ns,.int 1,.int ((m+1:Nat):Int),.int 3]) (zv jV (zG zR<|zb (zc 0)<|zb (zc 1) zF)<|zq<|.int 4) (by simp[z9,Ge,e1]);have p0:=Z.pos;have U : ∃wd:RZ,(∀k,wd k<=3)/\∀k:Nat,vi ns (1+1+(k:Int))/4%4=((wd k:Nat):Int):=by
  refine⟨λk=>(vi ns (1+1+(k:Int))/4%4).toNat,λk=>?_,λk=>?_⟩
  ·show(vi ns (1+1+(k:Int))/4%4).toNat<=3;omega
  ·rw[LD ⋯]
 obtain⟨wd,U,am⟩:=U;have a0:m+1<=lim:=by omega
 have x1:an1 (z9 14 [qC ns,.int 1,.int ((m+1:Nat):Int),.int 3])=some (.next [.val (qC ns),.val<|.int 1,.val<|.int ((m+1:Nat):Int),.val<|.int 3,.val<|.int p,.no,.no,.no,.no,.no,.no,.no,.no,.no]):=by unfold an1;rw[vn,ep];rfl
 have ec:zL (.nm 0) z6 (zv jV (zv yb (zG zR<|zb (zc 1)<|zb (zv ju (zv ju (zc 2)<|zq<|.int 1)<|zc 0) zF)<|zq<|.int 4)<|zv ju (zc 3)<|zq<|.int 1) [.no,.val<|qC ns,.val<|.int 1,.val (.int 3)] (zE (m+1) λi=>(i:Int))=some (zE (m+1) λk=>((wd k:Nat):Int)):=by unfold zE;refine zo _ _ λk z=>zu rfl rfl ?_;have z:=Gc.mp z;have e:=(wb Y (k:=1+1+(k:Int)) ⋯ ⋯).1;have e2:=am k;rw[show(1+1+(k:Int))=2+(k:Int)by omega]at e e2;simp[e,e2]
 have x2:an2 [.val (qC ns),.val<|.int 1,.val<|.int ((m+1:Nat):Int),.val<|.int 3,.val<|.int p,.no,.no,.no,.no,.no,.no,.no,.no,.no]=some (.next [.val (qC ns),.val<|.int 1,.val<|.int ((m+1:Nat):Int),.val<|.int 3,.val<|.int p,.val<|.lst<|zE (m+1) λk=>(wd k:Int),.no,.no,.no,.no,.no,.no,.no,.no]):=by have ir:=k9 a0;unfold an2;rw[vn,K1,xc,vq];simp only[xD,Gz,GC,jb,Gk,qg,ir,if_true,Ih,jL,vf,a0];rw[show zW 1 [0,1,3] [Cell.val (qC ns),.val<|.int 1,.val<|.int ((m+1:Nat):Int),.val<|.int 3,.val<|.int p,.no,.no,.no,.no,.no,.no,.no,.no,.no]=[.no,.val<|qC ns,.val<|.int 1,.val (.int 3)]from rfl,ec];rfl
 have x3:an3 [.val (qC ns),.val<|.int 1,.val<|.int ((m+1:Nat):Int),.val<|.int 3,.val<|.int p,.val<|.lst<|zE (m+1) λk=>(wd k:Int),.no,.no,.no,.no,.no,.no,.no,.no]=some (.next<|acx ns p m wd [] .no .no .no .no .no .no .no):=rfl;obtain⟨γ',x4,T,c7,c8,c9,c10,I,O,S,hT,_,_,_,_,_,_,rfl⟩:=ki (T:= .nm 7) (F:=zI lO<|zI lN<|zI lM<|zI lJ<|zI rT<|zI eZ rS) (f:=zv wt (zc 2)<|zq<|.int 1)
  (λs γ=>∃(T:RV) (c7 c8 c9 c10 I O S:Cell),(∀k i j,0<=T k i j/\T k i j<p)/\jM c8=false/\jM c9=false/\jM c10=false/\jM I=false/\jM O=false/\jM S=false/\γ=acx ns p m wd (j6 s (XA ns) wd T) c7 c8 c9 c10 I O S) m ⋯
  (γ:=acx ns p m wd [] .no .no .no .no .no .no .no) (by
    have e:((m+1:Nat):Int) - 1=(m:Int):=by omega
    simp only[acx,V6,xD,ko,Gz,GC,jb,Gk];show some (D.int<|((m+1:Nat):Int) - 1)=_;rw[e]) ⟨λ_ _ _=>0,.no,.no,.no,.no,.no,.no,.no,λ_ _ _=>⟨Int.le_refl _,p0⟩,rfl,rfl,rfl,rfl,rfl,rfl,rfl⟩ λs hs γ hγ=>by
    obtain⟨T,c7,c8,c9,c10,I,O,S,hT,n8,n9,bd,be,bf,bg,rfl⟩:=hγ;obtain⟨f,d8,d9,a6,a7,a8,a9,hf,m8,m9,bn,bv,bx,c0,e⟩:=ag Y Z hm hs U (L:=j6 s (XA ns) wd T) (by simp;omega) n8 n9 bd be bf bg;refine⟨acx ns p m wd (j6 s (XA ns) wd T) (.val<|.int s) c8 c9 c10 I O S,acx ns p m wd (j6 s (XA ns) wd T++[qD (XA ns) wd (λ_=>f) s]) (.val<|.int s) d8 d9 a6 a7 a8 a9,rfl,e,λk=>if k=s then f else T k,.val<|.int s,d8,d9,a6,a7,a8,a9,λk i j=>?_,m8,m9,bn,bv,bx,c0,?_⟩
    ·dsimp only
     split
     ·exact hf i j
     ·exact hT k i j
    ·congr 1
     unfold j6;rw[IB,Hk];congr 1
     ·refine GI λk z=>?_
      have z:=Gc.mp z;unfold qD;dsimp only;rw[EQ (show ¬k=s by omega)]
     ·simp[qD]
 refine⟨p,wd,T,Z,U,hT,?_⟩;rw[AX];refine jO<|zw x1<|zw x2<|zw x3<|zw (show an4 _=_ from x4) ?_;have c3:(j6 m (XA ns) wd T).length<=lim:=by simp;omega
 have c1:m<=lim:=by omega
 simp[an5,acx,a0,c1];rfl
end
def gV(p:Int)(a b:Nat)(c:Int)(v:Vc):Vc:=λi=>if i=b then (v b+c*v a)%p else v i
def FJ(S E:RZ)(j:Nat):Bar:=⟨S j,E j - S j+1,λ_ _=>0⟩
def sM(S E:RZ)(N r:Nat):List Nat:=ixs (FJ S E) N r
section
variable{p:Int}{m:Nat}{w:RX}{wd:RZ}{T:RV}
def aK(w:RX)(wd:RZ)(T:RV)(m:Nat):List D:=(Ga m).map λk=>D.lst<|dO (hiW w wd k) (wiW w wd k)<|T k
@[simp] theorem sC(m):(aK w wd T m).length=m:=by simp[aK]
abbrev rc(p:Int)(m:Nat)(w:RX)(wd:RZ)(T:RV)(acc:List D)(c5 c6 c7 c8:Cell):Ctx:=[.val (.int p),.val (.str (Fq m w)),.val (.lst (zE (m+1) λk=>(wd k:Int))),.val (.lst (aK w wd T m)),.own acc,c5,c6,c7,c8]
end
theorem Ac:vD=js 7 (zI kp1<|zI kp2<|zI kp3<|zI kp4 kp5):=rfl
section
variable{p:Int}{w:RX}{wd:RZ}{T:RV}{m:Nat}
theorem WZ(I:IsB p (a+b) q B l)(hs:s<=q)(s1 : ∀k,k<s->l k<a)(s2 : ∀k,s<=k->k<q->a<=l k) :
 IsB p a s B l/\∀u,Span p a (Fam s B) u ↔ ∃z,Span p (a+b) (Fam q B) (j5 a u z):=by
 refine⟨{
  lt:=s1
  mono:=λk m h1 h2=>I.mono k m h1 ⋯
  one:=λk O=>I.one k ⋯
  bef:=λk j O U=>I.bef k j ⋯ U
  oth:=λk m O hm Y=>I.oth k m ⋯ ⋯ Y
  rng:=λk i O hi=>I.rng k i ⋯ ⋯},λu=>⟨λS=>?_,λS=>?_⟩⟩
 ·obtain⟨t,Z⟩:=Zf S
  refine⟨λj=>sumTo (λk=>t k*B k (a+j)) s,(Span.sum (u:=B) t (m:=s) λk O=> .gen ⟨k,by omega,rfl⟩).congr λi hi=>?_⟩;rcases GB i a with z | z
  ·rw[zT z,Z i z]
  ·obtain⟨j,rfl⟩ : ∃j,i=a+j:=⟨i - a,by omega⟩
   rw[ja]
 ·obtain⟨z,hz⟩:=S
  have c:=v9 I hz;refine(QA (n:=a) B λk=>j5 a u z<|l k).congr λi hi=>?_;have:=c i ⋯;rw[zT hi]at this;rw[this];obtain⟨e,rfl⟩ : ∃e,q=s+e:=⟨q - s,by omega⟩;rw[yL];have e0:sumTo (λk=>j5 a u z (l<|s+k)*B (s+k) i) e=sumTo (λ_=>0) e:=zy λk O=>by rw[I.bef (s+k) i ⋯ (by have:=s2 (s+k) ⋯ ⋯;omega)];simp
  rw[e0,zN,Lo]
theorem Wg(v:Vc):Span p (b+a) (Fam q λk=>j5 b (λj=>B k<|a+j)<|B k) (j5 b (λ_=>0) v)↔Span p (a+b) (Fam q B) (j5 a v λ_=>0):=by
 constructor
 ·intro h
  refine(h.map (n':=a+b) (G':=Fam q B) (λi=>if i<a then b+i else i - a) (λi hi=>by split<;>omega) λg I=>?_).congr λi hi=>?_
  ·obtain⟨k,O,rfl⟩:=I
   refine(Span.gen (g:=B k) ⟨k,O,rfl⟩).congr λi hi=>?_;show j5 b (λj=>B k<|a+j) (B k) (if i<a then b+i else i - a)%p=_;split
   ·rw[ja]
   ·rw[zT ⋯];congr 2;omega
  ·split
   ·next z=>rw[ja,zT z]
   ·next z=>
    obtain⟨j,rfl⟩ : ∃j,i=a+j:=⟨i - a,by omega⟩;rw[ja,zT ⋯]
 ·intro h
  refine(h.map (n':=b+a) (G':=Fam q λk=>j5 b (λj=>B k<|a+j)<|B k) (λi=>if i<b then a+i else i - b) (λi hi=>by split<;>omega) λg I=>?_).congr λi hi=>?_
  ·obtain⟨k,O,rfl⟩:=I
   refine(Span.gen (g:=j5 b (λj=>B k<|a+j)<|B k) ⟨k,O,rfl⟩).congr λi hi=>?_;split
   ·next z=>rw[zT z]
   ·next z=>
    obtain⟨j,rfl⟩ : ∃j,i=b+j:=⟨i - b,by omega⟩;rw[ja];congr 2;omega
  ·split
   ·next z=>rw[ja,zT z]
   ·next z=>
    obtain⟨j,rfl⟩ : ∃j,i=b+j:=⟨i - b,by omega⟩;rw[ja,zT ⋯];congr 2;omega
theorem pF(hp:Pr p)(Y : ∀k,wd k<=7)(hT : ∀k x y,0<=T k x y/\T k x y<p)(hm:m<=20)(a9:i<=j)(hj:j<=m) :
 ∃(s q:Nat) (B B2:Nat->Vc) (l l2:RZ),vD [j8 p m w wd T,.int i,.int j]=some (.val<|.int<|(s:Int) - (q:Int))/\IsB p (wd i) s B l/\(∀u,Span p (wd i) (Fam s B) u ↔ ∃z,Wk p w wd T i (j - i) u z)/\IsB p (wd i) q B2 l2/\∀u,Span p (wd i) (Fam q B2) u↔Wk p w wd T i (j - i) u λ_=>0:=by
 have hl:=jz;have ha:=Y i;have b9:=Y j;obtain⟨q,B,l,e1,O,Z⟩:=fv (m:=m) (w:=w) hp Y hT a9 hj;have hq:=Zo O;have S:q<=lim:=by omega
 obtain⟨r,B',l',e2,U,hS⟩:=qa hp (show wd j+wd i<=100 by omega) S .L λk=>j5 (wd j) (λx=>B k<|wd i+x)<|B k;have hr:=Zo U;obtain⟨s,hs,s1,s2⟩:=yi (l:=l) (wd i) O.mono;obtain⟨s',a4,a5,a6⟩:=yi (l:=l') (wd j) U.mono;have b1:=kO O S hs s1 s2;have b2:=kO U ⋯ a4 a5 a6;obtain⟨h1,h2⟩:=WZ O hs s1 s2;obtain⟨h3,h4⟩:=Jy U a4 a5 a6;refine⟨s,r - s',B,_,l,_,?_,h1,λu=>?_,h3,λu=>?_⟩
 ·have an:i<m+1:=by omega
  have ap:j<m+1:=by omega
  have sw:zL (.nm 0) z6 (zv ju (K8 (zc 0) (sBd<|zc 1) Vj)<|K8 (zc 0) Vj<|sBd<|zc 1) [.no,.val (.int<|wd i)] (zM q (wd i+wd j) B)=some (zM q (wd j+wd i) λk=>j5 (wd j) (λx=>B k<|wd i+x)<|B k):=by
   unfold zM;refine zo _ _ λk hk=>zu rfl rfl ?_;have a7:wd j+wd i<=lim:=by omega
   simp[Xp,Xo,ju,a7,xR]
  let R:=j8 p m w wd T;let I:D:= .lst (zM q (wd i+wd j) B);let L2:D:= .lst (zM r (wd j+wd i) B');rw[Ac];refine jO (zw (γ':=[.val R,.val<|.int i,.val<|.int j,.val I,.no,.no,.no]) ?_
   (zw (γ':=[.val R,.val<|.int i,.val<|.int j,.val I,.val<|.int<|wd i,.no,.no]) ?_
   (zw (γ':=[.val R,.val<|.int i,.val<|.int j,.val I,.val<|.int<|wd i,.val<|.int<|wd j,.no]) ?_
   (zw (γ':=[.val R,.val<|.int i,.val<|.int j,.val I,.val<|.int<|wd i,.val<|.int<|wd j,.val L2]) ?_ ?_))))
  ·simp[kp1,z9,Ge,R,I,e1]
  ·simp[kp2,R,qU,an]
  ·simp[kp3,R,qU,ap]
  ·have c1:((wd j:Int)+(wd i:Int))=((wd j+wd i:Nat):Int):=by omega
   have a7:wd j+wd i<=lim:=by omega
   simp only[dsq]at e2;simp[kp4,zW,R,qU,I,S,sw];rw[c1,e2];simp[L2]
  ·have r1:q - s<=lim:=by omega
   have r2:r - s'<=lim:=by omega
   have f1:(q:Int) - ((r - s':Nat):Int) - ((q - s:Nat):Int)=(s:Int) - ((r - s':Nat):Int):=by omega
   simp[kp5,I,L2,b1,b2,S,r1,r2,f1]
 ·rw[h2 u]
  constructor
  ·rintro⟨z,hz⟩
   have:=(QS (j - i) _).mp ((Z _).mp hz);exact⟨_,K4 this λx hx=>by rw[zT hx]⟩
  ·rintro⟨z,hz⟩
   refine⟨z,(Z _).mpr ((QS (j - i) _).mpr ?_)⟩;rw[show(λx=>j5 (wd i) u z<|wd i+x)=z from funext λx=>ja x];exact K4 hz λx hx=>by rw[zT hx]
 ·rw[h4 u,hS,Wg,Z,QS,show(λx=>j5 (wd i) u (λ_=>0)<|wd i+x)=λ_=>0 from funext λx=>ja x]
  exact⟨λh=>K4 h λx hx=>by rw[zT hx],λh=>K4 h λx hx=>by rw[zT hx]⟩
end
def stN(M:Nat):List (Nat×Nat):=(Ga M).flatMap λi=>(LX i<|M - i).map λj=>(i,j)
def kI(s:Nat×Nat):List Int:=[(s.1:Int),(s.2:Int)]
def kD(s:Nat×Nat):D:= .tup [.int s.1,.int s.2]
theorem mem_st:s∈stN M↔s.1<=s.2/\s.2<M:=by
 unfold stN;simp only[List.mem_flatMap,Gc,GO,List.mem_range'_1];constructor
 ·rintro⟨i,hi,j,z,rfl⟩
  exact⟨z.1,by show j<M;omega⟩
 ·intro h
  exact⟨s.1,by omega,s.2,⟨h.1,by omega⟩,rfl⟩
theorem gb : ∀M:Fin 7,(stN M.val).Nodup/\((stN M.val).map kI).Nodup/\(stN M.val).length<=21:=by decide +kernel
theorem Ce : ∀M:Fin 7,kc [.int (M.val:Int)]=some (.own<|(stN M.val).map kD)
 | ⟨0,_⟩=>by kernel_rfl
 | ⟨1,_⟩=>by kernel_rfl
 | ⟨2,_⟩=>by kernel_rfl
 | ⟨3,_⟩=>by kernel_rfl
 | ⟨4,_⟩=>by kernel_rfl
 | ⟨5,_⟩=>by kernel_rfl
 | ⟨6,_⟩=>by kernel_rfl
theorem mK(h:kI s=kI t):s=t:=by unfold kI at h;simp only[List.cons.injEq,and_true]at h;obtain⟨a,b⟩:=s;obtain⟨c,d⟩:=t;simp only[Prod.mk.injEq];have h1:=h.1;have h2:=h.2;dsimp only at h1 h2;omega
theorem YE(f:Nat×Nat->D)(k:List Int) : ∀L:List (Nat×Nat),W5 (L.map kI) (L.map f) k=(L.find? λs=>decide<|kI s=k).map f
 | []=>rfl
 | s::L=>by
  show(if kI s=k then _ else _)=_;by_cases h:kI s=k
  ·rw[RY h,List.find?_cons_of_pos (by simpa using h)];rfl
  ·rw[EQ h,List.find?_cons_of_neg (by simpa using h)];exact YE f k L
theorem dA{L:List (Nat×Nat)}{s:Nat×Nat}(h:s∈L):(L.find? λt=>decide<|kI t=kI s)=some s:=by
 cases e:L.find? λt=>decide (kI t=kI s)with
 | none=>
  have:=MA.mp e s h;simp at this
 | some t=>
  have:=List.find?_some e;rw[mK (of_decide_eq_true this)]
def atS(f:Nat×Nat->Int)(M:Nat)(a b:Int):Int:=if 0<=a/\a<=b/\b<M then f (a.toNat,b.toNat)else 0
theorem Xg(f:Nat×Nat->Int)(M:Nat)(a b:Int):(W5 ((stN M).map kI) ((stN M).map λs=> .int (f s)) [a,b]).getD (.int 0) = .int (atS f M a b):=by
 rw[YE (λs=> .int (f s))];unfold atS;split
 ·next h=>
  have e:[a,b]=kI (a.toNat,b.toNat):=by unfold kI;simp;omega
  rw[e,dA (mem_st.mpr<|by show a.toNat<=b.toNat/\b.toNat<M;omega)];rfl
 ·next h=>
  rw[MA.mpr λs I z=>h ?_]
  ·rfl
  ·have hm:=mem_st.mp I
   have z:=of_decide_eq_true z;unfold kI at z;simp only[List.cons.injEq,and_true]at z;omega
theorem dz(f:Nat×Nat->Int){M:Nat}{s:Nat×Nat}(h:s∈stN M):W5 ((stN M).map kI) ((stN M).map λs=>D.int<|f s) [(s.1:Int),(s.2:Int)]=some (.int<|f s):=by rw[YE (λs=> .int (f s))];rw[show [(s.1:Int),(s.2:Int)]=kI s from rfl,dA h];rfl
def pq(f:Nat×Nat->Int)(M:Nat)(s:Nat×Nat):Int:=f s - (atS f M ((s.1:Int) - 1) s.2+atS f M s.1 ((s.2:Int)+1))+atS f M ((s.1:Int) - 1) ((s.2:Int)+1)
def XD(f:Nat×Nat->Int)(M:Nat):D:= .dct ((stN M).map kI) ((stN M).map λs=> .int (f s))
theorem pD(a b:Int):mI (.tup [.int a,.int b])=some [a,b]:=rfl
theorem uT:xE=js 4 (zI no1 no2):=rfl
theorem ck(f:Nat×Nat->Int)(h:s∈stN M):xE [XD f M,.int s.1,.int s.2]=some (.val<|.int<|pq f M s):=by
 have h1:=Xg f M ((s.1:Int) - 1) s.2;have h2:=Xg f M s.1<|(s.2:Int)+1;have z:=Xg f M ((s.1:Int) - 1)<|(s.2:Int)+1;have I:=dz f h;rw[uT];refine jO<|zw (γ':=[.val (XD f M),.val<|.int s.1,.val<|.int s.2,.val (.int<|atS f M ((s.1:Int) - 1) s.2+atS f M s.1 ((s.2:Int)+1))]) ?_ ?_
 ·simp[no1,z9,Ge,XD,W4,pD,h1,h2]
 ·simp[no2,XD,W4,pD,z,I,pq]
theorem J8(f:Nat×Nat->Int) : ∀L:List (Nat×Nat),xp (L.map λs=>D.tup [kD s,.int (f s)])=some (L.map kD,L.map λs=> .int (f s))
 | []=>rfl
 | s::L=>by show(xp<|L.map λs=>D.tup [kD s,.int (f s)]).map _=_;rw[J8 f L];rfl
theorem cJ : ∀L:List (Nat×Nat),WU (L.map kD)=some (L.map kI)
 | []=>rfl
 | s::L=>by show(mI<|kD s).bind _=_;rw[show mI (kD s)=some (kI s)from rfl];show(WU<|L.map kD).map _=_;rw[cJ L];rfl
theorem uW:qz=js 3 (zI nm1<|zI nm2 nm3):=rfl
section
variable{p:Int}{w:RX}{wd:RZ}{T:RV}{m:Nat}
theorem WL(hm:m<=5)(f:Nat×Nat->Int)(Z : ∀s,s∈stN (m+1)->vD [j8 p m w wd T,.int s.1,.int s.2]=some (.val<|.int<|f s)):qz [j8 p m w wd T]=some (.val<|XD (pq f<|m+1)<|m+1):=by
 have hl:=jz;obtain⟨n1,z,n3⟩:=gb ⟨m+1,by omega⟩;have O:=Ce ⟨m+1,by omega⟩;dsimp only at n1 z n3 O;have U:(stN<|m+1).length<=lim:=by omega
 let S:D:= .lst ((stN<|m+1).map kD);have c1:zL (.tp [0,1]) z6 (j3<|zb (j3<|zb (zc 0)<|zb (zc 1) zF)<|zb (zG vD<|zb (zc 2)<|zb (zc 0)<|zb (zc 1) zF) zF) [.no,.no,.val (j8 p m w wd T)] ((stN<|m+1).map kD)=some ((stN<|m+1).map λs=>D.tup [kD s,.int (f s)]):=by refine zo _ _ λs I=>zu (γ1:=[.val (.int s.1),.val<|.int s.2,.val (j8 p m w wd T)]) rfl rfl ?_;have:=Z s I;simp[this,kD]
 have c2:zL (.tp [0,1]) z6 (j3<|zb (j3<|zb (zc 0)<|zb (zc 1) zF)<|zb (zG xE<|zb (zc 2)<|zb (zc 0)<|zb (zc 1) zF) zF) [.no,.no,.val (XD f<|m+1)] ((stN<|m+1).map kD)=some ((stN<|m+1).map λs=>D.tup [kD s,.int (pq f (m+1) s)]):=by refine zo _ _ λs I=>zu (γ1:=[.val (.int s.1),.val<|.int s.2,.val (XD f<|m+1)]) rfl rfl ?_;have:=ck f I;simp[this,kD]
 have u1:=J8 f<|stN<|m+1;have u2:=J8 (pq f<|m+1)<|stN<|m+1;have Y:=cJ<|stN<|m+1;have em:((m:Int)+1)=((m+1:Nat):Int):=by omega
 rw[uW];refine jO<|zw (γ':=[.val (j8 p m w wd T),.val S,.no]) ?_ (zw (γ':=[.val (j8 p m w wd T),.val S,.val (XD f<|m+1)]) ?_ ?_)
 ·simp[nm1,z9,Ge,qU]
  rw[em,O];simp[S]
 ·simp[nm2,zW,S,U,c1,u1,Y,z,XD]
 ·simp[nm3,zW,S,U,c2,u2,Y,z]
  rfl
end
def cvZ(K:List (Nat×Nat))(a b:Int):Nat:=K.countP λx=>decide ((x.1:Int)<=a) && decide (b<=(x.2:Int))
def muZ(K:List (Nat×Nat))(s:Nat×Nat):Nat:=K.countP λx=>decide<|x=s
theorem wO(x:Nat×Nat)(K:List (Nat×Nat))(a b:Int):(cvZ (x::K) a b:Int)=(cvZ K a b:Int)+if (x.1:Int)<=a/\b<=(x.2:Int)then 1 else 0:=by
 unfold cvZ;rw[MV];by_cases h1:(x.1:Int)<=a
 ·by_cases h2:b<=(x.2:Int)
  ·rw[RY (show(decide ((x.1:Int)<=a) && decide (b<=(x.2:Int)))=true by simp only[decide_eq_true h1,decide_eq_true h2];rfl),RY ⟨h1,h2⟩];rfl
  ·rw[EQ (show ¬(decide ((x.1:Int)<=a) && decide (b<=(x.2:Int)))=true by simp only[decide_eq_false h2,Bool.and_false];decide),EQ λz=>h2 z.2];rfl
 ·rw[EQ (show ¬(decide ((x.1:Int)<=a) && decide (b<=(x.2:Int)))=true by simp only[decide_eq_false h1,Bool.false_and];decide),EQ λz=>h1 z.1];rfl
theorem iu(x s:Nat×Nat)(K:List (Nat×Nat)):(muZ (x::K) s:Int)=(muZ K s:Int)+if (x.1=s.1/\x.2=s.2)then 1 else 0:=by
 unfold muZ;rw[MV];by_cases h:x=s
 ·rw[RY (decide_eq_true h),RY (by rw[h];exact⟨rfl,rfl⟩)];rfl
 ·rw[EQ (by simpa using h),EQ λz=>h (Prod.ext z.1 z.2)];rfl
theorem KD(s:Nat×Nat) : ∀K:List (Nat×Nat),(cvZ K s.1 s.2:Int) - ((cvZ K ((s.1:Int) - 1) s.2:Int)+(cvZ K s.1 ((s.2:Int)+1):Int))+(cvZ K ((s.1:Int) - 1) ((s.2:Int)+1):Int)=(muZ K s:Int)
 | []=>rfl
 | x::K=>by
  have z:=KD s K;rw[wO,wO,wO,wO,iu];generalize (cvZ K s.1 s.2:Int)=I at *;generalize (cvZ K ((s.1:Int) - 1) s.2:Int)=O at *;generalize (cvZ K s.1 ((s.2:Int)+1):Int)=S at *;generalize (cvZ K ((s.1:Int) - 1) ((s.2:Int)+1):Int)=U at *;generalize (muZ K s:Int)=c5 at *
  repeat' split
  all_goals omega
section
variable{p:Int}{w:RX}{wd:RZ}{T:RV}{m N:Nat}{A:Nat->Bar}
def JR(A:Nat->Bar)(N:Nat):List (Nat×Nat):=(Ga N).map λj=>((A j).s,(A j).s+(A j).n - 1)
theorem pE(D:Decp p w wd T m N A) : ∀x,x∈JR A N->x∈stN (m+1):=λx hx=>by obtain⟨j,z,rfl⟩:=GO.mp hx;have h1:=(D.ok j<|Gc.mp z).n1;have h2:=(D.ok j<|Gc.mp z).le;exact mem_st.mpr (by show(A j).s<=(A j).s+(A j).n - 1/\(A j).s+(A j).n - 1<m+1;omega)
theorem mS(D:Decp p w wd T m N A)(I:i<=j):(cvL A N i j).length=cvZ (JR A N) i j:=by unfold cvL cvZ JR;rw[<- Hl,Ll];refine Iy λk z=>?_;have h1:=(D.ok k<|Gc.mp z).n1;simp only[Gs,Function.comp_def,decide_eq_true_eq];rw[has_iff,has_iff];omega
theorem rP(D:Decp p w wd T m N A)(I:a<=b):atS (λs=>(cvZ (JR A N) s.1 s.2:Int)) (m+1) a b=(cvZ (JR A N) a b:Int):=by
 unfold atS;split
 ·next h=>
  show((cvZ (JR A N) (a.toNat:Int) (b.toNat:Int):Nat):Int)=_;rw[LD h.1,LD ⋯]
 ·next h=>
  have:cvZ (JR A N) a b=0:=by unfold cvZ;rw[NA];intro x hx z;have:=mem_st.mp<|pE D x hx;simp only[Gs,decide_eq_true_eq]at z;omega
  rw[this];rfl
theorem uS(D:Decp p w wd T m N A)(z:s.1<=s.2):pq (λs=>(cvZ (JR A N) s.1 s.2:Int)) (m+1) s=(muZ (JR A N) s:Int):=by unfold pq;rw[rP D ⋯,rP D ⋯,rP D ⋯];exact KD s _
theorem VN(z:Pr p)(O : ∀k,wd k<=7)(S : ∀k x y,0<=T k x y/\T k x y<p)(hm:m<=20)(D:Decp p w wd T m N A)(I:i<=j)(U:j<=m):vD [j8 p m w wd T,.int i,.int j]=some (.val<|.int ((cvZ (JR A N) i j:Nat):Int)):=by obtain⟨s,q,B,B2,l,l2,e,h1,h2,Y,Z⟩:=pF (w:=w) z O S hm I U;have:=iG z D (n:=j - i) ⋯ h1 h2 Y Z;rw[show i+(j - i)=j by omega]at this;rw[e,<- mS D I];congr 3;omega
end
def u1:=(jk 1<|zG zR<|zb (zc 0)<|zb (zq<|.int 0) zF)
def u2:=(jk 2<|sIx (jQ<|kf<|zb (zq<|.int 2)<|zb (zq<|.int 3)<|zb (zq<|.int 5)<|zb (zq<|.int 7) zF)<|zv jV (zc 1)<|zq<|.int 4)
def u3:=(gr (.tp [3,4])<|sIx (jQ<|kf<|zb (j3<|zb (zq<|.int 4)<|zb (zq<|.int 2) zF)<|zb (j3<|zb (zq<|.int 3)<|zb (zq<|.int 2) zF)<|zb (j3<|zb (zq<|.int 2)<|zb (zq<|.int 2) zF)<|zb (j3<|zb (zq<|.int 2)<|zb (zq<|.int 2) zF)<|zb (j3<|zb (zq<|.int 6)<|zb (zq<|.int 1) zF)<|zb (j3<|zb (zq<|.int 5)<|zb (zq<|.int 1) zF)<|zb (j3<|zb (zq<|.int 4)<|zb (zq<|.int 1) zF)<|zb (j3<|zb (zq<|.int 3)<|zb (zq<|.int 1) zF) zF)<|zv jV (zc 1)<|zq<|.int 8)
section
variable{p:Int}{w:RX}{wd:RZ}{T:RV}{m N:Nat}{A:Nat->Bar}
theorem vU(I:Pr p)(O : ∀k,wd k<=7)(S : ∀k x y,0<=T k x y/\T k x y<p)(hm:m<=5)(D:Decp p w wd T m N A):qz [j8 p m w wd T]=some (.val<|XD (λs=>(muZ (JR A N) s:Int))<|m+1):=by
 rw[WL hm (λs=>(cvZ (JR A N) s.1 s.2:Int)) λs z=>by have:=mem_st.mp z;exact VN I O S ⋯ D this.1 ⋯]
 congr 2;unfold XD;congr 1;exact GI λs z=>by rw[uS D (mem_st.mp z).1]
theorem rE(D:Decp p w wd T m N A)(z:k<=m):cvZ (JR A N) k k=wd k:=by rw[<- mS D (Gh k),<- D.cnt k z];unfold cvL ixs;congr 1;exact List.filter_congr λj _=>by simp
end
def bS(bs:List (Int×Int))(j:Nat):Nat:=(bs.getD j (0,0)).1.toNat
def bE(bs:List (Int×Int))(j:Nat):Nat:=(bs.getD j (0,0)).2.toNat
abbrev bL(bs:List (Int×Int))(r:Nat):List Nat:=sM (bS bs) (bE bs) bs.length r
theorem iW(a b c d:Int):eqD (.tup [.int a,.int b]) (.tup [.int c,.int d])=(a==c && b==d):=by simp[eqD,eqDs,eqI]
theorem ZA : ∀bs:List (Int×Int),okSs (xZ bs)=true
 | []=>rfl
 | b::bs=>by have z:=ZA bs;unfold xZ at z ⊢;rw[GQ];show(okS _ && okSs _)=true;rw[z];rfl
theorem sN : ∀M:Fin 7,((stN M.val).length:Int)=(M.val:Int)*((M.val:Int)+1)/2:=by decide +kernel
theorem VR(key:Nat×Nat->List Int)(g:Nat×Nat->Int) : ∀{L:List (Nat×Nat)} {t:Nat×Nat},(∀x∈L,key x=key t->x=t)->t∈L->du (L.map key) (L.map g) (key t)=some (g t)
 | x::L,t,inj,h=>by
  show(if key x=key t then _ else _)=_;by_cases e:key x=key t
  ·rw[RY e,inj x Gu e]
  ·rw[EQ e]
   refine VR key g (λy I=>inj y<|Gn _ I) ?_;rcases Gr.mp h with z | z
   ·exact absurd (by rw[z]) e
   ·exact z
theorem Xd(g:Nat×Nat->Int) : ∀L:List (Nat×Nat),yx (L.map λs=>D.int<|g s)=some (L.map g)
 | []=>rfl
 | s::L=>by show(yx<|L.map λs=>D.int<|g s).map _=_;rw[Xd g L];rfl
theorem pW(f g:Nat×Nat->Int)(key:Nat×Nat->List Int)(h : ∀s,s∈stN M->du ((stN M).map key) ((stN M).map g) (kI s)=some (f s)):pX (XD f M) (.dct ((stN M).map key)<|(stN M).map λs=> .int (g s))=some true:=by show(yx _).bind _=_;rw[Xd f];show(yx _).map _=_;rw[Xd g];show some (eqT _ _ _ _)=_;congr 1;unfold eqT;rw[decide_eq_true ⋯,Bool.true_and,Ld];intro x hx;rw[LL]at hx;obtain⟨s,z,rfl⟩:=GO.mp hx;exact decide_eq_true<|h s z
theorem iQ:xU=js 4 (zI VP dc):=rfl
section
variable{ns:List Int}{p:Int}{m:Nat}{w:RX}{wd:RZ}{T:RV}
theorem cX(Y:ns.length<=63)(O:Pr p)(hm:m<=5)(U : ∀k,wd k<=7)(Z : ∀k x y,0<=T k x y/\T k x y<p) :
 ∃f g:RV,(∀k,k<m+1->Pair p (wd k) (f k) (g k))/\xU [qC ns,.int 80,j8 p m w wd T]=some (.val<|j8 p m w wd<|qq p w wd f g T):=by
 have hl:=jz;have a0:m+1<=lim:=by omega
 have a1 : ∀k:Nat,∃fg:(Nat->Nat->Int)×(Nat->Nat->Int),k<m+1->Pair p (wd k) fg.1 fg.2/\qA [qC ns,.int<|80+20*(k:Int),.int p,.int (wd k:Nat)]=some (.own [jj (wd k) (wd k) fg.1,jj (wd k) (wd k) fg.2]):=λk=>by
  by_cases I:k<m+1
  ·obtain⟨f,g,h1,h2⟩:=su Y O (n:=wd k) (by have:=U k;omega) (show(0:Int)<=80+20*(k:Int)by omega) ⋯
   exact⟨(f,g),λ_=>⟨h1,h2⟩⟩
  ·exact⟨(λ_ _=>0,λ_ _=>0),λh=>absurd h I⟩
 obtain⟨z,S⟩:=LB a1;refine⟨λk=>(z k).1,λk=>(z k).2,λk I=>(S k I).1,?_⟩;let L:List D:=(Ga<|m+1).map λk=>D.lst [jj (wd k) (wd k) (z k).1,jj (wd k) (wd k) (z k).2];have s1:VP [.val (qC ns),.val<|.int 80,.val<|j8 p m w wd T,.no]=some (.next [.val (qC ns),.val<|.int 80,.val<|j8 p m w wd T,.val (.lst L)]):=by
  have src:QE (sIx (zh 2)<|zq<|.int 1) [.val (qC ns),.val<|.int 80,.val<|j8 p m w wd T,.no]=some ((Ga<|m+1).map λ(k:Nat)=>D.tup [.int k,.int (wd k:Int)]):=by rw[<- JY (m+1) λk=>D.int (wd k:Int)];rfl
  unfold VP;rw[vn,K1,xc,src];simp only[Gk,Gw,HX,a0,if_true];rw[zo (λk=>D.lst [jj (wd k) (wd k) (z k).1,jj (wd k) (wd k) (z k).2]) _ λk I=>zu (γ1:=[.val (.int k),.val<|.int (wd k:Int),.val<|qC ns,.val<|.int 80,.val (j8 p m w wd T)]) rfl rfl ?_]
  ·rfl
  ·have I:=Gc.mp I
   have e:=(S k I).2;have a2:wy 20 (k:Int)=true:=kW _ _ ⋯ ⋯;unfold Ar;simp[qU,a2,e,ixD]
 have c1:zL (.nm 0) z6 (sIx (zh 0)<|zq<|.int 0) [Cell.no] L=some (qE (m+1) wd λk=>(z k).1):=by refine zo _ _ λk _=>zu rfl rfl ?_;rfl
 have c2:zL (.nm 0) z6 (sIx (zh 0)<|zq<|.int 1) [Cell.no] L=some (qE (m+1) wd λk=>(z k).2):=by refine zo _ _ λk _=>zu rfl rfl ?_;rfl
 have it:=WY (f:=λk=>(z k).1) (g:=λk=>(z k).2) (m:=m) (w:=w) (wd:=wd) (T:=T) O.pos O.le ⋯ (λk=>by have:=U k;omega) (λk i j _ _ _=>Z k i j)<|λk i j I hi hj=>(S k I).1.bg i j hi hj;rw[iQ];refine jO<|zw s1 ?_;have hL:L.length<=lim:=by simp[L];omega
 unfold dc;simp only[K0,we,x9,vw,xD,K1,xc,xm,jY,Gz,GC,jb,z7,AK,Gk,GM,hL,if_true];rw[show zW 1 [] [Cell.val (qC ns),.val<|.int 80,.val<|j8 p m w wd T,.val (.lst L)]=[Cell.no]from rfl,c1,c2];simp[it]
theorem Kx(A:Nat->Bar)(N:Nat)(s:Nat×Nat):((xZ<|(Ga N).map λj=>XC<|A j).countP λd=>eqD d<|.tup [.int s.1,.int s.2])=muZ (JR A N) s:=by unfold muZ JR xZ;rw[Hm,Ll,Ll];refine Iy λj _=>?_;show eqD (.tup [.int ((A j).s:Int),.int (((A j).s+(A j).n - 1:Nat):Int)]) (.tup [.int s.1,.int s.2])=true↔decide (((A j).s,(A j).s+(A j).n - 1)=s)=true;rw[iW];obtain⟨a,b⟩:=s;simp only[Gs,beq_iff_eq,decide_eq_true_eq,Prod.mk.injEq];omega
theorem lr(h:XD f M=XD g M) : ∀s,s∈stN M->f s=g s:=λs z=>by unfold XD at h;injection h with _ h;have:=List.map_inj_left.mp h s z;injection this
theorem JK(z:Pr p)(O : ∀k,wd k<=7)(hm:m<=5)(S : ∀k x y,0<=T k x y/\T k x y<p) :
 ∃(N:Nat) (A:Nat->Bar) (U us:List TB),N<=48/\Decp p w wd T m N A/\yw [j8 p m w wd T]=some (.val<|Vz ((Ga N).map λj=>XC<|A j) U us):=by
 have I : ∀k,wd k<=8:=λk=>by have:=O k;omega
 obtain⟨N,A,g,Y,ok,cnt,Z,_,e⟩:=eM (T:=T) (w:=w) z I hm λk i j _ _ _=>S k i j;exact⟨N,A,_,_,Y,rj z I ok cnt λr hr v=>⟨app (g r) (wd r) v,λi hi=>(wH (Z r hr).1 v hi).symm⟩,e⟩
end
theorem nz:F_law_k31=js 9 (zI nE<|zI si<|zI nD<|zI nC<|zI nB<|zI nA<|zI (yJ (zU<|zc 1) (.nm 6)<|yJ (xX (zc 6)<|zc 1) (.nm 7)<|zI XG K9) sh):=rfl
theorem law_k31(ns:List Int)(an:ns.length<=63):F_law_k31 [qC ns]=some (.val<|.bl true):=by
 have hl:=jz;obtain⟨e1,a1,b1⟩:=wb an (k:=0) ⋯ ⋯;generalize vi ns 0=c at e1 a1 b1;obtain⟨m,em,hm⟩ : ∃m:Nat,1+c%5=((m+1:Nat):Int)/\m<=4:=⟨(c%5).toNat,by omega,by omega⟩;obtain⟨p,wd,T,S,c4,hT,er⟩:=ah (m:=m) an ⋯;generalize XA ns=w at er;have U : ∀k,wd k<=7:=λk=>by have:=c4 k;omega
 have p0:=S.pos;obtain⟨f,g,bb,eh⟩:=cX (w:=w) an S (show m<=5 by omega) U hT;have ap : ∀k x y,0<=qq p w wd f g T k x y/\qq p w wd f g T k x y<p:=λk x y=>fU p0 w wd f g T k x y;obtain⟨Z,A1,d0,d1,d2,D1,bd⟩:=JK (w:=w) (T:=T) S U (show m<=5 by omega) hT;obtain⟨N2,A2,d3,d4,d5,D2,be⟩:=JK (w:=w) (T:=qq p w wd f g T) S U (show m<=5 by omega) ap;have bf:=vU S U hT (show m<=5 by omega) D1;have cb:=vU S U ap (show m<=5 by omega) D2;have a9:=vU S U ap (show m<=5 by omega)<|aD p0 (λr hr=>(bb r ⋯).fg) (λr hr=>(bb r ⋯).gf) D1;rw[show JR (λj=>XM p wd f<|A1 j) Z=JR A1 Z from rfl]at a9;have same : ∀s,s∈stN (m+1)->(muZ (JR A2 N2) s:Int)=(muZ (JR A1 Z) s:Int):=lr (by
  have:=cb.symm.trans a9;injection this with this;injection this)
 have kn : ∀k,k<=m->vD [j8 p m w wd T,.int k,.int k]=some (.val<|.int (wd k:Int)):=λk hk=>by rw[VN S U hT ⋯ D1 (Gh k) hk,rE D1 hk]
 have bg:=Kx A1 Z;have bi:=Kx A2 N2;generalize (Ga Z).map (λj=>XC<|A1 j)=a2 at bd bg;generalize (Ga N2).map (λj=>XC<|A2 j)=a3 at be bi;generalize bm:(λs=>(muZ (JR A1 Z) s:Int))=G at bf a9;have cf : ∀s,(((xZ a2).countP λd=>eqD d (.tup [.int s.1,.int s.2]):Nat):Int)=G s:=λs=>by rw[bg,<- bm]
 have ch : ∀s,s∈stN (m+1)->(((xZ a3).countP λd=>eqD d (.tup [.int s.1,.int s.2]):Nat):Int)=G s:=λs hs=>by rw[bi,same s hs,<- bm]
 let O:=j8 p m w wd T;let R2:=j8 p m w wd<|qq p w wd f g T;let M:D:= .int ((m+1:Nat):Int);let Y:=XD G<|m+1;let I:D:= .lst [.lst (xZ a2),.lst (xZ a3)];let z:Cell->Cell->Cell->Cell->Ctx:=λc5 c6 c7 c8=>[.val (qC ns),.val M,.val O,.val R2,.val Y,c5,c6,c7,c8];have a4:m+1<=lim:=by omega
 have s5:nB (z .no .no .no .no)=some (.next<|z .no .no .no .no):=by
  have sl:=sN ⟨m+1,by omega⟩;dsimp only at sl;have l1:aZ (zc 4) (z .no .no .no .no)=some (.int ((stN<|m+1).length:Int)):=by show some (D.int (((stN<|m+1).map kI).length:Int))=_;rw[Gw]
  have l2:ny (z .no .no .no .no)=some (.int ((stN<|m+1).length:Int)):=by
   have c1:wy ((m+1:Nat):Int) (((m+1:Nat):Int)+1)=true:=kW _ _ ⋯ ⋯;have c2:mT (((m+1:Nat):Int)*(((m+1:Nat):Int)+1)) 2=true:=by simp[mT]
   show(((if wy ((m+1:Nat):Int) (((m+1:Nat):Int)+1)=true then some (D.int<|((m+1:Nat):Int)*(((m+1:Nat):Int)+1))else none).bind λx=>some (D.int 2) |>.bind λy=>yb x y))=_;rw[RY c1,sl];show(if mT (((m+1:Nat):Int)*(((m+1:Nat):Int)+1)) 2=true then some (D.int<|((m+1:Nat):Int)*(((m+1:Nat):Int)+1)/2)else none)=_;rw[RY c2]
  have n2:zv AC (zG qz<|zb (zc 3) zF) (zc 4) (z .no .no .no .no)=some (.bl false):=by show((qz [R2]).map mf).bind _=_;rw[show qz [R2]=some (.val Y)from a9];show(pX Y Y).map _=_;rw[show pX Y Y=some true from pW G G kI λs hs=>VR kI G (λx _ h=>mK h) hs];rfl
  have tt:fN (z .no .no .no .no)=some false:=by unfold fN;rw[V5];show(Wr _ _<|z .no .no .no .no)=_;rw[V5];show(((zv AC _ _<|z .no .no .no .no).bind asB).bind _)=_;rw[n2];show((Nn (aZ (zc 4)<|z .no .no .no .no) λx=>Nn (ny<|z .no .no .no .no) λy=>dNe x y).bind asB)=_;rw[l1,l2];simp
  show((fN _).bind _)=_;rw[tt];rfl
 have cq : ∀i,i<m+1->∀c7 c8,∃al am,yJ (xX (zc 6)<|zc 1) (.nm 7) (zI XG K9) (z (.val I) (.val<|.int i) c7 c8)=some (.next<|z (.val I) (.val<|.int i) al am):=λi hi c7 c8=>by
  have src:xX (zc 6) (zc 1) (z (.val I) (.val<|.int i) c7 c8)=some (xM i<|m+1 - i):=by have r1:inR (i:Int)=true:=k9 ⋯;have r2:inR ((m+1:Nat):Int)=true:=k9 a4;show(if inR (i:Int)=true/\inR ((m+1:Nat):Int)=true then some (xM i (((m+1:Nat):Int) - (i:Int)).toNat)else none)=_;rw[RY ⟨r1,r2⟩,show(((m+1:Nat):Int) - (i:Int)).toNat=m+1 - i by omega]
  rw[K2,src];obtain⟨γ',e,al,am,rfl⟩:=ZO (T:= .nm 7) (F:=zI XG K9) (λ_ γ=>∃c7 c8,γ=z (.val I) (.val<|.int i) c7 c8) (xM i<|m+1 - i) 0 (z (.val I) (.val<|.int i) c7 c8) ⟨c7,c8,rfl⟩ (by
   rintro s dd γ ax ⟨c7,c8,rfl⟩;obtain⟨hs,rfl⟩:s<m+1 - i/\dd=D.int ((i+s:Nat):Int):=by unfold xM at ax;rw[GZ]at ax;obtain⟨k',q1,q2⟩:=Option.map_eq_some_iff.mp ax;obtain⟨q3,q4⟩:=Gq.mp q1;rw[HX]at q3;rw[List.getElem_range]at q4;subst q4;exact⟨q3,by rw[<- q2];congr 1⟩
   have bx:(i,i+s)∈stN (m+1):=mem_st.mpr ⟨by dsimp only;omega,by dsimp only;omega⟩;have gt:=dz G bx;have q1:=cf (i,i+s);have q2:=ch (i,i+s) bx;dsimp only at gt q1 q2;generalize G (i,i+s)=x at gt q1 q2;let γ1:=z (.val I) (.val<|.int i) (.val<|.int ((i+s:Nat):Int))<|.val<|.int x;have s1:XG (z (.val I) (.val<|.int i) (.val<|.int ((i+s:Nat):Int)) c8)=some (.next γ1):=by
    have ge:W4 (XD G<|m+1) (.tup [.int (i:Int),.int ((i+s:Nat):Int)]) (.int (-1))=some (.int x):=by unfold W4 XD;dsimp only;rw[pD,GM,gt];rfl
    have e:Yf (zc 4) (j3<|zb (zc 6)<|zb (zc 7) zF) (rX<|zq<|.int 1) (z (.val I) (.val<|.int i) (.val<|.int ((i+s:Nat):Int)) c8)=some (.int x):=ge;unfold XG;rw[vn,e];rfl
   have n0:Va γ1=some (.int x):=by show(if okD (.tup [.int (i:Int),.int ((i+s:Nat):Int)])=true/\okSs (xZ a2)=true then some (D.int ((xZ a2).countP λd=>eqD d (.tup [.int (i:Int),.int ((i+s:Nat):Int)]):Nat))else none)=_;rw[RY ⟨rfl,ZA a2⟩,q1]
   have n1:Y9 γ1=some (.int x):=by show(if okD (.tup [.int (i:Int),.int ((i+s:Nat):Int)])=true/\okSs (xZ a3)=true then some (D.int ((xZ a3).countP λd=>eqD d (.tup [.int (i:Int),.int ((i+s:Nat):Int)]):Nat))else none)=_;rw[RY ⟨rfl,ZA a3⟩,q2]
   have s2:K9 γ1=some (.next γ1):=by
    have tt:(Wr (ke<|sB<|zG qN<|zb (zc 8) zF)<|Wr (sB<|zv dNe (zc 8) Va)<|sB<|zv dNe (zc 8) Y9) γ1=some false:=by rw[V5];show((((qN [.int x]).map mf).bind asB).map _).bind _=_;rw[YZ];show(Wr _ _ γ1)=_;rw[V5];show((Nn (Va γ1) λy=>dNe (.int x) y).bind asB).bind _=_;rw[n0];simp only[Gk,rC,decide_true,Bool.not_true,asB,if_false,Il];show((Nn (Y9 γ1) λy=>dNe (.int x) y).bind asB)=_;rw[n1];simp
    show((_:Option Bool).bind _)=_;rw[tt];rfl
   refine⟨γ1,.inl ?_,_,_,rfl⟩;show zI XG K9 (z (.val I) (.val<|.int i) (.val<|.int ((i+s:Nat):Int)) c8)=_;exact zw s1 s2)
  exact⟨al,am,e⟩
 obtain⟨γ',eL,c6,c7,c8,rfl⟩:=ki (T:= .nm 6) (F:=yJ (xX (zc 6)<|zc 1) (.nm 7)<|zI XG K9) (f:=zc 1) (λ_ γ=>∃c6 c7 c8,γ=z (.val I) c6 c7 c8) (m+1) a4 (γ:=z (.val I) .no .no .no) rfl ⟨.no,.no,.no,rfl⟩ (by
  rintro i hi γ ⟨c6,c7,c8,rfl⟩;obtain⟨al,am,e⟩:=cq i hi c7 c8;exact⟨z (.val I) (.val<|.int i) c7 c8,_,rfl,e,_,_,_,rfl⟩)
 rw[nz];refine jO<|zw (γ':=[.val (qC ns),.val M,.no,.no,.no,.no,.no,.no,.no]) ?_ (zw (γ':=[.val (qC ns),.val M,.val O,.no,.no,.no,.no,.no,.no]) (by show((qB [qC ns,.int 1,M,.int 3]).map mf).map _=_;rw[er];rfl)<|zw (γ':=[.val (qC ns),.val M,.val O,.val R2,.no,.no,.no,.no,.no]) (by simp[nD,O,eh,R2])<|zw (γ':=z .no .no .no .no) (by simp[nC,z,O,bf,Y])<|zw s5<|zw (γ':=z (.val I) .no .no .no) ?_ (zw eL ?_))
 ·simp[nE,z9,e1,M,em]
 ·simp[nA,z,O,R2,bd,be,Vz,ixD,I]
 ·have kk:fO (z (.val I) c6 c7 c8)=some (zE (m+1) λk=>(wd k:Int)):=by
   unfold fO;simp only[z,M,xc,vq,xD,Gz,GC,jb,Gk,qg,k9 a4,if_true,Ih,jL,vf,a4];rw[je,je];refine zo _ _ λk hk=>zu (γ1:=[.val (.int k),.val O]) rfl rfl ?_;have:=kn k (by have:=Gc.mp hk;omega);simp[O,this]
  show(Na _<|Nn ((fO _).map _) _)=_;rw[kk];have dr:=lu<|ik (m+1) λk=>(wd k:Int);simp[z,O,qU,a4,dr,ixD]
open PySem.Spec PyProof.Rows
def top(i:Nat):PySem.Stmt:=PySem.Challenge.pw_barsplit_k31_whole_bars_by_numbers.main.body.getD i<|.Pass ⟨0,0,0,0⟩
section
variable{CR CL:PySem.Addr}{P:PySem.Program}{w:PySem.World}{K:FY}{mg:PySem.Str->Option PySem.Value}{base:PySem.Heap}
theorem fE(h:us.length=n+1) : ∃a t,us=a::t/\t.length=n:=by
 cases us with
 | nil=>exact absurd h<|Nat.zero_ne_add_one n
 | cons a t=>exact⟨a,t,rfl,Nat.succ.inj h⟩
theorem len1(h:us.length=1) : ∃a,us=[a]:=by obtain⟨a,I,rfl,z⟩:=fE h;rw[Hq z];exact⟨a,rfl⟩
theorem len2(h:us.length=2) : ∃a b,us=[a,b]:=by obtain⟨a,I,rfl,z⟩:=fE h;obtain⟨b,O,rfl,h1⟩:=fE z;rw[Hq h1];exact⟨a,b,rfl⟩
theorem len3(h:us.length=3) : ∃a b c,us=[a,b,c]:=by obtain⟨a,I,rfl,z⟩:=fE h;obtain⟨b,O,rfl,h1⟩:=fE z;obtain⟨c,S,rfl,h2⟩:=fE h1;rw[Hq h2];exact⟨a,b,c,rfl⟩
theorem len4(h:us.length=4) : ∃a b c d,us=[a,b,c,d]:=by obtain⟨a,O,rfl,z⟩:=fE h;obtain⟨b,S,rfl,h1⟩:=fE z;obtain⟨c,U,rfl,h2⟩:=fE h1;obtain⟨d,Y,rfl,I⟩:=fE h2;rw[Hq I];exact⟨a,b,c,d,rfl⟩
structure E0(K:FY)(mg:PySem.Str->Option PySem.Value):Prop where
 Q0:DefAt K mg "_law_cell" (top 51) ["_law_script","_law_k"]
 Q1:DefAt K mg "_law_any_row" (top 63) ["_law_script","_law_at","_law_rooms","_law_most"]
 Q2:DefAt K mg "_law_times" (top 52) ["_law_p","_law_one","_law_other"]
 Q3:DefAt K mg "_law_in_turns" (top 59) ["_law_told","_law_turns","_law_backs"]
 Q4:DefAt K mg "_law_turn" (top 54) ["_law_script","_law_at","_law_p","_law_many"]
 Q5:DefAt K mg "_law_hidden" (top 60) ["_law_script","_law_at","_law_told"]
 Q6:DefAt K mg "stretches_of" (top 47) ["many"]
 Q7:DefAt K mg "rests" (top 4) ["p","numbers"]
 Q8:DefAt K mg "inverse" (top 5) ["p","x"]
 Q9:DefAt K mg "cleared" (top 12) ["p","load","pivot","place"]
 Qa:DefAt K mg "base_of" (top 13) ["p","long","loads"]
 Qb:DefAt K mg "led" (top 6) ["p","table","load"]
 Qc:DefAt K mg "led_on" (top 15) ["p","table","base"]
 Qd:DefAt K mg "behind_noughts" (top 14) ["many","base"]
 Qe:DefAt K mg "turned_over" (top 7) ["table"]
 Qf:DefAt K mg "same_table" (top 8) ["many"]
 Qg:DefAt K mg "led_into" (top 16) ["p","table","base"]
 Qh:DefAt K mg "tables_joined" (top 41) ["one","other","join"]
 Qi:DefAt K mg "nought_table" (top 9) ["high","wide"]
 Qj:DefAt K mg "no_join" (top 42) ["one","other"]
 Qk:DefAt K mg "tables_beside" (top 43) ["one","other"]
 Ql:DefAt K mg "link" (top 45) ["row","i","j"]
 Qm:DefAt K mg "kept" (top 46) ["row","i","j"]
 Qn:DefAt K mg "number_of" (top 48) ["much","i","j"]
 Qo:DefAt K mg "numbers" (top 49) ["row"]
 Qp:DefAt K mg "kernel" (top 17) ["p","table"]
 Qq:DefAt K mg "image" (top 18) ["p","table"]
 Qr:DefAt K mg "columns" (top 25) ["high","loads"]
 Qs:DefAt K mg "has_room" (top 23) ["bar","room"]
 Qt:DefAt K mg "loads_in" (top 24) ["bars","room"]
 Qu:DefAt K mg "lead_of" (top 11) ["load"]
 Qv:DefAt K mg "mixed_load" (top 26) ["row","bars","times","room"]
 Qw:DefAt K mg "mixed" (top 27) ["row","bars","times"]
 Qx:DefAt K mg "settled" (top 28) ["row","k","bars"]
 Qy:DefAt K mg "solved" (top 19) ["p","table","load"]
 Qz:DefAt K mg "next_load" (top 29) ["p","arrow","load"]
 Q10:DefAt K mg "taken_on" (top 30) ["p","arrow","bar"]
 Q11:DefAt K mg "new_loads" (top 31) ["p","arrow"]
 Q12:DefAt K mg "grown" (top 32) ["row","k","bars"]
 Q13:DefAt K mg "stretch_of" (top 22) ["bar"]
 Q14:DefAt K mg "all_grown" (top 33) ["row"]
 Q15:DefAt K mg "back_of" (top 20) ["p","table"]
 Q16:DefAt K mg "barred" (top 34) ["row"]
 Q17:DefAt K mg "_law_whole" (top 61) ["_law_found"]
 Q18:DefAt K mg "law" (top 64) ["_law_script"]
 Z0:mg "len" = none
 Z1:mg "min" = none
 Z2:mg "range" = none
 Z3:mg "tuple" = none
 Z4:mg "sum" = none
 Z5:mg "zip" = none
 Z6:mg "enumerate" = none
 Z7:mg "int" = none
 Z8:mg "any" = none
 Z9:mg "dict" = none
 Za:mg "sorted" = none
 Zb:mg "list" = none
 Zc:mg "bool" = none
 Zd:mg "isinstance" = none
structure E1(P:PySem.Program)(w:PySem.World)(K:FY)(mg:PySem.Str->Option PySem.Value)(base:PySem.Heap)(CR CL:PySem.Addr):Prop where
 a_by:FnBy P w K mg base 3 "arrow_by" CR CL
 m_R:MethAt P w K mg base 5 CR F_led_on
 m_L:MethAt P w K mg base 5 CL F_led_into
theorem qJ(E:E0 K mg):FnD P w K mg base 1 "_law_cell" 2 zR:=
 xQ (N:=["_law_script","_law_k","_law_cell_here","_law_turn_here","_law_given"]) E.Q0 ⋯ λX I hw O hm S z hx=>by subst I hw O hm S;exact by refine ze (xu (gH (bz (Vt (xN z ⋯ E.Z0 (zS z)) zf) (Vr (kT z (jH (zC (zS z) zf) zf) zf)))) (by refine ze (jy z (zC (zS z) (zY zf (jH (zk z) (xt (xN z ⋯ E.Z0 (zS z)) zf))))) ?_;refine ze (xw hx z (jm z ⋯ E.Z2 (tY z ⋯ E.Z1 zf (k5 (zk z) (xt (xN z ⋯ E.Z0 (zS z)) zf)))) (zm (jy z (k5 (zk z) (bA zf zf))))) ?_;exact(zm (zV (jH (zk z) (bA zf zf))))) jZ) ?_;refine ze (jy z (zk z)) ?_;refine ze (xu (Vt (xN z ⋯ E.Z0 (zS z)) zf) (zm (jy z (zC (zS z) (jH (zk z) (xN z ⋯ E.Z0 (zS z)))))) jZ) ?_;exact(zm (zV (jH (jT (jH (zY (zY (zY (jT (jH (zk z) (bA zf zf)) zf) (jT (jT zf (zk z)) (zk z))) (jT zf (zk z))) zf) zf) zf) zf)))
theorem Jn(E:E0 K mg):FnD P w K mg base 2 "_law_any_row" 4 qB:=
 xQ (N:=["_law_script","_law_at","_law_rooms","_law_most","_law_p","_law_widths","_law_arrows","_law_k","_law_cell_here","_law_begin","_law_end","_law_rows","_law_step","_law_far"]) E.Q1 ⋯ λX I hw O hm S z hx=>by subst I hw O hm S;exact by refine ze (jy z (zC (PO.q (kU (qX (za zf (za zf (za zf (za zf zg))))))) (jH (jg (qJ E) z (za (zk z) (za (zk z) zg))) zf))) ?_;refine ze (jt 5 (kh z (PIF.c (jm z ⋯ E.Z2 (zk z))) (λ_ _ _ h1=>jH (k5 (jg (qJ E) h1 (za (zk h1) (za (zY (zY (zk h1) zf) (zk h1)) zg))) zf) (zY (zk h1) zf)))) ?_;refine ze (yQ z (kU (qX zg))) ?_;refine ze (xw hx z (jm z ⋯ E.Z2 (xt (zk z) zf)) (by refine ze (jy z (jg (qJ E) z (za (zk z) (za (zY (zY (zk z) zf) (zk z)) zg)))) ?_;refine ze (jy z (zC (zS z) (zY (zk z) (jH (zk z) zf)))) ?_;refine ze (jy z (zC (zS z) (xt (zY (zk z) zf) (jH (zk z) zf)))) ?_;refine ze (mw z (PIF.c (jm z ⋯ E.Z2 (zk z))) (λ_ _ _ h1=>qb h1 (PIF.c (jm h1 ⋯ E.Z2 (zk h1))) (λ_ _ _ _=>zf))) ?_;refine ze (xw hx z (jm z ⋯ E.Z2 (zY (jH (k5 (zk z) zf) (zY (jT (zk z) (zk z)) zf)) zf)) (by refine ze (jy z (jg (qJ E) z (za (zk z) (za (zY (zY (zY (zk z) zf) (jT zf (zk z))) (zk z)) zg)))) ?_;exact(zm (xu (Vt (jT (zk z) (zk z)) zf) (zm (gO 11 z ⋯ (jH (zk z) (zk z)) (jH (k5 (zk z) zf) (zk z)) (jH (k5 (zk z) zf) (zk z)))) jZ)))) ?_;refine ze (xu (gH (bz (kT z (jH (k5 (zk z) zf) zf) zf) (Vr (Vt (zk z) zf)))) (zm (gP 11 z ⋯ (xt (zk z) zf) (qb z (zX (um 11 z ⋯ zf)) (λ_ _ _ h1=>jH (jT (k5 (zk h1) zf) (zk h1)) (zk h1))))) jZ) ?_;exact(zm (Vv 11 (QN 6 z ⋯ (jf (qX (za (gC Zp (jH (zk z) zf)) (za (jf (qX (za (zk z) (za (zk z) (za (jB z ⋯ E.Z3 (PO.q (qb z (zX (zS z)) (λ_ _ _ h1=>jB h1 ⋯ E.Z3 (zS h1))))) zg))))) zg))))))))) ?_;exact(zm (zV (jf (qX (za (zk z) (za (jB z ⋯ E.Z3 (zS z)) (za (jB z ⋯ E.Z3 (zS z)) zg)))))))
theorem k8(E:E0 K mg):FnD P w K mg base 1 "_law_times" 3 jP:=
 xQ (N:=["_law_p","_law_one","_law_other","_law_columns_told","_law_rows","_law_row"]) E.Q2 ⋯ λX I hw O hm S z hx=>by subst I hw O hm S;exact by refine ze (jt 3 (kh z (PIF.c (jm z ⋯ E.Z2 (zC (zS z) zf))) (λ_ _ _ h1=>PO.v (qb h1 (zX (PV.q (zC (zS h1) zf))) (λ_ _ _ h2=>zC (zS h2) (zk h2)))))) ?_;refine ze (yQ z (kU (qX zg))) ?_;refine ze (xw hx z (QQ (zC (zS z) zf)) (zm (QN 4 z ⋯ (jB z ⋯ E.Z3 (PO.q (qb z (zX (zS z)) (λ_ _ _ h1=>jH (mi h1 ⋯ E.Z4 (PO.q (qb h1 (PIF.c (yR h1 ⋯ E.Z5 (zk h1) (zk h1))) (λ_ _ _ h2=>jT (zk h2) (zk h2))))) (zk h1)))))))) ?_;exact(zm (zV (jf (qX (za (zC (zS z) zf) (za (zC (zS z) zf) (za (jB z ⋯ E.Z3 (zS z)) zg)))))))
theorem yW(E:E0 K mg):FnD P w K mg base 2 "_law_in_turns" 3 qf:=
 xQ (N:=["_law_told","_law_turns","_law_backs","_law_p","_law_widths","_law_arrows","_law_made","_law_k","_law_pair","_law_begin","_law_end"]) E.Q3 ⋯ λX I hw O hm S z hx=>by subst I hw O hm S;exact by refine ze (gM (Fs z) (zk z)) ?_;refine ze (yQ z (kU (qX zg))) ?_;refine ze (xw hx z (X9 z ⋯ E.Z6 (zk z)) (by refine ze (jy z (zY (zk z) (QJ z ⋯ E.Z7 (bD z (zC (zS z) zf) Zp)))) ?_;refine ze (jy z (zY (zk z) (QJ z ⋯ E.Z7 (bD z (zC (zS z) zf) Zp)))) ?_;exact(zm (QN 6 z ⋯ (jf (qX (za (zC (zS z) zf) (za (jg (k8 E) z (za (zk z) (za (jg (k8 E) z (za (zk z) (za (zC (zS z) (zk z)) (za (zC (zS z) zf) zg)))) (za (zC (zS z) (zk z)) zg)))) zg)))))))) ?_;exact(zm (zV (jf (qX (za (zk z) (za (zk z) (za (jB z ⋯ E.Z3 (zS z)) zg)))))))
theorem Jm(E:E0 K mg):FnD P w K mg base 2 "_law_turn" 4 qA:=
 xQ (N:=["_law_script","_law_at","_law_p","_law_many","_law_turn_here","_law_back","_law_step","_law_cell_here","_law_a","_law_b","_law_by","_law_undo","_law_row","_law_told","_law_rows"]) E.Q4 ⋯ λX I hw O hm S z hx=>by subst I hw O hm S;exact by refine ze (QM 4 (kh z (PIF.c (jm z ⋯ E.Z2 (zk z))) (λ_ _ _ h1=>PO.v (qb h1 (PIF.c (jm h1 ⋯ E.Z2 (zk h1))) (λ_ _ _ h2=>QJ h2 ⋯ E.Z7 (bD h2 (zk h2) (zk h2))))))) ?_;refine ze (mw z (PIF.c (jm z ⋯ E.Z2 (zk z))) (λ_ _ _ h1=>qb h1 (PIF.c (jm h1 ⋯ E.Z2 (zk h1))) (λ_ _ _ h2=>QJ h2 ⋯ E.Z7 (bD h2 (zk h2) (zk h2))))) ?_;refine ze (xw hx z (jm z ⋯ E.Z2 (jT zf (zk z))) (by refine ze (jy z (jg (qJ E) z (za (zk z) (za (zY (zk z) (zk z)) zg)))) ?_;refine ze (jy z (jH (zk z) (zk z))) ?_;refine ze (jy z (jH (k5 (zk z) (zk z)) (zk z))) ?_;refine ze (jy z (zY zf (jH (k5 (zk z) zf) (xt (zk z) zf)))) ?_;exact(zm (xu (kT z (zk z) (zk z)) (by refine ze (Zu 4 z ⋯ (zk z) (PO.v (qb z (zX (PV.q (zC (zS z) (zk z)))) (λ_ _ _ h1=>jH (jT (zk h1) (zk h1)) (zk h1))))) ?_;refine ze (jy z (zC (PO.q (WB z (PIF.c (jm z ⋯ E.Z2 (zk z))) (λ_ _ _ h1=>kT h1 (jH (jT (zk h1) (zk h1)) (zk h1)) zf) (λ_ _ _ h1=>zk h1))) zf)) ?_;exact(zm (JG 5 12 (bU hx) z.calm z ⋯ ⋯ (z.tgt 12 ⋯) (zk z) (jH (jT (zC (zS z) (zk z)) (zk z)) (zk z))))) (by refine ze (Zu 4 z ⋯ (zk z) (PO.v (qb z (PIF.c (yR z ⋯ E.Z5 (zC (zS z) (zk z)) (zC (zS z) (zk z)))) (λ_ _ _ h1=>jH (zY (zk h1) (jT (zk h1) (zk h1))) (zk h1))))) ?_;exact(zm (JG 5 12 (bU hx) z.calm z ⋯ ⋯ (z.tgt 12 ⋯) (zk z) (jH (xt (zC (zS z) (zk z)) (jT (zk z) (zC (zS z) (zk z)))) (zk z))))))))) ?_;refine ze (yQ z (kU (qX zg))) ?_;refine ze (Vv 5 (bG 4 (xw hx z (QQ (PO.v (kU (qX (za (zk z) (za (zk z) zg)))))) (zm (QN 13 z ⋯ (jf (qX (za (zk z) (za (zk z) (za (jB z ⋯ E.Z3 (PO.q (qb z (zX (zS z)) (λ_ _ _ h1=>jB h1 ⋯ E.Z3 (zS h1))))) zg)))))))))) ?_;exact(zm (yk 13 (z.var ⋯)))
theorem QU(E:E0 K mg):FnD P w K mg base 3 "_law_hidden" 3 xU:=
 xQ (N:=["_law_script","_law_at","_law_told","_law_pairs"]) E.Q5 ⋯ λX I hw O hm S z hx=>by subst I hw O hm S;exact by refine ze (jt 3 (kh z (PIF.c (X9 z ⋯ E.Z6 (zC (zS z) zf))) (λ_ _ _ h1=>PO.v (xi (Jm E) h1 (za (zk h1) (za (zY (zk h1) (jT zf (zk h1))) (za (zC (zS h1) zf) (za (zk h1) zg)))))))) ?_;exact(zm (zV (jg (yW E) z (za (zk z) (za (PO.v (qb z (zX (zS z)) (λ_ _ _ h1=>zC (zS h1) zf))) (za (PO.v (qb z (zX (zS z)) (λ_ _ _ h1=>zC (zS h1) zf))) zg))))))
theorem Zy(E:E0 K mg):FnD P w K mg base 1 "stretches_of" 1 kc:=
 xQ (N:=["many","found","i"]) E.Q6 ⋯ λX I hw O hm S z hx=>by subst I hw O hm S;exact by refine ze (yQ z (kU (qX zg))) ?_;refine ze (xw hx z (jm z ⋯ E.Z2 (zk z)) (zm (oK 1 z ⋯ (qb z (PIF.c (QR z ⋯ E.Z2 (zk z) (zk z))) (λ_ _ _ h1=>jf (qX (za (zk h1) (za (zk h1) zg)))))))) ?_;exact(zm (yk 1 (z.var ⋯)))
theorem wK(E:E0 K mg):FnD P w K mg base 1 "rests" 2 xf:=
 xQ (N:=["p","numbers"]) E.Q7 ⋯ λX I hw O hm S z hx=>by subst I hw O hm S;exact zm (zV (jB z ⋯ E.Z3 (PO.q (qb z (zX (zS z)) (λ_ _ _ h1=>jH (zk h1) (zk h1))))))
theorem WJ(E:E0 K mg):FnD P w K mg base 1 "inverse" 2 vE:=
 xQ (N:=["p","x","y"]) E.Q8 ⋯ λX I hw O hm S z hx=>by subst I hw O hm S;exact by refine ze (xw hx z (QR z ⋯ E.Z2 zf (zk z)) (zm (xu (kT z (jH (jT (zk z) (zk z)) (zk z)) zf) (zm (yk 2 (z.var ⋯))) jZ))) ?_;exact(zm bF)
theorem JM(E:E0 K mg):FnD P w K mg base 2 "cleared" 4 qj:=
 xQ (N:=["p","load","pivot","place","much"]) E.Q9 ⋯ λX I hw O hm S z hx=>by subst I hw O hm S;exact by refine ze (jy z (zC (zS z) (zk z))) ?_;refine ze (xu (kT z (zk z) zf) (zm (yk 1 (z.var ⋯))) jZ) ?_;exact(zm (zV (jg (wK E) z (za (zk z) (za (PO.v (qb z (PIF.c (yR z ⋯ E.Z5 (zk z) (zk z))) (λ_ _ _ h1=>xt (zk h1) (jT (zk h1) (zk h1))))) zg)))))
theorem xo(E:E0 K mg):FnD P w K mg base 3 "base_of" 3 qk:=
 xQ (N:=["p","long","loads","left","base","place","leading","times","pivot"]) E.Qa ⋯ λX I hw O hm S z hx=>by subst I hw O hm S;exact by refine ze (jt 3 (kh z (zX (zS z)) (λ_ _ _ h1=>jg (wK E) h1 (za (zk h1) (za (zk h1) zg))))) ?_;refine ze (yQ z (kU (qX zg))) ?_;refine ze (xw hx z (jm z ⋯ E.Z2 (zk z)) (by refine ze (jt 6 (oM z (zX (zS z)) (λ_ _ _ h1=>Zs h1 (zC (zS h1) (zk h1)) zf) (λ_ _ _ h1=>zk h1))) ?_;refine ze (xu (Zr (gJ (zS z))) (zm X7) jZ) ?_;refine ze (jy z (jg (WJ E) z (za (zk z) (za (zC (PV.q (zC (zS z) zf)) (zk z)) zg)))) ?_;refine ze (jy z (jg (wK E) z (za (zk z) (za (PO.v (qb z (zX (PV.q (zC (zS z) zf))) (λ_ _ _ h1=>jT (zk h1) (zk h1)))) zg)))) ?_;refine ze (jt 3 (kh z (zX (zS z)) (λ_ _ _ h1=>jg (JM E) h1 (za (zk h1) (za (zk h1) (za (zk h1) (za (zk h1) zg))))))) ?_;exact(zm (yQ z (JJ (PO.q (qb z (zX (zS z)) (λ_ _ _ h1=>jg (JM E) h1 (za (zk h1) (za (zk h1) (za (zk h1) (za (zk h1) zg))))))) (PO.q (kU (qX (za (zk z) zg))))))))) ?_;exact(zm (yk 4 (z.var ⋯)))
theorem bY(E:E0 K mg):FnD P w K mg base 2 "led" 3 Y2:=
 xQ (N:=["p","table","load"]) E.Qb ⋯ λX I hw O hm S z hx=>by subst I hw O hm S;exact zm (zV (jg (wK E) z (za (zk z) (za (PO.v (qb z (zX (PV.q (zC (zS z) zf))) (λ_ _ _ h1=>mi h1 ⋯ E.Z4 (PO.q (qb h1 (PIF.c (yR h1 ⋯ E.Z5 (zk h1) (zk h1))) (λ_ _ _ h2=>jT (zk h2) (zk h2))))))) zg))))
theorem ok_led_on(E:E0 K mg):FnD P w K mg base 4 "led_on" 3 F_led_on:=
 xQ (N:=["p","table","base"]) E.Qc ⋯ λX I hw O hm S z hx=>by subst I hw O hm S;exact zm (qO (xi (xo E) z (za (zk z) (za (zC (zS z) zf) (za (PO.v (qb z (zX (zS z)) (λ_ _ _ h1=>jg (bY E) h1 (za (zk h1) (za (zk h1) (za (zk h1) zg)))))) zg)))))
theorem qK(E:E0 K mg):FnD P w K mg base 1 "behind_noughts" 2 jK:=
 xQ (N:=["many","base"]) E.Qd ⋯ λX I hw O hm S z hx=>by subst I hw O hm S;exact zm (qO (WB z (zX (zS z)) (λ_ _ _ h1=>Zr (k6 (mn h1 ⋯ E.Z8 (PV.q (Zq (zk h1) vQ (k7 (zk h1))))))) (λ_ _ _ h1=>Zq (zk h1) (k7 (zk h1)) vQ)))
theorem xY(E:E0 K mg):FnD P w K mg base 1 "turned_over" 1 qc:=
 xQ (N:=["table","columns"]) E.Qe ⋯ λX I hw O hm S z hx=>by subst I hw O hm S;exact by refine ze (jt 1 (kh z (PIF.c (jm z ⋯ E.Z2 (zC (zS z) zf))) (λ_ _ _ h1=>jB h1 ⋯ E.Z3 (PO.q (qb h1 (zX (PV.q (zC (zS h1) zf))) (λ_ _ _ h2=>zC (zS h2) (zk h2))))))) ?_;exact(zm (zV (jf (qX (za (zC (zS z) zf) (za (zC (zS z) zf) (za (jB z ⋯ E.Z3 (zS z)) zg)))))))
theorem qv(E:E0 K mg):FnD P w K mg base 1 "same_table" 1 jD:=
 xQ (N:=["many","rows"]) E.Qf ⋯ λX I hw O hm S z hx=>by subst I hw O hm S;exact by refine ze (jt 1 (kh z (PIF.c (jm z ⋯ E.Z2 (zk z))) (λ_ _ _ h1=>jB h1 ⋯ E.Z3 (PO.q (qb h1 (PIF.c (jm h1 ⋯ E.Z2 (zk h1))) (λ_ _ _ h2=>yj (kT h2 (zk h2) (zk h2)) zf zf)))))) ?_;exact(zm (zV (jf (qX (za (zk z) (za (zk z) (za (jB z ⋯ E.Z3 (zS z)) zg)))))))
theorem ok_led_into(E:E0 K mg):FnD P w K mg base 4 "led_into" 3 F_led_into:=
 xQ (N:=["p","table","base","pairs","free"]) E.Qg ⋯ λX I hw O hm S z hx=>by subst I hw O hm S;exact by refine ze (jt 3 (kh z (PIF.c (yR z ⋯ E.Z5 (zC (PV.q (jg (xY E) z (za (zk z) zg))) zf) (zC (PV.q (jg (qv E) z (za (zC (zS z) zf) zg))) zf))) (λ_ _ _ h1=>zY (zk h1) (zk h1)))) ?_;refine ze (jt 4 (kh z (zX (zS z)) (λ_ _ _ h1=>zY (zk h1) (jT (jf (qX (za zf zg))) (zC (zS h1) zf))))) ?_;exact(zm (qO (xi (qK E) z (za (zC (zS z) zf) (za (PO.v (xi (xo E) z (za (zk z) (za (zY (zC (zS z) zf) (zC (zS z) zf)) (za (PO.v (JJ (zS z) (zS z))) zg))))) zg)))))
theorem wC(E:E0 K mg):FnD P w K mg base 1 "tables_joined" 3 qy:=
 xQ (N:=["one","other","join","first","second"]) E.Qh ⋯ λX I hw O hm S z hx=>by subst I hw O hm S;exact by refine ze (jt 3 (kh z (PIF.c (yR z ⋯ E.Z5 (zC (zS z) zf) (zC (zS z) zf))) (λ_ _ _ h1=>zY (zk h1) (zk h1)))) ?_;refine ze (jt 4 (kh z (zX (PV.q (zC (zS z) zf))) (λ_ _ _ h1=>zY (jT (jf (qX (za zf zg))) (zC (zS h1) zf)) (zk h1)))) ?_;exact(zm (zV (jf (qX (za (zY (zC (zS z) zf) (zC (zS z) zf)) (za (zY (zC (zS z) zf) (zC (zS z) zf)) (za (jB z ⋯ E.Z3 (PV.q (PO.v (JJ (zS z) (zS z))))) zg)))))))
theorem Zz(E:E0 K mg):FnD P w K mg base 1 "nought_table" 2 qS:=
 xQ (N:=["high","wide"]) E.Qi ⋯ λX I hw O hm S z hx=>by subst I hw O hm S;exact zm (zV (jf (qX (za (zk z) (za (zk z) (za (jT (jf (qX (za (jT (jf (qX (za zf zg))) (zk z)) zg))) (zk z)) zg))))))
theorem WI(E:E0 K mg):FnD P w K mg base 2 "no_join" 2 vB:=
 xQ (N:=["one","other"]) E.Qj ⋯ λX I hw O hm S z hx=>by subst I hw O hm S;exact zm (zV (jg (Zz E) z (za (zC (zS z) zf) (za (zC (zS z) zf) zg))))
theorem yU(E:E0 K mg):FnD P w K mg base 3 "tables_beside" 2 qe:=
 xQ (N:=["one","other"]) E.Qk ⋯ λX I hw O hm S z hx=>by subst I hw O hm S;exact zm (zV (jg (wC E) z (za (zk z) (za (zk z) (za (jg (WI E) z (za (zk z) (za (zk z) zg))) zg)))))
theorem ph(E:E0 K mg)(A:E1 P w K mg base CR CL):FnD P w K mg base 6 "link" 3 V9:=
 xQ (N:=["row","i","j","same","base","arrow"]) E.Ql ⋯ λX I hw O hm S z hx=>by subst I hw O hm S;exact by refine ze (jy z (jg (qv E) z (za (zC (PV.q (zC (zS z) zf)) (zk z)) zg))) ?_;refine ze (QM 4 (kh z (zX (PV.q (zC (zS z) zf))) (λ_ _ _ h1=>zY (zk h1) (zk h1)))) ?_;refine ze (xw hx z (QQ (Zq (zC (zS z) zf) (k7 (zk z)) (k7 (zk z)))) (zm (bG 4 (yQ z (gU A.a_by A.m_R A.m_L ⋯ ⋯ ⋯ z ⋯ (zC (zS z) zf) (zC (zS z) zf) (jg (yU E) z (za (zk z) (za (zC (zS z) zf) zg))) (zk z)))))) ?_;exact(zm (yk 4 (z.var ⋯)))
theorem bZ(E:E0 K mg)(A:E1 P w K mg base CR CL):FnD P w K mg base 7 "kept" 3 vD:=
 xQ (N:=["row","i","j","base","first","second","swapped"]) E.Qm ⋯ λX I hw O hm S z hx=>by subst I hw O hm S;exact by refine ze (jy z (PO.v (xi (ph E A) z (za (zk z) (za (zk z) (za (zk z) zg)))))) ?_;refine ze (jy z (zC (PV.q (zC (zS z) zf)) (zk z))) ?_;refine ze (jy z (zC (PV.q (zC (zS z) zf)) (zk z))) ?_;refine ze (jy z (PO.v (xi (xo E) z (za (zC (zS z) zf) (za (zY (zk z) (zk z)) (za (PO.v (qb z (zX (zS z)) (λ_ _ _ h1=>zY (Zq (zk h1) (k7 (zk h1)) vQ) (Zq (zk h1) vQ (k7 (zk h1)))))) zg)))))) ?_;exact(zm (zV (xt (xt (xN z ⋯ E.Z0 (zS z)) (xN z ⋯ E.Z0 (PO.q (xi (qK E) z (za (zk z) (za (zk z) zg)))))) (xN z ⋯ E.Z0 (PO.q (xi (qK E) z (za (zk z) (za (zk z) zg))))))))
theorem Ke(E:E0 K mg):FnD P w K mg base 1 "number_of" 3 xE:=
 xQ (N:=["much","i","j","longer"]) E.Qn ⋯ λX I hw O hm S z hx=>by subst I hw O hm S;exact by refine ze (jy z (zY (QK z (zk z) (jf (qX (za (xt (zk z) zf) (za (zk z) zg)))) zf) (QK z (zk z) (jf (qX (za (zk z) (za (zY (zk z) zf) zg)))) zf))) ?_;exact(zm (zV (zY (xt (oA z (zk z) (jf (qX (za (zk z) (za (zk z) zg))))) (zk z)) (QK z (zk z) (jf (qX (za (xt (zk z) zf) (za (zY (zk z) zf) zg)))) zf))))
theorem JL(E:E0 K mg)(A:E1 P w K mg base CR CL):FnD P w K mg base 8 "numbers" 1 qz:=
 xQ (N:=["row","stretches","much"]) E.Qo ⋯ λX I hw O hm S z hx=>by subst I hw O hm S;exact by refine ze (jy z (PO.v (xi (Zy E) z (za (xN z ⋯ E.Z0 (PV.q (zC (zS z) zf))) zg)))) ?_;refine ze (jy z (Vs z ⋯ E.Z9 (qb z (zX (zS z)) (λ_ _ _ h1=>jf (qX (za (jf (qX (za (zk h1) (za (zk h1) zg)))) (za (jg (bZ E A) h1 (za (zk h1) (za (zk h1) (za (zk h1) zg)))) zg))))))) ?_;exact(zm (zV (Vs z ⋯ E.Z9 (qb z (zX (zS z)) (λ_ _ _ h1=>jf (qX (za (jf (qX (za (zk h1) (za (zk h1) zg)))) (za (jg (Ke E) h1 (za (zk h1) (za (zk h1) (za (zk h1) zg)))) zg))))))))
theorem Ki(E:E0 K mg):FnD P w K mg base 5 "kernel" 2 yv:=
 xQ (N:=["p","table"]) E.Qp ⋯ λX I hw O hm S z hx=>by subst I hw O hm S;exact zm (qO (xi (ok_led_into E) z (za (zk z) (za (zk z) (za (PO.v (kU (qX zg))) zg)))))
theorem VA(E:E0 K mg):FnD P w K mg base 4 "image" 2 wj:=
 xQ (N:=["p","table"]) E.Qq ⋯ λX I hw O hm S z hx=>by subst I hw O hm S;exact zm (qO (xi (xo E) z (za (zk z) (za (zC (zS z) zf) (za (zC (PV.q (jg (xY E) z (za (zk z) zg))) zf) zg)))))
theorem vT(E:E0 K mg):FnD P w K mg base 2 "columns" 2 xF:=
 xQ (N:=["high","loads"]) E.Qr ⋯ λX I hw O hm S z hx=>by subst I hw O hm S;exact zm (zV (jg (xY E) z (za (jf (qX (za (xN z ⋯ E.Z0 (zS z)) (za (zk z) (za (jB z ⋯ E.Z3 (zS z)) zg))))) zg)))
theorem kC(E:E0 K mg):FnD P w K mg base 1 "has_room" 2 jJ:=
 xQ (N:=["bar","room"]) E.Qs ⋯ λX I hw O hm S z hx=>by subst I hw O hm S;exact zm (zV (gF Cu Ct sT sS (zC (zS z) zf) (zk z) (zY (zC (zS z) zf) (xN z ⋯ E.Z0 (PV.q (zC (zS z) zf))))))
theorem yG(E:E0 K mg):FnD P w K mg base 2 "loads_in" 2 qp:=
 xQ (N:=["bars","room"]) E.Qt ⋯ λX I hw O hm S z hx=>by subst I hw O hm S;exact zm (qO (WB z (zX (zS z)) (λ_ _ _ h1=>k6 (jg (kC E) h1 (za (zk h1) (za (zk h1) zg)))) (λ_ _ _ h1=>zC (PV.q (zC (zS h1) zf)) (xt (zk h1) (zC (zS h1) zf)))))
theorem ym(E:E0 K mg):FnD P w K mg base 1 "lead_of" 1 qi:=
 xQ (N:=["load"]) E.Qu ⋯ λX I hw O hm S z hx=>by subst I hw O hm S;exact zm (zV (zC (PO.q (WB z (PIF.c (X9 z ⋯ E.Z6 (zk z))) (λ_ _ _ h1=>Zs h1 (zk h1) zf) (λ_ _ _ h1=>zk h1))) zf))
theorem QT(E:E0 K mg):FnD P w K mg base 3 "mixed_load" 4 xT:=
 xQ (N:=["row","bars","times","room","there"]) E.Qv ⋯ λX I hw O hm S z hx=>by subst I hw O hm S;exact by refine ze (jt 4 (oM z (PIF.c (yR z ⋯ E.Z5 (zk z) (zk z))) (λ_ _ _ h1=>k6 (jg (kC E) h1 (za (zk h1) (za (zk h1) zg)))) (λ_ _ _ h1=>zk h1))) ?_;exact(zm (zV (jg (bY E) z (za (zC (zS z) zf) (za (jg (vT E) z (za (zC (PV.q (zC (zS z) zf)) (zk z)) (za (PO.v (xi (yG E) z (za (zk z) (za (zk z) zg)))) zg))) (za (zk z) zg))))))
theorem ic(E:E0 K mg):FnD P w K mg base 4 "mixed" 3 Xy:=
 xQ (N:=["row","bars","times","first","loads"]) E.Qw ⋯ λX I hw O hm S z hx=>by subst I hw O hm S;exact by refine ze (jy z (zC (zS z) (jg (ym E) z (za (zk z) zg)))) ?_;refine ze (jt 4 (kh z (PIF.c (jm z ⋯ E.Z2 (xN z ⋯ E.Z0 (PV.q (zC (zS z) zf))))) (λ_ _ _ h1=>jg (QT E) h1 (za (zk h1) (za (zk h1) (za (zk h1) (za (zY (zC (zS h1) zf) (zk h1)) zg))))))) ?_;exact(zm (zV (jf (qX (za (zC (zS z) zf) (za (jB z ⋯ E.Z3 (zS z)) zg))))))
theorem WH(E:E0 K mg):FnD P w K mg base 6 "settled" 3 vy:=
 xQ (N:=["row","k","bars","way","table","special","base","leads"]) E.Qx ⋯ λX I hw O hm S z hx=>by subst I hw O hm S;exact by refine ze (jy z (zC (PV.q (zC (PV.q (zC (zS z) zf)) (zk z))) zf)) ?_;refine ze (jy z (zC (PV.q (zC (PV.q (zC (zS z) zf)) (zk z))) zf)) ?_;refine ze (jy z (yj (kT z (zk z) Zp) (PO.v (xi (Ki E) z (za (zC (zS z) zf) (za (zk z) zg)))) (PO.v (xi (VA E) z (za (zC (zS z) zf) (za (zk z) zg)))))) ?_;refine ze (jy z (PO.v (xi (ok_led_into E) z (za (zC (zS z) zf) (za (jg (vT E) z (za (zC (PV.q (zC (zS z) zf)) (zk z)) (za (PO.v (xi (yG E) z (za (zk z) (za (zk z) zg)))) zg))) (za (zk z) zg)))))) ?_;refine ze (jy z (gE z ⋯ E.Z9 (qb z (zX (zS z)) (λ_ _ _ h1=>jf (qX (za (jg (ym E) h1 (za (zk h1) zg)) (za (zk h1) zg))))))) ?_;exact(zm (qO (qb z (PIF.c (oT z ⋯ E.Z6 (zk z))) (λ_ _ _ h1=>yj (oF h1 (zk h1) (zk h1)) (jg (ic E) h1 (za (zk h1) (za (zk h1) (za (ua h1 (zk h1) (zk h1)) zg)))) (zk h1)))))
theorem bX(E:E0 K mg):FnD P w K mg base 4 "solved" 3 yu:=
 xQ (N:=["p","table","load","wide","answer","line","place"]) E.Qy ⋯ λX I hw O hm S z hx=>by subst I hw O hm S;exact by refine ze (jy z (zC (zS z) zf)) ?_;refine ze (yQ z (uo (kU (qX (za zf zg))) (zk z))) ?_;refine ze (xw hx z (QQ (PO.v (xi (xo E) z (za (zk z) (za (zY (zk z) zf) (za (PO.v (qb z (PIF.c (yR z ⋯ E.Z5 (zC (zS z) zf) (zk z))) (λ_ _ _ h1=>zY (zk h1) (jf (qX (za (zk h1) zg)))))) zg)))))) (by refine ze (jy z (jg (ym E) z (za (zk z) zg))) ?_;refine ze (xu (kT z (zk z) (zk z)) (zm (zV X5)) jZ) ?_;exact(zm (Zu 4 z ⋯ (zk z) (zC (zS z) (zk z)))))) ?_;exact(zm (zV (jB z ⋯ E.Z3 (zS z))))
theorem Kf(E:E0 K mg):FnD P w K mg base 5 "next_load" 3 qM:=
 xQ (N:=["p","arrow","load","there"]) E.Qz ⋯ λX I hw O hm S z hx=>by subst I hw O hm S;exact by refine ze (xu (kT z (zC (zS z) zf) Zp) (zm (zV (jg (bX E) z (za (zk z) (za (zC (zS z) zf) (za (zk z) zg)))))) jZ) ?_;refine ze (jy z (jg (bY E) z (za (zk z) (za (zC (zS z) zf) (za (zk z) zg))))) ?_;exact(zm (zV (yj (k6 (mn z ⋯ E.Z8 (zS z))) (zk z) X5)))
theorem Yp(E:E0 K mg):FnD P w K mg base 6 "taken_on" 3 kq:=
 xQ (N:=["p","arrow","bar","load"]) E.Q10 ⋯ λX I hw O hm S z hx=>by subst I hw O hm S;exact by refine ze (jy z (jg (Kf E) z (za (zk z) (za (zk z) (za (zC (PV.q (zC (zS z) zf)) (mj zf)) zg))))) ?_;exact(zm (zV (yj (oE (zk z) X5) (zk z) (jf (qX (za (zC (zS z) zf) (za (zY (zC (zS z) zf) (jf (qX (za (zk z) zg)))) zg)))))))
theorem Kg(E:E0 K mg):FnD P w K mg base 6 "new_loads" 2 kM:=
 xQ (N:=["p","arrow","leads"]) E.Q11 ⋯ λX I hw O hm S z hx=>by subst I hw O hm S;exact by refine ze (xu (kT z (zC (zS z) zf) Zp) (zm (qO (xi (Ki E) z (za (zk z) (za (zC (zS z) zf) zg))))) jZ) ?_;refine ze (jt 2 (kh z (zX (PO.q (xi (VA E) z (za (zk z) (za (zC (zS z) zf) zg))))) (λ_ _ _ h1=>jg (ym E) h1 (za (zk h1) zg)))) ?_;exact(zm (qO (WB z (PIF.c (X9 z ⋯ E.Z6 (zC (PV.q (jg (qv E) z (za (zC (PV.q (zC (zS z) zf)) zf) zg))) zf))) (λ_ _ _ h1=>Wx (zk h1) (zS h1)) (λ_ _ _ h1=>zk h1))))
theorem ie(E:E0 K mg):FnD P w K mg base 7 "grown" 3 Jg:=
 xQ (N:=["row","k","bars","p","arrow","ended","here","old","new"]) E.Q12 ⋯ λX I hw O hm S z hx=>by subst I hw O hm S;exact by refine ze (jy z (zC (zS z) zf)) ?_;refine ze (jy z (zC (PV.q (zC (zS z) zf)) (zk z))) ?_;refine ze (jt 5 (oM z (zX (zS z)) (λ_ _ _ h1=>Zr (k6 (jg (kC E) h1 (za (zk h1) (za (zk h1) zg))))) (λ_ _ _ h1=>zk h1))) ?_;refine ze (jy z (PO.v (xi (WH E) z (za (zk z) (za (zk z) (za (PO.v (WB z (zX (zS z)) (λ_ _ _ h1=>k6 (jg (kC E) h1 (za (zk h1) (za (zk h1) zg)))) (λ_ _ _ h1=>zk h1))) zg)))))) ?_;refine ze (jt 7 (kh z (zX (zS z)) (λ_ _ _ h1=>jg (Yp E) h1 (za (zk h1) (za (zk h1) (za (zk h1) zg)))))) ?_;refine ze (jt 8 (kh z (zX (PO.q (xi (Kg E) z (za (zk z) (za (zk z) zg))))) (λ_ _ _ h1=>jf (qX (za (zY (zk h1) zf) (za (jf (qX (za (zk h1) zg))) zg)))))) ?_;exact(zm (zV (PO.v (JJ (zS z) (PV.q (yj (kT z (zC (zS z) zf) Zp) (PO.v (JJ (zS z) (zS z))) (PO.v (JJ (zS z) (zS z)))))))))
theorem yV(E:E0 K mg):FnD P w K mg base 1 "stretch_of" 1 jN:=
 xQ (N:=["bar"]) E.Q13 ⋯ λX I hw O hm S z hx=>by subst I hw O hm S;exact zm (zV (jf (qX (za (zC (zS z) zf) (za (xt (zY (zC (zS z) zf) (xN z ⋯ E.Z0 (PV.q (zC (zS z) zf)))) zf) zg)))))
theorem Kk(E:E0 K mg):FnD P w K mg base 9 "all_grown" 1 kP:=
 xQ (N:=["row","bars","k"]) E.Q14 ⋯ λX I hw O hm S z hx=>by subst I hw O hm S;exact by refine ze (jt 1 (kh z (zX (PV.q (zC (PV.q (jg (qv E) z (za (zC (PV.q (zC (zS z) zf)) zf) zg))) zf))) (λ_ _ _ h1=>jf (qX (za zf (za (jf (qX (za (zk h1) zg))) zg)))))) ?_;refine ze (xw hx z (jm z ⋯ E.Z2 (xN z ⋯ E.Z0 (PV.q (zC (zS z) zf)))) (zm (jy z (jg (ie E) z (za (zk z) (za (zk z) (za (zk z) zg))))))) ?_;exact(zm (qO (gT (yV E) z ⋯ ⋯ E.Za ⋯ (zS z))))
theorem WK(E:E0 K mg):FnD P w K mg base 4 "back_of" 2 xG:=
 xQ (N:=["p","table","many","same","base"]) E.Q15 ⋯ λX I hw O hm S z hx=>by subst I hw O hm S;exact by refine ze (jy z (zC (zS z) zf)) ?_;refine ze (xu (Zs z (zC (zS z) zf) (zk z)) (zm (zV X5)) jZ) ?_;refine ze (jy z (zC (PV.q (jg (qv E) z (za (zk z) zg))) zf)) ?_;refine ze (jy z (PO.v (xi (xo E) z (za (zk z) (za (zY (zk z) (zk z)) (za (PO.v (qb z (PIF.c (yR z ⋯ E.Z5 (zC (zS z) zf) (zk z))) (λ_ _ _ h1=>zY (zk h1) (zk h1)))) zg)))))) ?_;refine ze (xu (Zs z (PO.v (qb z (zX (zS z)) (λ_ _ _ h1=>Zq (zk h1) vQ (k7 (zk h1))))) (PO.v (bJ z ⋯ E.Zb (zS z)))) (zm (zV X5)) jZ) ?_;exact(zm (zV (jf (qX (za (zk z) (za (zk z) (za (jB z ⋯ E.Z3 (PO.q (qb z (zX (zS z)) (λ_ _ _ h1=>Zq (zk h1) (k7 (zk h1)) vQ)))) zg)))))))
theorem Kj(E:E0 K mg):FnD P w K mg base 10 "barred" 1 yw:=
 xQ (N:=["row","bars","backs","turns"]) E.Q16 ⋯ λX I hw O hm S z hx=>by subst I hw O hm S;exact by refine ze (jy z (PO.v (xi (Kk E) z (za (zk z) zg)))) ?_;refine ze (jt 2 (kh z (PIF.c (X9 z ⋯ E.Z6 (zC (zS z) zf))) (λ_ _ _ h1=>jg (vT E) h1 (za (zk h1) (za (PO.v (xi (yG E) h1 (za (zk h1) (za (zk h1) zg)))) zg))))) ?_;refine ze (jt 3 (kh z (zX (zS z)) (λ_ _ _ h1=>jg (WK E) h1 (za (zC (zS h1) zf) (za (zk h1) zg))))) ?_;exact(zm (zV (jf (qX (za (PO.v (qb z (zX (zS z)) (λ_ _ _ h1=>jg (yV E) h1 (za (zk h1) zg)))) (za (zk z) (za (zk z) zg)))))))
theorem Kh(E:E0 K mg):FnD P w K mg base 1 "_law_whole" 1 qN:=
 xQ (N:=["_law_found"]) E.Q17 ⋯ λX I hw O hm S z hx=>by subst I hw O hm S;exact zm (zV (ud (bC z ⋯ E.Zd ⋯ E.Z7 (zk z)) (tW (tX (Ww z ⋯ E.Zd ⋯ E.Zc (zk z))))))
theorem ok_law(D:L2.Fun K "law" "law" (top 64) f fd)(E:E0 K mg)(A:E1 P w K mg base CR CL):FnOk P w K mg base CX0 11 f fd ["_law_script"] (spF K 1 F_law_k31):=
 CZ (N:=["_law_script","_law_rooms","_law_told","_law_other","_law_found","_law_due","_law_i","_law_j","_law_number"]) D ⋯ λX I hw O hm S z hx=>by subst I hw O hm S;exact by refine ze (jy z (zY zf (jH (jg (qJ E) z (za (zk z) (za zf zg))) zf))) ?_;refine ze (jy z (jg (Jn E) z (za (zk z) (za zf (za (zk z) (za zf zg)))))) ?_;refine ze (jy z (jg (QU E) z (za (zk z) (za zf (za (zk z) zg))))) ?_;refine ze (jy z (jg (JL E A) z (za (zk z) zg))) ?_;refine ze (xu (gH (Vq (Zr (k6 (gD z ⋯ E.Zd ⋯ E.Z9 (zk z)))) (Vq (oC z (jg (JL E A) z (za (zk z) zg)) (zk z)) (bw (Zs z (oz z ⋯ E.Z0 (zk z)) (k5 (jT (zk z) (zY (zk z) zf)) zf)))))) (zm (zV uc)) jZ) ?_;refine ze (jy z (PO.v (kU (qX (za (zC (PV.q (jg (Kj E) z (za (zk z) zg))) zf) (za (zC (PV.q (jg (Kj E) z (za (zk z) zg))) zf) zg)))))) ?_;refine ze (xw hx z (jm z ⋯ E.Z2 (zk z)) (zm (xw hx z (QR z ⋯ E.Z2 (zk z) (zk z)) (by refine ze (jy z (QK z (zk z) (jf (qX (za (zk z) (za (zk z) zg)))) (mj zf))) ?_;exact(zm (xu (gH (Vq (Zr (k6 (jg (Kh E) z (za (zk z) zg)))) (Vq (Zs z (zk z) (X6 z (PV.q (zC (zS z) zf)) (jf (qX (za (zk z) (za (zk z) zg)))))) (bw (Zs z (zk z) (X6 z (PV.q (zC (zS z) zf)) (jf (qX (za (zk z) (za (zk z) zg)))))))))) (zm (zV uc)) jZ)))))) ?_;exact(zm (zV (bD z (PO.v (qb z (PIF.c (jm z ⋯ E.Z2 (zk z))) (λ_ _ _ h1=>jg (bZ E A) h1 (za (zk h1) (za (zk h1) (za (zk h1) zg)))))) (PO.v (bJ z ⋯ E.Zb (PV.q (zC (zS z) zf)))))))
theorem ok_init(I:L2.Fun K "__init__" "Arrow.__init__" (inCls (top 36) 0) f fd)(c:ClsA K C):FnOk P w K mg base CX0 1 f fd ["self","p","table"] (Zg C):=
 pU (k:=0) I ⋯ c λX O hw S hm U z=>by subst O hw S hm U;exact Vu (mz (z.var ⋯) (z.var ⋯) rfl)<|vO<|mz (z.var ⋯) (z.var ⋯) rfl
theorem ok_forthR(O:L2.Fun K "forth" "Right.forth" (inCls (top 37) 0) f fd)(c:ClsA K C)(S:FnD P w K mg base 4 "led_on" 3 F_led_on):FnOk P w K mg base CX0 5 f fd ["self","base"] (spForth K C F_led_on):=
 VV (k:=4) O ⋯ c λX U hw Y hm I z=>by subst U hw Y hm I;obtain⟨fa,fd,ps,hn,G,hm,Z,I⟩:=S.ex;rw[hn]at G;exact vO (JH (Zx G (z.room.mono ⋯) (z.gl (x:="led_on") ⋯).1 hm Z I .nil Kb (zZ (Vy (z.var ⋯) rfl) (zZ (Vy (z.var ⋯) rfl) (zZ (z.var ⋯) j1)))))
theorem ok_forthL(O:L2.Fun K "forth" "Left.forth" (inCls (top 38) 0) f fd)(c:ClsA K C)(S:FnD P w K mg base 4 "led_into" 3 F_led_into):FnOk P w K mg base CX0 5 f fd ["self","base"] (spForth K C F_led_into):=
 VV (k:=4) O ⋯ c λX U hw Y hm I z=>by subst U hw Y hm I;obtain⟨fa,fd,ps,hn,G,hm,Z,I⟩:=S.ex;rw[hn]at G;exact vO (JH (Zx G (z.room.mono ⋯) (z.gl (x:="led_into") ⋯).1 hm Z I .nil Kb (zZ (Vy (z.var ⋯) rfl) (zZ (Vy (z.var ⋯) rfl) (zZ (z.var ⋯) j1)))))
theorem ok_by(O:L2.Fun K "arrow_by" "arrow_by" (top 39) f fd)(S:Mk K CR fI)(U:Mk K CL fI)(Y:FnOk P w K mg base CX0 1 fI fdI ["self","p","table"] (Zg CR))(GL:FnOk P w K mg base CX0 1 fI fdI ["self","p","table"] (Zg CL))(I:Binds K fdI ["self","p","table"] [])(mR:mg "Right" = some (.ref CR))(mL:mg "Left" = some (.ref CL)):FnOk P w K mg base CX0 3 f fd ["p","way","table"] (spBy CR CL):=
 CY (k:=2) O ⋯ λX Z hw hK hm hb z=>by subst Z hw hK hm hb;exact vO (JH (L2.pe_ifExp (Yk Cw (z.var ⋯) mC (by with_unfolding_all rfl)) (bT S Y (z.room.mono ⋯) (z.gl (x:="Right") ⋯).1 mR I .nil Kb (zZ (z.var ⋯) (zZ (z.var ⋯) j1))) (bT U GL (z.room.mono ⋯) (z.gl (x:="Left") ⋯).1 mL I .nil Kb (zZ (z.var ⋯) (zZ (z.var ⋯) j1)))))
end
end DL
namespace PySem.W.Fast
def tw8454652871317245360:=0
def tw15681795070791783847:=0
def tw9065210982856451003:=0
def tw11695634001419843412:=0
def tw2059414812399414530:=0
def tw9085149386885725218:=0
def tw11101257366493918141:=0
def tw2610522916844773331:=0
def tw9974767658795157618:=0
def tw5037397145135875763:=0
def tw10461716894643956218:=0
def tw7449119886475740885:=0
def tw7685255465796947638:=0
def tw10355332336882556143:=0
def tw5609306940786421294:=0
def tw10794756791245436050:=0
def tw16420471627548851211:=0
def tw11498531825913401149:=0
def tw4574729645240089176:=0
def tw1539556215537202224:=0
def tw3722597139320618853:=0
def tw2259841568643307747:=0
def tw6581513308236224257:=0
def tw18029390857714003507:=0
def tw8092716300524000839:=0
def tw14095607794453708247:=0
def tw2372492705196961523:=0
def tw6271867410363782321:=0
def tw5295540528378288676:=0
def tw4194794921488936018:=0
def tw8234690078283892934:=0
def tw9070943290095067973:=0
def tw10422087684048963019:=0
def tw8954978402638933063:=0
def tw4022125241654918651:=0
def tw7009114678087795311:=0
def tw6826972406710384145:=0
def tw17746671952868737322:=0
def tw5742039908483279640:=0
def tw2752965777812872109:=0
def tw3043189072426565240:=0
def tw18309221016843847317:=0
def tw16184242858619963573:=0
def tw2445218788051739615:=0
def tw5925343770613317729:=0
def tw887502512198056718:=0
def tw17888591881521151797:=0
def tw2038329130720709731:=0
def tw2819713243258266946:=0
def tw9832349062943741564:=0
def tw10641929386652528880:=0
def tw9250149118720467392:=0
def tw11179290313463810963:=0
def tw6782162934308538879:=0
def tw4318171250081590948:=0
def tw14785135194453636282:=0
def tw2659165369162183703:=0
def tw8644486845111754664:=0
def tw9301289214756436918:=0
def tw16852205431280132959:=0
def tw5496994934272729401:=0
def tw3321499643310388841:=0
def tw6845246053736496419:=0
def tw6743115489144663888:=0
def tw4740504348192112274:=0
def tw13368758096016150803:=0
def tw16449544148442377028:=0
def tw2371879235060438080:=0
def tw2298978237808760005:=0
def tw2919298335565112262:=0
def tw1644913285689682060:=0
def tw4955280012170927413:=0
def tw13542171425964406202:=0
def tw17246015529404809760:=0
def tw6093514039647719628:=0
def tw9546718462245638802:=0
def tw16446180384066093877:=0
def tw5078945549625300890:=0
def tw9914389482093384252:=0
def tw2240220261254887259:=0
def tw7006784842160632186:=0
def tw15221013440293169046:=0
def tw18403246263446900414:=0
def tw17935939985901424454:=0
def tw3651947973330559156:=0
def tw6767835275671691276:=0
def tw13521362070896922010:=0
def tw8452044419318703170:=0
def tw14721704928046428644:=0
def tw15832126217806261851:=0
def tw17576637907201052834:=0
def tw4851944262646598267:=0
def tw7075035145113188056:=0
def tw14833544299145661:=0
def tw1870615720119197585:=0
def tw14347127447996971783:=0
def tw1161178169824199174:=0
def tw4843523789566338111:=0
def tw7636525187443238122:=0
def tw8169247697055058279:=0
def tw13296555859531034315:=0
def tw15033569147371683368:=0
def tw3922369020009399846:=0
def tw1663018855728546771:=0
def tw16933803175434434313:=0
def tw18188123256492124379:=0
def tw10966549273461901578:=0
def tw15798355225805056769:=0
def tw14808849569198805287:=0
def tw1643000558042089060:=0
def tw7870083377942096797:=0
def tw4612609094594762743:=0
end PySem.W.Fast
open PySem PySem.W PyProof.Rows
set_option maxRecDepth 100000 in
set_option maxHeartbeats 0 in
theorem PySem.Challenge.cw_barsplit_k31_whole_bars_by_numbers_holds : PySem.Challenge.rw_barsplit_k31_whole_bars_by_numbers.Holds := by
 w_on;o_law;k_head;(case hw=>w_witness2)
 k_fill
 refine L2.walk_ofK (l:=GV) (n:=63) (k:=11) (x:="_law_script") (CX:=L2.CX0) (sp:=λK=>DL.spF K 1 DL.F_law_k31) rfl ⋯ rfl ⟨rfl,by decide,by decide⟩ (λw h Y=>PySem.W.kIn_of Y) ?F ?S ?C
 case S=>exact λK H a ns I hO hS=>DL.law_true hS (DL.law_k31 ns I)
 case C=>exact λ_ _ _ _ z=>z
 case F=>
  intro w mg fa h O G a3;have E:DL.E0 (L2.KOf O) mg:=by
   constructor
   all_goals first
    | assumption
    | exact PySem.W.mg_none_of O G (by k_is)
    | (dsimp only[L2.KOf];refine' DL.def_mk O G ?a ?l ?c ?k ?b;(case a=>k_is);(case l=>k_is);(case c=>k_is);(case k=>k_is);(case b=>intro _ _ _ _ _ _ us I;first | (obtain⟨_,rfl⟩:=DL.len1 I;rfl) | (obtain⟨_,_,rfl⟩:=DL.len2 I;rfl) | (obtain⟨_,_,_,rfl⟩:=DL.len3 I;rfl) | (obtain⟨_,_,_,_,rfl⟩:=DL.len4 I;rfl)))
  have AR:DL.ArrAt (L2.KOf O) mg (DL.inCls (DL.top 36) 0) (DL.inCls (DL.top 37) 0) (DL.inCls (DL.top 38) 0):=by
   dsimp only[L2.KOf];refine' DL.arr_mk O G ?nR ?nL ?iR ?iL ?mR ?mL ?uI ?uR ?uL ?vI ?vR ?vL ?w1 ?w2 ?w3 ?z1 ?z2 ?z3 ?bR ?bL ?gI ?gR ?gL
   (case nR=>k_is)
   (case nL=>k_is)
   (case iR=>k_is)
   (case iL=>k_is)
   (case mR=>k_is)
   (case mL=>k_is)
   (case uI=>k_is)
   (case uR=>k_is)
   (case uL=>k_is)
   (case vI=>k_is)
   (case vR=>k_is)
   (case vL=>k_is)
   (case w1=>k_is)
   (case w2=>k_is)
   (case w3=>k_is)
   (case z1=>k_is)
   (case z2=>k_is)
   (case z3=>k_is)
   (case bR=>kernel_rfl)
   (case bL=>kernel_rfl)
   (case gI=>intro _ _ _ _ _ _ us I;obtain⟨_,_,_,rfl⟩:=DL.len3 I;rfl)
   (case gR=>intro _ _ _ _ _ _ us I;obtain⟨_,_,rfl⟩:=DL.len2 I;rfl)
   (case gL=>intro _ _ _ _ _ _ us I;obtain⟨_,_,rfl⟩:=DL.len2 I;rfl)
  have a5:DL.DefAt (L2.KOf O) mg "arrow_by" (DL.top 39) ["p","way","table"]:=by
   dsimp only[L2.KOf];refine' DL.def_mk O G ?a ?l ?c ?k ?b
   (case a=>k_is);(case l=>k_is);(case c=>k_is);(case k=>k_is)
   (case b=>intro _ _ _ _ _ _ us I;obtain⟨_,_,_,rfl⟩:=DL.len3 I;rfl)
  obtain⟨f,fd,Fu,hb,hm⟩:=E.Q18.ex;have e0:=a3.symm.trans hm;cases e0;refine⟨fd,λs u=> .of_eq (hb [u] rfl),λbase kb nb=>?_⟩;obtain⟨CR,CL,fI,fR,fL,dI,dR,dL,q1,q2,q3,q4,U,Z,q7,q8,q9,ap,ar,as,ax,b0⟩:=AR.ex;obtain⟨b9,bb,a1,bd,be⟩:=a5.ex;have a_by:DL.FnBy (GV).prog w (L2.KOf O) mg base 3 "arrow_by" CR CL:=⟨b9,bb,DL.ok_by a1 q3 q4 (DL.ok_init q9 U) (DL.ok_init q9 Z) as q1 q2,be,a1.kp,.all bd⟩;have m_R:DL.MethAt (GV).prog w (L2.KOf O) mg base 5 CR DL.F_led_on:=⟨U,fR,dR,q7,DL.ok_forthR ap U (DL.ok_led_on E),ax⟩;have m_L:DL.MethAt (GV).prog w (L2.KOf O) mg base 5 CL DL.F_led_into:=⟨Z,fL,dL,q8,DL.ok_forthL ar Z (DL.ok_led_into E),b0⟩;have A:DL.E1 (GV).prog w (L2.KOf O) mg base CR CL:=⟨a_by,m_R,m_L⟩;exact DL.ok_law Fu E A
