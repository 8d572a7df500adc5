import PyProof.Rows.All
import Wide.All
import OpenK.AllK
import Wide.FinOn
import Lean
import PyProof.EqAt
import PyProof.EqKinds
import PyProof.TupleCall
import PySem.Str
import PyProof.ZipIter
import PyProof.IsiBase
import KE.KItemsList
import KE.KIsAll
import OpenK.KOwn
import KE.KSortAsk
import PyProof.StrBlockI
import PyProof.Rows.EqDataRows
import PyProof.Rows.InDataRows
import PyProof.SumWalkG
import PyProof.ConsumeWalk
import PyProof.WalksMore
import KE.KSortTup
import PyProof.ListMulRoad
import PyProof.EnumFor
import PyProof.Rows.EnumRows
import PyProof.StrBlockL
import PyProof.JoinWalk
import PyProof.NsDelKeeps
import KE.KTryDeep
import PyProof.InstStoreFacts
import PyProof.NsCount
import PyProof.ExcClass2
import PyProof.Rows.FStr
import PyProof.StationsW
import PyProof.Rows.Catch
import KE.KRevIter
import PyProof.CollectIter
import PyProof.TupleOfGen
import PyProof.Rows.Tup
import PyProof.Draws
import PyProof.EnumMake
import PyProof.StrWalks
import PyProof.SliceStr2
import PyProof.ListNew
import KE.KDictOf
import PyProof.ListRange
import PyProof.Rows.GenSrcRange
import PyProof.ListCopy
import PyProof.AttrMissHeap
import PyProof.DictWalks
import PyProof.FactsDict
import KE.KSortKey
import PyProof.TableCode
import PyProof.Rows.KernelRfl
import PySem.Challenge.RW_barsplit_k54_whole_turned_back
open List renaming range → Io, mem_range → Iu, getElem?_eq_getElem → Iv, replicate → Iw, getD_eq_getElem?_getD → Iy, size_toArray → IF, mem_cons → IG, getElem?_set_ne → IH, getElem?_cons_zero → II, map_congr_left → IK, getElem?_cons_succ → IM, mem_filter → IP, length_map → IQ, map_cons → IS, mem_cons_of_mem → IT, getElem?_eq_some_iff → IX, mem_cons_self → IY, mem_map → La, countP_eq_length_filter → Lf, not_mem_nil → Li, length_cons → Lj, getElem?_map → Lo, eq_nil_of_length_eq_zero → Lu, map_append → Lx, map_map → LA, getElem?_append_right → LB, all_eq_true → LC, length_append → LD, getElem?_set_self → LJ, lookup_cons → LL, mem_append_right → LQ, getElem_mem → LU, getElem?_append_left → LX, range_eq_range' → LZ, set_cons_zero → Mb, set_cons_succ → Mc, range_succ → Me, length_range → Mg, mem_of_getElem? → Mi, take_of_length_le → Mq, length_nil → Mz, range'_succ → MA, replicate_succ → MG, getElem?_range → MH, countP_congr → MK, pairwise_iff_getElem → MS, nodup_cons → MW, flatten_cons → MX, find?_cons → MY, filter_congr → MZ, append_nil → Na, range' → Ng, filter_sublist → Nh, countP_eq_zero → Ni, length_take → Nl, nodup_range → NB, lookup → NF, mem_singleton → NK, mem_append → NL, getElem?_replicate → NM, Pairwise → NN, pairwise_lt_range → NR, pairwise_map → NS, range_add → NY, length_singleton → NZ, zip_map' → Od, countP_map → Oi, find?_eq_none → Ov, filter_append → Ow, ext_getElem? → OI, any_eq_false → OJ, any_cons → OO, mem_flatMap → OT, find?_cons_of_pos → OV, find?_cons_of_neg → OW, map_nil → Pa, cons → Pb, length → Po, getElem_of_mem → Pp, filterMap_cons → Pq, length_eq_countP_add_countP → PP, append_assoc → PU, length_drop → Re, ext_getElem → Rf, cons_append → Rg
open PySem.W renaming Frag → Ip, findIn → Lr, kia_one → Lv, keepIn → Mn, fnOf → My, emptyDict → MB, instObj → MT, kitOne → Nu, codeIn → Nv, cellsFrom_some → NJ, plainGet → NX, isFn → Oh, hasDictIn → Ot, nsIn → OQ, makesIn → OR, lookIn → OZ, plainGet_of → Pd, mg_of → Ph, callWith_K → Pi, plainOver → PD, methodObj → PF, kitx_list → PH, kitx_dict → PJ
open PySem renaming wpAny_bind → Iq, wpAny_pure → IA, wpAny_field → LV, wpAny_newObj_type → Mj, wpAny_callSpecial?_slot → Ml, wpAny_setField_rec → Ms, wpAny_truthy_bool → Mx, wpAny_call_entry → ME, wpAny_seqItems → MI, wpAny_loadPart' → MQ, wpAny_mono → Nr, wpAny_passesOwn → Nx, mem_of_lookup → Nz, Builtin → NI, wpAny_getItem_str_slice → NT, wpAny_Call_Name_kw → NU, tupleKind_room_in1 → NV, call_meets → Ob, wpAny_typeOf → Of, wpAny_holding → Os, wpAny_rule → Ox, pushCells_keeps → OD, wpAny_pyIter_tuple → ON, wpAny_dictEntries → OX, wpAny_execs_nil → Pw, post_val_or_str → Px, codeAny_mono → Py, wpAny_updateSeq_pair → PL, Within → PR, sizeLine_eq → PX, wpAny_onRaise → Rh, wpAny_attempt → Ri, wpAny_pyIter_list → Rm, concat_meets → Rn, wpAny_isInstance → Ro, noFill_tuple_add → Rp
open PySem.Heap renaming get?_push_of_some → Ir, lt_size → IL, get?_push_size → IR, size_push → Ls, push → LM, SameBut → NG
open Option renaming bind_some → Iz, map_some → Lm, isSome_iff_exists → Mt, some → Mw, getD_some → Nf, bind → Ny, map → Oy
open Int renaming mul_emod → IB, emod_lt_of_pos → IU, add_emod → IV, emod_emod → Lb, emod_nonneg → Le, emod_eq_of_lt → Lh, mul_assoc → Lw, mul_comm → LK, toNat_natCast → Mh, emod_eq_emod_iff_emod_sub_eq_zero → Mo, sub_emod → Mv, mul_one → MO, mul_left_comm → Nc, eq_ofNat_of_zero_le → Nj, toNat_of_nonneg → Oj, mul_add → Om, add_mul → On, mul_zero → Oz, one_mul → OU, sub_zero → Pg
open Nat renaming le_refl → IC, lt_or_ge → IJ, lt_of_lt_of_le → IW, add_sub_cancel_left → IZ, not_lt_zero → Lc, ne_of_lt → Ln, lt_irrefl → Lz, le_trans → LG, le_add_right → LW, lt_succ_of_lt → LY, lt_succ_self → Mf, ne_of_gt → MJ, zero_le → MN, lt_trichotomy → Nb, min_eq_left → Nt, zero_add → NH, add_assoc → OS, le_of_lt → Pf, mul_comm → Rb, add_zero → Rc
open Bool renaming and_eq_true → ID, false_ne_true → IE, or_eq_true → LO, false_eq_true → LP, eq_iff_iff → Mr, not_eq_true' → MM, not_true → Oe, not_false → OA, false_and → OB, true_and → OP
open PySem.NameKind renaming free → Ld, cell → MV
open PySem.Challenge renaming rw_barsplit_k54_whole_turned_back → Lg
open PySem.Builtin.SmallTypes renaming nextOf → Ll, ownedTupleIsFree → LI, ownedTupleHandOut → MD, ownedTupleFields → Oo
open PySem.Value renaming ref → Lq, none → Nk, type → ND, str → OY, int → PB, bool → PM
open Ne renaming symm → Ly
open Option.some renaming inj → LH
open PySem.Str renaming ofString → LR, join → Rl
open Classical renaming byContradiction → LS, axiomOfChoice → NC
open PyProof.Rows renaming callWith_type1 → Ma, slot_tuple_getitem → Md, slot_tupleiter_next → OC, tupleItemsOf_ → Pc, callWith_builtin1 → Pe
open PySem.SeqAt renaming EqAt → Mp
open Sum renaming inl → Mu, inr → PY
open PySem.Builtin.Tuple renaming tupleExact → MC, tupleIsExact → Nm
open True renaming intro → MF
open PySem.Builtin.List renaming listTooLong → MP
open False renaming elim → MU
open Array renaming length_toList → Nd
open List.cons renaming injEq → Nn
open PySem.Calls renaming spliced_cons → Np, spliced_nil → OH
open PySem.Builtin.Slice renaming slicePlaces → Nq, sliceAdjust → Oa
open PySem.F renaming slot_enumerate_next → Nw, slot_list_getattribute → NO, slot_tuple_mul → Og, args_tuple_add_2 → Ou, plainAttrs_list → OE, entry_tuple_add → OF, slot_tuple_add → OK, slot_zip_next → Pj, args_tuple_mul_2 → PZ, entry_tuple_mul → Rj
open PySem.PyData renaming depth → NA, eqv → NP, canLay0 → NQ, eqvAll → Pn, canLayAll0 → PK
open List.Pairwise renaming imp_of_mem → Oc, filter → OG
open PySem.Builtin.Dict renaming samePairs → Oq
open ForInStep renaming yield → OM
open Eq renaming trans → Pk
open Function renaming comp_def → Pu
open PySem.Obj renaming data_mapFields → PN
open PySem.Txt renaming slice_le → Ra
local macro_rules | `(⋯) => `(by first | decide +kernel | omega | simp)
set_option autoImplicit true
noncomputable section
set_option Elab.async false
set_option linter.all false
set_option maxRecDepth 100000
set_option maxHeartbeats 4000000
abbrev RQ:=PySem.Value->PySem.Shared->Prop
abbrev RW:=List (PySem.Addr×PySem.Obj)
abbrev RV:=Nat->Nat->Nat->Int
abbrev RK:=Nat->Nat->Int
abbrev RX:=Nat->Bool
abbrev RZ:=Nat->Nat
abbrev RJ:=PySem.Str->Option PySem.Value
theorem RY{c:Prop}{h:Decidable c}(z:c){α}{a b:α}:ite c a b=a:=if_pos z
theorem EQ{c:Prop}{h:Decidable c}(z:¬c){α}{a b:α}:ite c a b=b:=if_neg z
namespace L2
open PySem PySem.Spec PyProof.Rows
abbrev Key:=Sum Int Str
def ao:Key->Value->Bool
 | .inl k,v=>Value.isInt k v
 | .inr x,v=>Value.isStrOf x v
def HL(w:World):Key->Int
 | .inl k=>hashInt k
 | .inr x=>hashStr w x
theorem jY : ∀{k:Key} {v:Value},ao k v=true->(∃i t,k=Mu i/\v=PB i t)\/(∃x t,k=PY x/\v=OY x t)
 | .inl i,v,h=>by obtain⟨t,e⟩:=Value.isInt_shape (k:=i) (v:=v) h;exact .inl ⟨i,t,rfl,e⟩
 | .inr x,v,h=>by obtain⟨t,e⟩:=Value.isStrOf_shape (x:=x) (v:=v) h;exact .inr ⟨x,t,rfl,e⟩
theorem dC(i:Int)(t:Tok):ao (.inl i) (.int i t)=true:=by simp[ao,Value.isInt]
theorem dB(x:Str)(t:Tok):ao (.inr x) (.str x t)=true:=by simp[ao,Value.isStrOf]
theorem AU(a b:Int):decide ((Mu a:Key)=Mu b)=(a==b):=by
 by_cases e:a=b
 ·subst e;simp
 ·have h : ¬(Mu a:Key)=Mu b:=λq=>e (Mu.inj q)
  rw[decide_eq_false h];exact(beq_eq_false_iff_ne.mpr e).symm
theorem AO(a b:Str):decide ((PY a:Key)=PY b)=decide (a=b):=by
 by_cases e:a=b
 ·subst e;simp
 ·have h : ¬(PY a:Key)=PY b:=λq=>e (PY.inj q)
  rw[decide_eq_false h,decide_eq_false e]
theorem AS(a:Int)(b:Str):decide ((Mu a:Key)=PY b)=false:=decide_eq_false<|λq=>nomatch q
theorem AQ(a:Str)(b:Int):decide ((PY a:Key)=Mu b)=false:=decide_eq_false<|λq=>nomatch q
def qw(prog:Program)(w:World):PySem.KeyKind prog w Key where
 is:=ao
 hash:=HL w
 inj:=λv a b ha hb=>by
  rcases jY ha with⟨i,t,rfl,rfl⟩ | ⟨x,t,rfl,rfl⟩
  ·rcases jY hb with⟨j,u,rfl,e⟩ | ⟨y,u,rfl,e⟩
   ·injection e with e1 _;rw[e1]
   ·exact nomatch e
  ·rcases jY hb with⟨j,u,rfl,e⟩ | ⟨y,u,rfl,e⟩
   ·exact nomatch e
   ·injection e with e1 _;rw[e1]
 byValue:=λk v h=>by rcases jY h with⟨i,t,rfl,rfl⟩ | ⟨x,t,rfl,rfl⟩<;>rfl
 pyHash:=λz h=>by
  rcases jY z with⟨i,t,rfl,rfl⟩ | ⟨x,t,rfl,rfl⟩
  ·exact wpAny_pyHash_int h
  ·exact wpAny_pyHash_str h
 eqBool:=λI z h=>by
  rcases jY I with⟨i,t,rfl,rfl⟩ | ⟨x,t,rfl,rfl⟩
  ·rcases jY z with⟨j,u,rfl,rfl⟩ | ⟨y,u,rfl,rfl⟩
   ·rw[AU]at h;exact wpAny_eqBool_int h
   ·rw[AS]at h;exact Mp.int_str i t y u _ _ _ _ h
  ·rcases jY z with⟨j,u,rfl,rfl⟩ | ⟨y,u,rfl,rfl⟩
   ·rw[AQ]at h;exact Mp.str_int x t j u _ _ _ _ h
   ·rw[AO]at h;exact wpAny_eqBool_str h
 «strs» :=λk x t v h=>by
  rcases jY h with⟨i,u,rfl,e⟩ | ⟨y,u,rfl,e⟩
  ·exact nomatch e
  ·injection e with e1 _
   subst e1;cases v<;>rfl
theorem YB(prog:Program)(w:World)(i:Int)(t:Tok):(qw prog w).is (.inl i) (.int i t)=true:=dC i t
theorem YA(prog:Program)(w:World)(x:Str)(t:Tok):(qw prog w).is (.inr x) (.str x t)=true:=dB x t
inductive V where
 | non | bl (b:Bool) | int (i:Int) | str (x:Str) | byt (b:Array UInt8) | flt (b:UInt64) | ref (a:Addr) | ty (n:String)
 deriving DecidableEq
def RelV:V->Value->Prop
 | .non,u=>u=Nk
 | .bl b,u=>u=PM b
 | .int i,u=>∃t,u=PB i t
 | .str x,u=>∃t,u=OY x t
 | .byt b,u=>∃t,u=Value.bytes b t
 | .flt b,u=>∃t,u=Value.float b t
 | .ref a,u=>u=Lq a
 | .ty n,u=>u=ND n
abbrev Vals:List V->List Value->Prop:=Paired RelV
theorem Vals.length(r:Vals xs us):xs.length=us.length:=Paired.length r
theorem Vals.get : ∀{xs:List V} {us:List Value} {i:Nat} {x:V},Vals xs us->xs[i]? = some x->∃u,us[i]? = some u/\RelV x u
 | _,_,_,_,.nil,e=>by simp at e
 | _,_,0,_,.cons r _,e=>by simp at e;subst e;exact⟨_,rfl,r⟩
 | _,_,i+1,x,.cons _ t,e=>by obtain⟨u,h1,h2⟩:=Vals.get (i:=i) (x:=x) t (by simpa using e);exact⟨u,by simpa using h1,h2⟩
theorem Vals.append : ∀{xs ys:List V} {us z:List Value},Vals xs us->Vals ys z->Vals (xs++ys) (us++z)
 | _,_,_,_,.nil,s=>s
 | _,_,_,_,.cons r t,s=> .cons r (Vals.append t s)
theorem Vals.take : ∀{xs:List V} {us:List Value} (n:Nat),Vals xs us->Vals (xs.take n) (us.take n)
 | _,_,0,_=> .nil
 | _,_,_+1,.nil=> .nil
 | _,_,n+1,.cons r t=> .cons r (Vals.take n t)
theorem Vals.drop : ∀{xs:List V} {us:List Value} (n:Nat),Vals xs us->Vals (xs.drop n) (us.drop n)
 | _,_,0,r=>r
 | _,_,_+1,.nil=> .nil
 | _,_,n+1,.cons _ t=>Vals.drop n t
def RelO:Option V->Option Value->Prop
 | some v,some u=>RelV v u
 | none,none=>True
 | _,_=>False
def KV{κ:Type}:List (κ×V)->List (κ×Value)->Prop:=Paired λ(p:κ×V) (q:κ×Value)=>p.1=q.1/\RelV p.2 q.2
def kV:Key->V
 | .inl i=> .int i
 | .inr x=> .str x
inductive HO where
 | lst (xs:List V)
 | tup (xs:List V)
 | dK (kvs:List (Key×V)) | dT (kvs:List (List Key×V))
 | set (S:Int->Bool) (n:Nat)
 | ins (C dx:Addr) (fs:List (Str×V))
 | own (x:Addr)
 | xd (fs:List (Str×V))
 | met (f x:Addr)
 | rng (lo hi:Int)
 | frz (o:Obj) (u:HO)
 | tbl (ps:Array Value)
 | ext (φ:Heap->Prop)
abbrev Hp:=Addr->Option HO
def upd(H:Hp)(a:Addr)(o:HO):Hp:=λb=>if b=a then some o else H b
theorem zJ:upd H a o a=some o:=by unfold upd;rw[RY rfl]
theorem zL(h:b≠a):upd H a o b=H b:=by unfold upd;rw[EQ h]
theorem Zf{H:Hp}{a:Addr}{o u:HO}:upd (upd H a o) a u=upd H a u:=by funext b;unfold upd;split<;>rfl
theorem jQ{H:Hp}{a b:Addr}{o:HO}(h:H a=some o)(h':H b=none):a≠b:=by intro e;subst e;rw[h]at h';cases h'
def IsTupD(h:Heap)(a:Addr)(items:Array Value):Prop:=∃o,h.get? a=some o/\(o.cls,o.dict)=(ND "tuple",none)/\∃n,o.data = .seq items n
theorem IsTupD.new(h:Heap)(items:Array Value):IsTupD (h.push {cls:= .type "tuple",data:= .seq items}) h.objs.size items:=⟨_,IR _ rfl,rfl,_,rfl⟩
theorem IsTupD.tup(x:IsTupD h a items):IsTup h a items:=let ⟨o,e,c,r⟩:=x;⟨o,e,(Prod.mk.inj c).1,r⟩
section
variable(P:Program)(w:World)
def ObjOk(H:Hp)(h:Heap)(a:Addr):HO->Prop
 | .lst xs=>xs.length<=sizeLine/\∃(z:List Value) (n:Nat),Vals xs z/\h.get? a=some {cls:= .type "list",data:= .seq z.toArray n}
 | .tup xs=>xs.length<=sizeLine/\∃z:List Value,Vals xs z/\IsTupD h a z.toArray
 | .dK kvs=>kvs.length<=sizeLine/\(a==sysModules)=false/\∃vs,KV kvs vs/\h.DictOf (qw P w) a vs
 | .dT kvs=>kvs.length<=sizeLine/\(a==sysModules)=false/\∃xs:List (List Key×Addr×Value),
  Paired (λ(p:List Key×V) (q:List Key×Addr×Value)=>p.1=q.1/\H q.2.1=some (.tup<|p.1.map kV)/\RelV p.2 q.2.2) kvs xs/\
  ∃o es I,h.get? a=some o/\o.ExactDict/\o.data = .dict es I/\es.toList=xs.map (entryOfKey<|tupleKind<|qw P w)/\(xs.map (·.1)).Nodup
 | .set S n=>h.SetOf (intKind P w) a S n
 | .ins C dx fs=>H dx=some (.own a)/\fs.length<=1000/\dx≠a/\h.get? a=some (MT C dx)/\
  ∃mA,h.Ns1 dx mA/\(∀f,RelO (fs.lookup f)<|mA f)/\PR mA (fs.map (·.1))
 | .own _=>∃o,h.get? a=some o
 | .xd fs=>∃mA,h.Ns1 a mA/\∀f,RelO (fs.lookup f)<|mA f
 | .rng lo hi=>∃t u v,h.get? a=some {cls:= .type "range",data:= .fields #[.int lo t,.int hi u,.int 1 v]}
 | .frz o u=>h.get? a=some o/\ObjOk H h a u
 | .tbl ps=>h.get? a=some {cls:= .none,data:= .fields ps}
 | .met f x=>h.get? a=some (PF (.ref f)<|.ref x)
 | .ext φ=>φ h/\(∃o,h.get? a=some o)/\∀h1 h2:Heap,φ h1->(∀o,h1.get? a=some o->h2.get? a=some o)->φ h2
def HOk(H:Hp)(h:Heap):Prop:=∀a o,H a=some o->ObjOk P w H h a o
end
section
variable{P:Program}{w:World}{H H':Hp}{h h':Heap}{a:Addr}{o:HO}
theorem ObjOk.lt(x:ObjOk P w H h a o):a<h.objs.size:=by
 cases o with
 | lst xs=>obtain⟨_,_,_,_,e⟩:=x;exact IL e
 | tup xs=>obtain⟨_,_,_,p⟩:=x;exact p.tup.lt
 | dK kvs=>obtain⟨_,_,_,_,o,_,_,e,_⟩:=x;exact IL e
 | dT kvs=>obtain⟨_,_,_,_,o,_,_,e,_⟩:=x;exact IL e
 | set S n=>obtain⟨o,_,_,_,e,_⟩:=x;exact IL e
 | ins C dx fs=>obtain⟨_,_,_,e,_⟩:=x;exact IL e
 | own y=>obtain⟨_,e⟩:=x;exact IL e
 | xd fs=>obtain⟨_,⟨_,_,_,e,_⟩,_⟩:=x;exact IL e
 | rng lo hi=>obtain⟨_,_,_,e⟩:=x;exact IL e
 | frz ob u=>obtain⟨e,_⟩:=x;exact IL e
 | tbl ps=>exact IL (show h.get? a=some _ from x)
 | met f y=>exact IL (show h.get? a=some _ from x)
 | ext φ=>obtain⟨_,⟨_,e⟩,_⟩:=x;exact IL e
theorem Paired.mapP : ∀{z:List α} {I:List β},Paired F z I->(∀a b,F a b->G a b)->Paired G z I
 | _,_,.nil,_=> .nil
 | _,_,.cons r t,f=> .cons (f _ _ r) (Paired.mapP t f)
theorem ObjOk.stay(x:ObjOk P w H h a o)(k : ∀b u,(b=a\/H b=some (.own a))->h.get? b=some u->h'.get? b=some u)
 (U : ∀b,H b=some (.own a)->H' b=some (.own a)) (Y : ∀b xs,H b=some (.tup xs)->H' b=some (.tup xs)):ObjOk P w H' h' a o:=by
 induction o with
 | lst xs=>obtain⟨z,O,n,r,e⟩:=x;exact⟨z,O,n,r,k _ _ (.inl rfl) e⟩
 | tup xs=>obtain⟨z,O,r,ob,e,c⟩:=x;exact⟨z,O,r,ob,k _ _ (.inl rfl) e,c⟩
 | dK kvs=>obtain⟨z,y,vs,r,ob,es,I,e,c⟩:=x;exact⟨z,y,vs,r,ob,es,I,k _ _ (.inl rfl) e,c⟩
 | dT kvs=>
  obtain⟨z,y,xs,r,ob,es,I,e,c⟩:=x;exact⟨z,y,xs,Paired.mapP r λp q z=>⟨z.1,Y _ _ z.2.1,z.2.2⟩,ob,es,I,k _ _ (.inl rfl) e,c⟩
 | set S n=>obtain⟨ob,es,I,t,e,c⟩:=x;exact⟨ob,es,I,t,k _ _ (.inl rfl) e,c⟩
 | ins C dx fs=>
  obtain⟨d,z,ne,e,mA,⟨od,es,I,e2,c⟩,r⟩:=x;exact⟨U _ d,z,ne,k _ _ (.inl rfl) e,mA,⟨od,es,I,k _ _ (.inr d) e2,c⟩,r⟩
 | own y=>obtain⟨ob,e⟩:=x;exact⟨ob,k _ _ (.inl rfl) e⟩
 | xd fs=>obtain⟨mA,⟨od,es,I,e,c⟩,r⟩:=x;exact⟨mA,⟨od,es,I,k _ _ (.inl rfl) e,c⟩,r⟩
 | rng lo hi=>obtain⟨t,u,v,e⟩:=x;exact⟨t,u,v,k _ _ (.inl rfl) e⟩
 | frz ob u ih=>obtain⟨e,q⟩:=x;exact⟨k _ _ (.inl rfl) e,ih q⟩
 | tbl ps=>
  have e:h.get? a=some {cls:= .none,data:= .fields ps}:=x;show h'.get? a=some {cls:= .none,data:= .fields ps};exact k a _ (.inl rfl) e
 | met f y=>
  have e:h.get? a=some (PF (.ref f)<|.ref y):=x;show h'.get? a=some (PF (.ref f)<|.ref y);exact k a _ (.inl rfl) e
 | ext φ=>obtain⟨p,⟨o,e⟩,st⟩:=x;exact⟨st _ _ p λo q=>k _ _ (.inl rfl) q,⟨o,k _ _ (.inl rfl) e⟩,st⟩
theorem HOk.lt(x:HOk P w H h)(e:H a=some o):a<h.objs.size:=(x a o e).lt
theorem HOk.fresh(x:HOk P w H h)(e:h.objs.size<=a):H a=none:=by
 cases q:H a with
 | none=>rfl
 | some u=>exact absurd (IW (x.lt q) e)<|Lz _
theorem HOk.kept(x:HOk P w H h)(k : ∀b u,h.get? b=some u->h'.get? b=some u):HOk P w H h':=λa o e=>
 (x a o e).stay (λb u _ q=>k b u q) (λ_ q=>q) λ_ _ q=>q
theorem HOk.laid(x:HOk P w H h)(k : ∀b u,h.get? b=some u->h'.get? b=some u)(z:h.objs.size<=a)(new:ObjOk P w (upd H a o) h' a o):HOk P w (upd H a o) h':=λb u e=>by
 have hn:=x.fresh z;by_cases hb:b=a
 ·subst hb;rw[zJ]at e;cases e;exact new
 ·rw[zL hb]at e
  exact(x b u e).stay (λc v _ q=>k c v q) (λc q=>by rw[zL (jQ q hn)];exact q) λc xs q=>by rw[zL (jQ q hn)];exact q
end
def Rd(H:Hp)(a:Addr)(u:HO):Prop:=H a=some u\/∃o,H a=some (.frz o u)
theorem Rd.ok(r:Rd H a u)(x:HOk P w H h):ObjOk P w H h a u:=by
 rcases r with r | ⟨o,r⟩
 ·exact x a u r
 ·obtain⟨_,q⟩:=x a _ r
  exact q
def Mut:Option HO->Prop
 | some (.lst _)=>True
 | some (.dK _)=>True
 | some (.dT _)=>True
 | some (.set _ _)=>True
 | some (.ins _ _ _)=>True
 | some (.ext _)=>True
 | _=>False
section
variable{P:Program}{w:World}{H:Hp}{h h':Heap}{x e:Addr}{o':HO}
theorem HOk.write(ok:HOk P w H h)(I:Mut (H x))(he:e=x\/H e=some (.own x))(k : ∀b u,b≠e->h.get? b=some u->h'.get? b=some u)(a1 : ∃u,h'.get? e=some u)
 (new:ObjOk P w (upd H x o') h' x o'):HOk P w (upd H x o') h':=λb u q=>by
 have Y : ∀c y,H c=some (.own y)->c≠x:=λc y r z=>by subst z;rw[r]at I;exact I
 have a2 : ∀c xs,H c=some (.tup xs)->c≠x:=λc xs r z=>by subst z;rw[r]at I;exact I
 by_cases hb:b=x
 ·subst hb;rw[zJ]at q;cases q;exact new
 ·rw[zL hb]at q
  by_cases O:b=e
  ·have q':H b=some (.own x):=by
    rcases he with z | z
    ·exact absurd (O.trans z) hb
    ·rw[O];exact z
   rw[q]at q';cases q';obtain⟨v,hv⟩:=a1;exact⟨v,by rw[O];exact hv⟩
  ·refine(ok b u q).stay (λc v U r=>k c v ?_ r) (λc r=>by rw[zL (Y c b r)];exact r) λc xs r=>by rw[zL (a2 c xs r)];exact r
   rcases U with rfl | U
   ·exact O
   ·rintro rfl
    rcases he with z | z
    ·exact Y c b U z
    ·rw[U]at z;cases z;exact hb rfl
end
structure Un(fs ex:List Addr)(H H':Hp)(h h':Heap):Prop where
 keep : ∀b o,h.get? b=some o->H b=none->b∉fs->b∉ex->h'.get? b=some o
 slot : ∀b o,h.get? b=some o->H b=none->b∈fs->b∉ex->∃sl,h'.get? b=some {o with slots:=sl}
 free : ∀b o,h.get? b=some o->H b=none->b∉ex->H' b=none
 there : ∀b o,h.get? b=some o->b∉ex->∃o',h'.get? b=some o'
 tups : ∀b xs,H b=some (.tup xs)->H' b=some (.tup xs)
 frzs : ∀b o u,H b=some (.frz o u)->H' b=some (.frz o u)
 tbls : ∀b ps,H b=some (.tbl ps)->∃more,H' b=some (.tbl<|ps++more)
section
variable{fs fs' ex ex':List Addr}{H H1 H2:Hp}{h h1 h2 h':Heap}{a x e:Addr}{o:HO}
theorem Un.any(u:Un fs ex H H1 h h1)(q:h.get? b=some ob)(n:H b=none)(hx:b∉ex) : ∃sl,h1.get? b=some {ob with slots:=sl}:=by
 by_cases hb:b∈fs
 ·exact u.slot b ob q n hb hx
 ·exact⟨ob.slots,u.keep b ob q n hb hx⟩
theorem Un.kept(k : ∀b u,h.get? b=some u->h'.get? b=some u):Un fs ex H H h h':=
 ⟨λb ob q _ _ _=>k b ob q,λb ob q _ _ _=>⟨ob.slots,k b ob q⟩,λ_ _ _ n _=>n,λb ob q _=>⟨ob,k b ob q⟩,λ_ _ q=>q,λ_ _ _ q=>q,λ_ ps q=>⟨#[],by rw[q];simp⟩⟩
theorem Un.refl:Un fs ex H H h h:=Un.kept λ_ _ q=>q
theorem Un.laid(k : ∀b u,h.get? b=some u->h'.get? b=some u)(z:h.objs.size<=a)(hn:H a=none):Un fs ex H (upd H a o) h h' where
 keep:=λb u q _ _ _=>k b u q
 slot:=λb u q _ _ _=>⟨u.slots,k b u q⟩
 free:=λb u q n _=>by rw[zL (Ln<|IW (IL q) z)];exact n
 there:=λb u q _=>⟨u,k b u q⟩
 tups:=λb xs q=>by rw[zL (jQ q hn)];exact q
 frzs:=λb u xs q=>by rw[zL (jQ q hn)];exact q
 tbls:=λb ps q=>⟨#[],by rw[zL (jQ q hn),q];simp⟩
theorem Un.write(I:Mut (H x))(he:e=x\/H e=some (.own x))(k : ∀b u,b≠e->h.get? b=some u->h'.get? b=some u)(U : ∃u,h'.get? e=some u):Un fs ex H (upd H x o) h h':=by
 have hx : ∀b,H b=none->b≠x:=λb n z=>by subst z;rw[n]at I;exact I
 have hb : ∀b,H b=none->b≠e:=λb n z=>by
  subst z;rcases he with r | r
  ·exact hx b n r
  ·rw[n]at r;cases r
 have hm : ∀b u,H b=some u->¬Mut (some u)->b≠x:=λb u q nm z=>by subst z;rw[q]at I;exact nm I
 refine⟨λb u q n _ _=>k b u (hb b n) q,λb u q n _ _=>⟨u.slots,k b u (hb b n) q⟩,λb u q n _=>by rw[zL (hx b n)];exact n,λb u q _=>?_,
  λb xs q=>by rw[zL (hm b _ q λz=>z)];exact q,λb u xs q=>by rw[zL (hm b _ q λz=>z)];exact q,λb ps q=>⟨#[],by rw[zL (hm b _ q λz=>z),q];simp⟩⟩
 by_cases O:b=e
 ·subst O;exact U
 ·exact⟨u,k b u O q⟩
end
def trk(h:Heap)(H:Hp):List Addr:=(Io h.objs.size).filter λa=>(H a).isSome
def lg(h:Heap)(H:Hp):Heap:=PySem.W.hideAll h<|trk h H
theorem dN(h:Heap)(H:Hp):(lg h H).objs.size=h.objs.size:=PySem.W.hideAll_size _ _
theorem iZ(e:h.get? b=some o)(n:H b=none):(lg h H).get? b=some o:=
 PySem.W.hideAll_get _ e λhm=>by have q:(H b).isSome=true:=(IP.mp hm).2;rw[n]at q;simp at q
theorem pF(e:(lg h H).get? b=some o):h.get? b=some o/\H b=none:=by
 have I:h.get? b=some o:=PySem.W.of_hideAll (trk h H) e;refine⟨I,?_⟩;cases q:H b with
 | none=>rfl
 | some x=>
  have hm:b∈trk h H:=IP.mpr ⟨Iu.mpr<|IL I,by simp[q]⟩;have z:(lg h H).get? b=none:=PySem.W.hideAll_none (trk h H) hm;rw[z]at e;cases e
def sE(g h:Heap)(L:Addr):List (Addr×Obj):=(Io h.objs.size).filterMap λa=>if a=L\/(g.get? a).isSome=true then none else (h.get? a).map λo=>(a,o)
def xJ(g h:Heap)(L d:Addr):List (Addr×Obj):=(sE g h L).filter λp=>decide<|p.1≠d
structure Mod(K:Ip)(mg:RJ)(base:Heap):Prop where
 kin:K.In base
 glob:base.Ns mainGlobals mg
 blt : ∃mb,base.Ns builtinsNs mb/\∀x:Str,x ≠ "__name__"->mb x=bootBuiltins x
 nolimit:base.NoLimit
structure Cx where
 prog:Program
 w:World
 K:Ip
 mg:Str->Option Value
 base:Heap
 A:Around
 N:List Str
 s₀:Shared
 H₀:Hp
 env:Env
 outer:List Env
 stack:List Env
 ex:List Addr
 fn:Str->Bool
 calm:Bool
 pn:List (Addr×Obj)
 xe:Value->Shared->Prop
def frs(l:List Env):List Addr:=l.filterMap (·.frame)
abbrev Cx.fs(X:Cx):List Addr:=frs X.outer
def Vis(sc:Scope)(x:Str):Prop:=sc.names.lookup x=some .local\/sc.names.lookup x=some .cell\/sc.names.lookup x=some .free
def Loc(sc:Scope)(x:Str):Prop:=sc.names.lookup x=some .local\/sc.names.lookup x=some .cell
def Ia(env:Env)(h:Heap)(m:RJ)(x:Str)(u:Value):Prop:=
 (env.kindOf x=some .local/\m x=some u)\/((env.kindOf x=some .cell\/env.kindOf x=some .free)/\∃c,env.cells.lookup x=some c/\h.IsCell c (some u))
structure Cx.Ok(X:Cx):Prop where
 mod:Mod X.K X.mg X.base
 kind:X.env.scope.kind = .function
 glob:X.env.globals=mainGlobals
 blt:X.env.builtins=builtinsNs
 above:X.s₀.heap.objs.size<=X.env.locals
 inj : ∀x y c,X.env.cells.lookup x=some c->X.env.cells.lookup y=some c->x=y
 has : ∀x,(X.env.kindOf x=some .cell\/X.env.kindOf x=some .free)->∃c,X.env.cells.lookup x=some c
 cab : ∀x c,X.fn x=true->X.env.cells.lookup x=some c->X.s₀.heap.objs.size<=c
 hd:X.calm=true->X.A.handled=none
 frames:X.A.frames=some X.stack
 stk:X.stack=X.outer\/(X.stack=X.env::X.outer/\X.env.frame=some X.env.locals)
 exf : ∀b∈X.ex,b≠X.env.locals/\∀x c,X.env.cells.lookup x=some c->c≠b
 bs : ∀b o,X.base.get? b=some o->X.s₀.heap.get? b=some o/\X.H₀ b=none
 bsz:X.base.objs.size<=X.s₀.heap.objs.size
 noex : ∀b o,X.base.get? b=some o->b∉X.ex
 exfs : ∀b∈X.ex,b∉X.fs
 funs:X.s₀.heap.FunFrames X.base X.outer
 frf : ∀b∈X.fs,X.H₀ b=none
structure Inv(X:Cx)(pins:RW)(σ:List (Option V))(H:Hp)(s:Shared):Prop where
 ok:X.Ok
 os:s.os=X.s₀.os
 bare:AllBare s.gens
 base:Un X.fs X.ex X.H₀ H X.s₀.heap s.heap
 loc : ∃m,s.heap.Ns X.env.locals m/\∀(i:Nat) (x:Str) (v:V),X.N[i]? = some x->σ[i]? = some (some v)->Vis X.env.scope x->∃u,RelV v u/\Ia X.env s.heap m x u
 cell : ∀x c,X.env.cells.lookup x=some c->∃v,s.heap.IsCell c v
 free:H X.env.locals=none
 freeC : ∀x c,X.env.cells.lookup x=some c->H c=none
 pin : ∀p∈X.pn++pins,s.heap.get? p.1=some p.2/\H p.1=none/\p.1≠X.env.locals/\p.1∉X.fs/\∀v,p.2.data ≠ .cell v
 hok:HOk X.prog X.w H s.heap
 len:σ.length=X.N.length
section
variable{X:Cx}{pins:RW}{σ:List (Option V)}{H H':Hp}{s:Shared}{h':Heap}
theorem Cx.Ok.nofr(ok:X.Ok)(e:X.base.get? b=some o):b∉X.fs:=λhb=>by have:=(ok.funs.mem hb).1;rw[e]at this;cases this
theorem Inv.bs(I:Inv X pins σ H s) : ∀b o,X.base.get? b=some o->s.heap.get? b=some o/\H b=none:=λb o e=>
 ⟨I.base.keep b o (I.ok.bs b o e).1 (I.ok.bs b o e).2 (I.ok.nofr e) (I.ok.noex b o e),I.base.free b o (I.ok.bs b o e).1 (I.ok.bs b o e).2 (I.ok.noex b o e)⟩
theorem Inv.bk(I:Inv X pins σ H s) : ∀b o,X.base.get? b=some o->s.heap.get? b=some o:=λb o e=>(I.bs b o e).1
theorem Inv.mod(I:Inv X pins σ H s):Mod X.K X.mg X.base:=I.ok.mod
theorem Inv.kIn(I:Inv X pins σ H s):X.K.In s.heap:=I.ok.mod.kin.keeps I.bk
theorem Inv.lt(I:Inv X pins σ H s):X.env.locals<s.heap.objs.size:=let ⟨_,hn,_⟩:=I.loc;hn.lt
theorem Inv.sz(I:Inv X pins σ H s):X.s₀.heap.objs.size<=s.heap.objs.size:=LG I.ok.above<|Pf I.lt
theorem Inv.nofs(I:Inv X pins σ H s)(h:s.heap.objs.size<=a):a∉X.fs:=λhb=>by obtain⟨_,o,z,_⟩:=I.ok.funs.mem hb;exact absurd (IW (IL z)<|LG I.sz h)<|Lz _
theorem Inv.cne(I:Inv X pins σ H s) : ∀x c,X.env.cells.lookup x=some c->c≠X.env.locals:=λx c e z=>by obtain⟨v,o,O,hd⟩:=I.cell x c e;obtain⟨m,⟨o',es,ep,U,Y,_⟩,_⟩:=I.loc;rw[z,U]at O;cases O;rw[Y]at hd;cases hd
theorem Inv.funs(I:Inv X pins σ H s):s.heap.FunFrames X.base X.outer:=by
 have all : ∀(l:List Env),(∀b∈frs l,b∈X.fs)->X.s₀.heap.FunFrames X.base l->s.heap.FunFrames X.base l:=by
  intro l
  induction l with
  | nil=>intro _ _;trivial
  | cons env r Y=>
   intro hs hl;obtain⟨hk,⟨L,o,O,hn,ho,hd⟩,hr⟩:=hl;have U:L∈X.fs:=hs L (by unfold frs;rw[Pq,O];exact IY);obtain⟨sl,e⟩:=I.base.slot L o ho (I.ok.frf L U) U λz=>I.ok.exfs L z U;exact⟨hk,⟨L,_,O,hn,e,hd⟩,Y (λb hb=>hs b<|by unfold frs;rw[Pq,O];exact IT _ hb) hr⟩
 exact all X.outer (λ_ hb=>hb) I.ok.funs
theorem Inv.stack(I:Inv X pins σ H s):s.heap.FunFrames X.base X.stack:=by
 rcases I.ok.stk with e | ⟨e,z⟩
 ·rw[e];exact I.funs
 ·rw[e]
  obtain⟨m,hn,_⟩:=I.loc;refine .cons (by rw[I.ok.kind];decide) z hn ?_ I.funs;exact Heap.get?_none_of_le<|LG I.ok.bsz I.ok.above
theorem Inv.stkSub(I:Inv X pins σ H s) : ∀b∈frs X.stack,b∈X.env.locals::X.fs:=λb hb=>by
 rcases I.ok.stk with e | ⟨e,z⟩
 ·rw[e]at hb;exact IT _ hb
 ·rw[e]at hb
  unfold frs at hb;rw[Pq,z]at hb;exact hb
theorem Inv.stkFree(I:Inv X pins σ H s) : ∀b∈frs X.stack,H b=none:=λb hb=>by
 rcases IG.mp (I.stkSub b hb)with e | hb
 ·rw[e];exact I.free
 ·obtain⟨_,o,O,_⟩:=I.ok.funs.mem hb
  exact I.base.free b o O (I.ok.frf b hb) λz=>I.ok.exfs b z hb
theorem Inv.step{g':Array GenState}{t':Nat}{d':Drawn}{ch:List Addr}(I:Inv X pins σ H s)
 (U : ∀b∈ch,(b∈X.ex\/X.s₀.heap.objs.size<=b)/\b≠X.env.locals/\(∀x c,X.env.cells.lookup x=some c->c≠b)/\∀p∈X.pn++pins,p.1≠b)
 (keep : ∀b o,b≠X.env.locals->b∉X.fs->b∉ch->s.heap.get? b=some o->H b=none->h'.get? b=some o)
 (slot : ∀b o,b≠X.env.locals->b∈X.fs->b∉ch->s.heap.get? b=some o->H b=none->∃sl,h'.get? b=some {o with slots:=sl}) (free : ∀b o,b∉ch->s.heap.get? b=some o->H b=none->H' b=none)
 (there : ∀b o,b∉ch->s.heap.get? b=some o->∃o',h'.get? b=some o')
 (tups : ∀b xs,H b=some (.tup xs)->H' b=some (.tup xs)) (frzs : ∀b o u,H b=some (.frz o u)->H' b=some (.frz o u)) (tbls : ∀b ps,H b=some (.tbl ps)->∃more,H' b=some (.tbl<|ps++more))
 (ns : ∀m,s.heap.Ns X.env.locals m->h'.Ns X.env.locals m) (hok:HOk X.prog X.w H' h') (hg:AllBare g') :
 Inv X pins σ H' {s with heap:=h',gens:=g',drawn:=d',toks:=t'}:=by
 have a2 : ∀b o,X.s₀.heap.get? b=some o->b≠X.env.locals:=λb o e=>Ln<|IW (IL e) I.ok.above;have a1 : ∀b o,X.s₀.heap.get? b=some o->b∉X.ex->b∉ch:=λb o e hx hb=>by
  rcases (U b hb).1 with z | z
  ·exact hx z
  ·exact absurd (IW (IL e) z)<|Lz _
 have a3 : ∀x c,X.env.cells.lookup x=some c->∀v,s.heap.IsCell c v->h'.IsCell c v:=λx c e v hZ=>by
  obtain⟨o,O,hd⟩:=hZ;have Y:c∉ch:=λz=>(U c z).2.2.1 x c e rfl;by_cases hc:c∈X.fs
  ·obtain⟨sl,q⟩:=slot c o (I.cne x c e) hc Y O (I.freeC x c e)
   exact⟨_,q,hd⟩
  ·exact⟨o,keep c o (I.cne x c e) hc Y O<|I.freeC x c e,hd⟩
 refine⟨I.ok,I.os,hg,⟨λb o e n hb hx=>?_,λb o e n hb hx=>?_,λb o e n hx=>?_,λb o e hx=>?_,λb xs e=>tups b xs<|I.base.tups b xs e,λb o xs e=>frzs b o xs<|I.base.frzs b o xs e,λb ps e=>?_⟩,?_,λx c e=>?_,?_,λx c e=>?_,λp hp=>?_,hok,I.len⟩
 ·exact keep b o (a2 b o e) hb (a1 b o e hx) (I.base.keep b o e n hb hx)<|I.base.free b o e n hx
 ·obtain⟨sl,e1⟩:=I.base.slot b o e n hb hx
  obtain⟨a9,e2⟩:=slot b _ (a2 b o e) hb (a1 b o e hx) e1<|I.base.free b o e n hx;exact⟨a9,e2⟩
 ·obtain⟨o',e1⟩:=I.base.there b o e hx
  exact free b o' (a1 b o e hx) e1<|I.base.free b o e n hx
 ·obtain⟨o',e1⟩:=I.base.there b o e hx
  exact there b o' (a1 b o e hx) e1
 ·obtain⟨m1,e1⟩:=I.base.tbls b ps e
  obtain⟨m2,e2⟩:=tbls b _ e1;exact⟨m1++m2,by rw[e2,Array.append_assoc]⟩
 ·obtain⟨m,hn,hl⟩:=I.loc
  refine⟨m,ns m hn,λi x v e1 e2 e3=>?_⟩;obtain⟨u,r,l⟩:=hl i x v e1 e2 e3;refine⟨u,r,?_⟩;rcases l with l | ⟨k,c,e,z⟩
  ·exact .inl l
  ·exact .inr ⟨k,c,e,a3 x c e _ z⟩
 ·obtain⟨v,z⟩:=I.cell x c e
  exact⟨v,a3 x c e v z⟩
 ·obtain⟨m,⟨o,_,_,O,_⟩,_⟩:=I.loc
  exact free _ o (λz=>(U _ z).2.1 rfl) O I.free
 ·obtain⟨v,o,O,hd⟩:=I.cell x c e
  exact free c o (λz=>(U c z).2.2.1 x c e rfl) O<|I.freeC x c e
 ·obtain⟨e,n,ne,nf,d⟩:=I.pin p hp
  have Y:p.1∉ch:=λz=>(U p.1 z).2.2.2 p hp rfl;exact⟨keep p.1 p.2 ne nf Y e n,free p.1 p.2 Y e n,ne,nf,d⟩
theorem Inv.un{t':Nat}(I:Inv X pins σ H s)(u:Un X.fs [] H H' s.heap h')(hok:HOk X.prog X.w H' h'):Inv X pins σ H' {s with heap:=h',toks:=t'}:=by
 obtain⟨m,⟨o,es,ep,O,r⟩,_⟩:=id I.loc;obtain⟨sl,Y⟩:=u.any O I.free ⋯;exact I.step (g':=s.gens) (d':=s.drawn) (ch:=[]) (λ_ z=>nomatch z) (λb o _ hb _ e n=>u.keep b o e n hb ⋯) (λb o _ hb _ e n=>u.slot b o e n hb ⋯) (λb o _ e n=>u.free b o e n ⋯) (λb o _ e=>u.there b o e ⋯) u.tups u.frzs u.tbls (λm' hm=>by obtain⟨o',a0,a1,U,r'⟩:=hm;rw[O]at U;cases U;exact⟨_,a0,a1,Y,r'⟩) hok I.bare
theorem Inv.call{g':Array GenState}{t':Nat}{d':Drawn}{ch:List Addr}(I:Inv X pins σ H s)(u:Un (frs X.stack) ch H H' s.heap h')(hok:HOk X.prog X.w H' h')(hg:AllBare g')
 (Y : ∀b∈ch,(b∈X.ex\/X.s₀.heap.objs.size<=b)/\b≠X.env.locals/\(∀x c,X.env.cells.lookup x=some c->c≠b)/\∀p∈X.pn++pins,p.1≠b) :
 Inv X pins σ H' {s with heap:=h',gens:=g',drawn:=d',toks:=t'}:=by
 obtain⟨m,⟨o,es,ep,ho,r⟩,_⟩:=id I.loc;obtain⟨sl,U⟩:=u.any ho I.free λz=>(Y _ z).2.1 rfl;exact I.step (ch:=ch) Y (λb o U hb O e n=>u.keep b o e n (λz=>(IG.mp<|I.stkSub b z).elim U hb) O) (λb o _ _ O e n=>u.any e n O) (λb o O e n=>u.free b o e n O) (λb o O e=>u.there b o e O) u.tups u.frzs u.tbls (λm' hm=>by obtain⟨o',a3,a4,a1,r'⟩:=hm;rw[ho]at a1;cases a1;exact⟨_,a3,a4,U,r'⟩) hok hg
theorem Inv.turned{t':Nat}{it:Addr}(I:Inv X pins σ H s)(k : ∀b o,b≠it->s.heap.get? b=some o->h'.get? b=some o)(hn:H it=none)(U:it≠X.env.locals)
 (h1:it∈X.ex\/X.s₀.heap.objs.size<=it) (h2 : ∀x c,X.env.cells.lookup x=some c->c≠it) (h3 : ∀p∈X.pn++pins,p.1≠it):Inv X pins σ H {s with heap:=h',toks:=t'}:=by
 have Y : ∀b u,H b=some u->b≠it:=λb u e z=>by rw[z,hn]at e;cases e
 refine I.step (g':=s.gens) (d':=s.drawn) (ch:=[it]) (λb hb=>?_) (λb o _ _ O e _=>k b o (λz=>O<|by simp[z]) e) (λb o _ _ O e _=>⟨o.slots,k b o (λz=>O<|by simp[z]) e⟩) (λ_ _ _ _ n=>n)
  (λb o O e=>⟨o,k b o (λz=>O<|by simp[z]) e⟩) (λ_ _ e=>e) (λ_ _ _ e=>e) (λb ps e=>⟨#[],by rw[e];simp⟩) (λm hm=>?_) (λb u e=>?_) I.bare
 ·have e:b=it:=by simpa using hb
  subst e;exact⟨h1,U,h2,h3⟩
 ·obtain⟨o,es,ep,ho,r⟩:=hm
  exact⟨o,es,ep,k _ o (Ly U) ho,r⟩
 ·refine(I.hok b u e).stay (λc v O q=>k c v ?_ q) (λ_ q=>q) λ_ _ q=>q
  rcases O with z | z
  ·rw[z];exact Y b u e
  ·exact Y c _ z
theorem Inv.tok(I:Inv X pins σ H s)(t:Nat):Inv X pins σ H {s with toks:=t}:=I.un (h':=s.heap) (t':=t) Un.refl I.hok
theorem Inv.kept(I:Inv X pins σ H s)(k : ∀b u,s.heap.get? b=some u->h'.get? b=some u):Inv X pins σ H {s with heap:=h',toks:=t'}:=I.un (Un.kept k)<|I.hok.kept k
theorem Inv.laid(I:Inv X pins σ H s)(k : ∀b u,s.heap.get? b=some u->h'.get? b=some u)(z:s.heap.objs.size<=a)(new:ObjOk X.prog X.w (upd H a o) h' a o) :
 Inv X pins σ (upd H a o) {s with heap:=h',toks:=t'}:=I.un (Un.laid k z<|I.hok.fresh z)<|I.hok.laid k z new
theorem Inv.write(I:Inv X pins σ H s)(z:Mut (H x))(he:e=x\/H e=some (.own x))(k : ∀b u,b≠e->s.heap.get? b=some u->h'.get? b=some u)(O : ∃u,h'.get? e=some u)
 (new:ObjOk X.prog X.w (upd H x o) h' x o):Inv X pins σ (upd H x o) {s with heap:=h',toks:=t'}:=I.un (Un.write z he k O)<|I.hok.write z he k O new
theorem Inv.pins_of(I:Inv X pins σ H s)(h : ∀p∈O,s.heap.get? p.1=some p.2/\H p.1=none/\p.1≠X.env.locals/\p.1∉X.fs/\∀v,p.2.data ≠ .cell v):Inv X O σ H s:=
 ⟨I.ok,I.os,I.bare,I.base,I.loc,I.cell,I.free,I.freeC,λp U=>(NL.mp U).elim (λz=>I.pin p<|List.mem_append_left _ z) (h p),I.hok,I.len⟩
theorem VR{N:List Str}(z:N.Nodup){i j:Nat}{x:Str}(a:N[i]? = some x)(b:N[j]? = some x):i=j:=by obtain⟨h1,e1⟩:=IX.mp a;obtain⟨h2,I⟩:=IX.mp b;exact(List.getElem_inj z).mp (e1.trans I.symm)
theorem X5{M:Model}{A:Around}{E:RQ}{i:Nat}{x:Str}{v:V}{u:Value}{Q:Unit->Shared->Prop}(I:Inv X pins σ H s)(hN:X.N.Nodup)(hi:X.N[i]? = some x)(hx:Loc X.env.scope x)(r:RelV v u)
 (h : ∀s',Inv X pins (σ.set i<|some v) H s'->(∃a,NG a s.heap s'.heap/\(a=X.env.locals\/X.env.cells.lookup x=some a))->Q () s') (hf:X.fn x=true\/X.env.scope.names.lookup x=some .local:=by first | exact .inl rfl | exact .inr rfl | assumption):wpAny M A (storeName X.env x u) Q E s:=by
 obtain⟨m,hn,hl⟩:=id I.loc;have an:(X.env.scope.kind == .class || (X.env.scope.kind == .module && X.env.locals != X.env.globals))=false:=by rw[I.ok.kind];rfl
 have a8:i<σ.length:=by rw[I.len];exact(IX.mp hi).1
 have cne:=I.cne;have a9 : ∀{a:Addr} {h':Heap},(∃o,s.heap.get? a=some o/\H a=none)->NG a s.heap h'->HOk X.prog X.w H h':=λ{a h'} ha hs b ob e=>by
  obtain⟨_,_,aa⟩:=ha;refine(I.hok b ob e).stay (λc w' O q=>(hs.2 c ?_).trans q) (λ_ q=>q) λ_ _ q=>q;rintro rfl;rcases O with rfl | O
  ·rw[aa]at e;cases e
  ·rw[aa]at O;cases O
 rcases hx with hk | hk
 ·refine wpAny_storeName_local hk hn (λh' ap hs=>?_) an
  obtain⟨oL,_,_,as,_⟩:=id hn;refine h _ ⟨I.ok,I.os,I.bare,⟨λb o e n hb hx=>?_,λb o e n hb hx=>?_,I.base.free,λb o e hx=>?_,I.base.tups,I.base.frzs,I.base.tbls⟩,⟨_,ap,λj y v' e1 U e3=>?_⟩,λy c e=>?_,I.free,I.freeC,λp hp=>?_,a9 ⟨oL,as,I.free⟩ hs,by simpa using I.len⟩ ⟨_,hs,.inl rfl⟩
  ·exact(hs.2 b<|Ln<|IW (IL e) I.ok.above).trans (I.base.keep b o e n hb hx)
  ·obtain⟨sl,e1⟩:=I.base.slot b o e n hb hx
   exact⟨sl,(hs.2 b<|Ln<|IW (IL e) I.ok.above).trans e1⟩
  ·obtain⟨o',e1⟩:=I.base.there b o e hx
   exact⟨o',(hs.2 b<|Ln<|IW (IL e) I.ok.above).trans e1⟩
  ·by_cases Y:j=i
   ·subst Y
    rw[hi]at e1;cases e1;rw[LJ a8]at U;cases U;exact⟨u,r,.inl ⟨hk,by simp⟩⟩
   ·rw[IH (Ly Y)]at U
    obtain⟨u',r',q⟩:=hl j y v' e1 U e3;refine⟨u',r',?_⟩;rcases q with⟨k,e⟩ | ⟨k,c,e,z⟩
    ·refine .inl ⟨k,?_⟩
     have:y≠x:=λe=>Y<|VR hN e1<|e ▸ hi;simp[this,e]
    ·exact .inr ⟨k,c,e,z.sameBut hs<|cne y c e⟩
  ·obtain⟨w',z⟩:=I.cell y c e
   exact⟨w',z.sameBut hs<|cne y c e⟩
  ·obtain⟨e,n,ne,nf,d⟩:=I.pin p hp
   exact⟨(hs.2 p.1 ne).trans e,n,ne,nf,d⟩
 ·have a5:X.fn x=true:=by
   rcases hf with z | z
   ·exact z
   ·rw[z]at hk;cases hk
  obtain⟨c,O⟩:=I.ok.has x<|.inl hk;obtain⟨w',z⟩:=I.cell x c O;refine wpAny_storeName_cell I.ok.kind hk O z<|λh' ac hs=>?_;obtain⟨oc,ae,ax⟩:=id z;refine h {s with heap:=h'} ⟨I.ok,I.os,I.bare,⟨λb o e n hb hx=>?_,λb o e n hb hx=>?_,I.base.free,λb o e hx=>?_,I.base.tups,I.base.frzs,I.base.tbls⟩,⟨m,hn.sameBut hs<|Ly<|cne x c O,λj y v' e1 U e3=>?_⟩,λy c' e=>?_,I.free,I.freeC,λp hp=>?_,a9 ⟨oc,ae,I.freeC x c O⟩ hs,by simpa using I.len⟩ ⟨c,hs,.inr O⟩
  ·exact(hs.2 b<|Ln<|IW (IL e)<|I.ok.cab x c a5 O).trans (I.base.keep b o e n hb hx)
  ·obtain⟨sl,e1⟩:=I.base.slot b o e n hb hx
   exact⟨sl,(hs.2 b<|Ln<|IW (IL e)<|I.ok.cab x c a5 O).trans e1⟩
  ·obtain⟨o',e1⟩:=I.base.there b o e hx
   exact⟨o',(hs.2 b<|Ln<|IW (IL e)<|I.ok.cab x c a5 O).trans e1⟩
  ·by_cases Y:j=i
   ·subst Y
    rw[hi]at e1;cases e1;rw[LJ a8]at U;cases U;exact⟨u,r,.inr ⟨.inl hk,c,O,ac⟩⟩
   ·rw[IH (Ly Y)]at U
    obtain⟨u',r',q⟩:=hl j y v' e1 U e3;refine⟨u',r',?_⟩;rcases q with q | ⟨k,c',e,z'⟩
    ·exact .inl q
    ·refine .inr ⟨k,c',e,z'.sameBut hs ?_⟩
     rintro rfl;exact Y<|VR hN e1<|I.ok.inj _ _ _ e O ▸ hi
  ·by_cases ag:c'=c
   ·subst ag;exact⟨_,ac⟩
   ·obtain⟨w2,z2⟩:=I.cell y c' e
    exact⟨w2,z2.sameBut hs ag⟩
  ·obtain⟨e,n,ne,nf,d⟩:=I.pin p hp
   refine⟨(hs.2 p.1 ?_).trans e,n,ne,nf,d⟩;intro q;rw[q,ae]at e;have q':oc=p.2:=LH e;exact d w' (by rw[<- q'];exact ax)
theorem Vs(I:Inv X pins σ H s)(z:X.N.Nodup)(hi:X.N[i]? = some x)(hx:Loc X.env.scope x)(r:RelV v u)
 (h : ∀s',Inv X pins (σ.set i<|some v) H s'->Q () s') (O:X.fn x=true\/X.env.scope.names.lookup x=some .local:=by first | exact .inl rfl | exact .inr rfl | assumption):wpAny M A (storeName X.env x u) Q E s:=
 X5 I z hi hx r (λs' U _=>h s' U) O
theorem Inv.call'(I:Inv X pins σ H s)(z:s'.os=s.os)(u:Un (frs X.stack) ch H H' s.heap s'.heap)(hok:HOk X.prog X.w H' s'.heap)(O:AllBare s'.gens)
 (U : ∀b∈ch,(b∈X.ex\/X.s₀.heap.objs.size<=b)/\b≠X.env.locals/\(∀x c,X.env.cells.lookup x=some c->c≠b)/\∀p∈X.pn++pins,p.1≠b):Inv X pins σ H' s':=by
 obtain⟨h',g',d',t',o'⟩:=s';have e:o'=s.os:=z;subst e;exact I.call (g':=g') (t':=t') (d':=d') u hok O U
end
abbrev XK:=Value->Option Addr->Hp->Prop
abbrev St:=List (Option V)
abbrev VK:=V->Hp->Prop
abbrev TE:=St->Hp->VK->Prop
abbrev TT:=St->Hp->(Bool->Hp->Prop)->Prop
abbrev TA:=St->Hp->(List V->Hp->Prop)->Prop
structure Ends where
 nx:St->Hp->Prop
 rt:VK
 bk:St->Hp->Prop:=λ_ _=>False
 ct:St->Hp->Prop:=λ_ _=>False
abbrev TS:=Ends->St->Hp->Prop
def EP(X:Cx)(pins:RW)(σ:St)(Q:VK)(u:Value)(s':Shared):Prop:=∃v H',Inv X pins σ H' s'/\RelV v u/\Q v H'
def TP(X:Cx)(pins:RW)(σ:St)(Q:Bool->Hp->Prop)(b:Bool)(s':Shared):Prop:=∃H',Inv X pins σ H' s'/\Q b H'
def AP(X:Cx)(pins:RW)(σ:St)(Q:List V->Hp->Prop)(us:List Value)(s':Shared):Prop:=∃vs H',Inv X pins σ H' s'/\Vals vs us/\Q vs H'
def SP(X:Cx)(pins:RW)(D:Ends)(f:Flow)(s':Shared):Prop:=
 match f with
 | .next=>∃σ' H',Inv X pins σ' H' s'/\D.nx σ' H'
 | .brk=>∃σ' H',Inv X pins σ' H' s'/\D.bk σ' H'
 | .cont=>∃σ' H',Inv X pins σ' H' s'/\D.ct σ' H'
 | .ret u=>∃v σ' H',Inv X pins σ' H' s'/\RelV v u/\D.rt v H'
def PE(X:Cx)(e:Expr)(t:TE):Prop:=
 ∀(pins:RW) (s:Shared) (σ:St) (H:Hp) (Q:VK),Inv X pins σ H s->t σ H Q->wpAny (model X.prog X.w) X.A (eval e X.env) (EP X pins σ Q) X.xe s
def PT(X:Cx)(e:Expr)(t:TT):Prop:=
 ∀(pins:RW) (s:Shared) (σ:St) (H:Hp) (Q:Bool->Hp->Prop),Inv X pins σ H s->t σ H Q->wpAny (model X.prog X.w) X.A (isTrue e X.env<|eval e X.env) (TP X pins σ Q) X.xe s
def PW(X:Cx)(e:Expr)(t:TT):Prop:=
 ∀(z:Sem Value) (pins:RW) (s:Shared) (σ:St) (H:Hp) (Q:Bool->Hp->Prop),Inv X pins σ H s->t σ H Q->wpAny (model X.prog X.w) X.A (isTrue e X.env z) (TP X pins σ Q) X.xe s
theorem PW.pt(h:PW X e t):PT X e t:=h _
def PA(X:Cx)(es:List Expr)(t:TA):Prop:=
 ∀(pos:Pos) (pins:RW) (s:Shared) (σ:St) (H:Hp) (Q:List V->Hp->Prop),Inv X pins σ H s->t σ H Q->wpAny (model X.prog X.w) X.A (spliced<|backTo pos<|starEach es X.env) (AP X pins σ Q) X.xe s
def PS(X:Cx)(st:Stmt)(t:TS):Prop:=
 ∀(pins:RW) (s:Shared) (σ:St) (H:Hp) (D:Ends),Inv X pins σ H s->t D σ H->wpAny (model X.prog X.w) X.A (exec st X.env) (SP X pins D) X.xe s
def PSs(X:Cx)(st:List Stmt)(t:TS):Prop:=
 ∀(pins:RW) (s:Shared) (σ:St) (H:Hp) (D:Ends),Inv X pins σ H s->t D σ H->wpAny (model X.prog X.w) X.A (execs st X.env) (SP X pins D) X.xe s
theorem thn(h:wpAny M A t Q E s)(z : ∀a s,Q a s->Q' a s):wpAny M A t Q' E s:=Nr h z λ_ _ x=>x
section
variable{X:Cx}
def Jk(i:Nat):TE:=λσ H Q=>∃v,σ[i]? = some (some v)/\Q v H
def tC(v:V):TE:=λ_ H Q=>Q v H
theorem mN(Y:X.N[i]? = some x)(hv:Vis X.env.scope x)(hd:(x==("__debug__" : Str))=false:=by decide)(a1:(x==("__classdict__" : Str))=false:=by decide):PE X (.Name x pos) (Jk i):=by
 intro pins s σ H Q I h;obtain⟨v,e,h⟩:=h;obtain⟨m,hn,hl⟩:=I.loc;obtain⟨u,r,l⟩:=hl i x v Y e hv;have z:EP X pins σ Q u s:=⟨v,H,I,r,h⟩;rcases l with⟨hk,hm⟩ | ⟨hk,c,O,U⟩
 ·exact wpAny_Name (wpAny_loadName_local I.ok.kind hk hn hm z) hd
 ·rcases hk with hk | hk
  ·exact wpAny_Name (wpAny_loadName_cell I.ok.kind hk O U z) hd
  ·exact wpAny_Name (wpAny_loadName_free I.ok.kind hk O U z a1) hd
theorem uZ:PE X (.Constant (.int i) j pos) (tC<|.int i):=λ_ _ _ H _ I h=>wpAny_Constant_int ⟨.int i,H,I.tok _,⟨_,rfl⟩,h⟩
theorem ED:PE X (.Constant (.bool b) j pos) (tC<|.bl b):=λ_ _ _ H _ I h=>Constant_bool ⟨.bl b,H,I,rfl,h⟩
theorem mO:PE X (.Constant (.str x) j pos) (tC<|.str x):=λ_ _ _ H _ I h=>Calls.Constant_str ⟨.str x,H,I.tok _,⟨_,rfl⟩,h⟩
def Gl(X:Cx)(x:Str):Prop:=X.env.kindOf x=some .globalImplicit
theorem YJ(I:Inv X pins σ H s)(z:Gl X x)(hm:X.mg x=some u)(h:Q u s)
 (hd:(x==("__debug__" : Str))=false:=by decide):wpAny (model X.prog X.w) X.A (eval (.Name x pos) X.env) Q E s:=
 Calls.Name_function_global I.ok.kind z (Calls.loadGlobal_global (by rw[I.ok.glob];exact I.mod.glob.keeps I.bk) hm h) hd
theorem yC(I:Inv X pins σ H s)(z:Gl X x)(hm:X.mg x=none)(O:bootBuiltins x=some u)(h:Q u s)
 (hn:x ≠ "__name__":=by decide) (hd:(x==("__debug__" : Str))=false:=by decide):wpAny (model X.prog X.w) X.A (eval (.Name x pos) X.env) Q E s:=by
 obtain⟨mb,h1,h2⟩:=I.mod.blt;exact Calls.Name_function_global I.ok.kind z (Calls.loadGlobal_builtin (by rw[I.ok.glob];exact I.mod.glob.keeps I.bk) hm (by rw[I.ok.blt];exact h1.keeps I.bk) ((h2 x hn).trans O) h) hd
variable{a b:Expr}{ta tb:TE}{pos:Pos}
def PC(X:Cx)(z:CmpOp)(a b:Expr)(t:TE):Prop:=
 ∀(pins:RW) (s:Shared) (σ:St) (H:Hp) (Q:VK),Inv X pins σ H s->t σ H Q->
  wpAny (model X.prog X.w) X.A (eval a X.env) (λv I=>wpAny (model X.prog X.w) X.A (eval b X.env) (λu O=>wpAny (model X.prog X.w) X.A (compareOp z v u) (EP X pins σ Q) X.xe O) X.xe I) X.xe s
theorem iC(b:Expr)(h:op ≠ .In)(h2:op ≠ .NotIn):behindInMarks op b=false:=by
 have e1:(op==CmpOp.In)=false:=by cases op<;>first | rfl | exact absurd rfl h
 have z:(op==CmpOp.NotIn)=false:=by cases op<;>first | rfl | exact absurd rfl h2
 cases b<;>simp[behindInMarks,e1,z]
def tB(t:TE):TT:=λσ H Q=>t σ H λx H1=>∃c,x = .bl c/\Q c H1
theorem uM(h:PC X op a b t)(h1:behindInMarks op b=false:=by first | exact iC _ ⋯ ⋯ | rfl):PT X (.Compare a [op] [b] pos) (tB t):=by intro pins s σ H Q I hw;refine wpAny_isTrue_Compare1 (thn (h pins s σ H _ I hw) λv s1 h1=>thn h1 λu s2 h2=>thn h2 λc s3 z=>?_) h1;obtain⟨x,H1,O,U,Y⟩:=z;obtain⟨d,rfl,q⟩:=Y;cases U;exact Mx ⟨H1,O,q⟩
theorem uJ(h:PE X e t)(he : ∀z,isTrue e X.env z=(do let v <- z;standAt e.pos;holding [v] (truthy v)):=by intro _;rfl):PT X e (tB t):=by intro pins s σ H Q I hw;refine isTrue_plain (thn (h pins s σ H _ I hw) λv s1 O=>?_)<|he _;obtain⟨x,H1,U,Y,q1⟩:=O;obtain⟨d,rfl,q⟩:=q1;cases Y;exact Mx ⟨H1,U,q⟩
variable{tA tB':TT}{xJ:List Expr}
def Ho(t u:TT):TT:=λσ H Q=>t σ H λc H1=>if c=true then u σ H1 Q else Q false H1
def tOr(t u:TT):TT:=λσ H Q=>t σ H λc H1=>if c=true then Q true H1 else u σ H1 Q
def Hj(t:TT):TT:=λσ H Q=>t σ H λc H1=>Q (!c) H1
theorem oJ(ha:PT X a tA):PW X (.BoolOp .And [a] pos) tA:=by
 intro z pins s σ H Q I h;refine isTrue_and<|thn (ha pins s σ H Q I h) λc s1 e=>?_;cases c with
 | true=>exact isTrue_and_nil e
 | false=>exact e
theorem uu(ha:PT X a tA):PW X (.BoolOp .Or [a] pos) tA:=by
 intro z pins s σ H Q I h;refine isTrue_or<|thn (ha pins s σ H Q I h) λc s1 e=>?_;cases c with
 | false=>exact isTrue_or_nil e
 | true=>exact e
theorem uv(ha:PT X a tA)(hb:PW X (.BoolOp .And (b::xJ) pos) tB'):PW X (.BoolOp .And (a::b::xJ) pos) (Ho tA tB'):=by
 intro U pins s σ H Q I h;refine isTrue_and<|thn (ha pins s σ H _ I h) λc s1 Y=>?_;obtain⟨H1,z,O⟩:=Y;cases c with
 | true=>exact hb U pins s1 σ H1 Q z O
 | false=>exact⟨H1,z,O⟩
theorem Eu(ha:PT X a tA)(hb:PW X (.BoolOp .Or (b::xJ) pos) tB'):PW X (.BoolOp .Or (a::b::xJ) pos) (tOr tA tB'):=by
 intro U pins s σ H Q I h;refine isTrue_or<|thn (ha pins s σ H _ I h) λc s1 Y=>?_;obtain⟨H1,z,O⟩:=Y;cases c with
 | true=>exact⟨H1,z,O⟩
 | false=>exact hb U pins s1 σ H1 Q z O
theorem uK(ha:PT X a tA):PT X (.UnaryOp .Not a pos) (Hj tA):=by intro pins s σ H Q I h;exact isTrue_not<|ha pins s σ H (λc H1=>Q (!c) H1) I h
def Ea(ta tb:TE):TE:=λσ H Q=>ta σ H λx H1=>∃c,x = .bl c/\if c=true then tb σ H1 Q else Q (.bl false) H1
def CN(ta:TE):TE:=λσ H Q=>ta σ H λx H1=>∃c,x = .bl c/\Q (.bl<|!c) H1
theorem uV(h:PE X a t):PE X (.BoolOp op [a] pos) t:=λpins s σ H Q I hw=>BoolOp_one<|h pins s σ H Q I hw
theorem Aa(ha:PE X a ta)(hb:PE X (.BoolOp .And (b::xJ) pos) tb):PE X (.BoolOp .And (a::b::xJ) pos) (Ea ta tb):=by
 intro pins s σ H Q I h;refine BoolOp_and<|thn (ha pins s σ H _ I h) λv s1 U=>?_;obtain⟨x,H1,O,Y,z⟩:=U;obtain⟨c,rfl,z⟩:=z;cases Y;refine Mx ?_;cases c with
 | true=>exact hb pins s1 σ H1 Q O z
 | false=>exact⟨.bl false,H1,O,rfl,z⟩
theorem uW(ha:PE X a ta):PE X (.UnaryOp .Not a pos) (CN ta):=by intro pins s σ H Q I h;refine UnaryOp_<|thn (ha pins s σ H _ I h) λv s1 O=>?_;obtain⟨x,H1,U,Y,z⟩:=O;obtain⟨c,rfl,z⟩:=z;cases Y;exact not_of<|Mx ⟨.bl<|!c,H1,U,rfl,z⟩
def tIf(t:TT)(ta tb:TE):TE:=λσ H Q=>t σ H λc H1=>if c=true then ta σ H1 Q else tb σ H1 Q
theorem ip(U:PT X c tA)(ha:PE X a ta)(hb:PE X b tb):PE X (.IfExp c a b pos) (tIf tA ta tb):=by
 intro pins s σ H Q I h;refine wpAny_IfExp<|thn (U pins s σ H _ I h) λd s1 Y=>?_;obtain⟨H1,z,O⟩:=Y;cases d with
 | true=>exact ha pins s1 σ H1 Q z O
 | false=>exact hb pins s1 σ H1 Q z O
end
def SqL(K:Ip)(H:Hp)(a:Addr)(xs:List V):Prop:=
 Rd H a (.lst xs)\/
  ∃(o:Obj) (z:Array Value) (n:Nat),K.lookup a=some o/\o.cls = .type "list"/\o.dict=none/\o.data = .seq z n/\z.size<=sizeLine/\Vals xs z.toList
def SqT(K:Ip)(H:Hp)(a:Addr)(xs:List V):Prop:=
 Rd H a (.tup xs)\/
  ∃(o:Obj) (z:Array Value) (n:Nat),K.lookup a=some o/\(o.cls,o.dict)=(ND "tuple",none)/\o.data = .seq z n/\z.size<=sizeLine/\Vals xs z.toList
def HX:Value->Option V
 | .none=>some .non
 | .bool b=>some (.bl b)
 | .int i _=>some (.int i)
 | .str x _=>some (.str x)
 | .bytes b _=>some (.byt b)
 | .float b _=>some (.flt b)
 | .ref a=>some (.ref a)
 | .type n=>some (.ty n)
 | _=>none
theorem RelV.abs(r:RelV x u):HX u=some x:=by
 cases x with
 | non=>cases r;rfl
 | bl _=>cases r;rfl
 | int _=>obtain⟨t,rfl⟩:=r;rfl
 | str _=>obtain⟨t,rfl⟩:=r;rfl
 | byt _=>obtain⟨t,rfl⟩:=r;rfl
 | flt _=>obtain⟨t,rfl⟩:=r;rfl
 | ref _=>cases r;rfl
 | ty _=>cases r;rfl
theorem RelV.inj(r:RelV x u)(q:RelV y u):x=y:=LH<|r.abs.symm.trans q.abs
theorem Vals.inj : ∀{xs ys:List V} {us:List Value},Vals xs us->Vals ys us->xs=ys
 | _,_,_,.nil,.nil=>rfl
 | _,_,_,.cons r t,.cons r' t'=>by rw[r.inj r',Vals.inj t t']
section
variable{X:Cx}{pins:RW}{σ:St}{H:Hp}{s:Shared}{a:Addr}{xs ys:List V}
theorem SqL.of{K:Ip}(h:H a=some (.lst xs)):SqL K H a xs:= .inl (.inl h)
theorem SqT.of{K:Ip}(h:H a=some (.tup xs)):SqT K H a xs:= .inl (.inl h)
theorem Inv.list(I:Inv X pins σ H s)(h:SqL X.K H a xs) : ∃O:List Value,Vals xs O/\PlainL s.heap a O.toArray/\xs.length<=sizeLine:=by
 rcases h with h | ⟨o,O,n,hk,U,hd,hs,hz,r⟩
 ·obtain⟨z,O,n,r,e⟩:=h.ok I.hok
  exact⟨O,r,⟨_,n,e,rfl,rfl,rfl⟩,z⟩
 ·refine⟨O.toList,r,⟨o,n,I.kIn a o hk,U,hd,by simpa using hs⟩,?_⟩
  have e:=r.length;simp only[Nd]at e;omega
theorem Inv.tuple(I:Inv X pins σ H s)(h:SqT X.K H a xs) : ∃O:List Value,Vals xs O/\IsTup s.heap a O.toArray/\xs.length<=sizeLine:=by
 rcases h with h | ⟨o,O,n,hk,U,hs,hz,r⟩
 ·obtain⟨z,O,r,p⟩:=h.ok I.hok
  exact⟨O,r,p.tup,z⟩
 ·refine⟨O.toList,r,⟨o,I.kIn a o hk,(Prod.mk.inj U).1,n,by simpa using hs⟩,?_⟩
  have e:=r.length;simp only[Nd]at e;omega
theorem Inv.list_inj(I:Inv X pins σ H s)(h:SqL X.K H a xs)(h':SqL X.K H a ys):xs=ys:=by
 obtain⟨O,r,⟨o,n,e,_,_,d⟩,_⟩:=I.list h;obtain⟨its',r',⟨o',n',z,_,_,d'⟩,_⟩:=I.list h';rw[e]at z;cases z;rw[d]at d';injection d' with U _;have:O=its':=by simpa using congrArg Array.toList U
 subst this;exact r.inj r'
theorem Inv.tuple_inj(I:Inv X pins σ H s)(h:SqT X.K H a xs)(h':SqT X.K H a ys):xs=ys:=by
 obtain⟨O,r,⟨o,e,_,n,d⟩,_⟩:=I.tuple h;obtain⟨its',r',⟨o',z,_,n',d'⟩,_⟩:=I.tuple h';rw[e]at z;cases z;rw[d]at d';injection d' with U _;have:O=its':=by simpa using congrArg Array.toList U
 subst this;exact r.inj r'
end
abbrev Cx.wish(X:Cx)(E:RQ):Cx:={X with xe:=E}
abbrev Cx.nox(X:Cx):Cx:=X.wish λ_ _=>False
theorem Cx.Ok.wish{X:Cx}(ok:X.Ok)(E:RQ):(X.wish E).Ok:=
 ⟨ok.mod,ok.kind,ok.glob,ok.blt,ok.above,ok.inj,ok.has,ok.cab,ok.hd,ok.frames,ok.stk,ok.exf,ok.bs,ok.bsz,ok.noex,ok.exfs,ok.funs,ok.frf⟩
theorem Cx.Ok.unwish{X:Cx}{E:RQ}(ok:(X.wish E).Ok):X.Ok:=
 ⟨ok.mod,ok.kind,ok.glob,ok.blt,ok.above,ok.inj,ok.has,ok.cab,ok.hd,ok.frames,ok.stk,ok.exf,ok.bs,ok.bsz,ok.noex,ok.exfs,ok.funs,ok.frf⟩
section
variable{X:Cx}{pins:RW}{σ:St}{H:Hp}{s:Shared}{E:RQ}
theorem Inv.wish(I:Inv X pins σ H s)(E:RQ):Inv (X.wish E) pins σ H s:=⟨I.ok.wish E,I.os,I.bare,I.base,I.loc,I.cell,I.free,I.freeC,I.pin,I.hok,I.len⟩
theorem Inv.unwish(I:Inv (X.wish E) pins σ H s):Inv X pins σ H s:=⟨I.ok.unwish,I.os,I.bare,I.base,I.loc,I.cell,I.free,I.freeC,I.pin,I.hok,I.len⟩
theorem SP.unwish(h:SP (X.wish E) pins D f s'):SP X pins D f s':=by
 cases f with
 | next=>obtain⟨σ',H',I,q⟩:=h;exact⟨σ',H',I.unwish,q⟩
 | brk=>obtain⟨σ',H',I,q⟩:=h;exact⟨σ',H',I.unwish,q⟩
 | cont=>obtain⟨σ',H',I,q⟩:=h;exact⟨σ',H',I.unwish,q⟩
 | ret u=>obtain⟨v,σ',H',I,r,q⟩:=h;exact⟨v,σ',H',I.unwish,r,q⟩
theorem PSs.nox{st:List Stmt}{t:TS}(h:PSs X.nox st t):PSs X st t:=λpins s σ H D I hw=>
 Nr (h pins s σ H D (I.wish _) hw) (λ_ _ q=>q.unwish) λ_ _ z=>MU z
end
section
variable{X:Cx}{st:Stmt}{xJ:List Stmt}{t u:TS}{e:Expr}{te:TE}{pos:Pos}
def CQ:TS:=λD σ H=>D.nx σ H
def Gj(t u:TS):TS:=λD σ H=>t {D with nx:=u D} σ H
theorem oP:PSs X [] CQ:=λ_ _ σ H _ I h=>Pw ⟨σ,H,I,h⟩
theorem wL(h1:PS X st t)(h2:PSs X xJ u):PSs X (st::xJ) (Gj t u):=by
 intro pins s σ H D I h;refine wpAny_execs_cons<|thn (h1 pins s σ H {D with nx:=u D} I h) λf s1 q=>?_;cases f with
 | next=>
  obtain⟨σ',H',z,q⟩:=q;exact h2 pins s1 σ' H' D z q
 | ret v=>exact q
 | brk=>exact q
 | cont=>exact q
theorem Zr(h1:PS X st t):PSs X [st] t:=by
 intro pins s σ H D I h;refine wpAny_execs_cons<|thn (h1 pins s σ H D I h) λf s1 q=>?_;cases f with
 | next=>exact Pw q
 | ret v=>exact q
 | brk=>exact q
 | cont=>exact q
def CZ:TS:=λD σ H=>D.ct σ H
theorem Yo:PS X (.Continue pos) CZ:=λ_ _ σ H _ I h=>wpAny_Continue ⟨σ,H,I,h⟩
theorem Inv.quiet(I:Inv X pins σ H s):interactive X.env=false:=by simp[interactive,I.ok.kind]
def CU(te:TE):TS:=λD σ H=>te σ H λ_ H1=>D.nx σ H1
theorem Xe(he:PE X e te)(hs:swapsWith e none pos.line X.env=pure false:=by rfl):PS X (.Expr e pos) (CU te):=by intro pins s σ H D I h;exact wpAny_Expr_any (thn (he pins s σ H _ I h) λv s1 ⟨x,H1,z,U,O⟩=>⟨σ,H1,z,O⟩) I.quiet hs
def CK(te:TE):TS:=λD σ H=>te σ H D.rt
theorem JR(he:PE X e te):PS X (.Return (some e) pos) (CK te):=by intro pins s σ H D I h;exact wpAny_Return_some<|thn (he pins s σ H _ I h) λv s1 ⟨x,H1,z,O,U⟩=>⟨x,σ,H1,z,O,U⟩
def Hl(c:TT)(t u:TS):TS:=λD σ H=>c σ H λb H1=>if b=true then t D σ H1 else u D σ H1
theorem Ez(U:PT X c tc)(ha:PSs X a t)(hb:PSs X b u):PS X (.If c a b pos) (Hl tc t u):=by
 intro pins s σ H D I h;refine wpAny_If<|thn (U pins s σ H _ I h) λd s1 Y=>?_;obtain⟨H1,z,O⟩:=Y;cases d with
 | true=>exact ha pins s1 σ H1 D z O
 | false=>exact hb pins s1 σ H1 D z O
def tE:TS:=λ_ _ _=>False
theorem hV:PS X st tE:=λ_ _ _ _ _ _ h=>h.elim
end
abbrev TG:=V->St->Hp->(St->Hp->Prop)->Prop
abbrev TGs:=List V->St->Hp->(St->Hp->Prop)->Prop
def PG(X:Cx)(z:Expr)(t:TG):Prop:=
 ∀(pins:RW) (s:Shared) (σ:St) (H:Hp) (v:V) (u:Value) (Q:St->Hp->Prop),Inv X pins σ H s->RelV v u->t v σ H Q->
  wpAny (model X.prog X.w) X.A (assign z X.env u) (λ_ s'=>∃σ' H',Inv X pins σ' H' s'/\Q σ' H') X.xe s
def PGs(X:Cx)(z:List Expr)(t:TGs):Prop:=
 ∀(pins:RW) (s:Shared) (σ:St) (H:Hp) (vs:List V) (us:List Value) (Q:St->Hp->Prop),Inv X pins σ H s->Vals vs us->t vs σ H Q->
  wpAny (model X.prog X.w) X.A (assignInOrder ((assignEach z X.env).map (·.2)) us) (λ_ s'=>∃σ' H',Inv X pins σ' H' s'/\Q σ' H') X.xe s
section
variable{X:Cx}{pos:Pos}
def yx(i:Nat):TG:=λv σ H Q=>Q (σ.set i<|some v) H
theorem cH(z:X.N.Nodup)(hi:X.N[i]? = some x)(hx:Loc X.env.scope x)(O:X.fn x=true\/X.env.scope.names.lookup x=some .local:=by first | exact .inl rfl | exact .inr rfl | assumption):PG X (.Name x pos) (yx i):=by intro pins s σ H v u Q I r h;exact wpAny_assign_Name<|Vs I z hi hx r (λs' U=>⟨_,H,U,h⟩) O
def GC:TGs:=λvs σ H Q=>vs=[]/\Q σ H
def Bb(t:TG)(u:TGs):TGs:=λvs σ H Q=>∃v r,vs=v::r/\t v σ H λσ' H'=>u r σ' H' Q
theorem cG:PGs X [] GC:=by intro pins s σ H vs us Q I r h;obtain⟨e,h⟩:=h;subst e;cases r;exact assignInOrder_nil ⟨σ,H,I,h⟩
theorem vg(h1:PG X e t)(h2:PGs X es u)
 (hs:(assignEach (e::es) X.env).map (·.2)=assign e X.env::(assignEach es X.env).map (·.2):=by rfl):PGs X (e::es) (Bb t u):=by
 intro pins s σ H vs us Q I r h;obtain⟨v,vr,e1,h⟩:=h;subst e1;cases r with
 | cons r z=>
  rw[hs];refine assignInOrder_cons<|thn (h1 pins s σ H _ _ _ I r h) λ_ s1 O=>?_;obtain⟨U,H1,Y,q1⟩:=O;exact h2 pins s1 U H1 _ _ Q Y z q1
def GB(K:Ip)(n:Nat)(t:TGs):TG:=λv σ H Q=>∃a xs,v = .ref a/\SqT K H a xs/\xs.length=n/\t xs σ H Q
theorem uT(O:X.calm=true)(h:PGs X es t)
 (hn:(assignEach es X.env).length=n:=by rfl) (U:(assignEach es X.env).findIdx? (·.1)=none:=by rfl):PG X (.Tuple es k pos) (GB X.K n t):=by
 intro pins s σ H v u Q I r hw;obtain⟨a,xs,e1,Y,hl,hw⟩:=hw;subst e1;cases r;obtain⟨a3,z,ht,hz⟩:=I.tuple Y;refine assign_Tuple_tuple (I.ok.hd O) ht (by simp[hn,<- hl,z.length]) U λh' hx=>?_;have I1:Inv X pins σ H {s with heap:=h'}:=I.kept (t':=s.toks) λb o e=>hx b o (Ln<|IL e) e;exact h pins _ σ H xs _ Q I1 (by simpa using z) hw
def WA(te:TE)(g:TG):TS:=λD σ H=>te σ H λx H1=>g x σ H1 D.nx
theorem mI(he:PE X e te)(z:PG X tg g)(hs:swapsWithSole [tg] e pos.line X.env=pure false:=by rfl)(hw:swappedStores [tg] e X.env=pure none:=by rfl)
 (h1:(assignEach [tg] X.env).map (·.2)=[assign tg X.env]:=by rfl):PS X (.Assign [tg] e pos) (WA te g):=by
 intro pins s σ H D I h;refine wpAny_Assign_stores (thn (he pins s σ H _ I h) λv s1 O=>?_) hs hw;obtain⟨x,H1,U,Y,q1⟩:=O;rw[h1];exact thn (z pins s1 σ H1 x v _ U Y q1) λ_ s2 q=>q
theorem uN(z:X.N.Nodup)(hi:X.N[i]? = some x)(hx:Loc X.env.scope x)(he:PE X e te)(hs:swapsWith e (some (.Name x pos')) pos.line X.env=pure false:=by rfl)(O:X.fn x=true\/X.env.scope.names.lookup x=some .local:=by first | exact .inl rfl | exact .inr rfl | assumption) :
 PS X (.Assign [.Name x pos'] e pos) (WA te<|yx i):=by
 intro pins s σ H D I h;refine wpAny_Assign_Name (thn (he pins s σ H _ I h) λv s1 U=>?_) hs;obtain⟨y,H1,Y,r1,q1⟩:=U;exact Vs Y z hi hx r1 (λs2 I2=>⟨_,H1,I2,q1⟩) O
end
section
variable{X:Cx}{pos:Pos}
def tD(c:TT)(tb:TS):TS:=λD σ H=>∃W:Nat->St->Hp->Prop,(∃m,W m σ H)/\∀m σ H,W m σ H->
 c σ H λb H1=>if b=true then ∃N:St->Hp->Prop,(∀σ' H',N σ' H'->∃m',m'<m/\W m' σ' H')/\tb {D with nx:=N,ct:=N,bk:=D.nx} σ H1 else D.nx σ H1
theorem hU{c:Expr}{body:List Stmt}{tc:TT}{tb:TS}(hp:PassesOwn (model X.prog X.w) X.A X.env X.xe)(hc:PT X c tc)(hb:PSs X body tb):PS X (.While c body [] pos) (tD tc tb):=by
 intro pins s σ H D I h;obtain⟨W,⟨m0,w0⟩,a9⟩:=h;refine wpAny_While<|codeAny_whileLoop (λn s'=>∃σ' H',Inv X pins σ' H' s'/\W n σ' H') ?_ m0 ⟨σ,H,I,w0⟩;rintro n s1 ⟨U,H1,I1,w1⟩;refine Nx hp<|thn (hc pins s1 U H1 _ I1<|a9 n U H1 w1) λb s2 hZ=>?_;obtain⟨H2,I2,Y⟩:=hZ;cases b with
 | true=>
  obtain⟨N,hN,Y⟩:=Y;rw[RY rfl];refine Nx hp<|thn (hb pins s2 U H2 _ I2 Y) λf s3 q3=>?_;cases f with
  | next=>
   obtain⟨z,O,I3,n3⟩:=q3;obtain⟨m',hm,w3⟩:=hN z O n3;exact⟨m',hm,z,O,I3,w3⟩
  | cont=>
   obtain⟨z,O,I3,n3⟩:=q3;obtain⟨m',hm,w3⟩:=hN z O n3;exact⟨m',hm,z,O,I3,w3⟩
  | brk=>exact q3
  | ret v=>exact q3
 | false=>
  rw[EQ IE];exact Pw ⟨U,H2,I2,Y⟩
end
structure It where
 go:Nat->Hp->Prop
 yld:Nat->Hp->V->Hp->Prop
 stop:Nat->Hp->Prop
def Wr(X:Cx)(pins:RW)(H:Hp)(b:Addr):Prop:=
 H b=none/\b≠X.env.locals/\b∉X.fs/\(b∈X.ex\/X.s₀.heap.objs.size<=b)/\(∀x c,X.env.cells.lookup x=some c->c≠b)/\∀p∈X.pn++pins,p.1≠b
theorem Inv.fpOk(I:Inv X pins σ H s)(hb:s.heap.objs.size<=b)(hn:H' b=none):Wr X pins H' b:=by
 refine⟨hn,MJ<|IW I.lt hb,I.nofs hb,.inr<|LG I.sz hb,λx c e z=>?_,λp O z=>?_⟩
 ·obtain⟨v,q⟩:=I.cell x c e
  exact absurd (IW q.lt<|by rw[z];exact hb)<|Lz _
 ·exact absurd (IW (IL (I.pin p O).1)<|by rw[z];exact hb)<|Lz _
structure Turn(P:Program)(w:World)(K:Ip)(tg:Expr)(J:It)(fp:List Addr)(it:Addr)(tn:Nat->Heap->Prop):Prop where
 mem:it∈fp
 obj : ∀i h,tn i h->∀b∈fp,∃o,h.get? b=some o/\∀v,o.data ≠ .cell v
 keep : ∀i h h',tn i h->(∀b∈fp,∀o,h.get? b=some o->h'.get? b=some o)->tn i h'
 item : ∀(X:Cx),X.prog=P->X.w=w->X.K=K->X.calm=true->∀(i:Nat) (pins:RW) (s:Shared) (σ:St) (H:Hp) (E:RQ),Inv X pins σ H s->(∀b∈fp,Wr X pins H b)->tn i s.heap->J.go i H->
  wpAny (model P w) X.A (pyNext<|.ref it) (λr s1=>∃u,r=some u/\
   wpAny (model P w) X.A (letOwnedTupleGo tg (.ref it) u) (λ_ s2=>∃x H',Inv X pins σ H' s2/\RelV x u/\J.yld i H x H'/\tn (i+1) s2.heap/\∀b∈fp,H' b=none) E s1) E s
 done : ∀(X:Cx),X.prog=P->X.w=w->X.K=K->X.calm=true->∀(i:Nat) (pins:RW) (s:Shared) (σ:St) (H:Hp) (E:RQ),Inv X pins σ H s->(∀b∈fp,Wr X pins H b)->tn i s.heap->J.stop i H->
  wpAny (model P w) X.A (pyNext<|.ref it) (λr s1=>r=none/\Inv X pins σ H s1) E s
 self : ∀(A:Around) (i:Nat) (s:Shared) (Q:RQ) (E:RQ),tn i s.heap->Q (.ref it) s->wpAny (model P w) A (pyIter<|.ref it) Q E s
abbrev TI:=St->Hp->(It->Hp->Prop)->Prop
def PIE(X:Cx)(pins:RW)(σ:St)(tg:Expr)(R:It->Hp->Prop)(z:Value)(s2:Shared):Prop:=
 ∃(it:Addr) (fp:List Addr) (tn:Nat->Heap->Prop) (J:It) (H':Hp),z = .ref it/\Inv X pins σ H' s2/\Turn X.prog X.w X.K tg J fp it tn/\tn 0 s2.heap/\(∀b∈fp,Wr X pins H' b)/\R J H'
def PI(X:Cx)(tg iter:Expr)(wi:TI):Prop:=
 ∀(pins:RW) (s:Shared) (σ:St) (H:Hp) (R:It->Hp->Prop),Inv X pins σ H s->wi σ H R->
  wpAny (model X.prog X.w) X.A (eval iter X.env) (λv s1=>wpAny (model X.prog X.w) X.A (pyIter v) (PIE X pins σ tg R) X.xe s1) X.xe s
theorem rz(I:s.heap.get? it=some o)(O:o.cls = .type n)(hd:o.data = .fields vs)
 (hn:["enumerate","zip","dict_itemiterator","dict_reverseitemiterator","odict_iterator","itertools.zip_longest","itertools.pairwise"].contains n=false) (z:Q () s):wpAny M A (letOwnedTupleGo tg (.ref it) u) Q E s:=by
 unfold letOwnedTupleGo;cases tg<;>first
  | exact IA z
  | (cases u<;>first
      | exact IA z
      | (refine Iq (wpAny_load I ?_)
         rw[O,hd];show wpAny M A (if (["enumerate","zip","dict_itemiterator","dict_reverseitemiterator","odict_iterator","itertools.zip_longest","itertools.pairwise"].contains n && vs[0]? == some (rawInt _))=true then _ else _) Q E s;rw[EQ (by intro h;rw[hn,OB]at h;cases h)];exact IA z))
def Itl(K:Ip)(a:Addr):It:=
 ⟨λi H=>∃xs x,SqL K H a xs/\xs[i]? = some x,λi H x H'=>H'=H/\∀xs,SqL K H a xs->xs[i]? = some x,λi H=>∃xs,SqL K H a xs/\xs.length<=i⟩
def Itt(K:Ip)(a:Addr):It:=
 ⟨λi H=>∃xs x,SqT K H a xs/\xs[i]? = some x,λi H x H'=>H'=H/\∀xs,SqT K H a xs->xs[i]? = some x,λi H=>∃xs,SqT K H a xs/\xs.length<=i⟩
def Itr(lo:Int)(n:Nat):It:=⟨λi _=>i<n,λi H x H'=>H'=H/\x = .int (lo+i),λi _=>n<=i⟩
theorem br{P:Program}{w:World}{K:Ip}{tg:Expr}(a it:Addr):Turn P w K tg (Itl K a) [it] it (λi h=>h.IsListIter it a i) where
 mem:=by simp
 obj:=λi h st b hb=>by
  have e:b=it:=by simpa using hb
  subst e;obtain⟨o,e,c,d⟩:=st;exact⟨o,e,λv z=>by rw[d]at z;cases z⟩
 keep:=λi h h' st k=>st.at λo e=>k it ⋯ o e
 item:=by intro X Y hw hK hc i pins s σ H E I O st hg;subst Y hw hK;obtain⟨xs,x,U,hx⟩:=hg;obtain⟨aa,rv,p,hz⟩:=I.list U;obtain⟨u,hu,ru⟩:=rv.get hx;obtain⟨f0,f1,f2,f3,f4,f5⟩:=O it ⋯;refine wpAny_pyNext_list_item st p.isList (x:=u) (by simpa using hu) λh' a9 sb=>?_;have I1:Inv X pins σ H {s with heap:=h'}:=I.turned (t':=s.toks) (λb o hb e=>(sb.2 b hb).trans e) f0 f1 f3 f4 f5;obtain⟨o,e,c,d⟩:=id a9;exact⟨u,rfl,rz (s:={s with heap:=h'}) e c d ⋯ ⟨x,H,I1,ru,⟨rfl,λys hy=>by rw[I.list_inj hy U];exact hx⟩,a9,λb hb=>(O b hb).1⟩⟩
 done:=by intro X Y hw hK hc i pins s σ H E I O st hg;subst Y hw hK;obtain⟨xs,U,hx⟩:=hg;obtain⟨aa,rv,p,hz⟩:=I.list U;obtain⟨f0,f1,f2,f3,f4,f5⟩:=O it ⋯;have hl:=rv.length;exact wpAny_pyNext_list_end (I.ok.hd hc) st p.isList (by simp;omega) λh' eb=>⟨rfl,I.turned (t':=s.toks) (λb o hb e=>eb b o hb e) f0 f1 f3 f4 f5⟩
 self:=λ_ _ _ _ _ st h=>wpAny_pyIter_listiter st h
theorem Wv{P:Program}{w:World}{K:Ip}{tg:Expr}(a it:Addr):Turn P w K tg (Itt K a) [it] it (λi h=>h.IsTupleIter it a i) where
 mem:=by simp
 obj:=λi h st b hb=>by
  have e:b=it:=by simpa using hb
  subst e;obtain⟨o,e,c,d⟩:=st;exact⟨o,e,λv z=>by rw[d]at z;cases z⟩
 keep:=λi h h' st k=>st.at λo e=>k it ⋯ o e
 item:=by intro X Y hw hK hc i pins s σ H E I O st hg;subst Y hw hK;obtain⟨xs,x,U,hx⟩:=hg;obtain⟨a2,rv,p,hz⟩:=I.tuple U;obtain⟨u,hu,ru⟩:=rv.get hx;obtain⟨f0,f1,f2,f3,f4,f5⟩:=O it ⋯;refine wpAny_pyNext_tuple_item st (show s.heap.IsTuple a a2.toArray from p) (x:=u) (by simpa using hu) λh' aa sb=>?_;have I1:Inv X pins σ H {s with heap:=h'}:=I.turned (t':=s.toks) (λb o hb e=>(sb.2 b hb).trans e) f0 f1 f3 f4 f5;obtain⟨o,e,c,d⟩:=id aa;exact⟨u,rfl,rz (s:={s with heap:=h'}) e c d ⋯ ⟨x,H,I1,ru,⟨rfl,λys hy=>by rw[I.tuple_inj hy U];exact hx⟩,aa,λb hb=>(O b hb).1⟩⟩
 done:=by intro X Y hw hK hc i pins s σ H E I O st hg;subst Y hw hK;obtain⟨xs,U,hx⟩:=hg;obtain⟨a2,rv,p,hz⟩:=I.tuple U;obtain⟨f0,f1,f2,f3,f4,f5⟩:=O it ⋯;have hl:=rv.length;exact wpAny_pyNext_tuple_end (I.ok.hd hc) st (show s.heap.IsTuple a a2.toArray from p) (by simp;omega) λh' eb=>⟨rfl,I.turned (t':=s.toks) (λb o hb e=>eb b o hb e) f0 f1 f3 f4 f5⟩
 self:=λ_ _ _ _ _ st h=>wpAny_pyIter_tupleiter st h
theorem Ww{P:Program}{w:World}{K:Ip}{tg:Expr}(it:Addr)(lo:Int)(n:Nat):Turn P w K tg (Itr lo n) [it] it (λi h=>IsRangeIter h it (lo+(i:Nat)*1) ((n:Int) - (i:Nat)) 1) where
 mem:=by simp
 obj:=λi h st b hb=>by
  have e:b=it:=by simpa using hb
  subst e;exact⟨_,st,λv z=>by have z':Data.fields _=Data.cell v:=z;cases z'⟩
 keep:=λi h h' st k=>k it ⋯ _ st
 item:=by intro X U hw Y hc i pins s σ H E I O st hg;subst U hw Y;obtain⟨f0,f1,f2,f3,f4,f5⟩:=O it ⋯;have W:=Walks.range (prog:=X.prog) (w:=X.w) (I.ok.hd hc) it lo 1 n;refine W.item i s _ _ hg st λv h' tk hv a8 kk=>?_;obtain⟨t,rfl⟩:=hv;have I1:Inv X pins σ H {s with heap:=h',toks:=tk}:=I.turned (λb o hb e=>kk b o (by simpa using hb) e) f0 f1 f3 f4 f5;refine⟨_,rfl,rz (s:={s with heap:=h',toks:=tk}) (n:="range_iterator") a8 rfl rfl ⋯ ⟨.int (lo+i),H,I1,⟨t,?_⟩,⟨rfl,rfl⟩,a8,λb hb=>(O b hb).1⟩⟩;rw[MO]
 done:=by intro X U hw Y hc i pins s σ H E I O st hg;subst U hw Y;obtain⟨f0,f1,f2,f3,f4,f5⟩:=O it ⋯;exact wpAny_pyNext_range_end (I.ok.hd hc) st (by have:n<=i:=hg;omega) λh' eb=>⟨rfl,I.turned (t':=s.toks) (λb o hb e=>eb b o hb e) f0 f1 f3 f4 f5⟩
 self:=λ_ _ _ _ _ st h=>wpAny_pyIter_rangeiter st h
section
variable{X:Cx}{tg:Expr}
theorem Vz{pins:RW}{σ:St}{H:Hp}{s:Shared}{R:It->Hp->Prop}{E:RQ}{lo hi:Int}{t u v:Tok}{z:Nat}(I:Inv X pins σ H s)(h1 : -(2 ^ 62)<=lo)(h2:lo<2 ^ 62)(U : -(2 ^ 62)<=hi)(Y:hi<2 ^ 62)
 (q:R (Itr lo (hi - lo).toNat) H):wpAny (model X.prog X.w) X.A (pyIter (.ref s.heap.objs.size)) (PIE X pins σ tg R) E {s with heap:=s.heap.push {cls:= .type "range",data:= .fields #[.int lo t,.int hi u,.int 1 v]},toks:=z}:=by
 refine wpAny_pyIter_range (IsRange.new ..) (small_one h1 h2 U Y) ?_;have O:Inv X pins σ H {s with heap:=s.heap.push {cls:= .type "range",data:= .fields #[.int lo t,.int hi u,.int 1 v]},toks:=z}:=I.kept λb o e=>Ir _ e;refine⟨(s.heap.push {cls:= .type "range",data:= .fields #[.int lo t,.int hi u,.int 1 v]}).objs.size,[(s.heap.push {cls:= .type "range",data:= .fields #[.int lo t,.int hi u,.int 1 v]}).objs.size],_,_,H,rfl,
  O.kept (t':=z) λb o e=>Ir _ e,Ww _ lo (hi - lo).toNat,?_,λb hb=>?_,q⟩
 ·have e1:lo+((0:Nat):Int)*1=lo:=by simp
  have e2:(((hi - lo).toNat:Nat):Int) - ((0:Nat):Int)=Builtin.Range.rangeSize lo hi 1:=by rw[rangeSize_one];split<;>omega
  show IsRangeIter _ _ (lo+((0:Nat):Int)*1) ((((hi - lo).toNat:Nat):Int) - ((0:Nat):Int)) 1;rw[e1,e2];exact IR _ rfl
 ·have e:b=(s.heap.push {cls:= .type "range",data:= .fields #[.int lo t,.int hi u,.int 1 v]}).objs.size:=by simpa using hb
  subst e;exact O.fpOk (IC _)<|O.hok.fresh<|IC _
def EY(ta:TA):TI:=λσ H R=>ta σ H λvs H1=>∃j:Int,vs=[.int j]/\ -(2 ^ 62)<=j/\j<2 ^ 62/\R (Itr 0 j.toNat) H1
def EX(ta:TA):TI:=λσ H R=>ta σ H λvs H1=>∃i j:Int,vs=[.int i,.int j]/\(-(2 ^ 62)<=i/\i<2 ^ 62/\ -(2 ^ 62)<=j/\j<2 ^ 62)/\R (Itr i (j - i).toNat) H1
theorem cF{a:Expr}{ta:TA}{p pos:Pos}(O:Gl X "range")(hm:X.mg "range" = none)(ha:PA X [a] ta)(hs:starEach [a] X.env=[(false,eval a X.env)]:=by rfl):PI X tg (.Call (.Name "range" p) [a] [] pos) (EY ta):=by
 intro pins s σ H R I h;refine Call_<|yC I O hm boot_range<|Ma (thn (ha pos pins s σ H _ I h) λus s1 U=>?_) hs rfl;obtain⟨vs,H1,Y,r1,z⟩:=U;obtain⟨j,e,z,q2,q⟩:=z;subst e;cases r1 with
 | cons r rr=>
  cases rr;obtain⟨t,rfl⟩:=r;exact call_range_1 (Vz Y ⋯ ⋯ z q2<|by simpa using q)
theorem cE(Y:Gl X "range")(hm:X.mg "range" = none)(ha:PA X [a,b] ta)(hs:starEach [a,b] X.env=[(false,eval a X.env),(false,eval b X.env)]:=by rfl)(U:starEach [b] X.env=[(false,eval b X.env)]:=by rfl) :
 PI X tg (.Call (.Name "range" p) [a,b] [] pos) (EX ta):=by
 intro pins s σ H R I h;refine Call_ (yC I Y hm boot_range<|Ma (thn (ha pos pins s σ H _ I h) λus s1 hZ=>?_) (by rw[hs,U])<|by rw[U];rfl);obtain⟨vs,H1,I1,r1,z⟩:=hZ;obtain⟨i,j,e,⟨z,q2,q3,q4⟩,q⟩:=z;subst e;cases r1 with
 | cons r O=>
  cases O with
  | cons r' O=>
   cases O;obtain⟨t,rfl⟩:=r;obtain⟨t',rfl⟩:=r';exact call_range_2<|Vz I1 z q2 q3 q4 q
def Hm(wi:TI)(g:TG)(tb:TS):TS:=λD σ H=>wi σ H λJ H1=>∃W:Nat->Nat->St->Hp->Prop,(∃m,W 0 m σ H1)/\∀i m σ H,W i m σ H->
 (J.stop i H/\D.nx σ H)\/(J.go i H/\∃N:St->Hp->Prop,(∀σ' H',N σ' H'->∃m',m'<m/\W (i+1) m' σ' H')/\∀x H',J.yld i H x H'->g x σ H' λz H2=>tb {D with nx:=N,ct:=N,bk:=D.nx} z H2)
def Kg(fp:List Addr)(h:Heap):List (Addr×Obj):=fp.filterMap λb=>(h.get? b).map λo=>(b,o)
theorem yn(hb:b∈fp)(e:h.get? b=some o):(b,o)∈Kg fp h:=List.mem_filterMap.mpr ⟨b,hb,by rw[e];rfl⟩
theorem cQ(z:p∈Kg fp h):p.1∈fp/\h.get? p.1=some p.2:=by
 obtain⟨b,hb,e⟩:=List.mem_filterMap.mp z;cases q:h.get? b with
 | none=>rw[q]at e;cases e
 | some o=>
  rw[q]at e;have I:(b,o)=p:=LH e;subst I;exact⟨hb,q⟩
theorem Inv.pinned(I:Inv X pins σ H s)(U : ∀b∈fp,Wr X pins H b)(Y : ∀b∈fp,∃o,s.heap.get? b=some o/\∀v,o.data ≠ .cell v):Inv X (pins++Kg fp s.heap) σ H s:=
 I.pins_of λp hp=>(NL.mp hp).elim (λz=>I.pin p<|LQ _ z) λz=>by obtain⟨hb,e⟩:=cQ z;obtain⟨f0,f1,f2,_⟩:=U p.1 hb;obtain⟨o,O,d⟩:=Y p.1 hb;rw[e]at O;cases O;exact⟨e,f0,f1,f2,d⟩
theorem Inv.unpinned(I:Inv X (pins++pl) σ H s):Inv X pins σ H s:=I.pins_of λp z=>I.pin p<|LQ _<|List.mem_append_left _ z
theorem uO(hp:PassesOwn (model X.prog X.w) X.A X.env X.xe)(hc:X.calm=true)(hi:PI X tg iter wi)(hg:PG X tg g)(hb:PSs X body tb)
 (hs : ∀x,foldedSetIterable iter X.env x=pure x:=by intro _;rfl):PS X (.For tg iter body [] pos) (Hm wi g tb):=by
 intro pins s σ H D I h;refine wpAny_For (thn (hi pins s σ H _ I h) λv s1 h1=>thn h1 λc8 s2 h2=>?_) hs;obtain⟨it,fp,tn,J,H2,e,I2,T,as,f2,W,⟨m0,w0⟩,b9⟩:=h2;subst e;have a5 : ∀{H':Hp},(∀b∈fp,H' b=none)->∀b∈fp,Wr X pins H' b:=λhn b hb=>⟨hn b hb,(f2 b hb).2⟩;refine codeAny_forLoop_any (λn s'=>∃i σ' H',Inv X pins σ' H' s'/\tn i s'.heap/\(∀b∈fp,H' b=none)/\W i n σ' H') ?_ m0 ⟨0,σ,H2,I2,as,λb hb=>(f2 b hb).1,w0⟩;rintro n s3 ⟨i,σ3,H3,I3,st3,ag,w3⟩;rcases b9 i n σ3 H3 w3 with⟨stop,qn⟩ | ⟨go,N,hN,step⟩
 ·refine Nx hp (thn (T.done X rfl rfl rfl hc i pins s3 σ3 H3 X.xe I3 (a5 ag) st3 stop) λr s4 hZ=>?_)
  obtain⟨hr,I4⟩:=hZ;subst hr;exact Pw ⟨σ3,H3,I4,qn⟩
 ·refine Nx hp (thn (T.item X rfl rfl rfl hc i pins s3 σ3 H3 X.xe I3 (a5 ag) st3 go) λr s4 hZ=>?_)
  obtain⟨u,hr,h4⟩:=hZ;subst hr;refine Nx hp<|thn h4 λ_ s5 hZ=>?_;obtain⟨x,H5,I5,r5,y5,a7,bv⟩:=hZ;have c0:=I5.pinned (a5 bv)<|T.obj _ _ a7;refine Nx hp<|thn (hg _ s5 σ3 H5 x u _ c0 r5<|step x H5 y5) λ_ s6 hZ=>?_;obtain⟨σ6,H6,I6,q6⟩:=hZ;refine Nx hp<|thn (hb _ s6 σ6 H6 _ I6 q6) λf s7 Y=>?_;have again : ∀{z:St} {O:Hp},Inv X (pins++Kg fp s5.heap) z O s7->N z O->∃m,m<n/\∃i σ' H',Inv X pins σ' H' s7/\tn i s7.heap/\(∀b∈fp,H' b=none)/\W i m σ' H':=λ{z O} U n7=>by obtain⟨m',hm,w7⟩:=hN z O n7;refine⟨m',hm,i+1,z,O,U.unpinned,T.keep _ _ _ a7 λb hb o e=>(U.pin (b,o)<|LQ _<|LQ _<|yn hb e).1,λb hb=>?_,w7⟩;obtain⟨o,e,d⟩:=T.obj _ _ a7 b hb;exact(U.pin (b,o)<|LQ _<|LQ _<|yn hb e).2.1
  cases f with
  | next=>obtain⟨z,O,U,n7⟩:=Y;exact again U n7
  | cont=>obtain⟨z,O,U,n7⟩:=Y;exact again U n7
  | brk=>obtain⟨z,O,U,Y⟩:=Y;exact⟨z,O,U.unpinned,Y⟩
  | ret v=>obtain⟨x7,z,O,U,r7,Y⟩:=Y;exact⟨x7,z,O,U.unpinned,r7,Y⟩
end
theorem KJ{lo:Int}{n:Nat}{g:TG}{tb:TS}{D:Ends}{σ:St}{H:Hp}(z:Nat->St->Hp->Prop)(h0:z 0 σ H)
 (hs : ∀i σ H,i<n->z i σ H->g (.int<|lo+i) σ H λI H2=>tb {D with nx:=z<|i+1,ct:=z<|i+1,bk:=D.nx} I H2) (hd : ∀σ H,z n σ H->D.nx σ H) :
 ∃W:Nat->Nat->St->Hp->Prop,(∃m,W 0 m σ H)/\∀i m σ H,W i m σ H->
  ((Itr lo n).stop i H/\D.nx σ H)\/((Itr lo n).go i H/\∃N:St->Hp->Prop,(∀σ' H',N σ' H'->∃m',m'<m/\W (i+1) m' σ' H')/\∀x H',(Itr lo n).yld i H x H'->g x σ H' λI H2=>tb {D with nx:=N,ct:=N,bk:=D.nx} I H2):=by
 refine⟨λi m σ H=>m=n - i/\i<=n/\z i σ H,⟨n,by simp,MN _,h0⟩,?_⟩;rintro i m σ H ⟨rfl,hi,p⟩;by_cases O:i<n
 ·refine .inr ⟨O,z<|i+1,λσ' H' p'=>⟨n - (i+1),by omega,rfl,O,p'⟩,λx H' y=>?_⟩
  obtain⟨e,y⟩:=y;subst e y;exact hs i σ _ O p
 ·have e:i=n:=by omega
  subst e;exact .inl ⟨IC _,hd σ H p⟩
abbrev R2:=V->V->Hp->VK->Prop
def OpR(X:Cx)(f:Value->Value->Sem Value)(r:R2):Prop:=
 ∀(pins:RW) (s:Shared) (σ:St) (H:Hp) (x y:V) (v u:Value) (Q:VK),Inv X pins σ H s->RelV x v->RelV y u->r x y H Q->
  wpAny (model X.prog X.w) X.A (f v u) (EP X pins σ Q) X.xe s
def UnR(X:Cx)(f:Value->Sem Value)(r:V->Hp->VK->Prop):Prop:=
 ∀(pins:RW) (s:Shared) (σ:St) (H:Hp) (x:V) (v:Value) (Q:VK),Inv X pins σ H s->RelV x v->r x H Q->
  wpAny (model X.prog X.w) X.A (f v) (EP X pins σ Q) X.xe s
def JE(X:Cx)(f:Value)(r:List V->Hp->VK->Prop):Prop:=
 ∀(pins:RW) (s:Shared) (σ:St) (H:Hp) (xs:List V) (us:List Value) (Q:VK),Inv X pins σ H s->Vals xs us->r xs H Q->
  wpAny (model X.prog X.w) X.A (call f us) (EP X pins σ Q) X.xe s
def HZ(X:Cx)(r:V->Hp->(Bool->Hp->Prop)->Prop):Prop:=
 ∀(pins:RW) (s:Shared) (σ:St) (H:Hp) (x:V) (v:Value) (Q:Bool->Hp->Prop),Inv X pins σ H s->RelV x v->r x H Q->
  wpAny (model X.prog X.w) X.A (truthy v) (TP X pins σ Q) X.xe s
def tOp(r:R2)(ta tb:TE):TE:=λσ H Q=>ta σ H λx H1=>tb σ H1 λy H2=>r x y H2 Q
def tUn(r:V->Hp->VK->Prop)(ta:TE):TE:=λσ H Q=>ta σ H λx H1=>r x H1 Q
def rI(C:Int->Int->Prop)(g:Int->Int->V):R2:=λx y H Q=>∃i j,x = .int i/\y = .int j/\C i j/\Q (g i j) H
def rI0(g:Int->Int->V):R2:=λx y H Q=>∃i j,x = .int i/\y = .int j/\Q (g i j) H
def rU(g:Int->V):V->Hp->VK->Prop:=λx H Q=>∃i,x = .int i/\Q (g i) H
section
variable{X:Cx}{a b c:Expr}{ta tb tc:TE}{pos:Pos}
theorem FA(ha:PE X a ta)(hb:PE X b tb){pins:RW}{s:Shared}{σ:St}{H:Hp}{R:V->V->Hp->Prop}(I:Inv X pins σ H s)
 (h:ta σ H λx H1=>tb σ H1 λy H2=>R x y H2) {Q:RQ} {f:Value->Value->Sem Value}
 (O : ∀v u s2 x y H2,Inv X pins σ H2 s2->RelV x v->RelV y u->R x y H2->wpAny (model X.prog X.w) X.A (f v u) Q X.xe s2) :
 wpAny (model X.prog X.w) X.A (eval a X.env) (λv U=>wpAny (model X.prog X.w) X.A (eval b X.env) (λu Y=>wpAny (model X.prog X.w) X.A (f v u) Q X.xe Y) X.xe U) X.xe s:=by
 refine thn (ha pins s σ H _ I h) λv s1 z=>?_;obtain⟨x,H1,I1,r1,q1⟩:=z;refine thn (hb pins s1 σ H1 _ I1 q1) λu s2 z=>?_;obtain⟨y,H2,I2,r2,q2⟩:=z;exact O v u s2 x y H2 I2 r1 r2 q2
theorem ph{z:Operator}{r:R2}(O:OpR X (binaryOp z) r)(ha:PE X a ta)(hb:PE X b tb):PE X (.BinOp a z b pos) (tOp r ta tb):=by intro pins s σ H Q I h;exact wpAny_BinOp<|FA ha hb I h λv u s2 x y H2 U rx Y q=>O pins s2 σ H2 x y v u Q U rx Y q
theorem EC(z:UnR X (unaryOp op) r)(ha:PE X a ta):PE X (.UnaryOp op a pos) (tUn r ta):=by intro pins s σ H Q I h;exact UnaryOp_<|thn (ha pins s σ H _ I h) λv s1 ⟨x,H1,O,U,Y⟩=>z pins s1 σ H1 x v Q O U Y
theorem opI{f:Value->Value->Sem Value}{C:Int->Int->Prop}{g:Int->Int->Int}
 (rule : ∀(i j:Int) (t u:Tok) (s:Shared) (Q:RQ) (E:RQ),C i j->Q (.int (g i j) s.toks) {s with toks:=s.toks+1}->wpAny (model X.prog X.w) X.A (f (.int i t)<|.int j u) Q E s) :
 OpR X f (rI C λi j=> .int (g i j)):=by
 intro pins s σ H x y v u Q I rx z h;obtain⟨i,j,rfl,rfl,O,q⟩:=h;obtain⟨t,rfl⟩:=rx;obtain⟨t',rfl⟩:=z;exact rule i j t t' s _ _ O ⟨.int<|g i j,H,I.tok _,⟨_,rfl⟩,q⟩
theorem Gw{f:Value->Value->Sem Value}{g:Int->Int->Int}
 (rule : ∀(i j:Int) (t u:Tok) (s:Shared) (Q:RQ) (E:RQ),Q (.int (g i j) s.toks) {s with toks:=s.toks+1}->wpAny (model X.prog X.w) X.A (f (.int i t)<|.int j u) Q E s) :
 OpR X f (rI0 λi j=> .int (g i j)):=by
 intro pins s σ H x y v u Q I rx z h;obtain⟨i,j,rfl,rfl,q⟩:=h;obtain⟨t,rfl⟩:=rx;obtain⟨t',rfl⟩:=z;exact rule i j t t' s _ _ ⟨.int<|g i j,H,I.tok _,⟨_,rfl⟩,q⟩
theorem EH{f:Value->Value->Sem Value}{g:Int->Int->Bool}
 (rule : ∀(i j:Int) (t u:Tok) (s:Shared) (Q:RQ) (E:RQ),Q (.bool<|g i j) s->wpAny (model X.prog X.w) X.A (f (.int i t)<|.int j u) Q E s) :
 OpR X f (rI0 λi j=> .bl (g i j)):=by
 intro pins s σ H x y v u Q I rx z h;obtain⟨i,j,rfl,rfl,q⟩:=h;obtain⟨t,rfl⟩:=rx;obtain⟨t',rfl⟩:=z;exact rule i j t t' s _ _ ⟨.bl<|g i j,H,I,rfl,q⟩
def Hg(i j:Int):Prop:=0<j/\j<1073741824
def Hf(i j:Int):Prop:=0<=j/\j<=1000000/\i.natAbs<2 ^ 64
def CMul(i j:Int):Prop:=(-(2 ^ 64)<i/\i<2 ^ 64)\/(-(2 ^ 64)<j/\j<2 ^ 64)
theorem CMul.ok(h:CMul i j):IntMulOk i j:=by
 rcases h with⟨h1,h2⟩ | ⟨h1,h2⟩
 ·exact .of_left<|intBits_le_64 h1 h2
 ·exact .of_right<|intBits_le_64 h1 h2
theorem op_add:OpR X (binaryOp .Add) (rI0 λi j=> .int (i+j)):=Gw λ_ _ _ _ _ _ _ q=>add_int q
theorem Af:OpR X (binaryOp .Sub) (rI0 λi j=> .int (i - j)):=Gw λ_ _ _ _ _ _ _ q=>sub_int q
theorem op_mul:OpR X (binaryOp .Mult) (rI CMul λi j=> .int (i*j)):=opI λ_ _ _ _ _ _ _ z q=>mul_int q z.ok
theorem pC:OpR X (binaryOp .FloorDiv) (rI Hg λi j=> .int (i/j)):=opI λi j _ _ _ _ _ z q=>by have h1:(0:Int)<j:=z.1;have h2:j<1073741824:=z.2;exact floordiv_int ⋯ (by rw[Int.fdiv_eq_ediv_of_nonneg i ⋯];exact q)<|.inl<|PyProof.noPylong_small ⋯
theorem Ai:OpR X (binaryOp .Mod) (rI (λ_ j=>0<j) λi j=> .int (i%j)):=opI λi j _ _ _ _ _ z q=>by have h1:(0:Int)<j:=z;exact mod_int' ⋯ (by rw[Int.fmod_eq_emod_of_nonneg i ⋯];exact q)
theorem Ag:OpR X (binaryOp .Pow) (rI Hf λi j=> .int (i ^ j.toNat)):=opI λ_ _ _ _ _ _ _ z q=>pow_int_small z.1 z.2.1 z.2.2 q
theorem unI{f:Value->Sem Value}{g:Int->Int}
 (rule : ∀(i:Int) (t:Tok) (s:Shared) (Q:RQ) (E:RQ),Q (.int (g i) s.toks) {s with toks:=s.toks+1}->wpAny (model X.prog X.w) X.A (f<|.int i t) Q E s) :
 UnR X f (rU λi=> .int (g i)):=by
 intro pins s σ H x v Q I rx h;obtain⟨i,rfl,q⟩:=h;obtain⟨t,rfl⟩:=rx;exact rule i t s _ _ ⟨.int<|g i,H,I.tok _,⟨_,rfl⟩,q⟩
theorem sZ:UnR X (unaryOp .USub) (rU λi=> .int (-i)):=unI λ_ _ _ _ _ q=>neg_int q
end
def Hq:V->V->Bool
 | .non,.non=>true | .non,.int _=>true | .int _,.non=>true | .non,.bl _=>true | .bl _,.non=>true | .non,.str _=>true | .str _,.non=>true
 | .int _,.int _=>true | .bl _,.bl _=>true | .str _,.str _=>true | .byt _,.byt _=>true
 | .int _,.str _=>true | .str _,.int _=>true | .bl _,.str _=>true | .str _,.bl _=>true
 | _,_=>false
def rEq:R2:=λx y H Q=>Hq x y=true/\Q (.bl<|decide<|x=y) H
theorem rR:decide (V.int i=V.int j)=(i==j):=by rw[Mr];simp
theorem Bj:decide (V.bl i=V.bl j)=(i==j):=by rw[Mr];simp
theorem rQ:decide (V.str i=V.str j)=(i==j):=by rw[Mr];simp
theorem rS:decide (V.byt i=V.byt j)=(i.toList==j.toList):=by rw[Mr];cases i;cases j;simp
section
variable{X:Cx}{a b c:Expr}{ta tb tc:TE}{pos:Pos}
theorem xA(I:Inv X pins σ H s)(q:Q (.bl k) H)(e:k=k'):EP X pins σ Q (.bool k') s:=by subst e;exact⟨.bl k,H,I,rfl,q⟩
theorem EG:OpR X (compareOp .Eq) rEq:=by
 intro pins s σ H x y v u Q I rx z h;obtain⟨hs,q⟩:=h;cases x with
 | non=>
  cases rx;cases y with
  | non=>cases z;exact PySem.EqNone.eq_none_none<|xA I q ⋯
  | bl j=>cases z;exact PySem.EqNone.eq_none_bool<|xA I q ⋯
  | int j=>obtain⟨t',rfl⟩:=z;exact PySem.EqNone.eq_none_int<|xA I q ⋯
  | str j=>obtain⟨t',rfl⟩:=z;exact PySem.EqNone.eq_none_str<|xA I q ⋯
  | _=>exact absurd (show false=true from hs) IE
 | bl i=>
  cases rx;cases y with
  | non=>cases z;exact PySem.EqNone.eq_bool_none<|xA I q ⋯
  | bl j=>cases z;exact eq_bool<|xA I q Bj
  | str j=>obtain⟨t',rfl⟩:=z;exact PySem.EqMixed.eq_bool_str<|xA I q ⋯
  | _=>exact absurd (show false=true from hs) IE
 | int i=>
  obtain⟨t,rfl⟩:=rx;cases y with
  | non=>cases z;exact PySem.EqNone.eq_int_none<|xA I q ⋯
  | int j=>obtain⟨t',rfl⟩:=z;exact eq_int<|xA I q rR
  | str j=>obtain⟨t',rfl⟩:=z;exact PySem.EqMixed.eq_int_str<|xA I q ⋯
  | _=>exact absurd (show false=true from hs) IE
 | str i=>
  obtain⟨t,rfl⟩:=rx;cases y with
  | non=>cases z;exact PySem.EqNone.eq_str_none<|xA I q ⋯
  | bl j=>cases z;exact PySem.EqMixed.eq_str_bool<|xA I q ⋯
  | int j=>obtain⟨t',rfl⟩:=z;exact PySem.EqMixed.eq_str_int<|xA I q ⋯
  | str j=>obtain⟨t',rfl⟩:=z;exact eq_str<|xA I q rQ
  | _=>exact absurd (show false=true from hs) IE
 | byt i=>
  obtain⟨t,rfl⟩:=rx;cases y with
  | byt j=>obtain⟨t',rfl⟩:=z;exact PySem.W.eq_bytes<|xA I q rS
  | _=>exact absurd (show false=true from hs) IE
 | _=>cases y<;>exact absurd (show false=true from hs) IE
theorem pB:OpR X (compareOp .Lt) (rI0 λi j=> .bl (decide<|i<j)):=EH λ_ _ _ _ _ _ _ q=>lt_int q
theorem cM:OpR X (compareOp .LtE) (rI0 λi j=> .bl (decide<|i<=j)):=EH λ_ _ _ _ _ _ _ q=>le_int q
theorem Aj:OpR X (compareOp .Gt) (rI0 λi j=> .bl (decide<|j<i)):=EH λ_ _ _ _ _ _ _ q=>gt_int q
theorem OpR.or(h:OpR X f r)(h':OpR X f r'):OpR X f (λx y H Q=>r x y H Q\/r' x y H Q):=by
 intro pins s σ H x y v u Q I rx z q;rcases q with q | q
 ·exact h pins s σ H x y v u Q I rx z q
 ·exact h' pins s σ H x y v u Q I rx z q
theorem JW(b:Expr)(h:op ≠ .In:=by decide)(h2:op ≠ .NotIn:=by decide):behindInMarks op b=false:=by
 have e1:(op==CmpOp.In)=false:=by cases op<;>first | rfl | exact absurd rfl h
 have z:(op==CmpOp.NotIn)=false:=by cases op<;>first | rfl | exact absurd rfl h2
 cases b<;>simp[behindInMarks,e1,z]
theorem px{z:CmpOp}{r:R2}(O:OpR X (compareOp z) r)(ha:PE X a ta)(hb:PE X b tb)(hm:behindInMarks z b=false):PE X (.Compare a [z] [b] pos) (tOp r ta tb):=by intro pins s σ H Q I h;exact wpAny_Compare1 (FA ha hb I h λv u s2 x y H2 U rx Y q=>O pins s2 σ H2 x y v u Q U rx Y q) hm
def nX(t:TE):TT:=λσ H Q=>t σ H λx H'=>∃k,x = .bl k/\Q k H'
theorem Ym(O:OpR X (compareOp op) r)(ha:PE X a ta)(hb:PE X b tb)(hm:behindInMarks op b=false):PT X (.Compare a [op] [b] pos) (nX<|tOp r ta tb):=by
 intro pins s σ H Q I h;refine wpAny_isTrue_Compare1 (thn (ha pins s σ H _ I h) λv s1 ⟨x,H1,U,Y,q1⟩=>thn (hb pins s1 σ H1 _ U q1) λu s2 ⟨y,H2,I2,r2,q2⟩=>
  thn (O pins s2 σ H2 x y v u _ I2 Y r2 q2) λc s3 ⟨z,H3,I3,r3,k,e,q3⟩=>?_) hm
 subst e;cases r3;exact Mx ⟨H3,I3,q3⟩
def me(r r':R2)(ta tb tc:TE):TE:=λσ H Q=>ta σ H λx H1=>tb σ H1 λy H2=>r x y H2 λz I=>∃k,z = .bl k/\
 (if k=true then tc σ I λw' O=>r' y w' O Q else Q (.bl false) I)
theorem iq(ho:OpR X (compareOp op) r)(a1:OpR X (compareOp op') r')(ha:PE X a ta)(hb:PE X b tb)(hc:PE X c tc)
 (hm:lastMarks [op,op'] [b,c]=false:=by with_unfolding_all rfl):PE X (.Compare a [op,op'] [b,c] pos) (me r r' ta tb tc):=by
 intro pins s σ H Q I h;refine Compare_chain (thn (ha pins s σ H _ I h) λv s1 ⟨x,H1,I1,r1,q1⟩=>chain_link (thn (hb pins s1 σ H1 _ I1 q1) λu s2 ⟨y,H2,I2,r2,q2⟩=>
  thn (ho pins s2 σ H2 x y v u _ I2 r1 r2 q2) λd s3 ⟨z,O,U,r3,k,e,Y⟩=>?_)) hm
 subst e;cases r3;refine Mx ?_;cases k with
 | false=>exact ite_ff ⟨.bl false,O,U,rfl,Y⟩
 | true=>exact ite_tt<|chain_last<|thn (hc pins s3 σ O _ U Y) λw' s4 ⟨z',H4,I4,r4,q4⟩=>a1 pins s4 σ H4 y z' u w' Q I4 r2 r4 q4
theorem gY{O U:CmpOp}{r r':R2}(ho:OpR X (compareOp O) r)(a3:OpR X (compareOp U) r')(ha:PE X a ta)(hb:PE X b tb)(hc:PE X c tc)
 (hm:lastMarks [O,U] [b,c]=false:=by with_unfolding_all rfl):PT X (.Compare a [O,U] [b,c] pos) (nX<|me r r' ta tb tc):=by
 intro pins s σ H Q I h;refine isTrue_chain (thn (ha pins s σ H _ I h) λv s1 ⟨x,H1,I1,r1,q1⟩=>test_link (thn (hb pins s1 σ H1 _ I1 q1) λu s2 ⟨y,H2,I2,r2,q2⟩=>
  thn (ho pins s2 σ H2 x y v u _ I2 r1 r2 q2) λd s3 ⟨z,Y,I3,r3,k,e,q3⟩=>?_)) hm
 subst e;cases r3;refine Mx ?_;cases k with
 | false=>
  obtain⟨k',e',q'⟩:=q3;cases e';exact ite_ff ⟨Y,I3,q'⟩
 | true=>
  refine ite_tt<|test_last<|thn (hc pins s3 σ Y _ I3 q3) λw' s4 ⟨z',H4,I4,r4,q4⟩=>thn (a3 pins s4 σ H4 y z' u w' _ I4 r2 r4 q4) λd' s5 ⟨z2,H5,I5,r5,k2,e2,q5⟩=>?_;subst e2;cases r5;exact Mx ⟨H5,I5,q5⟩
def Hc(K:Ip)(x:V)(H:Hp)(k:Bool):Prop:=
 match x with
 | .non=>k=false
 | .bl b=>k=b
 | .int i=>k=(i != 0)
 | .str y=>y.length<=sizeLine/\k=((y.length:Int) != 0)
 | .byt y=>y.size<=sizeLine/\k=((y.size:Int) != 0)
 | .ref p=>(∃xs,SqL K H p xs/\k = !xs.isEmpty)\/(∃xs,SqT K H p xs/\k = !xs.isEmpty)\/∃kvs,H p=some (.dK kvs)/\k = !kvs.isEmpty
 | _=>False
theorem au(r:KV kvs vs):(!vs.isEmpty) = !kvs.isEmpty:=by cases r<;>rfl
theorem J4(r:Vals xs its):(!its.toArray.isEmpty) = !xs.isEmpty:=by cases r<;>simp
theorem JY:(sizeLine:Nat)<2 ^ 63:=by rw[PX];decide
theorem ti:HZ X (λx H Q=>∃k,Hc X.K x H k/\Q k H):=by
 intro pins s σ H x v Q I rx h;obtain⟨k,e,q⟩:=h;have hl:=JY;have hs:sizeLine=16777216:=PX;cases x with
 | non=>
  cases rx;have z:k=false:=e;subst z;exact truthy_none ⟨H,I,q⟩
 | bl b=>
  cases rx;have z:k=b:=e;subst z;exact Mx ⟨H,I,q⟩
 | int i=>
  obtain⟨t,rfl⟩:=rx;have z:k=(i != 0):=e;subst z;exact PySem.P.truthy_int ⟨H,I,q⟩
 | str y=>
  obtain⟨t,rfl⟩:=rx;obtain⟨U,z⟩:y.length<=sizeLine/\k=((y.length:Int) != 0):=e;subst z;exact PySem.P.truthy_str ⋯ ⟨H,I.tok _,q⟩
 | byt y=>
  obtain⟨t,rfl⟩:=rx;obtain⟨U,z⟩:y.size<=sizeLine/\k=((y.size:Int) != 0):=e;subst z;exact PySem.W.truthy_bytes ⋯ ⟨H,I.tok _,q⟩
 | ref p=>
  cases rx;have z:(∃xs,SqL X.K H p xs/\k = !xs.isEmpty)\/(∃xs,SqT X.K H p xs/\k = !xs.isEmpty)\/∃kvs,H p=some (.dK kvs)/\k = !kvs.isEmpty:=e;rcases z with⟨xs,hx,z⟩ | ⟨xs,hx,z⟩ | ⟨kvs,hx,z⟩
  ·subst z
   obtain⟨Y,r,pl,hz⟩:=I.list hx;have O:=r.length;exact wpAny_truthy_list pl.isList (by simp only[IF];omega) ⟨H,I.tok _,by rw[J4 r];exact q⟩
  ·subst z
   obtain⟨Y,r,pl,hz⟩:=I.tuple hx;have O:=r.length;exact truthy_tuple pl (by simp only[IF];omega) ⟨H,I.tok _,by rw[J4 r];exact q⟩
  ·subst z
   obtain⟨hz,hS,vs,r,m⟩:kvs.length<=sizeLine/\(p==sysModules)=false/\∃vs,KV kvs vs/\s.heap.DictOf (qw X.prog X.w) p vs:=I.hok p _ hx;have O:kvs.length=vs.length:=Paired.length r;exact wpAny_truthy_dict hS m ⋯ ⟨H,I.tok _,by rw[au r];exact q⟩
 | _=>exact(show False from e).elim
theorem gX(ha:PE X a ta)(he : ∀z,isTrue a X.env z=(do let v <- z;standAt a.pos;holding [v] (truthy v))) :
 PT X a (λσ H Q=>ta σ H λx H'=>∃k,Hc X.K x H' k/\Q k H'):=by
 intro pins s σ H Q I h;exact isTrue_plain (thn (ha pins s σ H _ I h) λv s1 ⟨x,H1,O,U,Y⟩=>ti pins s1 σ H1 x v Q O U Y)<|he _
theorem W1:OpR X (binaryOp .Add) (λx y H Q=>∃i j,x = .str i/\y = .str j/\i.length+j.length<=sizeLine/\Q (.str<|i++j) H):=by intro pins s σ H x y v u Q I rx z h;obtain⟨i,j,rfl,rfl,hz,q⟩:=h;obtain⟨t,rfl⟩:=rx;obtain⟨t',rfl⟩:=z;exact add_str (λt' O=>⟨.str<|i++j,H,I.tok _,⟨_,rfl⟩,q⟩) hz
theorem wC(r:Vals [x] us) : ∃u,us=[u]/\RelV x u:=by
 cases r with
 | cons z r2=>cases r2;exact⟨_,rfl,z⟩
theorem sY(r:Vals [x,y] us) : ∃u w',us=[u,w']/\RelV x u/\RelV y w':=by
 cases r with
 | cons z r2=>
  cases r2 with
  | cons I O=>cases O;exact⟨_,_,rfl,z,I⟩
theorem fA(O:X.calm=true):JE X (.builtin "min") (λxs H Q=>∃i j,xs=[.int i,.int j]/\Q (.int (if j<i then j else i)) H):=by
 intro pins s σ H xs us Q I r h;obtain⟨i,j,rfl,q⟩:=h;obtain⟨u,w',rfl,⟨t,rfl⟩,⟨t',rfl⟩⟩:=sY r;refine min_two_ints (I.ok.hd O) λh' U k=>⟨_,H,I.kept k,?_,q⟩;by_cases z:j<i
 ·rw[RY z,RY z];exact⟨_,rfl⟩
 ·rw[EQ z,EQ z];exact⟨_,rfl⟩
theorem fB:JE X (.type "int") (λxs H Q=>(∃i,xs=[.int i]/\Q (.int i) H)\/∃k,xs=[.bl k]/\Q (.int (if k then 1 else 0)) H):=by
 intro pins s σ H xs us Q I r h;rcases h with⟨i,rfl,q⟩ | ⟨k,rfl,q⟩
 ·obtain⟨u,rfl,t,rfl⟩:=wC r
  exact call_int_int ⟨.int i,H,I,⟨_,rfl⟩,q⟩
 ·obtain⟨u,rfl,z⟩:=wC r
  cases z;exact call_int_bool ⟨.int<|if k then 1 else 0,H,I.tok _,⟨_,rfl⟩,q⟩
end
structure ObjM(h:Heap)(x dx C:Addr)(mA:RJ):Prop where
 obj:h.get? x=some (MT C dx)
 ns:h.Ns1 dx mA
 ne:dx≠x
theorem dc{h:Heap}{dx:Addr}{mA:RJ}(n:h.Ns1 dx mA) : ∃od,h.get? dx=some od/\∀name,OZ name od=some (mA name):=by
 obtain⟨o,es,ep,I,hd,hk,_,hm⟩:=n;refine⟨o,I,λname=>?_⟩;have e:=hm name;unfold nsFind findBy at e;rw[<- Array.find?_toList]at e;unfold OZ;rw[hd];dsimp only;split
 ·rename_i y q
  rw[q]at e;exact congrArg some e
 ·rename_i q
  rw[q]at e;have a:es.toList.any (·.refKey)=false:=by rw[OJ];intro y O;obtain⟨z,t,U⟩:=hk y<|Array.mem_toList_iff.mp O;simp[DictEntry.refKey,U]
  have Y : ¬es.toList.any (·.refKey)=true:=by rw[a];exact IE
  rw[EQ Y];exact congrArg some e
theorem ObjM.look(I:ObjM h x dx C mA) : ∃od,PySem.W.InstAt h x (MT C dx) C (some od)/\∀name,OZ name od=some (mA name):=
 let ⟨od,z,O⟩:=dc I.ns
 ⟨od,⟨I.obj,rfl,rfl,z⟩,O⟩
section
variable{prog:Program}{w:World}{A:Around}{E:RQ}{s:Shared}{K:Ip}{x dx C f:Addr}{mA:RJ}{name:Str}{v:Value}
theorem rA(X:K.In s.heap)(I:ObjM s.heap x dx C mA)(z:NX K C name=true)(O:Ot K C=true)
 (ha:Lr K (.ref C) name=some none) (U:mA name=some v) (Y:PySem.W.handedIn v=true) (h:Q v {s with toks:=s.toks+1}) :
 wpAny (model prog w) A (getAttr (.ref x) name expr) Q E s:=by
 obtain⟨od,J,hl⟩:=I.look;exact PySem.W.get_value X J (Pd z).1 (PySem.W.findObj_own O ha rfl<|by rw[hl,U]) Y h
theorem lj(X:K.In s.heap)(I:ObjM s.heap x dx C mA)(z:NX K C name=true)
 (O:Lr K (.ref C) name=some (some (.ref f))) (U:Oh K (.ref f)=true) (Y:mA name=none) (h:Q (.ref f,[.ref x]) s) :
 wpAny (model prog w) A (getMethod (.ref x) name pl) Q E s:=by
 obtain⟨od,J,hl⟩:=I.look;exact PySem.W.method_fn X J (Pd z).1 (Pd z).2 O (beq_iff_eq.mp U) (by show(OZ name od).map (·.isSome)=some false;rw[hl,Y];rfl) h
theorem oy(X:K.In s.heap)(I:ObjM s.heap x dx C mA)
 (hs:Lr K (.ref C) "__setattr__" = some (some (.builtin "object.__setattr__"))) (U:PD K C=true) (Y:PySem.W.takerIn K C name=some none) (hh:Ot K C=true)
 (hw:PR mA ns) (hsz:ns.length<=sizeLine)
 (h : ∀h',ObjM h' x dx C (λy=>if y=name then some v else mA y)->NG dx s.heap h'->Q () {s with heap:=h',toks:=s.toks+2}) :
 wpAny (model prog w) A (setAttr (.ref x) name v) Q E s:=by
 obtain⟨od,J,hl⟩:=I.look;refine PySem.W.set_plain X J hs<|PySem.W.osa_open (s:={s with toks:=s.toks+1}) (r:=none) X J U Y λb=>?_;obtain⟨cd,hc,a2⟩:=PySem.W.any_some hh;have hx:s.heap.get? x=some ⟨.ref C,some dx,.plain,#[]⟩:=I.obj;refine Iq<|IA<|Iq<|Iq<|wpAny_loadPart hx<|Iq<|PySem.W.Looks.here (s:={s with toks:=s.toks+1}) (PySem.W.looks_clsIn X hc) ?_;rw[a2];refine IA (a:=some dx)<|Iq<|IA<|Iq ?_;refine wpAny_nsSet1 (s:={s with toks:=s.toks+1}) I.ns λh' z O=>?_;obtain⟨oD,a8,a9,a3,a4,a5⟩:=z.count<|PR.cons name v hw;refine Iq<|wpAny_lookBehind a3 (by rw[a4];exact pastItsLine_dict<|LG a5<|by rw[Lj];omega) ?_;exact IA<|h _ ⟨(O.2 _<|Ly I.ne).trans I.obj,z,I.ne⟩ O
theorem iI(X:K.In s.heap)(hm:OR K C=true)
 (hi:Lr K (.ref C) "__init__" = some (some (.ref f))) (z:PySem.W.typeIn K (.ref f)=some (.type "function"))
 (h:codeAny (model prog w) (A.under (.builtin "type.__call__" ⟨.ref C::vs,kw⟩)) (.call (.ref f) ⟨.ref (s.heap.objs.size+1)::vs,kw⟩) (PySem.W.InitBack (s.heap.objs.size+1) R)
   {s with heap:=(s.heap.push MB).push (MT C s.heap.objs.size)}) :
 codeAny (model prog w) A (.call (.ref C) ⟨vs,kw⟩) R s:=by
 obtain⟨I,g,d,t,os⟩:=s;exact PySem.W.make_core (PySem.W.makes_of X hm) (PySem.W.looks_findIn X hi) (λself=>PySem.W.bind_fn X self z) (.inl rfl) h
end
def Xc(f:Str)(v:V):List (Str×V)->List (Str×V)
 | []=>[(f,v)]
 | (g,x)::r=>if g=f then (g,v)::r else (g,x)::Xc f v r
theorem qx(f g:Str)(v:V) : ∀fs:List (Str×V),(Xc f v fs).lookup g=if g=f then some v else fs.lookup g
 | []=>by
  show NF g [(f,v)]=_;by_cases h:g=f
  ·have hb:(g==f)=true:=beq_iff_eq.mpr h
   simp only[NF,hb,RY h]
  ·have hb:(g==f)=false:=beq_eq_false_iff_ne.mpr h
   simp only[NF,hb,EQ h]
 | (k,x)::r=>by
  have z:=qx f g v r;rw[show Xc f v ((k,x)::r)=(if k=f then (k,v)::r else (k,x)::Xc f v r)from rfl];by_cases hk:k=f
  ·rw[RY hk]
   by_cases h:g=k
   ·have hb:(g==k)=true:=beq_iff_eq.mpr h
    simp only[NF,hb,RY (h.trans hk)]
   ·have hb:(g==k)=false:=beq_eq_false_iff_ne.mpr h
    simp only[NF,hb,EQ (λe:g=f=>h<|e.trans hk.symm)]
  ·rw[EQ hk]
   by_cases h:g=k
   ·have hb:(g==k)=true:=beq_iff_eq.mpr h
    simp only[NF,hb,EQ (λe:g=f=>hk<|h.symm.trans e)]
   ·have hb:(g==k)=false:=beq_eq_false_iff_ne.mpr h
    simp only[NF,hb];exact z
theorem ZN(f:Str)(v:V) : ∀fs:List (Str×V),f∈(Xc f v fs).map (·.1)/\∀g,g∈fs.map (·.1)->g∈(Xc f v fs).map (·.1)
 | []=>⟨by simp[Xc],λg h=>by simp at h⟩
 | (k,x)::r=>by
  obtain⟨z,I⟩:=ZN f v r;rw[show Xc f v ((k,x)::r)=(if k=f then (k,v)::r else (k,x)::Xc f v r)from rfl];by_cases hk:k=f
  ·rw[RY hk]
   subst hk;exact⟨by simp,λg h=>by simpa using h⟩
  ·rw[EQ hk]
   refine⟨?_,λg h=>?_⟩
   ·rw[IS]
    exact IT _ z
   ·rw[IS]at h ⊢
    rcases IG.mp h with e | e
    ·exact IG.mpr<|.inl e
    ·exact IT _<|I g e
theorem ZM(f:Str)(v:V) : ∀fs:List (Str×V),(Xc f v fs).length<=fs.length+1
 | []=>by simp[Xc]
 | (k,x)::r=>by
  have z:=ZM f v r;rw[show Xc f v ((k,x)::r)=(if k=f then (k,v)::r else (k,x)::Xc f v r)from rfl];by_cases hk:k=f
  ·rw[RY hk,Lj,Lj];omega
  ·rw[EQ hk,Lj,Lj];omega
theorem RelO.some_of(r:RelO (some v) o) : ∃u,o=some u/\RelV v u:=by
 cases o with
 | none=>exact(show False from r).elim
 | some u=>exact⟨u,rfl,r⟩
theorem RelO.none_of(r:RelO none o):o=none:=by
 cases o with
 | none=>rfl
 | some u=>exact(show False from r).elim
theorem dP(r:RelV v u):PySem.W.handedIn u=true:=by
 cases v with
 | non=>cases (show u=Nk from r);rfl
 | bl b=>cases (show u=PM b from r);rfl
 | int i=>obtain⟨t,e⟩:=(show ∃t,u=PB i t from r);cases e;rfl
 | str x=>obtain⟨t,e⟩:=(show ∃t,u=OY x t from r);cases e;rfl
 | byt b=>obtain⟨t,e⟩:=(show ∃t,u=Value.bytes b t from r);cases e;rfl
 | flt b=>obtain⟨t,e⟩:=(show ∃t,u=Value.float b t from r);cases e;rfl
 | ref a=>cases (show u=Lq a from r);rfl
 | ty n=>cases (show u=ND n from r);rfl
section
variable{P:Program}{w:World}{H H':Hp}{h h':Heap}{a C dx:Addr}{fs fs':List (Str×V)}
theorem Xp(hok:HOk P w H h)(e:H a=some (.ins C dx fs)) : ∃mA,ObjM h a dx C mA/\(∀f,RelO (fs.lookup f)<|mA f)/\PR mA (fs.map (·.1))/\fs.length<=1000/\H dx=some (.own a):=by obtain⟨d,z,ne,ob,mA,n,r,q⟩:=(show ObjOk P w H h a (.ins C dx fs)from hok a _ e);exact⟨mA,⟨ob,n,ne⟩,r,q,z,d⟩
end
structure Cls(K:Ip)(C:Addr):Prop where
 pg:NX K C Str.empty=true
 hd:Ot K C=true
 po:PD K C=true
 sa:Lr K (.ref C) "__setattr__" = some (some (.builtin "object.__setattr__"))
theorem Cls.get{K:Ip}{C:Addr}(c:Cls K C)(f:Str):NX K C f=true:=c.pg
def NoAttr(K:Ip)(C:Addr)(f:Str):Prop:=Lr K (.ref C) f=some none
theorem NoAttr.taker{K:Ip}{C:Addr}{f:Str}(n:NoAttr K C f):PySem.W.takerIn K C f=some none:=by unfold PySem.W.takerIn;rw[show Lr K (.ref C) f=some none from n];rfl
structure Meth(K:Ip)(C:Addr)(m:Str)(f:Addr):Prop where
 at_:Lr K (.ref C) m=some (some (.ref f))
 fn:Oh K (.ref f)=true
 kp:Mn K (.ref f)=true
section
variable{X:Cx}{pins:RW}{σ:St}{H:Hp}{s:Shared}{a C dx:Addr}{fs:List (Str×V)}{f:Str}{v:V}{A:Around}{E:RQ}
theorem aA(I:Inv X pins σ H s)(e:H a=some (.ins C dx fs))(c:Cls X.K C)(n:NoAttr X.K C f)(l:fs.lookup f=some v)
 (h : ∀u s',Inv X pins σ H s'->RelV v u->Q u s'):wpAny (model X.prog X.w) A (getAttr (.ref a) f b) Q E s:=by
 obtain⟨mA,O,r,_,_,_⟩:=Xp I.hok e;obtain⟨u,U,z⟩:=RelO.some_of (v:=v) (o:=mA f) (by rw[<- l];exact r f);exact rA I.kIn O (c.get f) c.hd n U (dP z)<|h u _ (I.tok _) z
theorem az(I:Inv X pins σ H s)(e:H a=some (.ins C dx fs))(c:Cls X.K C)(k:Meth X.K C m g)(l:fs.lookup m=none)
 (h:Q (.ref g,[.ref a]) s):wpAny (model X.prog X.w) A (getMethod (.ref a) m pl) Q E s:=by
 obtain⟨mA,O,r,_,_,_⟩:=Xp I.hok e;have hn:mA m=none:=RelO.none_of (by rw[<- l];exact r m);exact lj I.kIn O (c.get m) k.at_ k.fn hn h
theorem WM(I:Inv X pins σ H s)(e:H a=some (.ins C dx fs))(c:Cls X.K C)(n:NoAttr X.K C f)(hl:fs.length<1000)(ry:RelV y u)
 (h : ∀s',Inv X pins σ (upd H a<|.ins C dx<|Xc f y fs) s'->Q () s'):wpAny (model X.prog X.w) A (setAttr (.ref a) f u) Q E s:=by
 obtain⟨mA,O,r,wi,_,Y⟩:=Xp I.hok e;have hz:(fs.map (·.1)).length<=sizeLine:=by rw[IQ,PX];omega
 refine oy I.kIn O c.sa c.po n.taker c.hd wi hz λh' U sb=>h _ ?_;have hd : ∃o,h'.get? dx=some o:=let ⟨o,_,_,e',_⟩:=U.ns;⟨o,e'⟩;refine I.write (x:=a) (e:=dx) (by rw[e];exact MF) (.inr Y) (λb q hb z=>(sb.2 b hb).trans z) hd ?_;refine⟨by rw[zL O.ne];exact Y,?_,O.ne,U.obj,_,U.ns,λg=>?_,λg hg=>?_⟩
 ·have:=ZM f y fs;omega
 ·show RelO ((Xc f y fs).lookup g) (if g=f then some u else mA g)
  rw[qx];by_cases q:g=f
  ·rw[RY q,RY q];exact ry
  ·rw[EQ q,EQ q];exact r g
 ·by_cases q:g=f
  ·rw[q];exact(ZN f y fs).1
  ·refine(ZN f y fs).2 g (wi g λz=>hg ?_)
   show(if g=f then some u else mA g)=none;rw[EQ q];exact z
theorem Inv.made(I:Inv X pins σ H s):Inv X pins σ (upd (upd H s.heap.objs.size<|.own<|s.heap.objs.size+1) (s.heap.objs.size+1)<|.ins C s.heap.objs.size [])
 {s with heap:=(s.heap.push MB).push (MT C s.heap.objs.size)}:=by
 have e1:(s.heap.push MB).get? s.heap.objs.size=some MB:=IR s.heap rfl;have z:((s.heap.push MB).push (MT C s.heap.objs.size)).get? (s.heap.objs.size+1)=some (MT C s.heap.objs.size):=by
  have:=IR (s.heap.push MB) (o:=MT C s.heap.objs.size) rfl
  rwa [Ls]at this
 have O:(s.heap.push MB).Ns s.heap.objs.size (λ_=>none):=⟨MB,#[],_,e1,rfl,(λe he=>absurd he ⋯),λ_=>rfl⟩;have U:=I.laid (a:=s.heap.objs.size) (o:= .own (s.heap.objs.size+1)) (h':=s.heap.push MB) (t':=s.toks) (λb u q=>Ir _ q) (IC _) ⟨_,e1⟩;refine U.laid (a:=s.heap.objs.size+1) (o:= .ins C s.heap.objs.size []) (t':=s.toks) (λb u q=>Ir _ q) (Nat.le_of_eq<|Ls _ _) ?_;have ne:s.heap.objs.size≠s.heap.objs.size+1:=Ln<|Mf _;refine⟨by rw[zL ne,zJ],MN _,ne,z,λ_=>none,(Heap.Ns1.of_empty O).at λo q=>Ir _ q,λ_=>MF,λy Y=>absurd rfl Y⟩
theorem sk(hb:attributeBase e f env (eval e env)=eval e env)
 (h:wpAny (model prog w) A (eval e env) (λo z=>wpAny (model prog w) A (getAttr o f true) Q E z) E s):wpAny (model prog w) A (eval (.Attribute e f pos) env) Q E s:=
 Attribute_any_ h (by rw[arm_eval_Attribute,hb])
end
def CT(K:Ip)(ta:TE)(f:Str):TE:=λσ H Q=>ta σ H λx H1=>∃a C dx fs v,x = .ref a/\H1 a=some (.ins C dx fs)/\Cls K C/\NoAttr K C f/\fs.lookup f=some v/\Q v H1
def Em(K:Ip)(ta tv:TE)(f:Str):TS:=λD σ H=>tv σ H λy H1=>ta σ H1 λx H2=>∃a C dx fs,x = .ref a/\H2 a=some (.ins C dx fs)/\Cls K C/\NoAttr K C f/\fs.length<1000/\
 D.nx σ (upd H2 a<|.ins C dx<|Xc f y fs)
section
variable{X:Cx}{o e value:Expr}{f:Str}{pos pos' tpos:Pos}{ta tv:TE}
theorem VP(he:PE X e ta)(hb:attributeBase e f X.env (eval e X.env)=eval e X.env):PE X (.Attribute e f pos) (CT X.K ta f):=by intro pins s σ H Q I h;refine sk hb<|thn (he pins s σ H _ I h) λu s1 z=>?_;obtain⟨x,H1,O,rx,a,C,dx,fs,v,ex,U,c,n,l,q⟩:=z;subst ex;obtain rfl:u=Lq a:=rx;exact aA O U c n l λu' s2 Y ru=>⟨v,H1,Y,ru,q⟩
theorem mH(ha:PE X o ta)(z:PE X value tv)(hs:swapsWith value (some (.Attribute o f pos')) pos.line X.env=pure false):PS X (.Assign [.Attribute o f pos'] value pos) (Em X.K ta tv f):=by intro pins s σ H D I h;refine plainObj_wpAny_Assign_Attribute (thn (z pins s σ H _ I h) λu s1 ⟨y,H1,O,U,q⟩=>thn (ha pins s1 σ H1 _ O q) λY s2 ⟨x,H2,I2,rx,a,C,dx,fs,ex,ea,c,n,l,q2⟩=>?_) hs;subst ex;obtain rfl:Y=Lq a:=rx;exact WM I2 ea c n l U λs3 I3=>⟨σ,_,I3,q2⟩
end
section
variable{X:Cx}{pins:RW}{σ:St}{H:Hp}{s:Shared}{A:Around}{E:RQ}{Q:RQ}{c:Value}{b:Bool}
inductive TyOf(K:Ip)(H:Hp):V->Value->Prop where
 | non:TyOf K H .non (.type "NoneType")
 | bl (x:Bool):TyOf K H (.bl x) (.type "bool")
 | int (i:Int):TyOf K H (.int i) (.type "int")
 | str (x:Str):TyOf K H (.str x) (.type "str")
 | flt (x:UInt64):TyOf K H (.flt x) (.type "float")
 | lst {a:Addr} {xs:List V} (e:H a=some (.lst xs)):TyOf K H (.ref a) (.type "list")
 | frz {a:Addr} {o:Obj} {xs:List V} (e:H a=some (.frz o (.lst xs))):TyOf K H (.ref a) (.type "list")
 | tup {a:Addr} {xs:List V} (e:H a=some (.tup xs)):TyOf K H (.ref a) (.type "tuple")
 | dK {a:Addr} {kvs:List (Key×V)} (e:H a=some (.dK kvs)):TyOf K H (.ref a) (.type "dict")
 | dT {a:Addr} {kvs:List (List Key×V)} (e:H a=some (.dT kvs)):TyOf K H (.ref a) (.type "dict")
 | ins {a C dx:Addr} {fs:List (Str×V)} (e:H a=some (.ins C dx fs)) (cl:Cls K C) (ha:Lr K (.ref C) "__class__" = some (some (.builtin "object.__class__")))
  (hn:PySem.W.specialIn K (.builtin "object.__class__") "__get__" = some (some (.builtin "getset_descriptor.__get__"))) (htk:PySem.W.takesIn K (.builtin "object.__class__")=some true)
  (hm:PySem.W.mroIn K C (.type "object")=some true):TyOf K H (.ref a) (.ref C)
theorem dE(I:Inv X pins σ H s)(rx:RelV x u)(ty:TyOf X.K H x t)(e:Nu X.K t c=some b)(h : ∀Y,Q (.bool b) {s with toks:=Y}) :
 wpAny (model X.prog X.w) A (call (.builtin "isinstance") [u,c]) Q E s:=by
 cases ty with
 | non=>cases (show u=Nk from rx);exact Lv PySem.W.kitx_none I.kIn MF e (λz=>nomatch z) h
 | bl y=>cases (show u=PM y from rx);exact Lv PySem.W.kitx_bool I.kIn MF e (λz=>nomatch z) h
 | int i=>obtain⟨t,q⟩:=(show ∃t,u=PB i t from rx);cases q;exact Lv PySem.W.kitx_int I.kIn MF e (λz=>nomatch z) h
 | str y=>obtain⟨t,q⟩:=(show ∃t,u=OY y t from rx);cases q;exact Lv PySem.W.kitx_str I.kIn MF e (λz=>nomatch z) h
 | flt y=>obtain⟨t,q⟩:=(show ∃t,u=Value.float y t from rx);cases q;exact Lv PySem.W.kitx_float I.kIn MF e (λz=>nomatch z) h
 | @lst a xs U=>
  cases (show u=Lq a from rx);obtain⟨_,_,n,_,h1⟩:=(show ObjOk X.prog X.w H s.heap a (.lst xs)from I.hok a _ U);exact Lv PH I.kIn ⟨_,h1,rfl⟩ e (λz=>nomatch z) h
 | @frz a ob xs U=>
  cases (show u=Lq a from rx);obtain⟨_,_,_,n,_,h1⟩:=(show ObjOk X.prog X.w H s.heap a (.frz ob<|.lst xs)from I.hok a _ U);exact Lv PH I.kIn ⟨_,h1,rfl⟩ e (λz=>nomatch z) h
 | @tup a xs U=>
  cases (show u=Lq a from rx);obtain⟨_,_,_,p⟩:=(show ObjOk X.prog X.w H s.heap a (.tup xs)from I.hok a _ U);obtain⟨o,h1,h2,_⟩:=p;exact Lv PySem.W.kitx_tuple I.kIn ⟨o,h1,(Prod.mk.inj h2).1⟩ e (λz=>nomatch z) h
 | @dK a kvs U=>
  cases (show u=Lq a from rx);obtain⟨_,_,vs,_,p⟩:=(show ObjOk X.prog X.w H s.heap a (.dK kvs)from I.hok a _ U);obtain⟨o,es,ep,h1,h2,_⟩:=p;exact Lv PJ I.kIn ⟨o,h1,h2.1⟩ e (λz=>nomatch z) h
 | @dT a kvs U=>
  cases (show u=Lq a from rx);obtain⟨_,_,xs,_,o,es,ep,h1,h2,_⟩:=(show ObjOk X.prog X.w H s.heap a (.dT kvs)from I.hok a _ U);exact Lv PJ I.kIn ⟨o,h1,h2.1⟩ e (λz=>nomatch z) h
 | @ins a C dx fs U cl ha hn htk hm=>
  cases (show u=Lq a from rx);obtain⟨mA,O,_⟩:=Xp I.hok U;obtain⟨od,J,_⟩:=O.look;exact Lv (PySem.W.kitx_own (cl.get _) cl.hd ha hn htk hm) I.kIn J e (λz=>nomatch z) h
end
structure Room(k:Nat)(A:Around):Prop where
 hd:A.handled=none
 dp:A.depth+3*k+5<recursionLimit
 un:A.units+16*k+200<cLine
theorem Room.mono(r:Room k A)(h:j<=k):Room j A:=⟨r.hd,by have:=r.dp;omega,by have:=r.un;omega⟩
theorem Room.deeper(r:Room (k+1) A)(env:Env):Room k (A.deeper env):=
 ⟨r.hd,by have:=r.dp;show A.depth+1+3*k+5<_;omega,by have:=r.un;show A.units+3+16*k+200<_;omega⟩
theorem af{A:Around}{C:Addr}{us:List Value}{z:List (Str×Value)}:(A.under (.builtin "type.__call__" ⟨.ref C::us,z⟩)).depth=A.depth+1:=by first | rfl | simp[Around.under,Code.weight,Code.isCreation,Code.isGuard,Code.isCaller,Code.frames,Code.isFrame,guardIds]
theorem ab{A:Around}{C:Addr}{us:List Value}{z:List (Str×Value)}:(A.under (.builtin "type.__call__" ⟨.ref C::us,z⟩)).units=A.units+1:=by first | rfl | simp[Around.under,Code.cUnits,Code.frames,Code.isFrame]
theorem Room.make(r:Room (k+1) A)(C:Addr)(us:List Value)(z:List (Str×Value)):Room k (A.under (.builtin "type.__call__" ⟨.ref C::us,z⟩)):=
 ⟨r.hd,by have:=r.dp;rw[af];omega,by have:=r.un;rw[ab];omega⟩
theorem Room.depth(r:Room k A):A.depth<recursionLimit:=by have:=r.dp;omega
def sG:TA:=λ_ H Q=>Q [] H
def Zh(ta:TE)(z:TA):TA:=λσ H Q=>ta σ H λx H1=>z σ H1 λxs H2=>Q (x::xs) H2
section
variable{X:Cx}{e:Expr}{es:List Expr}{te:TE}{t:TA}{pos:Pos}
theorem qa:PA X [] sG:=λ_ _ _ _ H Q I h=>OH ⟨[],H,I,.nil,h⟩
theorem zX(ha:PE X e te)(z:PA X es t)(hs:starEach (e::es) X.env=(false,eval e X.env)::starEach es X.env:=by rfl):PA X (e::es) (Zh te t):=by intro pos pins s σ H Q I h;rw[hs];show wpAny _ _ (spliced ((false,eval e X.env)::backTo pos (starEach es X.env))) _ _ s;refine Np<|thn (ha pins s σ H _ I h) λu s1 O=>?_;obtain⟨x,H1,U,Y,q1⟩:=O;exact thn (z pos pins s1 σ H1 _ U q1) λus s2 ⟨xs,H2,I2,r2,q2⟩=>⟨x::xs,H2,I2,.cons Y r2,q2⟩
def Hi(t:TA):TE:=λσ H Q=>t σ H λxs H1=>xs.length<=sizeLine/\∀p,H1 p=none->Q (.ref p) (upd H1 p<|.tup xs)
def Hk(t:TA):TE:=λσ H Q=>t σ H λxs H1=>xs.length<=sizeLine/\∀p,H1 p=none->Q (.ref p) (upd H1 p<|.lst xs)
theorem uU(h:PA X es t):PE X (.Tuple es x1 pos) (Hi t):=by intro pins s σ H Q I U;refine wpAny_Tuple_spliced<|thn (h pos pins s σ H _ I U) λus s1 ⟨xs,H1,O,r,z,q⟩=>⟨by rw[<- r.length];exact z,?_⟩;have Y:H1 s1.heap.objs.size=none:=O.hok.fresh<|IC _;refine⟨.ref s1.heap.objs.size,upd H1 s1.heap.objs.size<|.tup xs,O.laid (t':=s1.toks) (λb u e=>Ir _ e) (IC _) ?_,rfl,q _ Y⟩;exact⟨z,us,r,⟨_,IR _ rfl,rfl,_,rfl⟩⟩
theorem uX(h:PA X es t):PE X (.List es pos) (Hk t):=by intro pins s σ H Q I U;refine wpAny_List_spliced<|thn (h pos pins s σ H _ I U) λus s1 ⟨xs,H1,O,r,z,q⟩=>⟨by rw[<- r.length];exact z,?_⟩;have Y:H1 s1.heap.objs.size=none:=O.hok.fresh<|IC _;refine⟨.ref s1.heap.objs.size,upd H1 s1.heap.objs.size<|.lst xs,O.laid (t':=s1.toks) (λb u e=>Ir _ e) (IC _) ?_,rfl,q _ Y⟩;exact⟨z,us,0,r,IR _ rfl⟩
end
abbrev Sp:=List V->Hp->VK->XK->Prop
abbrev CXT:=List Env->Hp->Shared->XK->Value->Shared->Prop
structure Env0(P:Program)(w:World)(K:Ip)(mg:RJ)(base:Heap)(A:Around)(outer:List Env)(s:Shared)(H:Hp):Prop where
 frames:A.frames=some outer
 mod:Mod K mg base
 bs : ∀b o,base.get? b=some o->s.heap.get? b=some o/\H b=none
 bsz:base.objs.size<=s.heap.objs.size
 funs:s.heap.FunFrames base outer
 frf : ∀b∈frs outer,H b=none
 hok:HOk P w H s.heap
 bare:AllBare s.gens
def CE(outer:List Env)(P:Program)(w:World)(H:Hp)(s:Shared)(Q:VK)(u:Value)(s':Shared):Prop:=
 ∃v H',s'.os=s.os/\AllBare s'.gens/\Un (frs outer) [] H H' s.heap s'.heap/\HOk P w H' s'.heap/\RelV v u/\Q v H'
def CR(CX:CXT)(outer:List Env)(P:Program)(w:World)(H:Hp)(s:Shared)(Q:VK)(E:XK)(r:Result)(s':Shared):Prop:=
 match r with
 | .ok (.ret u)=>CE outer P w H s Q u s'
 | .ok _=>False
 | .error e=>CX outer H s E e s'
structure FnOk(P:Program)(w:World)(K:Ip)(mg:RJ)(base:Heap)(CX:CXT)(k:Nat)(f:Addr)(fd:FuncData)(ps:List Str)(sp:Sp):Prop where
 len : ∀vs H Q E,sp vs H Q E->vs.length=ps.length
 run : ∀(A:Around) (outer:List Env) (s:Shared) (H:Hp) (args:Args) (us:List Value) (vs:List V) (Q:VK) (E:XK),Room k A->Env0 P w K mg base A outer s H->BindsTo s fd args (ps.zip us)->Vals vs us->sp vs H Q E->
  codeAny (model P w) A (.call (.ref f) args) (CR CX outer P w H s Q E) s
theorem Env0.make{P:Program}{w:World}{K:Ip}{mg:RJ}{base:Heap}{A:Around}{outer:List Env}{s:Shared}{H:Hp}(e:Env0 P w K mg base A outer s H)(C:Addr)(us:List Value)(z:List (Str×Value)) :
 Env0 P w K mg base (A.under (.builtin "type.__call__" ⟨.ref C::us,z⟩)) outer s H:=⟨by first | exact e.frames | (simpa[Around.under,Code.envs,Code.isFrame,pushEnvs]using e.frames),e.mod,e.bs,e.bsz,e.funs,e.frf,e.hok,e.bare⟩
section
variable{X:Cx}{pins:RW}{σ:St}{H:Hp}{s s':Shared}
theorem Inv.env0(I:Inv X pins σ H s):Env0 X.prog X.w X.K X.mg X.base X.A X.stack s H:=
 ⟨I.ok.frames,I.ok.mod,I.bs,LG I.ok.bsz I.sz,I.stack,I.stkFree,I.hok,I.bare⟩
theorem Inv.after(I:Inv X pins σ H s)(h:CE X.stack X.prog X.w H s Q u s'):EP X pins σ Q u s':=by obtain⟨v,H',os,bare,un,hok,r,q⟩:=h;obtain⟨O,g,d,t,U⟩:=s';obtain rfl:U=s.os:=os;exact⟨v,H',I.call (h':=O) (g':=g) (d':=d) (t':=t) (ch:=[]) un hok bare<|λb z=>absurd z ⋯,r,q⟩
end
def gA(sp:Sp)(dvs:List V)(E:XK)(t:TA):TE:=λσ H Q=>t σ H λvs H1=>sp (vs++dvs) H1 Q E
def CS(C:Addr)(m:Str)(sp:Sp)(dvs:List V)(E:XK)(ta:TE)(t:TA):TE:=λσ H Q=>ta σ H λx H1=>∃a dx fs,x = .ref a/\H1 a=some (.ins C dx fs)/\fs.lookup m=none/\
 t σ H1 λvs H2=>sp (x::(vs++dvs)) H2 Q E
def gy(C:Addr)(sp:Sp)(dvs:List V)(E:XK)(t:TA):TE:=λσ H Q=>t σ H λvs H1=>∀x dx,H1 x=none->H1 dx=none->dx≠x->
 sp (.ref x::(vs++dvs)) (upd (upd H1 dx<|.own x) x<|.ins C dx []) (λv H2=>v = .non/\Q (.ref x) H2) E
def Binds(K:Ip)(fd:FuncData)(ps:List Str)(ds:List Value):Prop:=
 ∀(s:Shared) (us:List Value),K.In s.heap->(us++ds).length=ps.length->BindsTo s fd ⟨us,[]⟩ (ps.zip<|us++ds)
theorem Binds.all{K:Ip}{fd:FuncData}{ps:List Str}(h : ∀us:List Value,us.length=ps.length->bindArgs fd ⟨us,[]⟩=pure (ps.zip us)):Binds K fd ps []:=λs us _ z=>by rw[Na]at z ⊢;exact .of_eq<|h us z
def QF(CX:CXT)(X:Cx)(E:XK):Prop:=∀(pins:RW) (σ:St) (H:Hp) (s:Shared) (e:Value) (s':Shared),Inv X pins σ H s->CX X.stack H s E e s'->X.xe e s'
section
variable{X:Cx}{CX:CXT}{k:Nat}{f C:Addr}{fd:FuncData}{ps:List Str}{sp:Sp}{dvs:List V}{ds:List Value}{E:XK}{x m:Str}{p pos apos:Pos}{e o:Expr}{es:List Expr}{ta:TE}{t:TA}
theorem mx(F:FnOk X.prog X.w X.K X.mg X.base CX k f fd ps sp)(O:Room k X.A)(hb:Binds X.K fd ps ds)(hd:Vals dvs ds)(hx:QF CX X E)
 (I:Inv X pins σ H s) (r:Vals vs us) (h:sp (vs++dvs) H Q E):wpAny (model X.prog X.w) X.A (call (.ref f) us) (EP X pins σ Q) X.xe s:=by
 have r2:Vals (vs++dvs) (us++ds):=r.append hd;have U:(us++ds).length=ps.length:=by rw[<- r2.length];exact F.len _ _ _ _ h
 refine wpAny_call<|Py (F.run X.A X.stack s H ⟨us,[]⟩ (us++ds) (vs++dvs) Q E O I.env0 (hb s us I.kIn U) r2 h) λr s' z=>?_;cases r with
 | error e=>exact hx pins σ H s e s' I z
 | ok Y=>
  cases Y with
  | ret u=>exact I.after z
  | next=>exact MU z
  | brk=>exact MU z
  | cont=>exact MU z
theorem Zt(F:FnOk X.prog X.w X.K X.mg X.base CX k f fd ps sp)(O:Room k X.A)(U:Gl X x)(hm:X.mg x=some (.ref f))(hk:Mn X.K (.ref f)=true)(hb:Binds X.K fd ps ds)(hd:Vals dvs ds)(hx:QF CX X E)
 (ha:PA X (e::es) t) (Y:(x==("__debug__" : Str))=false:=by decide) (he:starEach (e::es) X.env=(false,eval e X.env)::starEach es X.env:=by rfl) (a0:(backTo pos (starEach es X.env)).any (·.1)=false:=by rfl) :
 PE X (.Call (.Name x p) (e::es) [] pos) (gA sp dvs E t):=by
 intro pins s σ H Q I h;refine NU<|YJ I U hm ?_ Y;refine Pi (h₀:=X.base) I.ok.mod.kin hk (thn (ha pos pins s σ H _ I h) λus s1 ⟨vs,H1,z,r,q⟩=>⟨z.kIn,?_⟩) he a0;exact mx F O hb hd hx z r q
theorem pj(he:PE X o ta)(c:Cls X.K C)(hm:Meth X.K C m f)(F:FnOk X.prog X.w X.K X.mg X.base CX k f fd ps sp)(Y:Room k X.A)(hb:Binds X.K fd ps ds)(hd:Vals dvs ds)(hx:QF CX X E)(ha:PA X (e::es) t)
 (a0:starEach (e::es) X.env=(false,eval e X.env)::starEach es X.env:=by rfl) (a1:(backTo pos<|starEach es X.env).any (·.1)=false:=by rfl)
 (ht:eval (.Call (.Attribute o m apos) (e::es) [] pos) X.env=(do
   let z <- eval o X.env
   standAt apos.atName
   let (f,first) <- holding [z] (getMethod z m pl)
   callWith pos f first (backTo pos<|starEach (e::es) X.env) (backToKw pos<|keywordEach [] X.env)):=by rfl) :
 PE X (.Call (.Attribute o m apos) (e::es) [] pos) (CS C m sp dvs E ta t):=by
 intro pins s σ H Q I h;refine PySem.W.methodCall_KW (pl:=pl) (thn (he pins s σ H _ I h) λu s1 hZ=>?_) ht;obtain⟨x,H1,O,rx,a,dx,fs,ex,ea,l,q⟩:=hZ;subst ex;obtain rfl:u=Lq a:=rx;refine az O ea c hm l ?_;refine Pi (first:=[.ref a]) (h₀:=X.base) I.ok.mod.kin hm.kp (thn (ha pos pins s1 σ H1 _ O q) λus s2 ⟨vs,H2,U,r,q2⟩=>⟨U.kIn,?_⟩) a0 a1;exact mx (us:= .ref a::us) (vs:= .ref a::vs) F Y hb hd hx U (.cons rfl r) q2
structure Mk(K:Ip)(C f:Addr):Prop where
 makes:OR K C=true
 init:Lr K (.ref C) "__init__" = some (some (.ref f))
 fn:Oh K (.ref f)=true
 kp:Mn K (.ref C)=true
theorem gP(M:Mk X.K C f)(F:FnOk X.prog X.w X.K X.mg X.base CX k f fd ps sp)(Y:Room (k+1) X.A)(hb:Binds X.K fd ps ds)(hd:Vals dvs ds)
 (hx:QF CX X E) (I:Inv X pins σ H s) (r:Vals vs us)
 (h : ∀x dx,H x=none->H dx=none->dx≠x->sp (.ref x::(vs++dvs)) (upd (upd H dx<|.own x) x<|.ins C dx []) (λv H2=>v = .non/\Q (.ref x) H2) E) :
 wpAny (model X.prog X.w) X.A (call (.ref C) us) (EP X pins σ Q) X.xe s:=by
 have U:=h (s.heap.objs.size+1) s.heap.objs.size (I.hok.fresh<|Nat.le_succ _) (I.hok.fresh<|IC _)<|Ln<|Mf _;have O:=Inv.made (C:=C) I;have r2:Vals (V.ref (s.heap.objs.size+1)::(vs++dvs)) (Lq (s.heap.objs.size+1)::(us++ds)):= .cons rfl (r.append hd);have hl:(Lq (s.heap.objs.size+1)::us++ds).length=ps.length:=by have e:=r2.length;rw[F.len _ _ _ _ U]at e;exact e.symm
 refine wpAny_call (iI (f:=f) I.kIn M.makes M.init (beq_iff_eq.mp M.fn) (Py (F.run _ X.stack _ _ ⟨Lq (s.heap.objs.size+1)::us,[]⟩ (Lq (s.heap.objs.size+1)::(us++ds)) _ _ E (Y.make C us [])
  (O.env0.make C us []) (hb _ (Lq (s.heap.objs.size+1)::us) O.kIn hl) r2 U) λr s' z=>?_))
 cases r with
 | error e=>exact hx pins σ _ _ e s' O z
 | ok fl=>
  cases fl with
  | ret u=>
   obtain⟨v,H',I3,rv,ev,q3⟩:=O.after z;subst ev;exact⟨rv,⟨V.ref<|s.heap.objs.size+1,H',I3,rfl,q3⟩⟩
  | next=>exact MU z
  | brk=>exact MU z
  | cont=>exact MU z
theorem cJ(M:Mk X.K C f)(F:FnOk X.prog X.w X.K X.mg X.base CX k f fd ps sp)(O:Room (k+1) X.A)(U:Gl X x)(hm:X.mg x=some (.ref C))(hb:Binds X.K fd ps ds)(hd:Vals dvs ds)(hx:QF CX X E)
 (ha:PA X (e::es) t) (Y:(x==("__debug__" : Str))=false:=by decide) (he:starEach (e::es) X.env=(false,eval e X.env)::starEach es X.env:=by rfl) (a0:(backTo pos (starEach es X.env)).any (·.1)=false:=by rfl) :
 PE X (.Call (.Name x p) (e::es) [] pos) (gy C sp dvs E t):=by
 intro pins s σ H Q I h;refine NU<|YJ I U hm ?_ Y;refine Pi (h₀:=X.base) I.ok.mod.kin M.kp (thn (ha pos pins s σ H _ I h) λus s1 ⟨vs,H1,z,r,q⟩=>⟨z.kIn,?_⟩) he a0;exact gP M F O hb hd hx z r q
end
structure FnScope(N P:List Str)(sc:Scope):Prop where
 kind:sc.kind = .function
 co:sc.isCoroutine=false
 gen:sc.isGenerator=false
 nd:N.Nodup
 pre:N.take P.length=P
 par : ∀x∈P,sc.names.lookup x=some .local\/sc.names.lookup x=some .cell
 nofree : ∀y∈sc.names,y.2 ≠ .free
theorem KZ{kindOf:Str->Option NameKind}{x:Str} : ∀{binds:List (Str×Value)} {m:RJ},(∀v,(x,v)∉binds)->bindL kindOf binds m x=m x
 | [],_,_=>rfl
 | (n,v)::r,m,h=>by
  unfold bindL;rw[KZ λw hw=>h w (IT _ hw)];split
  ·have:x≠n:=by rintro rfl;exact h v IY
   simp[this]
  ·rfl
theorem K2{kindOf:Str->Option NameKind}{x:Str} : ∀{binds:List (Str×Value)} {m:RJ},(∀v,(x,v)∉binds)->bindC kindOf binds m x=m x
 | [],_,_=>rfl
 | (n,v)::r,m,h=>by
  unfold bindC;rw[K2 λw hw=>h w (IT _ hw)];split
  ·rfl
  ·have:x≠n:=by rintro rfl;exact h v IY
   simp[this]
theorem K0{kindOf:Str->Option NameKind}{x:Str}{v:Value} : ∀{P:List Str} {vs:List Value} {i:Nat} {m:RJ},P.Nodup->P[i]? = some x->vs[i]? = some v->kindOf x=some .local->
 bindL kindOf (P.zip vs) m x=some v
 | [],_,_,_,_,h,_,_=>by simp at h
 | _::_,[],_,_,_,_,h,_=>by simp at h
 | p::P,w::vs,0,m,nd,h1,h2,hk=>by simp at h1 h2;subst h1;subst h2;show bindL kindOf ((p,w)::P.zip vs) m p=_;unfold bindL;rw[KZ λv z=>(MW.mp nd).1 (List.of_mem_zip z).1,RY hk];simp
 | p::P,w::vs,i+1,m,nd,h1,h2,hk=>by show bindL kindOf ((p,w)::P.zip vs) m x=_;unfold bindL;exact K0 (i:=i) (MW.mp nd).2 (by simpa using h1) (by simpa using h2) hk
theorem K3{kindOf:Str->Option NameKind}{x:Str}{v:Value} : ∀{P:List Str} {vs:List Value} {i:Nat} {m:RJ},P.Nodup->P[i]? = some x->vs[i]? = some v->kindOf x≠some .local->
 bindC kindOf (P.zip vs) m x=some v
 | [],_,_,_,_,h,_,_=>by simp at h
 | _::_,[],_,_,_,_,h,_=>by simp at h
 | p::P,w::vs,0,m,nd,h1,h2,hk=>by simp at h1 h2;subst h1;subst h2;show bindC kindOf ((p,w)::P.zip vs) m p=_;unfold bindC;rw[K2 λv z=>(MW.mp nd).1 (List.of_mem_zip z).1,EQ hk];simp
 | p::P,w::vs,i+1,m,nd,h1,h2,hk=>by show bindC kindOf ((p,w)::P.zip vs) m x=_;unfold bindC;exact K3 (i:=i) (MW.mp nd).2 (by simpa using h1) (by simpa using h2) hk
def Jt(N:List Str)(vs:List V):St:=vs.map some++Iw (N.length - vs.length) none
def rW(CX:CXT)(P:Program)(w:World)(K:Ip)(mg:RJ)(base:Heap)(N:List Str)(qual:Str)(scope:Scope)(f:Addr)(z:Value)(A:Around)(outer:List Env)(s:Shared)(H:Hp)(E:XK):Cx where
 prog:=P
 w:=w
 K:=K
 mg:=mg
 base:=base
 A:=A.deeper<|envOfC qual scope s.heap.objs.size f z
 N:=N
 s₀:=s
 H₀:=H
 env:=envOfC qual scope s.heap.objs.size f z
 outer:=outer
 stack:=envOfC qual scope s.heap.objs.size f z::outer
 ex:=[]
 calm:=true
 fn:=λ_=>true
 pn:=[]
 xe:=λe s'=>wpAny (model P w) (A.deeper<|envOfC qual scope s.heap.objs.size f z) (leaving (envOfC qual scope s.heap.objs.size f z) e) (λ_ I=>CX outer H s E e I) (λO I=>CX outer H s E O I) s'
theorem Wi{sc:Scope}{n:Nat}{x:Str}(h:sc.names.lookup x=some .cell) : ∃c,(cellsFrom n sc.names []).lookup x=some c:=by have q:=NJ sc.names n [] (.inl h);exact Mt.mp q
theorem dF{CX:CXT}{P:Program}{w:World}{K:Ip}{mg:RJ}{base:Heap}{N ps:List Str}{qual:Str}{scope:Scope}{f:Addr}{Y:Value}{A:Around}{outer:List Env}{s s1:Shared}{H:Hp}{E:XK}{us:List Value}{vs:List V}
 (S:FnScope N ps scope) (hd:A.handled=none) (I:Env0 P w K mg base A outer s H) (hl:vs.length=ps.length) (r:Vals vs us)
 (x:InCallC s s.heap.objs.size (bindL (envOfC qual scope s.heap.objs.size f Y).kindOf (ps.zip us) λ_=>none) (cellsFrom (s.heap.objs.size+1) scope.names []) (bindC (envOfC qual scope s.heap.objs.size f Y).kindOf (ps.zip us) λ_=>none) s1) :
 Inv (rW CX P w K mg base N qual scope f Y A outer s H E) [] (Jt N vs) H s1:=by
 have a5:ps.length<=N.length:=by have:=congrArg Po S.pre;rw[Nl]at this;omega
 obtain⟨h1,tk,rfl,hk⟩:=x.done;have a0 : ∀b:Addr,b∉(rW CX P w K mg base N qual scope f Y A outer s H E).ex:=λb z=>absurd (show b∈([]:List Addr)from z) ⋯;refine⟨⟨I.mod,S.kind,rfl,rfl,IC _,λy z c h1 h2=>?_,λy O=>?_,λy c _ h=>?_,λ_=>hd,Around.frames_deeper I.frames,.inr ⟨rfl,rfl⟩,λb z=>absurd z<|a0 b,I.bs,I.bsz,λb _ _=>a0 b,λb z=>absurd z<|a0 b,I.funs,I.frf⟩,
  rfl,I.bare,Un.kept hk,⟨_,x.toInCall.ns,λi y v h1 h2 h3=>?_⟩,λy c h=>⟨_,x.cell y c h⟩,I.hok.fresh<|IC _,λy c h=>?_,λp U=>absurd (show p∈([]:RW)from U) ⋯,I.hok.kept hk,?_⟩
 ·exact name_of_addr x.apart (Nz h1)<|Nz h2
 ·have O:scope.names.lookup y=some .cell\/scope.names.lookup y=some .free:=O
  rcases O with O | O
  ·exact Wi O
  ·exact absurd rfl<|S.nofree _<|Nz O
 ·exact Pf<|x.above y c<|Nz h
 ·have hi:i<vs.length:=by
   unfold Jt at h2;by_cases hi:i<vs.length
   ·exact hi
   ·rw[LB (by simpa using hi)]at h2
    rw[NM]at h2;split at h2<;>cases h2
  have ha:vs[i]? = some v:=by
   unfold Jt at h2;rw[LX (by simpa using hi),Lo]at h2;cases e:vs[i]? with
   | none=>rw[e]at h2;cases h2
   | some a=>rw[e]at h2;cases h2;rfl
  obtain⟨u,hu,rv⟩:=r.get ha;have U:ps[i]? = some y:=by rw[<- S.pre,List.getElem?_take_of_lt ⋯];exact h1
  have a2:ps.Nodup:=by rw[<- S.pre];exact S.nd.sublist<|List.take_sublist _ _
  refine⟨u,rv,?_⟩;rcases S.par y (Mi U)with k | k
  ·exact .inl ⟨k,K0 a2 U hu k⟩
  ·obtain⟨c,e⟩:=Wi (n:=s.heap.objs.size+1) k
   refine .inr ⟨.inl k,c,e,?_⟩;have q:=x.cell y c e;rw[K3 a2 U hu (by show scope.names.lookup y≠_;rw[k];decide)]at q;exact q
 ·exact I.hok.fresh<|Pf<|x.above y c<|Nz h
 ·unfold Jt
  show _=N.length;rw[LD,IQ,List.length_replicate];omega
theorem Fh{CX:CXT}{P:Program}{w:World}{K:Ip}{mg:RJ}{base:Heap}{k:Nat}{f:Addr}{name qual:Str}{Y:Arguments}{body:List Stmt}{scope:Scope}{dV kV doc pm cdv ct oc:Value}{an od:Option Addr}
 {osl:Array (Option Value)} {N ps:List Str} {sp:Sp} (lk:K.lookup f=some ⟨oc,od,.func<|My name qual Y body scope dV kV doc pm an cdv ct,osl⟩) (a4:Nv K cdv qual=true) (S:FnScope N ps scope)
 (len : ∀vs H Q E,sp vs H Q E->vs.length=ps.length)
 (a5 : ∀(A:Around) (outer:List Env) (s:Shared) (H:Hp) (vs:List V) (Q:VK) (E:XK),Room k (A.deeper<|envOfC qual scope s.heap.objs.size f cdv)->sp vs H Q E->
   ∃t,PSs (rW CX P w K mg base N qual scope f cdv A outer s H E) body t/\t {nx:=λ_ H'=>Q .non H',rt:=Q} (Jt N vs) H) :
 FnOk P w K mg base CX (k+1) f (My name qual Y body scope dV kV doc pm an cdv ct) ps sp:=by
 refine⟨len,λA outer s H args us vs Q E O z hb r a1=>?_⟩;have hl:=len _ _ _ _ a1;have KX:K.In s.heap:=z.mod.kin.keeps λb o e=>(z.bs b o e).1;have lim:s.heap.NoLimit:=z.mod.nolimit.keeps λb o e=>(z.bs b o e).1;have a7 : ∀y∈ps.zip us,scope.names.lookup y.1=some .local\/(scope.names.lookup y.1=some .cell/\((cellsFrom (s.heap.objs.size+1) scope.names []).lookup y.1).isSome=true):=λ⟨n,v⟩ hy=>by
  rcases S.par n (List.of_mem_zip hy).1 with q | q
  ·exact .inl q
  ·exact .inr ⟨q,NJ _ _ _<|.inl q⟩
 refine codeAny_call_function O.depth (KX _ _ lk) rfl S.co S.gen rfl (PySem.W.codeRec_of KX a4)<|hb _ _ _ _ ?_;refine wpAny_newFunctionEnv_cells S.kind a7 λenv he s1 x=>?_;subst he;refine⟨lim.keeps x.toInCall.keep,codeAny_func ?_⟩;obtain⟨t,ht,hq⟩:=a5 A outer s H vs Q E (O.deeper _) a1;have I:Inv (rW CX P w K mg base N qual scope f cdv A outer s H E) [] (Jt N vs) H s1:=dF S O.hd z hl r x;refine Nr (ht [] s1 (Jt N vs) H _ I hq) (λfl s' hs=>?_) λe s' hs=>hs;have a3 : ∀{σ':St} {H':Hp} {v:V} {u:Value},Inv (rW CX P w K mg base N qual scope f cdv A outer s H E) [] σ' H' s'->RelV v u->Q v H'->CE outer P w H s Q u s':=
  λ{σ' H' v u} J U q=>⟨v,H',J.os,J.bare,J.base,J.hok,U,q⟩
 cases fl with
 | ret u=>
  obtain⟨v,σ',H',J,U,q⟩:=hs;exact a3 J U q
 | next=>
  obtain⟨σ',H',J,q⟩:=hs;exact a3 (v:=V.non) (u:=Nk) J rfl q
 | brk=>
  obtain⟨_,_,_,q⟩:=hs;exact MU q
 | cont=>
  obtain⟨_,_,_,q⟩:=hs;exact MU q
section
variable{X:Cx}{x:Str}{p pos:Pos}{e:Expr}{es:List Expr}{t:TA}{id T:String}{r:List V->Hp->VK->Prop}
def tCB(r:List V->Hp->VK->Prop)(t:TA):TE:=λσ H Q=>t σ H λvs H1=>r vs H1 Q
theorem yl(z:JE X (.builtin id) r)(O:Gl X x)(hm:X.mg x=none)(U:bootBuiltins x=some (.builtin id))(ha:PA X (e::es) t)(hn:x ≠ "__name__":=by decide)(Y:(x==("__debug__" : Str))=false:=by decide)
 (he:starEach (e::es) X.env=(false,eval e X.env)::starEach es X.env:=by rfl) (a0:(backTo pos<|starEach es X.env).any (·.1)=false:=by rfl):PE X (.Call (.Name x p) (e::es) [] pos) (tCB r t):=by
 intro pins s σ H Q I h;refine NU<|yC I O hm U ?_ hn Y;exact Pe (thn (ha pos pins s σ H _ I h) λus s1 ⟨vs,H1,I1,r1,q1⟩=>z pins s1 σ H1 vs us Q I1 r1 q1) he a0
theorem Kj(z:JE X (.type T) r)(O:Gl X x)(hm:X.mg x=none)(U:bootBuiltins x=some (.type T))(ha:PA X (e::es) t)(hn:x ≠ "__name__":=by decide)(Y:(x==("__debug__" : Str))=false:=by decide)
 (he:starEach (e::es) X.env=(false,eval e X.env)::starEach es X.env:=by rfl) (a0:(backTo pos<|starEach es X.env).any (·.1)=false:=by rfl):PE X (.Call (.Name x p) (e::es) [] pos) (tCB r t):=by
 intro pins s σ H Q I h;refine NU<|yC I O hm U ?_ hn Y;exact Ma (thn (ha pos pins s σ H _ I h) λus s1 ⟨vs,H1,I1,r1,q1⟩=>z pins s1 σ H1 vs us Q I1 r1 q1) he a0
end
end L2
namespace HT
open PySem PyProof.Rows
section
variable{prog:Program}{w:World}{A:Around}{E:RQ}{s:Shared}
theorem Fz(ht:IsTup s.heap t vs.toArray)(hb:IsTup s.heap b z.toArray)(U:vs ≠ [])
 (h1:z=[]->Q (.ref t) s) (h2:z ≠ []->Q (.ref s.heap.objs.size) {s with heap:=s.heap.push {cls:= .type "tuple",data:= .seq (vs++z).toArray}})
 (hsz:vs.length+z.length<=sizeLine):wpAny (model prog w) A (binaryOp .Add (.ref t)<|.ref b) Q E s:=by
 obtain⟨⟨cls,Y,data,sl⟩,I,hc,n,hd⟩:=id ht;obtain⟨⟨a7,a1,data2,a2⟩,O,a3,n2,a5⟩:=id hb;simp only at hc hd a3 a5;subst hc hd a3 a5;have e:vs.toArray++z.toArray=(vs++z).toArray:=by simp
 by_cases hw:z=[]
 ·exact Rn ⟨_,I,rfl⟩ ⟨_,O,rfl⟩ Rp seq_tuple_add OK OF (Ou _ _)
   (tuple_addW1 t b vs.toArray z.toArray n n2 Y a1 sl a2 (by simpa using U)<|by simp[hw]) ⟨I,O,h1 hw⟩
 ·refine Rn ⟨_,I,rfl⟩ ⟨_,O,rfl⟩ Rp seq_tuple_add OK OF (Ou _ _)
   (tuple_addW2 t b vs.toArray z.toArray n n2 Y a1 sl a2 (by simpa using U) (by simpa using hw)<|by rw[IF,IF];exact hsz) ⟨I,O,?_⟩
  rw[e];exact h2 hw
def sIx(n d:Nat):Option Int->Nat
 | none=>d
 | some v=>if v<0 then (v+(n:Int)).toNat else min v.toNat n
theorem uc(n d:Nat)(hd:d<=n)(o:Option Int):sIx n d o<=n:=by
 cases o with
 | none=>exact hd
 | some v=>
  show(if v<0 then (v+(n:Int)).toNat else min v.toNat n)<=n;by_cases z:v<0
  ·rw[RY z];omega
  ·rw[EQ z];exact Nat.min_le_right _ _
theorem fj(v:Int)(n d:Nat):(if v<0 then max (v+(n:Int)) 0 else min v (n:Int))=((sIx n d (some v):Nat):Int):=by
 show(if v<0 then max (v+(n:Int)) 0 else min v (n:Int))=(((if v<0 then (v+(n:Int)).toNat else min v.toNat n):Nat):Int);by_cases z:v<0
 ·simp only[RY z];omega
 ·simp only[EQ z];omega
theorem aP(lo hi:Option Int)(n:Nat):Oa lo hi 1 (n:Int)=(((sIx n 0 lo:Nat):Int),((sIx n n hi:Nat):Int)):=by
 have h1 : ¬((1:Int)<0):=by omega
 unfold Oa;simp only[h1,if_false];refine Prod.ext ?_ ?_
 ·cases lo with
  | none=>rfl
  | some v=>exact fj v n 0
 ·cases hi with
  | none=>rfl
  | some v=>exact fj v n n
theorem WX(i j:Nat):Nq (i:Int) (j:Int) 1=j - i:=by
 unfold Nq;have h1:(1:Int)>0:=by omega
 simp only[h1,if_true,Int.ediv_one];split<;>omega
theorem JK(p:IsPart v o)(h:Q o s):wpAny (model prog w) A (Builtin.Slice.slicePartIndex v) Q E s:=by
 cases p with
 | none=>exact slicePart_none h
 | int i t=>exact slicePart_int h
theorem wD{sl:Addr}{z I:Value}{lo hi:Option Int}{n:Nat}{Q:Int×Int×Nat->Shared->Prop}(hs:s.heap.IsSliceOf sl z I .none)(pl:IsPart z lo)(Y:IsPart I hi)
 (h:Q (((sIx n 0 lo:Nat):Int),1,sIx n n hi - sIx n 0 lo) s):wpAny (model prog w) A (Builtin.Slice.sliceApplied (.ref sl)<|pure (n:Int)) Q E s:=by
 obtain⟨os,O,a0,U⟩:=id hs;unfold Builtin.Slice.sliceApplied Builtin.Slice.sliceFields;refine Iq<|Iq<|LV O U (x:=z) rfl<|Iq<|LV O U (x:=I) rfl<|Iq<|LV O U (x:= .none) rfl<|IA ?_;refine Iq<|slicePart_none ?_;show wpAny _ _ (if ((1:Int)==0)=true then _ else _) _ _ s;rw[EQ ⋯];refine Iq<|JK pl<|Iq<|JK Y<|Iq<|IA ?_;show wpAny _ _ (match Oa lo hi 1 (n:Int)with | (lo,hi)=>pure (lo,(1:Int),Nq lo hi 1)) _ _ s;rw[aP lo hi n];show wpAny _ _ (pure (((sIx n 0 lo:Nat):Int),(1:Int),Nq ((sIx n 0 lo:Nat):Int) ((sIx n n hi:Nat):Int) 1)) _ _ s;rw[WX];exact IA h
theorem ic(xs:Array Value)(i k:Nat):((Io k).filterMap λ(m:Nat)=>xs[((i:Int)+(m:Int)*1).toNat]?).toArray=((xs.toList.drop i).take k).toArray:=by
 have e:(λ(m:Nat)=>xs[((i:Int)+(m:Int)*1).toNat]?)=λm=>xs[i+m]? :=by
  funext m;have:((i:Int)+(m:Int)*1).toNat=i+m:=by omega
  rw[this]
 rw[e];have:=pick_run xs i k;rw[List.filterMap_map]at this;have z:((λx=>xs[x]?)∘λx=>i+x)=λm=>xs[i+m]? :=rfl;rw[z]at this;rw[this]
theorem aB{t sl:Addr}{items:Array Value}{O U:Value}{lo hi:Option Int}{Q:RQ}(z:IsTup s.heap t items)(hs:s.heap.IsSliceOf sl O U .none)(pl:IsPart O lo)(Y:IsPart U hi)
 (hw : ¬(sIx items.size 0 lo=0/\sIx items.size items.size hi=items.size))
 (h:Q (.ref s.heap.objs.size) {s with heap:=s.heap.push {cls:= .type "tuple",data:= .seq ((items.toList.drop (sIx items.size 0 lo)).take (sIx items.size items.size hi - sIx items.size 0 lo)).toArray}})
 (hsz:items.size<=sizeLine):wpAny (model prog w) A (getItem (.ref t)<|.ref sl) Q E s:=by
 have I:sizeOk (.seq ((items.toList.drop<|sIx items.size 0 lo).take (sIx items.size items.size hi - sIx items.size 0 lo)).toArray):=by show((items.toList.drop<|sIx items.size 0 lo).take (sIx items.size items.size hi - sIx items.size 0 lo)).toArray.size<=sizeLine;rw[IF,Nl,Re,Nd];omega
 have hj:sIx items.size items.size hi<=items.size:=uc _ _ (IC _) hi;obtain⟨os,a0,a1,a5⟩:=id hs;have a2:s.TypeIs (.ref sl) "slice":=⟨os,a0,a1⟩;unfold getItem
 try with_reducible refine Os ?_
 first | refine Iq (IA ?_) | skip
 refine Iq (wpAny_sequenceKey z.typeIs ⋯ ?_);refine Iq (Ml (name:=LR "__getitem__") z.typeIs Md
  (ME Md z.typeIs entry_tuple_getitem ?_ (args_tuple_getitem _ _)))
 show wpAny _ _ (Builtin.Tuple.tupleItemsOf (.ref t) >>= _) _ _ s;refine Iq<|Pc z ?_;refine Iq<|Of a2 ?_;rw[RY ⋯];refine Iq<|wD hs pl Y ?_;have a3 : ¬((((sIx items.size 0 lo:Nat):Int)==0 && (1:Int)==1 && (sIx items.size items.size hi - sIx items.size 0 lo)==items.size)=true):=by intro q;rw[ID,ID]at q;have q1:((sIx items.size 0 lo:Nat):Int)=0:=eq_of_beq q.1.1;have q2:sIx items.size items.size hi - sIx items.size 0 lo=items.size:=eq_of_beq q.2;exact hw ⟨by omega,by omega⟩
 show wpAny _ _ (if (((sIx items.size 0 lo:Nat):Int)==0 && (1:Int)==1 && (sIx items.size items.size hi - sIx items.size 0 lo)==items.size)=true then _ else _) _ _ s;rw[EQ a3,ic]
 first
  | exact Iq (m:=MC _)<|Mj (IA ⟨_,rfl,IA h⟩) I
  | exact Iq (m:=MC _)<|Mj (Iq<|IA<|IA ⟨_,rfl,IA h⟩) I
  | exact Iq<|Iq (m:=MC _)<|Mj (IA<|IA ⟨_,rfl,IA h⟩) I
  | exact Iq<|Iq (m:=MC _)<|Mj (IA ⟨_,rfl,IA h⟩) I
end
end HT
namespace L2
open PySem PySem.Spec PyProof.Rows
abbrev TO:=St->Hp->(Option Int->Hp->Prop)->Prop
def PO(X:Cx)(e:Option Expr)(t:TO):Prop:=
 ∀(pins:RW) (s:Shared) (σ:St) (H:Hp) (Q:Option Int->Hp->Prop),Inv X pins σ H s->t σ H Q->
  wpAny (model X.prog X.w) X.A (evalPart e X.env) (λu s'=>∃o H',Inv X pins σ H' s'/\IsPart u o/\Q o H') X.xe s
def nY:TO:=λ_ H Q=>Q none H
def CM(t:TE):TO:=λσ H Q=>t σ H λx H1=>∃i,x = .int i/\Q (some i) H1
section
variable{X:Cx}{e:Expr}{te:TE}{lo hi:Option Expr}{tl th:TO}{pos p2:Pos}
theorem oX:PO X none nY:=by intro pins s σ H Q I h;rw[evalPart_none];exact IA ⟨none,H,I,.none,h⟩
theorem oW(h:PE X e te):PO X (some e) (CM te):=by intro pins s σ H Q I hw;rw[evalPart_some];refine thn (h pins s σ H _ I hw) λu s1 z=>?_;obtain⟨x,H1,O,U,Y⟩:=z;obtain⟨i,rfl,q⟩:=Y;obtain⟨t,rfl⟩:=U;exact⟨some i,H1,O,.int i t,q⟩
def SlR(X:Cx)(r:V->Option Int->Option Int->Hp->VK->Prop):Prop:=
 ∀(pins:RW) (s:Shared) (σ:St) (H:Hp) (x:V) (v z I:Value) (lo hi:Option Int) (sl:Addr) (Q:VK),Inv X pins σ H s->RelV x v->s.heap.IsSliceOf sl z I .none->IsPart z lo->IsPart I hi->r x lo hi H Q->
  ∃T id,typeLookup (.type T) "__getitem__" = pure (some (.builtin id))/\s.TypeIs v T/\wpAny (model X.prog X.w) X.A (getItem v (.ref sl)) (EP X pins σ Q) X.xe s
def tSl(r:V->Option Int->Option Int->Hp->VK->Prop)(te:TE)(tl th:TO):TE:=λσ H Q=>te σ H λx H1=>tl σ H1 λl H2=>th σ H2 λu z=>r x l u z Q
theorem VO(hr:SlR X r)(he:PE X e te)(hl:PO X lo tl)(hu:PO X hi th):PE X (.Subscript e (.Slice lo hi none p2) pos) (tSl r te tl th):=by intro pins s σ H Q I h;refine Subscript_ (thn (he pins s σ H _ I h) λv s1 hZ=>?_);obtain⟨x,H1,I1,r1,q1⟩:=hZ;refine wpAny_Slice (thn (hl pins s1 σ H1 _ I1 q1) λO s2 ⟨l,H2,I2,pl,q2⟩=>thn (hu pins s2 σ H2 _ I2 q2) λU z ⟨u,Y,I3,pu,q3⟩=>?_);rw[evalPart_none];refine IA ?_;have I4:Inv X pins σ Y {z with heap:=z.heap.push {cls:= .type "slice",data:= .fields #[O,U,.none]}}:=I3.kept (t':=z.toks) λb ob q=>Ir _ q;obtain⟨T,id,hT,ht,hg⟩:=hr pins {z with heap:=z.heap.push {cls:= .type "slice",data:= .fields #[O,U,.none]}} σ Y x v O U l u z.heap.objs.size Q I4 r1 (Heap.IsSliceOf.new ..) pl pu q3;show wpAny (model X.prog X.w) X.A (subscriptTail e (.Slice lo hi none p2) v (.ref z.heap.objs.size)) (EP X pins σ Q) X.xe {z with heap:=z.heap.push {cls:= .type "slice",data:= .fields #[O,U,.none]}};exact tail_any (ops:=[.ref z.heap.objs.size,v]) ht hT hg (by with_unfolding_all rfl)
def rX(xs:List V)(lo hi:Option Int):List V:=(xs.drop<|HT.sIx xs.length 0 lo).take (HT.sIx xs.length xs.length hi - HT.sIx xs.length 0 lo)
theorem YY(xs:List V)(lo hi:Option Int):(rX xs lo hi).length<=xs.length:=by unfold rX;rw[Nl,Re];omega
def HB(K:Ip):V->Option Int->Option Int->Hp->VK->Prop:=λx lo hi H Q=>∃a xs,x = .ref a/\SqT K H a xs/\
 ¬(HT.sIx xs.length 0 lo=0/\HT.sIx xs.length xs.length hi=xs.length)/\∀p,H p=none->Q (.ref p) (upd H p<|.tup<|rX xs lo hi)
theorem tK:SlR X (HB X.K):=by
 intro pins s σ H x v vl vu lo hi sl Q I rx hs pl U h;obtain⟨a,xs,rfl,hx,hw,q⟩:=h;cases rx;obtain⟨Y,r,O,hz⟩:=I.tuple hx;have z:Y.toArray.size=xs.length:=by rw[IF];exact r.length.symm
 refine⟨"tuple",_,Md.lookup,O.typeIs,?_⟩;refine HT.aB O hs pl U (by rw[z];exact hw) ?_ (by rw[z];exact hz);rw[z];refine⟨.ref s.heap.objs.size,_,I.laid (t':=s.toks) (o:= .tup (rX xs lo hi)) (λb ob q=>Ir _ q) (IC _) ?_,rfl,q _ (I.hok.fresh (IC _))⟩;exact⟨LG (YY xs lo hi) hz,_,(r.drop (HT.sIx xs.length 0 lo)).take (HT.sIx xs.length xs.length hi - HT.sIx xs.length 0 lo),IsTupD.new _ _⟩
theorem Vals.nil_iff(r:Vals xs us):us=[]↔xs=[]:=by
 cases r with
 | nil=>simp
 | cons _ _=>simp
end
def ixN(n:Nat)(i:Int):Option Nat:=if 0<=i then (if i<n then some i.toNat else none)else if -(n:Int)<=i then some (i+n).toNat else none
def atI{α:Type}(xs:List α)(i:Int):Option α:=(ixN xs.length i).bind λj=>xs[j]?
theorem rd(h:ixN n i=some j):seqIndex? i n=some j/\j<n/\ -(n:Int)<=i/\i<n:=by
 unfold ixN at h;by_cases h0:0<=i
 ·rw[RY h0]at h
  by_cases h1:i<n
  ·rw[RY h1]at h
   have e:i.toNat=j:=LH h;exact⟨by rw[seqIndex_of h0 h1,e],by omega,by omega,h1⟩
  ·rw[EQ h1]at h;cases h
 ·rw[EQ h0]at h
  by_cases h1 : -(n:Int)<=i
  ·rw[RY h1]at h
   have e:(i+n).toNat=j:=LH h;exact⟨by rw[seqIndex_neg ⋯ h1,e],by omega,h1,by omega⟩
  ·rw[EQ h1]at h;cases h
theorem Y1(h:atI xs i=some v) : ∃j,seqIndex? i xs.length=some j/\xs[j]? = some v/\j<xs.length/\ -(xs.length:Int)<=i/\i<xs.length:=by
 unfold atI at h;cases e:ixN xs.length i with
 | none=>rw[e]at h;cases h
 | some j=>
  rw[e]at h;obtain⟨h1,h2,z,I⟩:=rd e;exact⟨j,h1,h,h2,z,I⟩
def Y8(b:Expr):Prop:=∀o i,subscripted b false o i=operate [o,i] (getItem o i)
def IxR(X:Cx)(r:R2):Prop:=
 ∀(value z:Expr) (pins:RW) (s:Shared) (σ:St) (H:Hp) (x y:V) (v u:Value) (Q:VK),Inv X pins σ H s->RelV x v->RelV y u->r x y H Q->
  subscripted z false v u=operate [v,u] (getItem v u)->wpAny (model X.prog X.w) X.A (subscriptTail value z v u) (EP X pins σ Q) X.xe s
def MtR(X:Cx)(id:String)(r:V->List V->Hp->VK->Prop):Prop:=
 ∀(pins:RW) (s:Shared) (σ:St) (H:Hp) (x:V) (xs:List V) (v:Value) (us:List Value) (Q:VK),Inv X pins σ H s->RelV x v->Vals xs us->r x xs H Q->
  wpAny (model X.prog X.w) X.A (call (.builtin id) (v::us)) (EP X pins σ Q) X.xe s
section
variable{X:Cx}{a b:Expr}{ta tb:TE}{pos:Pos}
theorem IxR.or(h:IxR X r)(h':IxR X r'):IxR X (λx y H Q=>r x y H Q\/r' x y H Q):=by
 intro value z pins s σ H x y v u Q I rx O q hs;rcases q with q | q
 ·exact h value z pins s σ H x y v u Q I rx O q hs
 ·exact h' value z pins s σ H x y v u Q I rx O q hs
theorem uY(z:IxR X r)(ha:PE X a ta)(hb:PE X b tb)(hs:Y8 b):PE X (.Subscript a b pos) (tOp r ta tb):=by intro pins s σ H Q I h;exact Subscript_<|FA ha hb I h λv u s2 x y H2 O rx U q=>z a b pins s2 σ H2 x y v u Q O rx U q<|hs _ _
def HE(K:Ip):R2:=λx y H Q=>∃p xs i v,x = .ref p/\y = .int i/\SqL K H p xs/\atI xs i=some v/\Q v H
def HC(K:Ip):R2:=λx y H Q=>∃p xs i v,x = .ref p/\y = .int i/\SqT K H p xs/\atI xs i=some v/\Q v H
def HD:R2:=λx y H Q=>∃z i c,x = .str z/\y = .int i/\z.length<=sizeLine/\atI z.cps.toList i=some c/\Q (.str ⟨#[c]⟩) H
theorem ix_list:IxR X (HE X.K):=by
 intro value a7 pins s σ H x y v u Q I rx ry h hs;obtain⟨p,xs,i,z,rfl,rfl,hq,he,q⟩:=h;cases rx;obtain⟨t,rfl⟩:=ry;obtain⟨a2,r,pl,hz⟩:=I.list hq;obtain⟨j,h1,h2,h3,h4,h5⟩:=Y1 he;obtain⟨w,U,a5⟩:=r.get h2;have hl:=r.length;have hn:=JY;have Y:EP X pins σ Q w s:=⟨z,H,I,a5,q⟩;by_cases h0:0<=i
 ·have O:i.toNat=j:=by
   rw[seqIndex_of h0 h5]at h1;exact LH h1
  exact item_listR pl.isList h0 ⋯ (by rw[O];simpa using U) Y hs
 ·have O:(i+(a2.toArray.size:Int)).toNat=j:=by
   rw[seqIndex_neg ⋯ h4]at h1;rw[IF,<- hl];exact LH h1
  exact subscriptTail_builtinR (x:=w) pl.isList.typeIs slot_list_getitem.lookup
   (wpAny_getItem_list_neg (Q:=λr s'=>r=w/\EP X pins σ Q r s') pl.isList ⋯ (by rw[IF]<;>omega) ⋯ (by rw[O];simpa using U) ⟨rfl,Y⟩) hs
theorem AW:IxR X (HC X.K):=by
 intro value a3 pins s σ H x y v u Q I rx O h hs;obtain⟨p,xs,i,z,rfl,rfl,U,he,q⟩:=h;cases rx;obtain⟨t,rfl⟩:=O;obtain⟨a4,r,pl,hz⟩:=I.tuple U;obtain⟨j,h1,h2,h3,h4,h5⟩:=Y1 he;obtain⟨w,Y,a0⟩:=r.get h2;have hl:=r.length;have hn:=JY;have a2:EP X pins σ Q w s:=⟨z,H,I,a0,q⟩;exact subscriptTail_builtinR (x:=w) pl.typeIs slot_tuple_getitem.lookup
  (getItem_tuple (j:=j) (Q:=λr s'=>r=w/\EP X pins σ Q r s') pl ⋯ ⋯ (by rw[IF,<- hl];exact h1) (by simpa using Y) ⟨rfl,a2⟩) hs
theorem AX:IxR X HD:=by
 intro value a2 pins s σ H x y v u Q I rx O h hs;obtain⟨z,i,c,rfl,rfl,hz,he,q⟩:=h;obtain⟨t,rfl⟩:=rx;obtain⟨t',rfl⟩:=O;obtain⟨j,h1,h2,h3,U,Y⟩:=Y1 he;have hl:z.cps.toList.length=z.length:=by simp[Str.length]
 rw[hl]at h1 U Y;have hn:=JY;exact tail_any (typeIs_str s z t) slot_str_getitem.lookup (getItem_str (c:=c) (by
  have e1:decide (i < -(2 ^ 63:Int))=false:=decide_eq_false ⋯;have e2:decide (i>=2 ^ 63)=false:=decide_eq_false ⋯;rw[e1,e2,Bool.or_false]) (by rw[h1];simpa using h2) ⟨.str ⟨#[c]⟩,H,I.tok _,⟨_,rfl⟩,q⟩) hs
def XA:V->Bool
 | .non=>true
 | .bl _=>true
 | .int _=>true
 | .str _=>true
 | _=>false
def eqV:V->V->Bool
 | .non,.non=>true
 | .bl a,.bl b=>a==b
 | .bl a,.int b=>(if a then 1 else 0)==b
 | .int a,.bl b=>a==(if b then 1 else 0)
 | .int a,.int b=>a==b
 | .str a,.str b=>a==b
 | _,_=>false
theorem Bf(z:RelV y u)(rx:RelV x v)(I:XA y=true)(fx:XA x=true):Mp A s u v (eqV y x):=by
 cases y with
 | non=>
  cases z;cases x with
  | non=>cases rx;exact Mp.same _
  | bl b=>cases rx;exact Mp.none_bool b
  | int b=>obtain⟨t,rfl⟩:=rx;exact Mp.none_int b t
  | str b=>obtain⟨t,rfl⟩:=rx;exact Mp.none_str b t
  | _=>exact absurd (show false=true from fx) IE
 | bl a=>
  cases z;cases x with
  | non=>cases rx;exact Mp.bool_none a
  | bl b=>cases rx;exact Mp.bool_bool a b
  | int b=>obtain⟨t,rfl⟩:=rx;exact Mp.bool_int a b t
  | str b=>obtain⟨t,rfl⟩:=rx;exact Mp.bool_str a b t
  | _=>exact absurd (show false=true from fx) IE
 | int a=>
  obtain⟨t',rfl⟩:=z;cases x with
  | non=>cases rx;exact Mp.int_none a t'
  | bl b=>cases rx;exact Mp.int_bool a t' b
  | int b=>obtain⟨t,rfl⟩:=rx;exact Mp.int_int a t' b t
  | str b=>obtain⟨t,rfl⟩:=rx;exact Mp.int_str a t' b t
  | _=>exact absurd (show false=true from fx) IE
 | str a=>
  obtain⟨t',rfl⟩:=z;cases x with
  | non=>cases rx;exact Mp.str_none a t'
  | bl b=>cases rx;exact Mp.str_bool a t' b
  | int b=>obtain⟨t,rfl⟩:=rx;exact Mp.str_int a t' b t
  | str b=>obtain⟨t,rfl⟩:=rx;exact Mp.str_str a t' b t
  | _=>exact absurd (show false=true from fx) IE
 | _=>exact absurd (show false=true from I) IE
def eqU(x:V)(u:Value):Bool:=match u with
 | .none=>eqV .non x
 | .bool b=>eqV (.bl b) x
 | .int i _=>eqV (.int i) x
 | .str z _=>eqV (.str z) x
 | _=>false
theorem nv(r:RelV y u)(f:XA y=true):eqU x u=eqV y x:=by
 cases y with
 | non=>cases r;rfl
 | bl b=>cases r;rfl
 | int i=>obtain⟨t,rfl⟩:=r;rfl
 | str z=>obtain⟨t,rfl⟩:=r;rfl
 | _=>exact absurd (show false=true from f) IE
theorem Y5 : ∀{xs:List V} {us:List Value},Vals xs us->xs.all XA=true->us.any (eqU x)=xs.any λy=>eqV y x
 | _,_,.nil,_=>rfl
 | y::xs,u::us,.cons r t,f=>by rw[List.all_cons,ID]at f;rw[OO,OO,nv r f.1,Y5 t f.2]
theorem Xl(rx:RelV x v)(fx:XA x=true) : ∀{xs:List V} {us:List Value},Vals xs us->xs.all XA=true->∀u∈us,Mp A s u v (eqU x u)
 | _,_,.nil,_=>λu z=>by cases z
 | y::xs,u::us,.cons r t,f=>λu' z=>by
  rw[List.all_cons,ID]at f;rcases IG.mp z with rfl | z
  ·rw[nv r f.1];exact Bf r rx f.1 fx
  ·exact Xl rx fx t f.2 u' z
def inV(x:V)(xs:List V):Bool:=xs.any λy=>eqV y x
def rIn(K:Ip)(z:Bool):R2:=λx y H Q=>∃p xs,y = .ref p/\(SqL K H p xs\/SqT K H p xs)/\XA x=true/\xs.all XA=true/\Q (.bl<|if z then !inV x xs else inV x xs) H
theorem Kl:OpR X (compareOp .NotIn) (rIn X.K true):=by
 intro pins s σ H x y v u Q I rx U h;obtain⟨p,xs,rfl,z,fx,fs,q⟩:=h;cases U;rcases z with z | z
 ·obtain⟨O,r,pl,hz⟩:=I.list z
  refine SeqAt.notIn_listAt (eqU x) pl.isList (λw hw=>Xl rx fx r fs w<|by simpa using hw) ⟨.bl _,H,I,rfl,?_⟩;rw[show O.toArray.any (eqU x)=O.any (eqU x)by simp,Y5 r fs];exact q
 ·obtain⟨O,r,pl,hz⟩:=I.tuple z
  refine SeqAt.notIn_tupleAt (eqU x) pl (λw hw=>Xl rx fx r fs w<|by simpa using hw) ⟨.bl _,H,I,rfl,?_⟩;rw[show O.toArray.any (eqU x)=O.any (eqU x)by simp,Y5 r fs];exact q
theorem KY:JE X (.builtin "len") (λxs H Q=>∃p ys,xs=[.ref p]/\(SqL X.K H p ys\/SqT X.K H p ys)/\Q (.int ys.length) H):=by
 intro pins s σ H xs us Q I r h;obtain⟨p,ys,rfl,z,q⟩:=h;obtain⟨u,rfl,rx⟩:=wC r;cases rx;have hn:=JY;rcases z with z | z
 ·obtain⟨U,r',pl,hz⟩:=I.list z
  have O:=r'.length;exact Calls.call_len_list pl.isList (by simp only[IF]<;>omega) ⟨.int ys.length,H,I.tok _,⟨s.toks+1,by rw[IF,O]⟩,q⟩
 ·obtain⟨U,r',pl,hz⟩:=I.tuple z
  have O:=r'.length;exact len_tuple pl (by simp only[IF]<;>omega) ⟨.int ys.length,H,I.tok _,⟨s.toks+1,by rw[IF,O]⟩,q⟩
theorem KW:JE X (.builtin "len") (λxs H Q=>∃z,xs=[.str z]/\z.length<=sizeLine/\Q (.int z.length) H):=by intro pins s σ H xs us Q I r h;obtain⟨z,rfl,hz,q⟩:=h;obtain⟨u,rfl,t,rfl⟩:=wC r;have hn:=JY;exact len_str ⋯ ⟨.int z.length,H,I.tok _,⟨_,rfl⟩,q⟩
theorem XM:JE X (.type "tuple") (λxs H Q=>∃p ys,xs=[.ref p]/\((SqL X.K H p ys/\∀l,H l=none->Q (.ref l) (upd H l (.tup ys)))\/(SqT X.K H p ys/\Q (.ref p) H))):=by
 intro pins s σ H xs us Q I r h;obtain⟨p,ys,rfl,h⟩:=h;obtain⟨u,rfl,rx⟩:=wC r;cases rx;rcases h with⟨z,q⟩ | ⟨z,q⟩
 ·obtain⟨O,r',pl,hz⟩:=I.list z
  have a0:=r'.length;refine call_tuple_list pl.isList (λh' kp=>?_) (by simp only[IF]<;>omega);have U:Inv X pins σ H {s with heap:=h'}:=I.kept (t':=s.toks) kp;have Y:Inv X pins σ (upd H h'.objs.size (.tup ys)) {s with heap:=h'.push {cls:= .type "tuple",data:= .seq O.toArray}}:=
   U.laid (t':=s.toks) (λb o e=>Ir _ e) (IC _) (show ObjOk X.prog X.w _ _ _ (.tup ys)from⟨hz,O,r',IsTupD.new _ _⟩)
  exact⟨.ref h'.objs.size,_,Y,rfl,q _<|U.hok.fresh<|IC _⟩
 ·obtain⟨O,r',pl,hz⟩:=I.tuple z
  exact call_tuple_same pl ⟨.ref p,H,I,rfl,q⟩
def tyV(K:Ip)(T:String)(x:V)(H:Hp):Prop:=match x with
 | .str _=>T = "str"
 | .int _=>T = "int"
 | .ref p=>(T = "list"/\∃xs,SqL K H p xs)\/(T = "tuple"/\∃o,K.lookup p=some o/\o.cls = .type "tuple"/\o.dict=none)\/
  (T = "dict"/\((∃kvs,H p=some (.dK kvs))\/∃kvs,H p=some (.dT kvs)))\/(T = "set"/\∃S n,H p=some (.set S n))
 | _=>False
theorem tf(I:Inv X pins σ H s)(r:RelV x v)(ty:tyV X.K T x H) :
 s.TypeIs v T/\∀a,v = .ref a->∃ob,s.heap.get? a=some ob/\ob.dict=none:=by
 cases x with
 | str z=>
  obtain⟨t,rfl⟩:=r;cases (show T = "str" from ty);exact⟨typeIs_str s z t,λ_ e=>nomatch e⟩
 | int i=>
  obtain⟨t,rfl⟩:=r;cases (show T = "int" from ty);exact⟨typeIs_int s i t,λ_ e=>nomatch e⟩
 | ref p=>
  cases r;rcases ty with⟨rfl,xs,U⟩ | ⟨rfl,o,hk,Y,hd⟩ | ⟨rfl,hk⟩ | ⟨rfl,S,n,hk⟩
  ·obtain⟨a0,_,pl,_⟩:=I.list U
   refine⟨pl.isList.typeIs,λa e=>?_⟩;cases e;obtain⟨o,n,e,c,hd,_⟩:=pl;exact⟨o,e,hd⟩
  ·refine⟨⟨o,I.kIn p o hk,Y⟩,λa e=>?_⟩
   cases e;exact⟨o,I.kIn _ o hk,hd⟩
  ·have z : ∃o,s.heap.get? p=some o/\o.ExactDict:=by
    rcases hk with⟨kvs,hk⟩ | ⟨kvs,hk⟩
    ·obtain⟨_,_,_,_,o,_,_,e,ex,_⟩:=I.hok p _ hk
     exact⟨o,e,ex⟩
    ·obtain⟨_,_,_,_,o,_,_,e,ex,_⟩:=I.hok p _ hk
     exact⟨o,e,ex⟩
   obtain⟨o,e,ex⟩:=z;refine⟨⟨o,e,ex.1⟩,λa O=>?_⟩;cases O;exact⟨o,e,ex.2.1⟩
  ·obtain⟨o,_,_,_,e,ex,_⟩:=I.hok p _ hk
   refine⟨⟨o,e,ex.1⟩,λa O=>?_⟩;cases O;exact⟨o,e,ex.2.1⟩
 | _=>exact MU ty
def tBM(K:Ip)(T:String)(r:V->List V->Hp->VK->Prop)(to:TE)(t:TA):TE:=λσ H Q=>to σ H λx H1=>tyV K T x H1/\t σ H1 λxs H2=>r x xs H2 Q
variable{o e:Expr}{es:List Expr}{to:TE}{t:TA}{name:Str}{apos cpos:Pos}{T id:String}{r:V->List V->Hp->VK->Prop}
theorem ir(Y:PlainAttrs T)(slot:Slot T name id)(a0:typeOf (.builtin id)=pure (.type "method_descriptor"))(hm:MtR X id r)(ho:PE X o to)(ha:PA X (e::es) t)
 (a2:attributeBase o name X.env (eval o X.env)=eval o X.env:=by rfl)
 (a3:((backTo cpos<|starEach (e::es) X.env).all (λx=> !x.1) && (backToKw cpos<|keywordEach [] X.env).all (λx=>x.1.isSome)
   && decide ((e::es).length+([]:List Keyword).length+(if ([]:List Keyword).isEmpty then 0 else 1)<30))=true:=by rfl)
 (a4:(apos.endLine==cpos.line)=true:=by rfl) (hs:starEach (e::es) X.env=(false,eval e X.env)::starEach es X.env:=by rfl) (a5:(backTo cpos<|starEach es X.env).any (·.1)=false:=by rfl) :
 PE X (.Call (.Attribute o name apos) (e::es) [] cpos) (tBM X.K T r to t):=by
 intro pins s σ H Q I h;refine wpAny_Call_method_late a2 a3 a4 rfl<|thn (ho pins s σ H _ I h) λv s1 hZ=>?_;obtain⟨x,H1,z,O,ty,q1⟩:=hZ;obtain⟨h1,h2⟩:=tf z O ty;refine⟨T,id,Y,slot,a0,h1,h2,?_⟩;have U:=ha cpos pins s1 σ H1 _ z q1;rw[hs]at U ⊢;refine Calls.callWith_builtin (by show(false || (backTo cpos<|starEach es X.env).any (·.1))=false;rw[a5]<;>rfl)<|Calls.evalArgs_plain ?_;exact thn U λus s2 ⟨vs,H2,I2,r2,q2⟩=>hm pins s2 σ H2 x vs v us Q I2 O r2 q2
end
def MtM(X:Cx)(id:String)(r:V->List V->Hp->VK->Prop):Prop:=
 ∀(pins:RW) (s:Shared) (σ:St) (H:Hp) (x:V) (xs:List V) (v:Value) (us:List Value) (Q:VK),Inv X pins σ H s->RelV x v->Vals xs us->r x xs H Q->
  wpAny (model X.prog X.w) X.A (call (.builtin id) (v::us)) (EP X pins σ Q) X.xe s
theorem Vals.one : ∀{x:V} {us:List Value},Vals [x] us->∃u,us=[u]/\RelV x u
 | _,_,.cons r .nil=>⟨_,rfl,r⟩
theorem Vals.dropLast(h:Vals xs us):Vals xs.dropLast us.dropLast:=by
 induction h with
 | nil=>exact .nil
 | cons r t z=>
  cases t with
  | nil=>exact .nil
  | cons q t'=>exact .cons r z
theorem Vals.rep(h:Vals xs us) : ∀k:Nat,Vals (Iw k xs).flatten (Iw k us).flatten
 | 0=> .nil
 | k+1=>by rw[MG,MG,MX,MX];exact Vals.append h<|Vals.rep h k
theorem KN(z:List Value) : ∀(k:Nat) (acc:List Value),
 List.foldl (λx1 I=>x1++I) acc.toArray (Iw k z.toArray)=(acc++(Iw k z).flatten).toArray
 | 0,acc=>by simp
 | k+1,acc=>by
  have e:acc.toArray++z.toArray=(acc++z).toArray:=by simp
  have O:(acc++z)++(Iw k z).flatten=acc++(Iw (k+1) z).flatten:=by rw[MG,MX,PU]
  rw[<- O,<- KN z k (acc++z),<- e,MG,List.foldl_cons]
section
variable{X:Cx}{pins:RW}{σ:St}{H:Hp}{s:Shared}{l b:Addr}{xs ys zs:List V}
theorem Inv.lset{z its':List Value}{n:Nat}{f:Array Value->Array Value}{t':Nat}(I:Inv X pins σ H s)(O:H l=some (.lst xs))
 (e:s.heap.get? l=some {cls:= .type "list",data:= .seq z.toArray n}) (U:f z.toArray=its'.toArray) (Y:Vals ys its') (hz:ys.length<=sizeLine) :
 Inv X pins σ (upd H l<|.lst ys) {s with heap:=s.heap.update l<|Obj.mapSeq f,toks:=t'}:=by
 have q:=PySem.IsL.update e f;rw[U]at q;refine I.write (x:=l) (e:=l) (by rw[O];exact trivial) (.inl rfl) (λb' u hb hu=>(Heap.get?_update_other s.heap (Obj.mapSeq f)<|Ly hb).trans hu) ⟨_,q⟩ ?_;exact⟨hz,its',_,Y,q⟩
theorem Inv.lnew(I:Inv X pins σ H s)(O:Vals ys z)(hz:ys.length<=sizeLine) :
 Inv X pins σ (upd H s.heap.objs.size (.lst ys)) {s with heap:=s.heap.push {cls:= .type "list",data:= .seq z.toArray},toks:=t'}:=
 I.laid (λ_ _ q=>Ir _ q) (IC _) ⟨hz,z,0,O,IR _ rfl⟩
theorem Inv.fresh(I:Inv X pins σ H s):H s.heap.objs.size=none:=I.hok.fresh<|IC _
theorem Inv.lstM(I:Inv X pins σ H s)(U:H l=some (.lst xs)):xs.length<=sizeLine/\∃(O:List Value) (n:Nat),Vals xs O/\xs.length=O.length/\s.heap.get? l=some {cls:= .type "list",data:= .seq O.toArray n}:=by obtain⟨z,O,n,r,e⟩:=I.hok l _ U;exact⟨z,O,n,r,r.length,e⟩
theorem VQ(h:n<=sizeLine):MP n=false:=by unfold MP;exact decide_eq_false ⋯
end
section
variable{X:Cx}
def bS:V->List V->Hp->VK->Prop:=λx vs H Q=>∃l xs y,x = .ref l/\vs=[y]/\H l=some (.lst xs)/\xs.length<sizeLine/\Q .non (upd H l<|.lst<|xs++[y])
theorem cW:MtM X "list.append" bS:=by intro pins s σ H x vs v us Q I rx Y h;obtain⟨l,xs,y,rfl,rfl,O,hz,q⟩:=h;cases rx;obtain⟨u,rfl,ru⟩:=Y.one;obtain⟨z,U,n,r,hl,e⟩:=I.lstM O;refine Ob F.slot_list_append ⟨_,e,rfl⟩ F.entry_list_append (F.args_list_append_2 _ _) (PySem.list_append l U.toArray n u (by rw[IF];omega)) ⟨e,?_⟩;refine⟨.non,_,I.lset (its':=U++[u]) O e ⋯ (r.append (.cons ru .nil)) ?_,rfl,q⟩;rw[LD,NZ];omega
def oG:V->List V->Hp->VK->Prop:=λx vs H Q=>∃l b xs zs,x = .ref l/\vs=[.ref b]/\H l=some (.lst xs)/\H b=some (.lst zs)/\xs.length+zs.length<=sizeLine/\Q .non (upd H l<|.lst<|xs++zs)
theorem cV:MtM X "list.extend" oG:=by
 intro pins s σ H x vs v us Q I rx rv h;obtain⟨l,b,xs,zs,rfl,rfl,Y,hB,hz,q⟩:=h;cases rx;obtain⟨u,rfl,ru⟩:=rv.one;cases ru;obtain⟨z,O,n,r,hl,e⟩:=I.lstM Y;obtain⟨z2,U,n2,r2,a7,e2⟩:=I.lstM hB;have hsz:O.toArray.size+U.toArray.size<=sizeLine:=by rw[IF,IF];omega
 have a5 : ¬(!O.toArray.isEmpty && MP (O.toArray.size+U.toArray.size))=true:=by rw[VQ hsz,Bool.and_false];exact IE
 refine Ob F.slot_list_extend ⟨_,e,rfl⟩ F.entry_list_extend (F.args_list_extend_2 _ _)
  (AutoSeq1.list_extend_list_list_0 l O.toArray n b U.toArray n2 a5 (by rw[IF];omega) ⋯) ⟨e,e2,?_⟩
 refine⟨.non,_,I.lset (its':=O++U) Y e ⋯ (r.append r2) ?_,rfl,q⟩;rw[LD];omega
theorem dj(xs:List α)(k:Nat):(Iw k xs).flatten.length=k*xs.length:=by
 induction k with
 | zero=>simp
 | succ k z=>rw[MG,MX,LD,z,Nat.succ_mul,Nat.add_comm]
end
end L2
namespace Att
open PySem PySem.W PySem.Calls PyProof.Rows
theorem ZP : ∀(ns:List Int) (vs:List Value),WellAll P h vs (ns.map WData.int)->IntsAre vs ns:=by
 intro ns
 induction ns with
 | nil=>
  intro vs w;rw[Pa]at w;cases w;exact .nil
 | cons n ns z=>
  intro vs w;rw[IS]at w;cases w with
  | cons a b=>
   cases a;exact .cons _ _<|z _ b
theorem bH{l:OpenLaw}{n:Nat}(hn:l.most=some n){P:Params}{h:Heap}{args:List WData}{O:List Value}
 (U:l.row.toRowW.claim.pre args=true) (a0:WellAll P h O args) :
 ∃a vs ns,O=[Lq a]/\args=[WData.list (ns.map WData.int)]/\h.get? a=some {cls:= .type "list",data:= .seq vs.toArray}/\IntsAre vs ns/\ns.length<=n:=by
 have a1:WShape.hasAll [] args [.list .int]=true:=(pre_splitW U).1;have Y:l.pre.holds [] {args:=args}=true:=(pre_splitW U).2;obtain⟨d,r,rfl,h1,h2⟩:=hasAllW_cons a1;obtain rfl:=hasAllW_nil h2;obtain⟨xs,rfl,h3⟩:=hasW_list h1;obtain⟨ns,rfl⟩:=items_int h3;have a3:ns.length<=n:=by
  unfold OpenLaw.pre at Y;have z:(WTm.not<|.lt (.lit<|.int (n:Int))<|.len<|.arg 0).holds [] {args:=[.list (ns.map .int)]}=true:=by have z:=(holds_andW Y).1;rw[hn]at z;exact z
  have I:=condW_of z<|w_not<|w_lt w_lit<|w_len_list<|w_arg rfl;rw[IQ]at I;refine Nat.le_of_not_lt λq=>?_;have q':(n:Int)<((ns.length:Nat):Int):=by omega
  first
   | (rw[decide_eq_true q']at I;exact absurd I ⋯)
   | (simp at I;omega)
 cases a0 with
 | cons w1 w2=>
  cases w2;cases w1 with
  | list ho a6=>exact⟨_,_,ns,rfl,rfl,ho,ZP ns _ a6,a3⟩
theorem cp(l:OpenLaw)(args:List WData):l.row.toRowW.claim.post args (.bool true) args=true:=
 postW_of (r:=l.row.toRowW) (X:=(true==true))
  (show WShape.has [] (.bool true) .bool=true by first | rfl | decide | simp[WShape.has,WShape.arms,WShape.armsAll])
  (show(WTm.eq .res<|.lit<|.bool true).value [] {args:=args,res:=some (.bool true),after:=args}=some (.bool<|true==true)from w_eq_bool (w_res rfl) w_lit) rfl
theorem sr{l:OpenLaw}{n:Nat}{q:Program}{O:List Str}{U:(Str->Option Value)->Heap->Prop}{YP:World->Heap->Prop}{d:DefRec}
 (hn:l.most=some n) (a2:d.params.defaults=[])
 (call : ∀(w:World) (s₀ z:Shared) (mg mb:RJ) (fa:Addr) (o:Obj) (pm I doc:Value) (a:Addr) (vs:List Value) (ns:List Int),
   Ground q O [] U w s₀ mg mb z.heap->YP w z.heap->
   z.heap.get? fa=some o->o.data = .func (docDef d.name d.params d.body d.scope pm I doc)->z.heap.CodeRec I d.name->mg d.name=some (.ref fa)->
   z.heap.get? a=some {cls:= .type "list",data:= .seq vs.toArray}->IntsAre vs ns->ns.length<=n->z.gens = #[]->
   codeAny (model l.prog w) callerA (.call (.ref fa) ⟨[.ref a],[]⟩) (λr s'=>r = .ok (.ret<|.bool true)/\OldK z.heap s'.heap/\s'.os=z.os/\AllBare s'.gens) z) :
 WalkO q O U YP l.row.toRowW d [] (λf vs=>PySem.call f vs):=by
 intro w s₀ z mg mb G Y fa o pm I doc dV kV ho hd a5 hD a6 hg args ap as a8 ax b0 a9 b9;obtain rfl:dV = .none:=Dflts.none hD a2;obtain rfl:kV = .none:=Dflts.noKw hD;obtain⟨a,vs,ns,rfl,rfl,aa,ac,ae⟩:=bH hn a8 a9;refine enter_call<|Py (call w s₀ z mg mb fa o pm I doc a vs ns G Y ho (fd_plain hd) a5 a6 aa ac ae hg) λr s' hq=>?_;obtain⟨rfl,h2,h3,h4⟩:=hq;exact⟨.inl ⟨.bool true,.bool true,[],rfl,λ_=>rfl,.bool true,cp l _,λ_=>⟨NN.nil,λ_ hm=>(nomatch hm)⟩⟩,h2,h3,h4⟩
end Att
namespace L2
open PySem PySem.Spec PyProof.Rows
theorem yV : ∀{vs:List Value} {ns:List Int},IntsAre vs ns->Vals (ns.map V.int) vs
 | _,_,.nil=> .nil
 | _,_,.cons n t h=> .cons ⟨t,rfl⟩ (yV h)
def Cz(H:Hp):Prop:=∀b,H b=none\/∃o xs,H b=some (.frz o<|.lst xs)
theorem iP{P:Program}{w:World}{K:Ip}{mg mb:RJ}{CX:CXT}{k:Nat}{fa a:Addr}{fd:FuncData}{x:Str}{sp:Sp}{I:Shared}{vs:List Value}{ns:List Int}
 (KX:K.In I.heap) (a2:I.heap.Ns mainGlobals mg) (hb:I.heap.Ns builtinsNs mb) (a9 : ∀x:Str,x ≠ "__name__"->mb x=bootBuiltins x) (aa:I.heap.NoLimit) (hg:I.gens = #[])
 (ha:I.heap.get? a=some {cls:= .type "list",data:= .seq vs.toArray}) (hi:IntsAre vs ns) (hl:ns.length<=sizeLine) (hr:Room k callerA)
 (F : ∀base:Heap,K.In base->base.Ns mainGlobals mg->FnOk P w K mg base CX k fa fd [x] sp) (ag : ∀(s:Shared) (u:Value),BindsTo s fd ⟨[u],[]⟩ [(x,u)])
 (am : ∀H:Hp,Cz H->SqL K H a (ns.map V.int)->sp [.ref a] H (λv _=>v = .bl true) λ_ _ _=>False)
 (an : ∀H e s',CX [] H I (λ_ _ _=>False) e s'->False) :
 codeAny (model P w) callerA (.call (.ref fa) ⟨[.ref a],[]⟩) (λr s'=>r = .ok (.ret<|.bool true)/\OldK I.heap s'.heap/\s'.os=I.os/\AllBare s'.gens) I:=by
 have rv:=yV hi;have ap:=hi.length;have a5 : ∀H:Hp,Cz H->SqL K H a (ns.map V.int)->HOk P w H I.heap->(∀b,H b≠none->b=a)->(H a≠none->K.lookup a=none)->
  codeAny (model P w) callerA (.call (.ref fa) ⟨[.ref a],[]⟩) (λr s'=>r = .ok (.ret<|.bool true)/\OldK I.heap s'.heap/\s'.os=I.os/\AllBare s'.gens) I:=by
  intro H hO hS hok hA hK;have base_of : ∀{b:Addr} {o:Obj},I.heap.get? b=some o->H b=none->(lg I.heap H).get? b=some o:=λe n=>iZ e n;have ax : ∀{b:Addr} {o:Obj} {es:Array DictEntry} {O:Nat},I.heap.get? b=some o->o.data = .dict es O->H b=none:=λ{b o es O} e d=>by
   cases q:H b with
   | none=>rfl
   | some u=>
    have e':b=a:=hA b (by rw[q];simp);subst e';rw[ha]at e;cases e;have d':Data.seq vs.toArray _=Data.dict es O:=d;cases d'
  have Y : ∀{b:Addr} {m:RJ},I.heap.Ns b m->(lg I.heap H).Ns b m:=λ{b m} ⟨o,es,O,e,d,r⟩=>⟨o,es,O,base_of e<|ax e d,d,r⟩;have a8:K.In (lg I.heap H):=λb o e=>base_of (KX b o e) (by
   cases q:H b with
   | none=>rfl
   | some u=>
    have e':b=a:=hA b (by rw[q];simp);subst e';rw[hK (by rw[q];simp)]at e;cases e)
  have hM:Mod K mg (lg I.heap H):=⟨a8,Y a2,⟨mb,Y hb,a9⟩,let ⟨mc,h1,h2⟩:=aa;⟨mc,Y h1,h2⟩⟩;have e0:Env0 P w K mg (lg I.heap H) callerA [] I H:=⟨rfl,hM,λb o e=>pF e,Nat.le_of_eq<|dN _ _,trivial,λb hb=>absurd (show b∈([]:List Addr)from hb) ⋯,hok,.of_eq hg⟩;refine Py ((F _ a8<|Y a2).run callerA [] I H ⟨[.ref a],[]⟩ [.ref a] [.ref a] _ _ hr e0 (ag I<|.ref a) (.cons rfl .nil) (am H hO hS)) λr s' h=>?_;cases r with
  | error e=>exact(an H e s' h).elim
  | ok fl=>
   cases fl with
   | next=>exact MU h
   | brk=>exact MU h
   | cont=>exact MU h
   | ret u=>
    obtain⟨v,H',os,bare,un,be,r',q⟩:=h;have q':v = .bl true:=q;subst q';obtain rfl:u=PM true:=r';refine⟨rfl,OldK.of_keep λb o e=>?_,os,bare⟩;cases q:H b with
    | none=>exact un.keep b o e q (by intro z;exact absurd (show b∈([]:List Addr)from z) ⋯) ⋯
    | some u=>
     rcases hO b with z | ⟨ob,xs,z⟩
     ·rw[q]at z;cases z
     ·have z2:=un.frzs b ob _ z
      obtain⟨e1,_⟩:=hok b _ z;obtain⟨e2,_⟩:=be b _ z2;rw[e]at e1;cases e1;exact e2
 cases hk:K.lookup a with
 | some o=>
  have e:=KX a o hk;rw[ha]at e;cases e;refine a5 (λ_=>none) (λ_=> .inl rfl) (.inr ⟨_,vs.toArray,_,hk,rfl,rfl,rfl,by rw[IF,ap];exact hl,by simpa using rv⟩) (λb u z=>by have U:(none:Option HO)=some u:=z;cases U) (λb z=>absurd rfl z) λz=>absurd rfl z
 | none=>
  refine a5 (λb=>if b=a then some (.frz {cls:= .type "list",data:= .seq vs.toArray} (.lst (ns.map V.int)))else none) (λb=>?_) (.inl (.inr ⟨{cls:= .type "list",data:= .seq vs.toArray},RY rfl⟩)) (λb u z=>?_) (λb z=>?_) λ_=>hk
  ·by_cases hb:b=a
   ·exact .inr ⟨_,_,RY hb⟩
   ·exact .inl<|EQ hb
  ·by_cases hb:b=a
   ·have U:=(RY hb).symm.trans z
    cases U;subst hb;exact⟨ha,by rw[IQ];exact hl,vs,_,rv,ha⟩
   ·have U:=(EQ hb).symm.trans z
    cases U
  ·by_cases hb:b=a
   ·exact hb
   ·exact absurd (EQ hb) z
abbrev KOf{K:Ip}{h:Heap}(_:K.In h):Ip:=K
theorem nH{l:PySem.W.OpenLaw}{n k:Nat}{q:Program}{U:List Str}{XP:(Str->Option Value)->Heap->Prop}{z:World->Heap->Prop}{d:DefRec}{K:Params->Ip}{CX:World->CXT}{sp:World->Sp}{x:Str}
 (hn:l.most=some n) (a1:n<=sizeLine) (a2:d.params.defaults=[]) (hr:Room k callerA)
 (hY : ∀(w:World) (h:Heap),z w h->(K w.params).In h)
 (F : ∀(w:World) (mg:RJ) (fa:Addr) (h:Heap),(K w.params).In h->h.Ns mainGlobals mg->mg d.name=some (.ref fa)->
   ∃fd:FuncData,(∀(s:Shared) (u:Value),BindsTo s fd ⟨[u],[]⟩ [(x,u)])/\
    ∀base:Heap,(K w.params).In base->base.Ns mainGlobals mg->FnOk l.prog w (K w.params) mg base (CX w) k fa fd [x] (sp w))
 (a5 : ∀(w:World) (H:Hp) (a:Addr) (ns:List Int),ns.length<=n->Cz H->SqL (K w.params) H a (ns.map V.int)->sp w [.ref a] H (λv _=>v = .bl true) λ_ _ _=>False)
 (a6 : ∀(w:World) (H:Hp) (s:Shared) (e:Value) (s':Shared),CX w [] H s (λ_ _ _=>False) e s'->False) :
 PySem.W.WalkO q U XP z l.row.toRowW d [] (λf vs=>PySem.call f vs):=by
 refine Att.sr hn a2 λw s₀ s₁ mg mb fa o pm cd doc a vs ns G Y ho hd ar a8 a9 aa I hg=>?_;have O:=hY w _ Y;obtain⟨fd,hb,hF⟩:=F w mg fa _ O G.T.g a8;exact iP O G.T.g G.T.b G.T.builtins G.T.nolimit hg a9 aa (LG I a1) hr hF hb (λH hO hS=>a5 w H a ns I hO hS) λH e s'=>a6 w H s₁ e s'
theorem BG{l:PySem.W.OpenLaw}{n k:Nat}{q:Program}{I:List Str}{O:(Str->Option Value)->Heap->Prop}{z:World->Heap->Prop}{d:DefRec}{K:Params->Ip}{CX:CXT}{sp:Ip->Sp}{x:Str}
 (hn:l.most=some n) (U:n<=sizeLine) (Y:d.params.defaults=[]) (hr:Room k callerA)
 (hY : ∀(w:World) (h:Heap),z w h->(K w.params).In h)
 (F : ∀(w:World) (mg:RJ) (fa:Addr) (h:Heap),(K w.params).In h->h.Ns mainGlobals mg->mg d.name=some (.ref fa)->
   ∃fd:FuncData,(∀(s:Shared) (u:Value),BindsTo s fd ⟨[u],[]⟩ [(x,u)])/\
    ∀base:Heap,(K w.params).In base->base.Ns mainGlobals mg->FnOk l.prog w (K w.params) mg base CX k fa fd [x] (sp<|K w.params))
 (a2 : ∀(K:Ip) (H:Hp) (a:Addr) (ns:List Int),ns.length<=n->Cz H->SqL K H a (ns.map V.int)->sp K [.ref a] H (λv _=>v = .bl true) λ_ _ _=>False)
 (a3 : ∀(H:Hp) (s:Shared) (e:Value) (s':Shared),CX [] H s (λ_ _ _=>False) e s'->False) :
 PySem.W.WalkO q I O z l.row.toRowW d [] (λf vs=>PySem.call f vs):=
 nH (K:=K) (CX:=λ_=>CX) (sp:=λw=>sp<|K w.params) hn U Y hr hY F (λw H a ns h1 h2 h3=>a2 (K w.params) H a ns h1 h2 h3) λ_ H s e s'=>a3 H s e s'
def xi(s:Stmt):Arguments:=match s with
 | .FunctionDef _ a _ _ _ _ _ _ _ _=>a
 | _=>{posonlyargs:=[],args:=[],vararg:=none,kwonlyargs:=[],kw_defaults:=[],kwarg:=none,defaults:=[]}
def jZ(s:Stmt):List Stmt:=match s with
 | .FunctionDef _ _ b _ _ _ _ _ _ _=>b
 | _=>[]
def zT(s:Stmt):Scope:=match s with
 | .FunctionDef _ _ _ _ _ _ sc _ _ _=>sc
 | _=>{kind:= .function,names:=[],isGenerator:=false,isCoroutine:=false}
abbrev CX0:CXT:=λ_ _ _ _ _ _=>False
abbrev E0:XK:=λ_ _ _=>False
theorem Kk:QF CX0 X E0:=λ_ _ _ _ _ _ _ h=>h.elim
structure Fun(K:Ip)(x qual:Str)(st:Stmt)(f:Addr)(fd:FuncData):Prop where
 ex : ∃(oc:Value) (od:Option Addr) (kV doc pm:Value) (an:Option Addr) (cdv ct:Value) (osl:Array (Option Value)),
  fd=My x qual (xi st) (jZ st) (zT st) .none kV doc pm an cdv ct/\K.lookup f=some ⟨oc,od,.func fd,osl⟩/\Nv K cdv qual=true
 kp:Mn K (.ref f)=true
section
variable{P:Program}{w:World}{K:Ip}{mg:RJ}{base:Heap}
theorem Fun.ok{x qual:Str}{st:Stmt}{f:Addr}{fd:FuncData}{N ps:List Str}{k:Nat}{sp:Sp}(F:Fun K x qual st f fd)(S:FnScope N ps (zT st))(len : ∀vs H Q E,sp vs H Q E->vs.length=ps.length)
 (z : ∀(cdv:Value) (A:Around) (outer:List Env) (s:Shared) (H:Hp) (vs:List V) (Q:VK) (E:XK),Room k (A.deeper<|envOfC qual (zT st) s.heap.objs.size f cdv)->sp vs H Q E->
   ∃t,PSs (rW CX0 P w K mg base N qual (zT st) f cdv A outer s H E).nox (jZ st) t/\t {nx:=λ_ H'=>Q .non H',rt:=Q} (Jt N vs) H):FnOk P w K mg base CX0 (k+1) f fd ps sp:=by
 obtain⟨oc,od,kV,doc,pm,an,cdv,ct,osl,rfl,lk,I⟩:=F.ex;refine Fh lk I S len λA outer s H vs Q E O U=>?_;obtain⟨t,h,q⟩:=z cdv A outer s H vs Q E O U;exact⟨t,h.nox,q⟩
theorem Fun.binds{x qual:Str}{st:Stmt}{f:Addr}{fd:FuncData}{ps:List Str}(F:Fun K x qual st f fd)
 (h : ∀(kV doc pm:Value) (an:Option Addr) (cdv ct:Value) (us:List Value),us.length=ps.length->bindArgs (My x qual (xi st) (jZ st) (zT st) .none kV doc pm an cdv ct) ⟨us,[]⟩=pure (ps.zip us)):Binds K fd ps []:=by
 obtain⟨oc,od,kV,doc,pm,an,cdv,ct,osl,rfl,lk,z⟩:=F.ex;exact .all<|h kV doc pm an cdv ct
theorem V9{x qual:Str}{st:Stmt}{f:Addr}{oc:Value}{od an:Option Addr}{osl:Array (Option Value)}{kV doc pm cdv ct:Value}(l:K.lookup f=some ⟨oc,od,.func<|My x qual (xi st) (jZ st) (zT st) .none kV doc pm an cdv ct,osl⟩)
 (c:Nv K cdv qual=true) (k:Mn K (.ref f)=true):Fun K x qual st f (My x qual (xi st) (jZ st) (zT st) .none kV doc pm an cdv ct):=⟨⟨oc,od,kV,doc,pm,an,cdv,ct,osl,rfl,l,c⟩,k⟩
end
section
variable{X:Cx}
theorem pv(i:Nat){x:Str}{pos:Pos}(z:X.N[i]? = some x:=by rfl)(I:Vis X.env.scope x:=by first | exact Or.inl rfl | exact Or.inr (Or.inl rfl) | exact Or.inr (Or.inr rfl))(hd:(x==("__debug__" : Str))=false:=by decide)
 (O:(x==("__classdict__" : Str))=false:=by decide):PE X (.Name x pos) (Jk i):=mN z I hd O
end
def Same(H H':Hp):Prop:=∀b o,H b=some o->H' b=some o
theorem Same.refl(H:Hp):Same H H:=λ_ _ h=>h
theorem Same.trans(a:Same H H1)(b:Same H1 H2):Same H H2:=λc o h=>b c o<|a c o h
theorem Same.free(e:Same H H')(h:H' l=Option.none):H l=Option.none:=by
 cases q:H l with
 | none=>rfl
 | some o=>
  rw[e l o q]at h;cases h
theorem Same.seq{K:Ip}{H H':Hp}{a:Addr}{xs:List V}(e:Same H H')(h:SqL K H a xs):SqL K H' a xs:=by
 rcases h with(h | ⟨o,h⟩) | h
 ·exact .inl<|.inl<|e _ _ h
 ·exact .inl<|.inr ⟨o,e _ _ h⟩
 ·exact .inr h
def XW(cells:List (Str×Addr)):List (Str×NameKind)->List (Str×Addr)->List (Str×Addr)
 | [],acc=>acc
 | (n,k)::r,acc=>XW cells r<|if k==Ld then (match cells.lookup n with | some c=>(n,c)::acc | none=>acc)else acc
theorem yc(f:Str×NameKind->List (Str×Addr)->Sem (ForInStep<|List<|Str×Addr))
 (z : ∀name kind I,f (name,kind) I=if kind==Ld then (do let a <- cellOf env name;pure (.yield ((name,a)::I)))else pure (.yield I)) :
 ∀(names:List (Str×NameKind)) (acc:List (Str×Addr)),(∀n,(n,Ld)∈names->∃c,env.cells.lookup n=some c)->
  forIn names acc f=(pure (XW env.cells names acc):Sem _)
 | [],acc,_=>by rw[List.forIn_nil];rfl
 | (n,k)::r,acc,h=>by
  rw[List.forIn_cons,z];have O : ∀n,(n,Ld)∈r->∃c,env.cells.lookup n=some c:=λm hm=>h m<|IT _ hm;unfold XW;by_cases hk:(k==Ld)=true
  ·rw[RY hk,RY hk]
   have Y:k=Ld:=by simpa using hk
   subst Y;obtain⟨c,U⟩:=h n IY;have e:cellOf env n=pure c:=by unfold cellOf;rw[U]
   rw[e,U];exact yc f z r _ O
  ·rw[EQ hk,EQ hk]
   exact yc f z r acc O
theorem XH(h : ∀n,(n,Ld)∈scope.names->∃c,env.cells.lookup n=some c) :
 closureFor scope env=pure (XW env.cells scope.names []):=by
 simp only[closureFor];rw[yc (env:=env) _ (λname kind z=>by cases hk:kind==Ld<;>simp[hk]) scope.names [] h];rfl
theorem xV
 (z:Q {scope:=scope,locals:=s.heap.objs.size,globals:=globals,cells:=cellsFrom (s.heap.objs.size+1) scope.names cl,qual:=qual,func:=none,code:=env.code,frame:=env.frame,builtins:=env.builtins}
   {s with heap:=pushCells (s.heap.push {cls:= .type "dict",data:= .dict #[]}) scope.names}) :
 wpAny M A (newFunctionEnv scope globals cl [] qual none .none (some env)) Q E s:=by
 simp only[newFunctionEnv,Option.isSome_some,if_true];refine Iq (wpAny_alloc ?_);refine Iq (wpAny_layCells _ (λname kind cells=>by cases hkc:kind==MV<;>simp[hkc]) _ _ _ _ ?_);rw[show({s with heap:=s.heap.push {cls:= .type "dict",data:= .dict #[]}}:Shared).heap.objs.size=s.heap.objs.size+1 from Ls ..];exact Iq (IA (IA z))
theorem VU : ∀{names:List (Str×NameKind)} {acc:List (Str×Addr)},(n,c)∈XW cells names acc->(n,c)∈acc\/((n,Ld)∈names/\cells.lookup n=some c)
 | [],acc,h=> .inl h
 | (m,k)::r,acc,h=>by
  unfold XW at h;rcases VU h with g | ⟨h1,h2⟩
  ·clear h
   by_cases hk:(k==Ld)=true
   ·rw[RY hk]at g
    have z:k=Ld:=by simpa using hk
    subst z;cases e:cells.lookup m with
    | none=>rw[e]at g;exact .inl g
    | some I=>
     rw[e]at g;rcases IG.mp g with g | g
     ·cases g;exact .inr ⟨IY,e⟩
     ·exact .inl g
   ·rw[EQ hk]at g;exact .inl g
  ·exact .inr ⟨IT _ h1,h2⟩
theorem ZJ : ∀{names:List (Str×NameKind)} {acc:List (Str×Addr)},((acc.lookup n).isSome=true\/((n,Ld)∈names/\(cells.lookup n).isSome=true))->((XW cells names acc).lookup n).isSome=true
 | [],acc,h=>by
  rcases h with h | ⟨h,_⟩
  ·exact h
  ·cases h
 | (m,k)::r,acc,h=>by
  unfold XW;apply ZJ;by_cases hk:(k==Ld)=true
  ·rw[RY hk]
   have I:k=Ld:=by simpa using hk
   subst I;cases e:cells.lookup m with
   | none=>
    rcases h with h | ⟨h1,h2⟩
    ·exact .inl h
    ·rcases IG.mp h1 with h1 | h1
     ·cases h1;rw[e]at h2;cases h2
     ·exact .inr ⟨h1,h2⟩
   | some O=>
    dsimp only;by_cases z:n=m
    ·subst z;left;simp
    ·rcases h with h | ⟨h1,h2⟩
     ·left;rw[LL];split<;>simp_all
     ·rcases IG.mp h1 with h1 | h1
      ·cases h1;exact absurd rfl z
      ·exact .inr ⟨h1,h2⟩
  ·rw[EQ hk]
   rcases h with h | ⟨h1,h2⟩
   ·exact .inl h
   ·rcases IG.mp h1 with h1 | h1
    ·cases h1;exact absurd rfl hk
    ·exact .inr ⟨h1,h2⟩
theorem xp : ∀{names:List (Str×NameKind)} {k:Nat} {acc:List (Str×Addr)},(n,c)∈cellsFrom k names acc->(n,c)∈acc\/(k<=c/\(n,MV)∈names)
 | [],_,_,h=> .inl h
 | (m,kd)::r,k,acc,h=>by
  unfold cellsFrom at h;split at h
  ·rename_i hk
   have z:kd=MV:=by simpa using hk
   subst z;rcases xp h with h | ⟨h1,h2⟩
   ·rcases IG.mp h with h | h
    ·cases h;exact .inr ⟨IC _,IY⟩
    ·exact .inl h
   ·exact .inr ⟨by omega,IT _ h2⟩
  ·rcases xp h with h | ⟨h1,h2⟩
   ·exact .inl h
   ·exact .inr ⟨h1,IT _ h2⟩
theorem kK : ∀{names:List (Str×NameKind)} {k:Nat} {acc:List (Str×Addr)},(∀p∈acc,∀q∈acc,p.2=q.2->p.1=q.1)->(∀p∈acc,p.2<k)->
 ∀p∈cellsFrom k names acc,∀q∈cellsFrom k names acc,p.2=q.2->p.1=q.1
 | [],_,_,h,_=>h
 | (m,kd)::r,k,acc,h,hl=>by
  unfold cellsFrom;split
  ·refine kK (λp z q I e=>?_) (λp z=>?_)
   ·rcases IG.mp z with rfl | z<;>rcases IG.mp I with rfl | I
    ·rfl
    ·have O:k=q.2:=e
     exact absurd (O ▸ hl q I)<|Lz _
    ·have O:p.2=k:=e
     exact absurd (O ▸ hl p z)<|Lz _
    ·exact h p z q I e
   ·rcases IG.mp z with rfl | z
    ·exact Mf _
    ·exact LY<|hl p z
  ·exact kK h hl
theorem ZU : ∀{names:List (Str×NameKind)} {h:Heap} {acc:List (Str×Addr)} {n:Str} {c:Addr},(n,c)∈cellsFrom h.objs.size names acc->(n,c)∈acc\/(pushCells h names).IsCell c none
 | [],_,_,_,_,hm=> .inl hm
 | (m,kd)::r,h,acc,n,c,hm=>by
  unfold cellsFrom at hm;unfold pushCells;split at hm
  ·rename_i hk
   rw[RY hk];have e:h.objs.size+1=(h.push {cls:= .type "cell",data:= .cell none}).objs.size:=(Ls ..).symm;rw[e]at hm;rcases ZU hm with hm | hm
   ·rcases IG.mp hm with hm | hm
    ·cases hm
     have z:(h.push {cls:= .type "cell",data:= .cell none}).IsCell h.objs.size none:=⟨{cls:= .type "cell",data:= .cell none},IR _ rfl,rfl⟩;exact .inr (z.keeps λb o q=>OD _ _ b o q)
    ·exact .inl hm
   ·exact .inr hm
  ·rename_i hk
   rw[EQ hk];exact ZU hm
theorem yo{α:Type}{l:List (Str×α)}(nd:(l.map (·.1)).Nodup) : ∀{n:Str} {a:α},(n,a)∈l->l.lookup n=some a:=by
 induction l with
 | nil=>intro n a h;cases h
 | cons p r z=>
  intro n a h;obtain⟨m,b⟩:=p;rw[IS,MW]at nd;rw[LL];rcases IG.mp h with h | h
  ·cases h;simp
  ·have I:(n==m)=false:=by
    have:n≠m:=λe=>nd.1 (by rw[<- e];exact La.mpr ⟨(n,a),h,rfl⟩);simpa using this
   rw[I];exact z nd.2 h
theorem yB(scope:Scope)(env:Env)(x:Str):(relabel scope env).names.lookup x =
 (scope.names.lookup x).map λk=>if (k==Ld && env.scope.kind == .function && env.kindOf x==some .cell)then MV else k:=by
 unfold relabel;dsimp only;generalize scope.names=l
 induction l with
 | nil=>rfl
 | cons p r I=>
  obtain⟨n,k⟩:=p;rw[IS];cases hx:x==n with
  | true=>
   have e:x=n:=by simpa using hx
   subst e;rw[LL,LL];dsimp only;by_cases z:(k==Ld && env.scope.kind == .function && env.kindOf x==some .cell)=true
   ·rw[RY z,beq_self_eq_true];dsimp only[Oy];rw[RY z]
   ·rw[EQ z,beq_self_eq_true];dsimp only[Oy];rw[EQ z]
  | false=>
   have : ∀O,NF x ((n,O)::(r.map λx=>match x with | (n,k)=>if (k==Ld && env.scope.kind == .function && env.kindOf n==some .cell)=true then (n,MV)else (n,k)))=NF x (r.map λx=>match x with | (n,k)=>if (k==Ld && env.scope.kind == .function && env.kindOf n==some .cell)=true then (n,MV)else (n,k)):=λO=>by rw[LL,hx]
   rw[LL (k:=n),hx];dsimp only;split
   ·rw[this];exact I
   ·rw[this];exact I
def vz(scope:Scope)(env:Env)(L:Addr):Env:=
 {scope:=relabel scope env,locals:=L,globals:=env.globals,cells:=cellsFrom (L+1) scope.names<|XW env.cells scope.names [],qual:=env.qual,func:=none,code:=env.code,frame:=env.frame,builtins:=env.builtins}
def jv(X:Cx)(scope:Scope)(N':List Str)(fp:List Addr)(s2:Shared)(H2:Hp):Cx:=
 {X with N:=N',s₀:=s2,H₀:=H2,env:=vz scope X.env<|s2.heap.objs.size+1,outer:=X.stack,stack:=X.stack,ex:=fp,fn:=λx=>scope.names.lookup x==some .cell,pn:=[],xe:=λ_ _=>False}
structure CompOk(X:Cx)(scope:Scope)(fr:List (Str×Nat)):Prop where
 kind:scope.kind = .function
 nd:(scope.names.map (·.1)).Nodup
 free : ∀p∈scope.names,p.2=Ld->X.env.kindOf p.1=some .cell\/X.env.kindOf p.1=some .free
 fr : ∀p∈fr,scope.names.lookup p.1=some .free/\X.N[p.2]? = some p.1
def mG(own:List Str)(fr:List (Str×Nat))(σ:St):St:=own.map (λ_=>none)++fr.map λp=>(σ[p.2]?).join
abbrev YC:Obj:={cls:= .type "list",data:= .seq #[]}
abbrev ny:Obj:={cls:= .type "dict",data:= .dict #[]}
theorem iX{X:Cx}{pins:RW}{σ:St}{H2:Hp}{s2:Shared}{scope:Scope}{own:List Str}{fr:List (Str×Nat)}{fp:List Addr}(I:Inv X pins σ H2 s2)(ok:CompOk X scope fr)
 (a3 : ∀b∈fp,Wr X pins H2 b) (ap : ∀b∈fp,∃o,s2.heap.get? b=some o) :
 Inv (jv X scope (own++fr.map (·.1)) fp s2 H2) [] (mG own fr σ) (upd H2 s2.heap.objs.size<|.lst []) {s2 with heap:=pushCells ((s2.heap.push YC).push ny) scope.names}:=by
 have z1:(s2.heap.push YC).objs.size=s2.heap.objs.size+1:=Ls ..;have z2:((s2.heap.push YC).push ny).objs.size=s2.heap.objs.size+2:=by rw[Ls,z1]
 have Y : ∀n c,(n,c)∈XW X.env.cells scope.names []->(n,Ld)∈scope.names/\X.env.cells.lookup n=some c:=λn c h=>(VU h).resolve_left ⋯;have a9 : ∀n c,X.env.cells.lookup n=some c->c<s2.heap.objs.size:=λn c h=>by obtain⟨v,q⟩:=I.cell n c h;exact q.lt
 have ar : ∀p∈XW X.env.cells scope.names [],p.2<s2.heap.objs.size+1+1:=λp O=>by exact LY<|LY<|a9 p.1 p.2 (Y p.1 p.2 O).2
 have hC:(vz scope X.env<|s2.heap.objs.size+1).cells=cellsFrom (s2.heap.objs.size+2) scope.names (XW X.env.cells scope.names []):=rfl;have cells : ∀x c,(vz scope X.env<|s2.heap.objs.size+1).cells.lookup x=some c->((x,Ld)∈scope.names/\X.env.cells.lookup x=some c)\/(s2.heap.objs.size+2<=c/\(x,MV)∈scope.names):=λx c h=>by
  rcases xp (mem_of_lookup h)with h | h
  ·exact .inl<|Y x c h
  ·exact .inr h
 have aa : ∀x,(x,Ld)∈scope.names->∃c,X.env.cells.lookup x=some c/\(vz scope X.env<|s2.heap.objs.size+1).cells.lookup x=some c:=λx hx=>by
  obtain⟨c,hc⟩:=I.ok.has x<|ok.free (x,.free) hx rfl;have h1:((XW X.env.cells scope.names []).lookup x).isSome=true:=ZJ<|.inr ⟨hx,by rw[hc];rfl⟩;have h2:=NJ scope.names (s2.heap.objs.size+2) (XW X.env.cells scope.names [])<|.inr h1;obtain⟨c',ae⟩:=Mt.mp h2;refine⟨c,hc,?_⟩;rcases cells x c' ae with⟨_,q⟩ | ⟨_,q⟩
  ·rw[hc]at q;cases q;exact ae
  ·exact absurd ((yo ok.nd q).symm.trans (yo ok.nd hx)) ⋯
 have keep : ∀b o,s2.heap.get? b=some o->(pushCells ((s2.heap.push YC).push ny) scope.names).get? b=some o:=λb o e=>
  OD _ _ b o (Ir _<|Ir _ e)
 have ag : ∀b∈fp,b<s2.heap.objs.size:=λb hb=>by obtain⟨o,e⟩:=ap b hb;exact IL e
 have fresh:H2 s2.heap.objs.size=none:=I.hok.fresh<|IC _;have am : ∀c,s2.heap.objs.size<c->(upd H2 s2.heap.objs.size<|.lst []) c=none:=λc hc=>by rw[zL (MJ hc)];exact I.hok.fresh<|Pf hc
 obtain⟨m0,ax⟩ : ∃m,(pushCells ((s2.heap.push YC).push ny) scope.names).Ns (s2.heap.objs.size+1) m:=by have q:=(Heap.Ns.new (s2.heap.push YC) (.type "dict")).keeps (λb o e=>OD scope.names _ b o e);rw[z1]at q;exact⟨_,q⟩
 refine⟨⟨I.ok.mod,ok.kind,I.ok.glob,I.ok.blt,Nat.le_succ _,λx y c h1 h2=>?_,λx hx=>?_,λx c hf h=>?_,I.ok.hd,I.ok.frames,.inl rfl,λb hb=>⟨?_,λx c h z=>?_⟩,λb o e=>I.bs b o e,?_,λb o e hb=>?_,λb hb hs=>?_,I.stack,I.stkFree⟩,
  rfl,I.bare,Un.laid keep (IC _) fresh,⟨m0,ax,λi x v e1 U e3=>?_⟩,λx c h=>?_,?_,λx c h=>?_,λp O=>?_,?_,?_⟩
 ·have q:=kK (names:=scope.names) (k:=s2.heap.objs.size+2) (acc:=XW X.env.cells scope.names []) (λp O q hq e=>I.ok.inj p.1 q.1 p.2 (Y _ _ O).2 (by rw[e];exact(Y _ _ hq).2)) ar
  exact q (x,c) (mem_of_lookup h1) (y,c) (mem_of_lookup h2) rfl
 ·have a1:(relabel scope X.env).names.lookup x=some .cell\/(relabel scope X.env).names.lookup x=some .free:=hx
  have:scope.names.lookup x=some .cell\/scope.names.lookup x=some .free:=by
   rw[yB]at a1;cases e:scope.names.lookup x with
   | none=>rw[e]at a1;simp at a1
   | some k=>
    rw[e]at a1;cases k<;>simp at a1 ⊢
  rcases this with h | h
  ·exact Mt.mp<|NJ scope.names _ _<|.inl h
  ·obtain⟨c,_,h2⟩:=aa x<|mem_of_lookup h;exact⟨c,h2⟩
 ·have bb:(scope.names.lookup x==some .cell)=true:=hf
  have bd:scope.names.lookup x=some .cell:=by simpa using bb
  rcases cells x c h with⟨q,_⟩ | ⟨q,_⟩
  ·exact absurd ((yo ok.nd q).symm.trans bd) ⋯
  ·exact LG (LW _ 2) q
 ·exact Ln<|LY<|ag b hb
 ·rcases cells x c h with⟨_,q⟩ | ⟨q,_⟩
  ·exact(a3 b hb).2.2.2.2.1 x c q z
  ·exact absurd (IW (ag b hb)<|LG (LW _ 2)<|z ▸ q)<|Lz _
 ·exact LG I.ok.bsz I.sz
 ·rcases (a3 b hb).2.2.2.1 with q | q
  ·exact I.ok.noex b o e q
  ·exact absurd (IW (IL e)<|LG I.ok.bsz q)<|Lz _
 ·rcases IG.mp (I.stkSub b hs)with q | q
  ·exact(a3 b hb).2.1 q
  ·exact(a3 b hb).2.2.1 q
 ·have hi:i<(own++fr.map (·.1)).length:=(IX.mp e1).1
  by_cases a6:i<own.length
  ·unfold mG at U
   rw[LX (by simpa using a6)]at U;simp[Lo,a6]at U
  ·have hj : ∃p,fr[i - own.length]? = some p/\p.1=x/\(σ[p.2]?).join=some v:=by
    unfold mG at U;have a2:(own++fr.map (·.1))[i]? = some x:=e1;rw[LB ⋯,Lo]at a2;rw[LB (by simpa using a6),Lo,IQ]at U;cases q:fr[i - own.length]? with
    | none=>rw[q]at a2;cases a2
    | some p=>
     rw[q]at a2 U;exact⟨p,rfl,by simpa using a2,by simpa using U⟩
   obtain⟨p,O,bg,a4⟩:=hj;obtain⟨g1,g2⟩:=ok.fr p<|Mi O;rw[bg]at g1 g2;have hσ:σ[p.2]? = some (some v):=by
    cases q:σ[p.2]? with
    | none=>rw[q]at a4;cases a4
    | some o=>rw[q]at a4;simpa using a4
   have an:=ok.free (x,.free) (mem_of_lookup g1) rfl;obtain⟨m,hn,hl⟩:=I.loc;obtain⟨u,ru,lk⟩:=hl p.2 x v g2 hσ (by rcases an with k | k;exact .inr<|.inl k;exact .inr<|.inr k);refine⟨u,ru,.inr ?_⟩;obtain⟨c,bn,bv⟩:=aa x<|mem_of_lookup g1;have c0:s2.heap.IsCell c (some u):=by
    rcases lk with⟨k,_⟩ | ⟨_,c',e,z⟩
    ·rcases an with k' | k'<;>rw[k]at k'<;>cases k'
    ·rw[bn]at e;cases e;exact z
   refine⟨?_,c,bv,c0.keeps keep⟩;show(relabel scope X.env).names.lookup x=some .cell\/(relabel scope X.env).names.lookup x=some .free;rw[yB,g1];dsimp only[Oy];split
   ·exact .inl rfl
   ·exact .inr rfl
 ·rcases xp (mem_of_lookup h)with q | q
  ·obtain⟨v,w'⟩:=I.cell x c (Y x c q).2
   exact⟨v,w'.keeps keep⟩
  ·have q2:=mem_of_lookup h
   have q3:(x,c)∈cellsFrom ((s2.heap.push YC).push ny).objs.size scope.names (XW X.env.cells scope.names []):=by rw[z2];exact q2
   rcases ZU q3 with q4 | q4
   ·obtain⟨v,w'⟩:=I.cell x c (Y x c q4).2
    exact⟨v,w'.keeps keep⟩
   ·exact⟨none,q4⟩
 ·exact am _<|Mf _
 ·rcases cells x c h with⟨_,q⟩ | ⟨q,_⟩
  ·rw[zL (Ln<|a9 x c q)];exact I.freeC x c q
  ·exact am c<|IW (LY<|Mf _) q
 ·exact absurd (show p∈([]:RW)from O) ⋯
 ·refine I.hok.laid keep (IC _) ⟨MN _,[],0,.nil,?_⟩
  exact OD _ _ _ _<|Ir _<|IR _ rfl
 ·show(mG own fr σ).length=(own++fr.map (·.1)).length
  simp[mG]
theorem yz(I:Nat->Shared->Prop)
 (a3 : ∀n s,I n s->wpAny (model prog w) A (pyNext it) (λr z=>match r with
   | none=>R (.ok .next) z
   | some v=>wpAny (model prog w) A (letOwnedTupleGo target it v) (λ_ z=>wpAny (model prog w) A (assign target env v) (λ_ U=>
    wpAny (model prog w) A (forIn ifs true λc r=>if r=true then do let ok <- isTrue c env (eval c env);pure (OM ok)else pure (OM r)) (λok O=>
     if ok=true then wpAny (model prog w) A (eval elt env) (λx Y=>
      wpAny (model prog w) A (call (.builtin "list.append") [acc,x]) (λ_ s₅=>∃m,m<n/\I m s₅) (λ_ _=>False) Y) (λ_ _=>False) O
     else ∃m,m<n/\I m O) (λ_ _=>False) U) (λ_ _=>False) z) (λ_ _=>False) z) (λ_ _=>False) s)
 (n:Nat) (h:I n s) :
 codeAny (model prog w) A (.compLoop (.ListComp elt [⟨target,iter,ifs,0⟩] scope pos) 0 it acc env) R s:=by
 refine codeAny_loop rfl I (λn s hI=>?_) n h;show wpAny _ A ((compTurn (.ListComp elt [⟨target,iter,ifs,0⟩] scope pos) 0 it acc env).onRaise (λx=>do noteFrame x env;theTreesLotGoes x)) _ _ s;refine wpAny_noted ?_;rw[compTurn_list];refine Iq<|wpAny_standAt<|Iq<|Nr (a3 n s hI) (λr z h₁=>?_) λ_ _ h'=>h'.elim;cases r with
 | none=>exact IA h₁
 | some v=>
  refine Iq<|Nr h₁ (λ_ a9 a5=>?_) λ_ _ h'=>h'.elim;refine Iq<|Nr a5 (λ_ U h₂=>Iq<|Nr h₂ (λok O h₃=>?_) λ_ _ h'=>h'.elim) λ_ _ h'=>h'.elim;cases ok with
  | false=>exact IA ⟨rfl,h₃⟩
  | true=>
   exact Iq<|Iq<|Nr h₃ (λx Y h₄=>Iq<|Nr h₄ (λ_ s₅ h₅=>IA<|IA ⟨rfl,h₅⟩) λ_ _ h'=>h'.elim) λ_ _ h'=>h'.elim
def sS(X:Cx)(ifs:List Expr)(t:TT):Prop:=
 ∀(pins:RW) (s:Shared) (σ:St) (H:Hp) (Q:Bool->Hp->Prop),Inv X pins σ H s->t σ H Q->
  wpAny (model X.prog X.w) X.A (forIn ifs true λc r=>if r=true then do let ok <- isTrue c X.env (eval c X.env);pure (OM ok)else pure (OM r)) (TP X pins σ Q) X.xe s
def CP:TT:=λ_ H Q=>Q true H
theorem VL:sS X [] CP:=λ_ _ _ H _ I h=>wpAny_tests_nil ⟨H,I,h⟩
theorem VJ(h:PT X c t):sS X [c] t:=λpins s σ H Q I z=>wpAny_tests_one<|h pins s σ H Q I z
def CW(J:It)(g:TG)(tt:TT)(te:TE)(D:Addr)(Q:VK)(W:Nat->Nat->List V->St->Hp->Prop):Prop:=
 ∀i m ys σ H,W i m ys σ H->H D=some (.lst ys)/\((J.stop i H/\Q (.ref D) H)\/(J.go i H/\ys.length<sizeLine/\∀x H',J.yld i H x H'->g x σ H' λz H2=>tt z H2 λb I=>
  if b=true then te z I λv O=>O D=some (.lst ys)/\∃m',m'<m/\W (i+1) m' (ys++[v]) z (upd O D<|.lst<|ys++[v])else ∃m',m'<m/\W (i+1) m' ys z I))
def lX(X:Cx)(pins:RW)(H:Hp)(L:Addr):Prop:=
 H L=none/\L≠X.env.locals/\X.s₀.heap.objs.size<=L/\(∀x c,X.env.cells.lookup x=some c->c≠L)/\∀p∈X.pn++pins,p.1≠L
theorem lM
 (hc:X.calm=true) (I:Inv X pins σ H2 s2) (ok:CompOk X scope fr) (T:Turn X.prog X.w X.K tg J fp it tn) (st:tn 0 s2.heap) (U : ∀b∈fp,Wr X pins H2 b)
 (hg:PG (jv X scope (own++fr.map (·.1)) fp s2 H2) tg g) (ht:sS (jv X scope (own++fr.map (·.1)) fp s2 H2) ifs tt) (he:PE (jv X scope (own++fr.map (·.1)) fp s2 H2) elt te)
 (hW : ∀D,H2 D=none->∃W:Nat->Nat->List V->St->Hp->Prop,(∃m,W 0 m [] (mG own fr σ) (upd H2 D<|.lst []))/\CW J g tt te D Q W) :
 wpAny (model X.prog X.w) X.A (newList []) (λacc s₃=>wpAny (model X.prog X.w) X.A (newFunctionEnv scope X.env.globals (XW X.env.cells scope.names []) [] X.env.qual none .none (some X.env)) (λa9 s₄=>
  codeAny (model X.prog X.w) X.A (.compStart (.ListComp elt [⟨tg,iter,ifs,0⟩] scope pos) 0 (.ref it) acc {a9 with scope:=relabel scope X.env})
   (λr s'=>(∃f,r = .ok f)/\∃D H',acc = .ref D/\Inv X pins σ H' s'/\Q (.ref D) H'/\(∃m,s'.heap.Ns a9.locals m)/\lX X pins H' a9.locals) s₄) E s₃) E s2:=by
 have as : ∀b∈fp,∃o,s2.heap.get? b=some o:=λb hb=>by obtain⟨o,e,_⟩:=T.obj 0 _ st b hb;exact⟨o,e⟩
 have I0:=iX (own:=own) I ok U as;obtain⟨W,⟨m0,w0⟩,cw⟩:=hW _ I.fresh;refine Mj<|xV ?_;have z1:(s2.heap.push YC).objs.size=s2.heap.objs.size+1:=Ls ..;show codeAny _ _ (.compStart _ 0 (.ref it) (.ref s2.heap.objs.size) {scope:=relabel scope X.env,locals:=(s2.heap.push YC).objs.size,globals:=X.env.globals,cells:=cellsFrom ((s2.heap.push YC).objs.size+1) scope.names<|XW X.env.cells scope.names [],qual:=X.env.qual,func:=none,code:=X.env.code,frame:=X.env.frame,builtins:=X.env.builtins})
  (λr s'=>(∃f,r = .ok f)/\∃D H',Lq s2.heap.objs.size = .ref D/\Inv X pins σ H' s'/\Q (.ref D) H'/\(∃m,s'.heap.Ns (s2.heap.push YC).objs.size m)/\lX X pins H' (s2.heap.push YC).objs.size) {s2 with heap:=pushCells ((s2.heap.push YC).push ny) scope.names}
 rw[z1];have ax:tn 0 (pushCells ((s2.heap.push YC).push ny) scope.names):=T.keep 0 _ _ st λb _ o e=>OD _ _ b o<|Ir _<|Ir _ e;have c7 : ∀b∈fp,b<s2.heap.objs.size:=λb hb=>by obtain⟨o,e⟩:=as b hb;exact IL e
 have aa : ∀{H':Hp},(∀b∈fp,H' b=none)->∀b∈fp,Wr (jv X scope (own++fr.map (·.1)) fp s2 H2) [] H' b:=λhn b hb=>
  ⟨hn b hb,(I0.ok.exf b hb).1,I0.ok.exfs b hb,.inl hb,(I0.ok.exf b hb).2,λp hp=>absurd (show p∈([]:RW)from hp) ⋯⟩
 have b0:codeAny (model X.prog X.w) X.A (.compLoop (.ListComp elt [⟨tg,iter,ifs,0⟩] scope pos) 0 (.ref it) (.ref s2.heap.objs.size)<|vz scope X.env<|s2.heap.objs.size+1)
  (λr s'=>(∃f,r = .ok f)/\∃D H',Lq s2.heap.objs.size = .ref D/\Inv X pins σ H' s'/\Q (.ref D) H'/\(∃m,s'.heap.Ns (s2.heap.objs.size+1) m)/\lX X pins H' (s2.heap.objs.size+1)) {s2 with heap:=pushCells ((s2.heap.push YC).push ny) scope.names}:=by
  refine yz (λn s'=>∃i ys σ' H',Inv (jv X scope (own++fr.map (·.1)) fp s2 H2) [] σ' H' s'/\tn i s'.heap/\(∀b∈fp,H' b=none)/\W i n ys σ' H') ?_ m0
   ⟨0,[],_,_,I0,ax,λb hb=>by rw[zL (Ln<|c7 b hb)];exact(U b hb).1,w0⟩
  rintro n s3 ⟨i,ys,σ3,H3,I3,st3,bd,w3⟩;obtain⟨hD,c8⟩:=cw i n ys σ3 H3 w3;rcases c8 with⟨stop,qn⟩ | ⟨go,hz,step⟩
  ·refine thn (T.done (jv X scope (own++fr.map (·.1)) fp s2 H2) rfl rfl rfl hc i [] s3 σ3 H3 _ I3 (aa bd) st3 stop) λr s4 O=>?_
   obtain⟨hr,Y⟩:=O;subst hr;refine⟨⟨_,rfl⟩,_,H3,rfl,I.call' (ch:=fp) Y.os Y.base Y.hok Y.bare<|λb hb=>⟨(U b hb).2.2.2.1,(U b hb).2.1,(U b hb).2.2.2.2.1,(U b hb).2.2.2.2.2⟩,qn,?_,Y.free,?_,?_,?_,?_⟩
   ·obtain⟨m,hn,_⟩:=Y.loc
    exact⟨m,hn⟩
   ·exact MJ<|LY I.lt
   ·exact Nat.le_succ_of_le I.sz
   ·intro x c e z
    obtain⟨v,q⟩:=I.cell x c e;exact absurd (LY q.lt) (by rw[z];exact Lz _)
   ·intro p hp z
    exact absurd (LY<|IL (I.pin p hp).1) (by rw[z];exact Lz _)
  ·refine thn (T.item (jv X scope (own++fr.map (·.1)) fp s2 H2) rfl rfl rfl hc i [] s3 σ3 H3 _ I3 (aa bd) st3 go) λr s4 O=>?_
   obtain⟨u,hr,h4⟩:=O;subst hr;refine thn h4 λ_ s5 O=>?_;obtain⟨x,H5,I5,r5,y5,ag,ci⟩:=O;have cl:=I5.pinned (aa ci)<|T.obj _ _ ag;refine thn (hg _ s5 σ3 H5 x u _ cl r5<|step x H5 y5) λ_ s6 O=>?_;obtain⟨σ6,H6,I6,q6⟩:=O;refine thn (ht _ s6 σ6 H6 _ I6 q6) λb s7 O=>?_;obtain⟨H7,I7,q7⟩:=O;have after : ∀{σ8:St} {H8:Hp} {s8:Shared},Inv (jv X scope (own++fr.map (·.1)) fp s2 H2) ([]++Kg fp s5.heap) σ8 H8 s8->tn (i+1) s8.heap/\∀b∈fp,H8 b=none:=λ{σ8 H8 s8} I8=>by refine⟨T.keep _ _ _ ag λb hb o e=>(I8.pin (b,o)<|LQ _<|LQ _<|yn hb e).1,λb hb=>?_⟩;obtain⟨o,e,d⟩:=T.obj _ _ ag b hb;exact(I8.pin (b,o)<|LQ _<|LQ _<|yn hb e).2.1
   cases b with
   | false=>
    rw[EQ IE]at q7 ⊢;obtain⟨m',hm,w7⟩:=q7;exact⟨m',hm,i+1,ys,σ6,H7,I7.unpinned,(after I7).1,(after I7).2,w7⟩
   | true=>
    rw[RY rfl]at q7 ⊢;refine thn (he _ s7 σ6 H7 _ I7 q7) λv8 s8 O=>?_;obtain⟨x8,H8,I8,r8,bm,m',hm,w8⟩:=O;obtain⟨z8,bn,n8,rv,d4,e8⟩:=I8.lstM bm;refine Ob F.slot_list_append ⟨_,e8,rfl⟩ F.entry_list_append (F.args_list_append_2 _ _) (PySem.list_append _ bn.toArray n8 v8<|by rw[IF];omega) ⟨e8,?_⟩;have I9:=I8.lset (its':=bn++[v8]) (f:=(·.push v8)) (t':=s8.toks) bm e8 ⋯ (rv.append<|.cons r8 .nil) (by rw[LD,NZ];omega);exact⟨m',hm,i+1,ys++[x8],σ6,_,I9.unpinned,(after I9).1,(after I9).2,w8⟩
 exact codeAny_compStart_list b0<|T.self _ 0 _ _ _ ax b0
def gz(wi:TI)(own:List Str)(fr:List (Str×Nat))(g:TG)(tt:TT)(te:TE):TE:=λσ H Q=>wi σ H λJ H1=>∀D,H1 D=none->
 ∃W:Nat->Nat->List V->St->Hp->Prop,(∃m,W 0 m [] (mG own fr σ) (upd H1 D<|.lst []))/\CW J g tt te D Q W
section
variable{X:Cx}{scope:Scope}{own:List Str}{fr:List (Str×Nat)}{elt tg iter:Expr}{ifs:List Expr}{pos:Pos}{wi:TI}{g:TG}{tt:TT}{te:TE}
theorem Wh
 (z:X.calm=true) (ok:CompOk X scope fr) (hi:PI X tg iter wi) (O : ∀fp s2 H2,PG (jv X scope (own++fr.map (·.1)) fp s2 H2) tg g)
 (U : ∀fp s2 H2,sS (jv X scope (own++fr.map (·.1)) fp s2 H2) ifs tt) (he : ∀fp s2 H2,PE (jv X scope (own++fr.map (·.1)) fp s2 H2) elt te)
 (I:Inv X pins σ H s) (h:gz wi own fr g tt te σ H Q)
 (Y : ∀D H' s' L,Inv X pins σ H' s'->Q (.ref D) H'->(∃m,s'.heap.Ns L m)->lX X pins H' L->
   compPost (model X.prog X.w) X.A X.xe use R (.ref D) L (.ok .next) s')
 (hs : ∀x,foldedSetIterable iter X.env x=pure x:=by intro _;rfl) :
 wpAny (model X.prog X.w) X.A (comprehension (.ListComp elt [⟨tg,iter,ifs,0⟩] scope pos) scope X.env (firstIterPos [⟨tg,iter,ifs,0⟩] pos) (newList []) false (eval iter X.env) use) R X.xe s:=by
 refine wpAny_comprehension_free rfl hs (XH λn hn=>I.ok.has n<|ok.free (n,.free) hn rfl) ok.kind (λx hx e=>by rw[<- e];exact yo ok.nd<|show(x.1,x.2)∈scope.names from hx) ?_;refine thn (hi pins s σ H _ I h) λv s1 h1=>thn h1 λae s2 h2=>?_;obtain⟨it,fp,tn,J,H2,e,I2,T,a1,f2,hW⟩:=h2;subst e;refine thn (lM (own:=own) (Q:=Q) (E:=X.xe) z I2 ok T a1 f2 (O fp s2 H2) (U fp s2 H2) (he fp s2 H2) hW) λacc s3 h3=>thn h3 λa5 s4 h4=>Py h4 λr s' h5=>?_;obtain⟨⟨f,hr⟩,D,H',ea,I',q,hn,y⟩:=h5;subst hr;subst ea;have q2:=Y D H' s' a5.locals I' q hn y;cases use<;>exact q2
theorem Ys(z:X.calm=true)(ok:CompOk X scope fr)(hi:PI X tg iter wi)(O : ∀fp s2 H2,PG (jv X scope (own++fr.map (·.1)) fp s2 H2) tg g)
 (U : ∀fp s2 H2,sS (jv X scope (own++fr.map (·.1)) fp s2 H2) ifs tt) (he : ∀fp s2 H2,PE (jv X scope (own++fr.map (·.1)) fp s2 H2) elt te)
 (hs : ∀x,foldedSetIterable iter X.env x=pure x:=by intro _;rfl) :
 PE X (.ListComp elt [⟨tg,iter,ifs,0⟩] scope pos) (gz wi own fr g tt te):=by
 intro pins s σ H Q I h;rw[eval_ListComp];refine Wh (use:=none) z ok hi O U he I h (λD H' s' L Y q hn y=>?_) hs;obtain⟨m,hm⟩:=hn;obtain⟨y1,y2,y3,y4,y5⟩:=y;refine⟨m,hm,λh' sb=>⟨.ref D,H',Y.turned (t':=s'.toks) (it:=L) (λb o hb e=>sb.extBut b o hb e) y1 y2 (.inr y3) y4 y5,rfl,q⟩⟩
theorem JQ(z:X.N.Nodup)(O:X.N[i]? = some y)(U:Loc X.env.scope y)(Y:X.fn y=true\/X.env.scope.names.lookup y=some .local)
 (hc:X.calm=true) (ok:CompOk X scope fr) (hi:PI X tg iter wi) (hg : ∀fp s2 H2,PG (jv X scope (own++fr.map (·.1)) fp s2 H2) tg g)
 (ht : ∀fp s2 H2,sS (jv X scope (own++fr.map (·.1)) fp s2 H2) ifs tt) (he : ∀fp s2 H2,PE (jv X scope (own++fr.map (·.1)) fp s2 H2) elt te)
 (hs : ∀x,foldedSetIterable iter X.env x=pure x:=by intro _;rfl) :
 PS X (.Assign [.Name y py] (.ListComp elt [⟨tg,iter,ifs,0⟩] scope pos) spos) (WA (gz wi own fr g tt te)<|yx i):=by
 have hb : ∃b:Bool,swapsWith (.ListComp elt [⟨tg,iter,ifs,0⟩] scope pos) (some (.Name y py)) spos.line X.env=pure b:=⟨_,rfl⟩;obtain⟨b,hb⟩:=hb;cases b with
 | false=>
  have e1:swapsWithSole [.Name y py] (.ListComp elt [⟨tg,iter,ifs,0⟩] scope pos) spos.line X.env=swapsWith (.ListComp elt [⟨tg,iter,ifs,0⟩] scope pos) (some (.Name y py)) spos.line X.env:=rfl;exact mI (Ys hc ok hi hg ht he hs) (cH z O U Y) (by rw[e1];exact hb)
 | true=>
  intro pins s σ H D I h;rw[exec_Assign_Name_used _ _ _ _ hb];refine Iq<|wpAny_standAt<|Iq ?_;show wpAny _ X.A (do let _ <- comprehension (.ListComp elt [⟨tg,iter,ifs,0⟩] scope pos) scope X.env _ (newList []) false (eval iter X.env) (some (assign (.Name y py) X.env))) _ _ s;refine Iq<|thn (Wh (R:=λ_ s'=>SP X pins D .next s') (use:=some (assign (.Name y py) X.env)) hc ok hi hg ht he I h (λDa H' s' L I' q hn yg=>?_) hs) λ_ s' q=>IA<|IA q;obtain⟨y1,y2,y3,y4,y5⟩:=yg;obtain⟨m,hm⟩:=hn;show wpAny _ _ (assign (.Name y py) X.env<|.ref Da) _ _ _;refine wpAny_assign_Name<|X5 I' z O U (v:= .ref Da) rfl (λac ae ag=>?_) Y;obtain⟨a,sb,ha⟩:=ag;have an:L≠a:=by
   rcases ha with e | e
   ·rw[e];exact y2
   ·exact Ly<|y4 _ _ e
  refine⟨m,hm.sameBut sb an,λh' ap=>⟨_,_,ae.turned (t':=ac.toks) (it:=L) (λb o hb e=>ap.extBut b o hb e) y1 y2 (.inr y3) y4 y5,q⟩⟩
end
inductive Sk where
 | L | T
 deriving DecidableEq
end L2
namespace DL
open PySem L2
inductive D where
 | non | bl (b:Bool) | int (i:Int) | str (x:Str) | tup (xs:List D) | lst (xs:List D)
 | dic (ks vs:List D)
 | dct (ks:List (List Int)) (vs:List D)
inductive Cell where
 | no | val (d:D) | own (ds:List D) | nest (rows:List (List D))
abbrev Ctx:=List Cell
abbrev CO (a : Type) := Ctx -> Option a
def lim:Nat:=2500
def jf:D->Option (Sk×List D)
 | .tup ds=>some (.T,ds)
 | .lst ds=>some (.L,ds)
 | _=>none
def zG(f:CO D)(γ:Ctx):Option (Sk×List D):=(f γ).bind jf
def qi(f:CO (List D))(γ:Ctx):Option D:=(f γ).map D.lst
def jV(f:CO (List D))(γ:Ctx):Option (Sk×List D):=(f γ).map λds=>(Sk.L,ds)
def fw:Option Cell->Option D
 | some (.val d)=>some d
 | _=>none
def yR:Option Cell->Option (Sk×List D)
 | some (.val d)=>jf d
 | some (.own ds)=>some (.L,ds)
 | _=>none
def zf(i:Nat)(γ:Ctx):Option D:=fw γ[i]?
def zh(i:Nat)(γ:Ctx):Option (Sk×List D):=yR γ[i]?
noncomputable def zu(d:D):CO D:=λ_=>some d
def zH(F:D->D->Option D)(fa fb:CO D)(γ:Ctx):Option D:=(fa γ).bind λx=>(fb γ).bind λy=>F x y
def asB:D->Option Bool
 | .bl b=>some b
 | _=>none
def asI:D->Option Int
 | .int i=>some i
 | _=>none
def sB(f:CO D)(γ:Ctx):Option Bool:=(f γ).bind asB
def gO(f g:CO Bool)(γ:Ctx):Option Bool:=(f γ).bind λb=>if b=true then g γ else some false
def tZ(f g:CO Bool)(γ:Ctx):Option Bool:=(f γ).bind λb=>if b=true then some true else g γ
def kf(f:CO Bool)(γ:Ctx):Option Bool:=(f γ).map λb=> !b
def BJ(f g:CO D)(γ:Ctx):Option D:=((f γ).bind asB).bind λb=>if b=true then g γ else some (.bl false)
def sOr(f g:CO D)(γ:Ctx):Option D:=((f γ).bind asB).bind λb=>if b=true then some (.bl true)else g γ
def Ei(f:CO D)(γ:Ctx):Option D:=((f γ).bind asB).map λb=> .bl (!b)
def JM(c:CO Bool)(f g:CO D)(γ:Ctx):Option D:=(c γ).bind λb=>if b=true then f γ else g γ
def zE:CO (List D):=λ_=>some []
def zb(f:CO D)(g:CO (List D))(γ:Ctx):Option (List D):=(f γ).bind λx=>(g γ).map λr=>x::r
def qh(f:CO (List D))(γ:Ctx):Option D:=(f γ).bind λds=>if ds.length<=lim then some (.tup ds)else none
def xX(f:CO (List D))(γ:Ctx):Option (List D):=(f γ).bind λds=>if ds.length<=lim then some ds else none
inductive Res where
 | val (d:D) | own (ds:List D)
inductive Fl where
 | next (γ:Ctx) | brk (γ:Ctx) | cont (γ:Ctx) | ret (r:Res)
def xc(γ:Ctx):Option Fl:=some (.next γ)
def zK(F G:CO Fl):CO Fl:=λγ=>(F γ).bind λz=>match z with
 | .next γ'=>G γ'
 | f=>some f
def qv(f:CO D)(γ:Ctx):Option Fl:=(f γ).map λd=> .ret (.val d)
def vS(f:CO (List D))(γ:Ctx):Option Fl:=(f γ).map λd=> .ret (.own d)
def Y0:Option Cell->Option Fl
 | some (.val d)=>some (.ret<|.val d)
 | some (.own ds)=>some (.ret<|.own ds)
 | _=>none
def Zn(i:Nat)(γ:Ctx):Option Fl:=Y0 γ[i]?
def Ih(γ:Ctx):Option Fl:=some (.brk γ)
def oE(γ:Ctx):Option Fl:=some (.cont γ)
def wu:CO Fl:=λ_=>none
def sIf(k:CO Bool)(F G:CO Fl)(γ:Ctx):Option Fl:=(k γ).bind λb=>if b=true then F γ else G γ
def jo(i:Nat)(f:CO D)(γ:Ctx):Option Fl:=(f γ).map λd=> .next (γ.set i<|.val d)
def ke(i:Nat)(f:CO (List D))(γ:Ctx):Option Fl:=(f γ).map λds=> .next (γ.set i<|.own ds)
def oB(f:CO D)(γ:Ctx):Option Fl:=(f γ).map λ_=> .next γ
def qy:Option Cell->Option (List D)
 | some (.own ds)=>some ds
 | _=>none
def kZ(i:Nat)(f:CO D)(γ:Ctx):Option Fl:=(qy γ[i]?).bind λds=>(f γ).bind λd=>if ds.length<lim then some (.next<|γ.set i<|.own<|ds++[d])else none
def zY(n:Nat)(ds:List D):Ctx:=ds.map Cell.val++Iw (n - ds.length) Cell.no
noncomputable def z6(n:Nat)(F:CO Fl)(ds:List D):Option Res:=(F<|zY n ds).bind λz=>match z with
 | .ret r=>some r
 | .next _=>some (.val .non)
 | _=>none
def uh:Res->D
 | .val d=>d
 | .own ds=> .lst ds
def zC(F:List D->Option Res)(g:CO (List D))(γ:Ctx):Option D:=(g γ).bind λds=>(F ds).map uh
def BK:Res->Option (List D)
 | .own ds=>some ds
 | _=>none
def jB(F:List D->Option Res)(g:CO (List D))(γ:Ctx):Option (List D):=(g γ).bind λds=>(F ds).bind BK
def vc(lo:Int)(n:Nat):List D:=(Io n).map λ(i:Nat)=>D.int<|lo+(i:Int)
def Jq(ds es:List D):List D:=(ds.zip es).map λp=>D.tup [p.1,p.2]
def zO(f:CO (Sk×List D))(γ:Ctx):Option (List D):=(f γ).map (·.2)
def inR(i:Int):Bool:=decide<|i.natAbs<2 ^ 62
def jK(f:CO D)(γ:Ctx):Option (List D):=((f γ).bind asI).bind λn=>if inR n=true then some (vc 0 n.toNat)else none
def QU(f g:CO D)(γ:Ctx):Option (List D):=((f γ).bind asI).bind λm=>((g γ).bind asI).bind λn=>if inR m=true/\inR n=true then some (vc m (n - m).toNat)else none
def gG(f g:CO D)(γ:Ctx):Option (List D):=((f γ).bind jf).bind λm=>((g γ).bind jf).map λn=>Jq m.2 n.2
inductive Tg where
 | nm (i:Nat) | tp (is:List Nat)
def qF:List Nat->List D->Ctx->Ctx
 | i::is,d::ds,γ=>qF is ds<|γ.set i<|.val d
 | _,_,γ=>γ
def qM:Tg->D->CO Ctx
 | .nm i,d,γ=>some (γ.set i<|.val d)
 | .tp is,.tup ds,γ=>if ds.length=is.length then some (qF is ds γ)else none
 | _,_,_=>none
def qo(T:Tg)(F:CO Fl):List D->CO Fl
 | [],γ=>some (.next γ)
 | d::ds,γ=>(qM T d γ).bind λγ1=>(F γ1).bind λI=>match I with
  | .next z=>qo T F ds z
  | .cont z=>qo T F ds z
  | .brk z=>some (.next z)
  | .ret r=>some (.ret r)
def Jm(src:CO (List D))(T:Tg)(F:CO Fl)(γ:Ctx):Option Fl:=(src γ).bind λds=>qo T F ds γ
def qY:Cell->Cell
 | .own _=> .no
 | .nest _=> .no
 | c=>c
def jk(n:Nat)(fr:List Nat)(γ:Ctx):Ctx:=Iw n Cell.no++fr.map λj=>qY<|γ[j]?.getD .no
def zS(T:Tg)(k:CO Bool)(f:CO D)(γ:Ctx):List D->Option (List D)
 | []=>some []
 | d::ds=>(qM T d γ).bind λγ1=>(k γ1).bind λb=>if b=true then (f γ1).bind λe=>(zS T k f γ ds).map λr=>e::r else zS T k f γ ds
def zP(src:CO (List D))(T:Tg)(n:Nat)(fr:List Nat)(k:CO Bool)(f:CO D)(γ:Ctx):Option (List D):=(src γ).bind λds=>if ds.length<=lim then zS T k f (jk n fr γ) ds else none
def jA:CO Bool:=λ_=>some true
def Tg.idx:Tg->List Nat
 | .nm i=>[i]
 | .tp is=>is
def dI(g:Int->Int->D):D->D->Option D
 | .int i,.int j=>some (g i j)
 | _,_=>none
def dIc(c:Int->Int->Bool)(g:Int->Int->D):D->D->Option D
 | .int i,.int j=>if c i j=true then some (g i j)else none
 | _,_=>none
def Jo:D->D->Option D:=dI λi j=> .int (i - j)
def XX(i j:Int):Bool:=decide (i.natAbs<2 ^ 64) || decide (j.natAbs<2 ^ 64)
def Br(_ j:Int):Bool:=decide (0<j) && decide (j.natAbs<1073741824)
def aH:D->D->Option D:=dIc Br λi j=> .int (i/j)
def Cj(_ j:Int):Bool:=decide<|0<j
def yG:D->D->Option D:=dIc Cj λi j=> .int (i%j)
def Bq(i j:Int):Bool:=decide (0<=j) && decide (j.natAbs<=1000000) && decide (i.natAbs<2 ^ 64)
def rV:D->D->Option D:=dIc Bq λi j=> .int (i ^ j.toNat)
def dLt:D->D->Option D:=dI λi j=> .bl (decide<|i<j)
def dLe:D->D->Option D:=dI λi j=> .bl (decide<|i<=j)
def dGt:D->D->Option D:=dI λi j=> .bl (decide<|j<i)
def dGe:D->D->Option D:=dI λi j=> .bl (decide<|j<=i)
def jF:D->D->Option D
 | .int i,.int j=>some (.int<|i+j)
 | .tup xs,.tup ys=>if xs.length+ys.length<=lim then some (.tup<|xs++ys)else none
 | _,_=>none
def yF:D->D->Option D
 | .int i,.int j=>if XX i j=true then some (.int<|i*j)else none
 | .tup xs,.int j=>if xs.length*j.toNat<=lim/\inR j=true then some (.tup (Iw j.toNat xs).flatten)else none
 | _,_=>none
def Kb(f g:CO (Sk×List D))(γ:Ctx):Option (List D):=(f γ).bind λa=>(g γ).bind λb=>
 match a.1,b.1 with
 | .L,.L=>if a.2.length+b.2.length<=lim then some (a.2++b.2)else none
 | _,_=>none
def oA(f:CO (Sk×List D))(g:CO D)(γ:Ctx):Option (List D):=(f γ).bind λa=>((g γ).bind asI).bind λj=>
 match a.1 with
 | .L=>if a.2.length*j.toNat<=lim/\inR j=true then some (Iw j.toNat a.2).flatten else none
 | _=>none
def ixD(n:Nat)(i:Int):Option Nat:=if 0<=i/\i<n then some i.toNat else if i<0/\0<=i+n then some (i+n).toNat else none
def sIx(f:CO (Sk×List D))(g:CO D)(γ:Ctx):Option D:=(f γ).bind λa=>((g γ).bind asI).bind λi=>(ixD a.2.length i).bind λk=>a.2[k]?
def mq(i:Nat)(g f:CO D)(γ:Ctx):Option Fl:=(f γ).bind λd=>(qy γ[i]?).bind λds=>((g γ).bind asI).bind λk=>(ixD ds.length k).map λj=> .next (γ.set i<|.own<|ds.set j d)
def JB(n dflt:Nat):Option Int->Nat
 | none=>dflt
 | some i=>if i<0 then (i+n).toNat else min i.toNat n
def vx(xs:List D)(lo hi:Option Int):List D:=(xs.drop<|JB xs.length 0 lo).take (JB xs.length xs.length hi - JB xs.length 0 lo)
def Jl:CO (Option Int):=λ_=>some none
def sBd(f:CO D)(γ:Ctx):Option (Option Int):=((f γ).bind asI).map some
def QT(f:CO D)(l h:CO (Option Int))(γ:Ctx):Option D:=(f γ).bind λd=>(l γ).bind λlo=>(h γ).bind λhi=>match d with
 | .tup xs=>some (.tup<|vx xs lo hi)
 | _=>none
def Zo(f:CO (Sk×List D))(γ:Ctx):Option D:=(f γ).map λa=> .int a.2.length
inductive Ty where
 | int | bool | str | tuple | list
 deriving DecidableEq
@[simp] def ni:D->Bool
 | .int _=>true
 | .bl _=>true
 | _=>false
@[simp] def AY:D->Bool
 | .bl _=>true
 | _=>false
@[simp] def nc:D->Bool
 | .str _=>true
 | _=>false
@[simp] def mZ:D->Bool
 | .tup _=>true
 | _=>false
@[simp] def nh:D->Bool
 | .lst _=>true
 | _=>false
def sO:Ty->D->Bool
 | .int=>ni
 | .bool=>AY
 | .str=>nc
 | .tuple=>mZ
 | .list=>nh
def sIs(T:Ty)(f:CO D)(γ:Ctx):Option D:=(f γ).map λd=> .bl (sO T d)
def EW:Ty->Sk->Bool
 | .tuple,.T=>true
 | .list,.L=>true
 | _,_=>false
def Ic(T:Ty)(f:CO (Sk×List D))(γ:Ctx):Option D:=(f γ).map λa=> .bl (EW T a.1)
@[simp] def eqN:D->Bool
 | .non=>true
 | _=>false
@[simp] def eqB(a:Bool):D->Bool
 | .bl b=>a==b
 | .int b=>(if a then 1 else 0)==b
 | _=>false
@[simp] def eqI(a:Int):D->Bool
 | .bl b=>a==(if b then 1 else 0)
 | .int b=>a==b
 | _=>false
@[simp] def eqS(a:Str):D->Bool
 | .str b=>a==b
 | _=>false
@[simp] def eqX(a:Str)(i:Option Int):D->Bool
 | _=>false
mutual
def eqD:D->D->Bool
 | .non,y=>eqN y
 | .bl a,y=>eqB a y
 | .int a,y=>eqI a y
 | .str a,y=>eqS a y
 | .tup xs,y=>match y with
  | .tup ys=>eqDs xs ys
  | _=>false
 | .lst xs,y=>match y with
  | .lst ys=>eqDs xs ys
  | _=>false
 | .dic a b,y=>match y with
  | .dic c d=>eqDs a c && eqDs b d
  | _=>false
 | .dct a b,y=>match y with
  | .dct c d=>a==c && eqDs b d
  | _=>false
def eqDs:List D->List D->Bool
 | [],[]=>true
 | x::xs,y::ys=>eqD x y && eqDs xs ys
 | _,_=>false
end
mutual
def deep:D->Nat
 | .tup xs=>deeps xs+1
 | .lst xs=>deeps xs+1
 | _=>0
def deeps:List D->Nat
 | []=>0
 | x::xs=>max (deep x)<|deeps xs
end
mutual
def okS:D->Bool
 | .str x=>x.cps.all (· < 0x110000)
 | .dic _ _=>false
 | .dct _ _=>false
 | .tup xs=>okSs xs
 | .lst xs=>okSs xs
 | _=>true
def okSs:List D->Bool
 | []=>true
 | x::xs=>okS x && okSs xs
end
def okD(d:D):Bool:=decide (deep d<=20) && okS d
def dEq(x y:D):Option D:=if okD x=true/\okD y=true then some (.bl<|eqD x y)else none
def dNe(x y:D):Option D:=if okD x=true/\okD y=true then some (.bl<|!eqD x y)else none
def Ft:D->D->Option D
 | x,.non=>some (.bl<|match x with | .non=>true | _=>false)
 | _,_=>none
def z4(f:CO (Sk×List D))(γ:Ctx):Option D:=(f γ).map λa=> .tup a.2
def Ej(f:CO (Sk×List D))(γ:Ctx):Option (List D):=(f γ).map λa=>a.2
def WE:List D->Option Int
 | []=>some 0
 | .int i::r=>(WE r).map λs=>i+s
 | _::_=>none
def sH(f:CO (Sk×List D))(γ:Ctx):Option D:=(f γ).bind λa=>(WE a.2).map D.int
def CI:D->Option Bool
 | .non=>some false
 | .bl b=>some b
 | .int i=>some (i != 0)
 | _=>none
def QP:List D->Option (List Bool)
 | []=>some []
 | d::r=>(CI d).bind λb=>(QP r).map λs=>b::s
def sM(f:CO (Sk×List D))(γ:Ctx):Option D:=(f γ).bind λa=>(QP a.2).map λs=> .bl (s.all id)
def sJ(f:CO (Sk×List D))(γ:Ctx):Option D:=(f γ).bind λa=>(QP a.2).map λs=> .bl (s.any id)
def bJ(f:CO D)(γ:Ctx):Option D:=(f γ).bind λd=>match d with
 | .int i=>some (.int i)
 | .bl b=>some (.int<|if b then 1 else 0)
 | _=>none
def Hu(f g:CO D)(γ:Ctx):Option D:=((f γ).bind asI).bind λi=>((g γ).bind asI).map λj=> .int (if j>i then j else i)
def oz(f:CO (Sk×List D))(γ:Ctx):Option Bool:=(f γ).map λa=> !a.2.isEmpty
def ua(f:CO D):CO D:=λγ=>((f γ).bind asI).map λi=> .int (-i)
def y8(F G:D->D->Option D)(fa fb fc:CO D):CO D:=λγ=>(fa γ).bind λx=>(fb γ).bind λy=>((F x y).bind asB).bind λb=>if b=true then (fc γ).bind λz=>G y z else some (.bl false)
def gH(T:Tg)(f:CO D)(γ:Ctx):Option Fl:=(f γ).bind λd=>(qM T d γ).map .next
def HM:D->Option Int
 | .tup (.int k::_)=>some k
 | _=>none
def AN:List D->Option (List Int)
 | []=>some []
 | d::r=>(HM d).bind λk=>(AN r).map λl=>k::l
def GF:List Int->Bool
 | a::b::r=>decide (a<b) && GF (b::r)
 | _=>true
def HG(ks:List Int):Nat:=(ks.dropLast.filter λk=>decide<|k<ks.getLast?.getD 0).length
def HN(q:Nat)(ds:List D):List D:=ds.dropLast.take q++(ds.drop (ds.length - 1)++ds.dropLast.drop q)
def Eg(ds:List D):Option (List D):=(AN ds).bind λks=>if (1<=ds.length/\ds.length<=8)/\GF ks.dropLast=true/\decide (ks.getLast?.getD 0∈ks.dropLast)=false then some (HN (HG ks) ds)else none
def Eh(f:CO (Sk×List D))(γ:Ctx):Option (List D):=(f γ).bind λa=>match a.1 with
 | .L=>Eg a.2
 | _=>none
def Fj:D->Bool
 | .tup _=>false
 | .lst _=>false
 | .dic _ _=>false
 | .dct _ _=>false
 | _=>true
end DL
namespace L2
open PySem PySem.Spec PyProof.Rows
def ItAt(k:Sk)(h:Heap)(i l:Addr)(n:Nat):Prop:=match k with
 | .L=>h.IsListIter i l n
 | .T=>h.IsTupleIter i l n
def SqAt(k:Sk)(h:Heap)(l:Addr)(xs:Array Value):Prop:=match k with
 | .L=>h.IsList l xs
 | .T=>h.IsTuple l xs
def itO(k:Sk)(l:Addr):Obj:=match k with
 | .L=>{cls:= .type "list_iterator",data:= .fields #[.ref l,.int 0 0]}
 | .T=>{cls:= .type "tuple_iterator",data:= .fields #[.ref l,.int 0 0]}
theorem ItAt.at(x:ItAt k h i l n)(e : ∀o,h.get? i=some o->h'.get? i=some o):ItAt k h' i l n:=by cases k<;>exact let ⟨o,z,r⟩:=x;⟨o,e _ z,r⟩
theorem SqAt.at(x:SqAt k h l xs)(e : ∀o,h.get? l=some o->h'.get? l=some o):SqAt k h' l xs:=by cases k<;>exact let ⟨o,z,r⟩:=x;⟨o,e _ z,r⟩
theorem ItAt.obj(x:ItAt k h i l n) : ∃o,h.get? i=some o/\∀v,o.data ≠ .cell v:=by cases k<;>exact let ⟨o,I,_,d⟩:=x;⟨o,I,λv z=>by rw[d]at z;cases z⟩
theorem SqAt.lt(x:SqAt k h l xs):l<h.objs.size:=by cases k<;>exact let ⟨o,z,_⟩:=x;IL z
theorem J3(k:Sk)(h:Heap)(l:Addr):ItAt k (h.push<|itO k l) h.objs.size l 0:=by cases k<;>exact⟨_,IR _ rfl,rfl,rfl⟩
section
variable{prog:Program}{w:World}{A:Around}{E:RQ}{s:Shared}
theorem Kz(z:SqAt k s.heap l xs)(I:Q (.ref s.heap.objs.size) {s with heap:=s.heap.push (itO k l)}):wpAny (model prog w) A (pyIter<|.ref l) Q E s:=by
 cases k
 ·exact Rm z I
 ·exact ON z I
theorem vj(O:ItAt k s.heap it l i)(U:SqAt k s.heap l items)(hx:items[i]? = some x)
 (Y : ∀h',ItAt k h' it l (i+1)->NG it s.heap h'->Q x {s with heap:=h'}):wpAny (model prog w) A (Ll<|.ref it) Q E s:=by
 cases k with
 | L=>exact wpAny_nextOf_list_item O U hx Y
 | T=>
  have I:s.heap.IsTupleIter it l i:=O;obtain⟨o,z,hc,hd⟩:=id I;obtain⟨ol,a1,_,nl,a2⟩:=(show s.heap.IsTuple l items from U);unfold Ll;refine Iq (Ml (name:=LR "__next__") I.typeIs OC (ME OC I.typeIs entry_tupleiter_next ?_ (args_tupleiter_next _)));refine Iq (m:=field (.ref it) 0) (LV z hd (x:= .ref l) rfl ?_);show wpAny _ _ (if (Lq l==Nk)=true then _ else _) _ _ s;rw[EQ (show ¬((Lq l==Nk)=true)from IE)];refine Iq (m:=field (.ref it) 1) (LV z hd (x:= .int i 0) rfl ?_);refine Iq (m:=seqItems? (.ref l)) (MI a1 a2 ?_);simp only[Mh,hx];refine Iq (wpAny_setField z hd ⋯ (IA ⟨x,rfl,IA (Y _ ?_ (NG.update ..))⟩));show Heap.IsTupleIter _ it l (i+1);exact⟨_,Heap.get?_update_self _ z (Obj.isFreed_of_fields (PN hd _)),(Obj.cls_mapFields ..).trans hc,by rw[PN hd];simp[rawInt]⟩
theorem Xh(z:A.handled=none)(U:ItAt k s.heap it l i)(Y:SqAt k s.heap l items)(hx:items[i]? = none)
 (hE : ∀h' e,Heap.ExtBut it s.heap h'->(∃o,h'.get? e=some o/\o.cls = .type "StopIteration")->E (.ref e) {s with heap:=h'}):wpAny (model prog w) A (Ll (.ref it)) Q E s:=by
 cases k with
 | L=>exact wpAny_nextOf_list_end z U Y hx hE
 | T=>
  have I:s.heap.IsTupleIter it l i:=U;obtain⟨o,O,hc,hd⟩:=id I;obtain⟨ol,a1,_,nl,a2⟩:=(show s.heap.IsTuple l items from Y);unfold Ll;refine Iq (Ml (name:=LR "__next__") I.typeIs OC (ME OC I.typeIs entry_tupleiter_next ?_ (args_tupleiter_next _)));refine Iq (m:=field (.ref it) 0) (LV O hd (x:= .ref l) rfl ?_);show wpAny _ _ (if (Lq l==Nk)=true then _ else _) _ _ s;rw[EQ (show ¬((Lq l==Nk)=true)from IE)];refine Iq (m:=field (.ref it) 1) (LV O hd (x:= .int i 0) rfl ?_);refine Iq (m:=seqItems? (.ref l)) (MI a1 a2 ?_);simp only[Mh,hx];refine Iq (Ox (Iq (wpAny_setField O hd ⋯ ?_)));refine Iq (m:=newExc (.type "StopIteration") []) ?_;simp only[newExc,newTuple];refine Iq (Mj ?_ (by size_fits));refine Iq (m:=firstArgMember _ _) (wpAny_of_eq (a:=Nk) (by first | rfl | (simp only[firstArgMember];rfl)) ?_);refine Mj ?_ (by size_fits);simp only[raiseNew];refine Iq (wpAny_handled ?_)
  first | rw[show A.in1.handled=none from z] | rw[z]
  exact Iq<|IA<|wpAny_throw<|hE _ _ (((NG.update ..).extBut.push _).push _) ⟨_,IR _ rfl,rfl⟩
theorem aW{k1 k2:Sk}{z TI TO O U l1 l2:Addr}{n1 n2:Nat}{xs ys:Array Value}{x y a b:Value}{Q:RQ}(D:ZipApart z TI TO O U l1 l2)
 (hz:IsZip s.heap z TI TO .none) (bl:IsPair s.heap TI (.ref O) (.ref U)) (bm:IsPair s.heap TO a b)
 (h1:ItAt k1 s.heap O l1 n1) (h2:ItAt k2 s.heap U l2 n2) (bn:SqAt k1 s.heap l1 xs) (bv:SqAt k2 s.heap l2 ys) (hx:xs[n1]? = some x) (hy:ys[n2]? = some y)
 (hQ : ∀h',IsZip h' z TI TO (rawInt s.heap.objs.size)->IsPair h' TO x y->ItAt k1 h' O l1 (n1+1)->ItAt k2 h' U l2 (n2+1)->IsPair h' s.heap.objs.size x y->h'.objs.size=s.heap.objs.size+1->
   (∀c o,c≠z->c≠TO->c≠O->c≠U->s.heap.get? c=some o->h'.get? c=some o)->Q (.ref s.heap.objs.size) {s with heap:=h'}) :
 wpAny (model prog w) A (Builtin.«zip.__next__» ⟨[.ref z],[]⟩) (λc6 s'=>∃v,c6 = .done (.ret v)/\Q v s') E s:=by
 refine Iq (m:=field (.ref z) 2)<|LV hz rfl (x:= .bool false) rfl ?_;refine Iq (m:=field (.ref z) 3)<|LV hz rfl (x:= .ref TI) rfl ?_;refine Iq<|MI bl rfl ?_;refine Iq (m:=LI<|.ref z) ?_;unfold LI;refine Iq<|LV hz rfl (x:= .none) rfl<|IA ?_;simp only[if_true];refine Iq<|Ox<|Iq<|LV hz rfl (x:= .ref TO) rfl ?_;refine Iq<|Ms hz ⋯ λg1 am Y=>?_;replace am:IsZip g1 z TI TO .ellipsis:=am;refine Iq ?_;simp only[List.zipIdx_cons,List.zipIdx_nil,List.forIn_cons,List.forIn_nil];refine Iq<|Iq<|Rh ?_;refine Iq (m:=Ll<|.ref O)<|vj (h1.at λo e=>Y.extBut _ _ D.i1z e) (bn.at λo e=>Y.extBut _ _ D.l1z e) hx λg2 c8 a1=>IA ?_;have b9:IsPair g2 TO a b:=a1.extBut _ _ D.TOi1<|Y.extBut _ _ D.TOz bm;refine Iq<|MI b9 rfl<|Iq<|PL b9 λg3 an a2=>?_;replace an:IsPair g3 TO x b:=an;refine Iq<|wpAny_letGo<|IA<|Iq<|Iq<|Rh ?_;refine Iq (m:=Ll<|.ref U)<|vj (h2.at λo e=>a2.extBut _ _ D.TOi2.symm<|a1.extBut _ _ D.i12.symm<|Y.extBut _ _ D.i2z e) (bv.at λo e=>a2.extBut _ _ D.l2TO<|a1.extBut _ _ D.l2i1<|Y.extBut _ _ D.l2z e) hy λg4 cb a4=>IA ?_;have bb:IsPair g4 TO x b:=a4.extBut _ _ D.TOi2 an;refine Iq<|MI bb rfl<|Iq<|PL bb λI aa a5=>?_;replace aa:IsPair I TO x y:=aa;refine Iq<|wpAny_letGo<|IA<|IA<|Iq<|MI aa rfl<|Iq<|wpAny_newTuple ?_;have hsz:I.objs.size=s.heap.objs.size:=by rw[a5.1,a4.1,a2.1,a1.1,Y.1]
 have bd:IsZip I z TI TO .ellipsis:=a5.extBut _ _ D.TOz.symm (a4.extBut _ _ D.i2z.symm (a2.extBut _ _ D.TOz.symm (a1.extBut _ _ D.i1z.symm am)));have cd : ∀c o,c≠z->c≠TO->c≠O->c≠U->s.heap.get? c=some o->I.get? c=some o:=λc o c1 c2 c3 c4 e=>a5.extBut _ _ c2 (a4.extBut _ _ c4 (a2.extBut _ _ c2 (a1.extBut _ _ c3 (Y.extBut _ _ c1 e))));have ce:ItAt k1 I O l1 (n1+1):=c8.at λo e=>a5.extBut _ _ D.TOi1.symm (a4.extBut _ _ D.i12 (a2.extBut _ _ D.TOi1.symm e));have cf:ItAt k2 I U l2 (n2+1):=cb.at λo e=>a5.extBut _ _ D.TOi2.symm e;have be:z<I.objs.size:=IL bd;refine Iq (m:=MD (.ref z) (.ref I.objs.size)) ?_;unfold MD;have ch:IsZip (I.push {cls:= .type "tuple",data:= .seq #[x,y]}) z TI TO .ellipsis:=Ir _ bd;refine Iq (Ms ch ⋯ λg7 as ax=>?_);replace as:IsZip g7 z TI TO (rawInt I.objs.size):=as;refine Ms as ⋯ λg8 ae b0=>?_;replace ae:IsZip g8 z TI TO (rawInt I.objs.size):=ae;have up : ∀c o,c≠z->I.get? c=some o->g8.get? c=some o:=λc o c1 e=>b0.extBut _ _ c1 (ax.extBut _ _ c1 (Ir _ e));have bg:IsPair g8 I.objs.size x y:=b0.extBut _ _ (MJ be) (ax.extBut _ _ (MJ be) (IR _ rfl));have bi:g8.objs.size=I.objs.size+1:=by rw[b0.1,ax.1,Ls]
 rw[hsz]at ae bg bi;refine IA ⟨_,rfl,?_⟩;show Q (.ref I.objs.size) _;rw[hsz];exact hQ g8 ae (up _ _ D.TOz aa) (ce.at λo e=>up _ o D.i1z e) (cf.at λo e=>up _ o D.i2z e) bg bi λc o c1 c2 c3 c4 e=>up c o c1<|cd c o c1 c2 c3 c4 e
theorem gn{k1 k2:Sk}{z TI TO U i2 l1 l2:Addr}{n1 n2:Nat}{xs ys:Array Value}{a b:Value}{Q:Fin->Shared->Prop}(hh:A.handled=none)(D:ZipApart z TI TO U i2 l1 l2)
 (hz:IsZip s.heap z TI TO .none) (b0:IsPair s.heap TI (.ref U) (.ref i2)) (b9:IsPair s.heap TO a b)
 (h1:ItAt k1 s.heap U l1 n1) (h2:ItAt k2 s.heap i2 l2 n2) (am:SqAt k1 s.heap l1 xs) (bb:SqAt k2 s.heap l2 ys) (bd:xs[n1]? = none\/ys[n2]? = none)
 (hE : ∀h' e,(∀c o,c≠z->c≠TO->c≠U->c≠i2->s.heap.get? c=some o->h'.get? c=some o)->(∃o,h'.get? e=some o/\o.cls = .type "StopIteration")->E (.ref e) {s with heap:=h'}) :
 wpAny (model prog w) A (Builtin.«zip.__next__» ⟨[.ref z],[]⟩) Q E s:=by
 refine Iq (m:=field (.ref z) 2) (LV hz rfl (x:= .bool false) rfl ?_);refine Iq (m:=field (.ref z) 3) (LV hz rfl (x:= .ref TI) rfl ?_);refine Iq (MI b0 rfl ?_);refine Iq (m:=LI (.ref z)) ?_;unfold LI;refine Iq (LV hz rfl (x:= .none) rfl (IA ?_));simp only[if_true];refine Iq (Ox (Iq (LV hz rfl (x:= .ref TO) rfl ?_)));refine Iq (Ms hz ⋯ λg1 a6 I=>?_);replace a6:IsZip g1 z TI TO .ellipsis:=a6;refine Iq ?_;simp only[List.zipIdx_cons,List.zipIdx_nil,List.forIn_cons,List.forIn_nil];refine Iq (Iq (Rh ?_));have an : ∀{g e:_} {oe:Obj},IsZip g z TI TO .ellipsis->(∀c o,c≠z->c≠TO->c≠U->c≠i2->s.heap.get? c=some o->g.get? c=some o)->g.get? e=some oe->oe.cls = .type "StopIteration"->
  wpAny (model prog w) A (setField (.ref z) 0 .none) (λ_ s'=>E (.ref e) s') E {s with heap:=g}:=λ{g e oe} ap hk Y a3=>by
  have bi:e≠z:=λq=>by subst q;rw[ap]at Y;cases Y;simp at a3
  exact Ms ap ⋯ λg3 _ a0=>hE g3 e (λc o c1 c2 c3 c4 q=>a0.extBut _ _ c1<|hk c o c1 c2 c3 c4 q) ⟨oe,a0.extBut _ _ bi Y,a3⟩
 cases hx:xs[n1]? with
 | none=>
  refine Iq (m:=Ll<|.ref U)<|Xh hh (h1.at λo e=>I.extBut _ _ D.i1z e) (am.at λo e=>I.extBut _ _ D.l1z e) hx λg2 e O he=>?_;obtain⟨oe,Y,a3⟩:=he;exact an (O _ _ D.i1z.symm a6) (λc o c1 _ c3 _ q=>O _ _ c3<|I.extBut _ _ c1 q) Y a3
 | some x=>
  have hy:ys[n2]? = none:=by rcases bd with h | h;rw[hx]at h;cases h;exact h
  refine Iq (m:=Ll<|.ref U)<|vj (h1.at λo e=>I.extBut _ _ D.i1z e) (am.at λo e=>I.extBut _ _ D.l1z e) hx λg2 bm O=>IA ?_;have as:IsPair g2 TO a b:=O.extBut _ _ D.TOi1<|I.extBut _ _ D.TOz b9;refine Iq<|MI as rfl<|Iq<|PL as λg3 bn a0=>?_;refine Iq<|wpAny_letGo<|IA<|Iq<|Iq<|Rh ?_;refine Iq (m:=Ll<|.ref i2)<|Xh hh (h2.at λo e=>a0.extBut _ _ D.TOi2.symm<|O.extBut _ _ D.i12.symm<|I.extBut _ _ D.i2z e) (bb.at λo e=>a0.extBut _ _ D.l2TO<|O.extBut _ _ D.l2i1<|I.extBut _ _ D.l2z e) hy λg4 e ax he=>?_;obtain⟨oe,Y,a3⟩:=he;exact an (ax _ _ D.i2z.symm<|a0.extBut _ _ D.TOz.symm<|O.extBut _ _ D.i1z.symm a6) (λc o c1 c2 c3 c4 q=>ax _ _ c4<|a0.extBut _ _ c2<|O.extBut _ _ c3<|I.extBut _ _ c1 q) Y a3
end
def vX(a b:Value):Obj:={cls:= .type "tuple",data:= .seq #[a,b]}
def CB(TI TO:Addr):Obj:={cls:= .type "zip",data:= .fields #[.none,.bool false,.bool false,.ref TI,.ref TO]}
def Jp(z I:Sk)(h:Heap)(O l2:Addr):Heap:=
 LM (LM (LM (LM (LM h<|itO z O)<|itO I l2)<|vX (.ref h.objs.size)<|.ref<|h.objs.size+1)<|vX .none .none) (CB (h.objs.size+2)<|h.objs.size+3)
theorem gk(I O:Sk)(z l2:Addr)(xs ys:Array Value) :
 Meets (Builtin.«zip.__new__» ⟨[.type "zip",.ref z,.ref l2],[]⟩) (λ_ R s=>SqAt I s.heap z xs/\SqAt O s.heap l2 ys/\
  R (.ok<|.ret<|.ref<|s.heap.objs.size+4) {s with heap:=Jp I O s.heap z l2}):=
 .of_wp λprog w A R s h=>by
  obtain⟨U,g,d,Y,os⟩:=s;obtain⟨a0,a1,h⟩:=h;have a4:=sub_zip;have a2:SqAt I (Shared.heap ⟨U,g,d,Y,os⟩) z xs:=a0;have a3:SqAt O (Shared.heap ⟨U.push<|itO I z,g,d,Y,os⟩) l2 ys:=a1.at λo e=>Ir _ e
  wp_walk using Kz a2,Kz a3
  refine⟨_,rfl,?_⟩;simp only[Jp,vX,CB,Ls]at h ⊢;exact h
section
variable{X:Cx}{pins:RW}{σ:St}{H:Hp}{s:Shared}{h':Heap}
theorem Inv.turnLaid{t':Nat}{fp:List Addr}{a:Addr}{o:HO}(I:Inv X pins σ H s)(k : ∀b u,b∉fp->s.heap.get? b=some u->h'.get? b=some u)(U : ∀b∈fp,Wr X pins H b)
 (Y:s.heap.objs.size<=a) (new:ObjOk X.prog X.w (upd H a o) h' a o):Inv X pins σ (upd H a o) {s with heap:=h',toks:=t'}:=by
 have ha:H a=none:=I.hok.fresh Y;have a0 : ∀b u,H b=some u->b∉fp:=λb u e z=>by rw[(U b z).1]at e;cases e
 have a1 : ∀b u,s.heap.get? b=some u->b≠a:=λb u e=>Ln<|IW (IL e) Y;refine I.step (g':=s.gens) (d':=s.drawn) (ch:=fp) (λb hb=>⟨(U b hb).2.2.2.1,(U b hb).2.1,(U b hb).2.2.2.2.1,(U b hb).2.2.2.2.2⟩) (λb u _ _ O e _=>k b u O e) (λb u _ _ O e _=>⟨u.slots,k b u O e⟩)
  (λb u _ e n=>by rw[zL (a1 b u e)];exact n) (λb u O e=>⟨u,k b u O e⟩) (λb xs e=>by rw[zL (jQ e ha)];exact e) (λb ob xs e=>by rw[zL (jQ e ha)];exact e)
  (λb ps e=>⟨#[],by rw[zL (jQ e ha),e];simp⟩) (λm hm=>?_) (λb u e=>?_) I.bare
 ·obtain⟨ob,es,ep,ho,r⟩:=hm
  refine⟨ob,es,ep,k _ ob (λz=>(U _ z).2.1 rfl) ho,r⟩
 ·by_cases hb:b=a
  ·subst hb;rw[zJ]at e;cases e;exact new
  ·rw[zL hb]at e
   refine(I.hok b u e).stay (λc v O q=>k c v ?_ q) (λc q=>by rw[zL (jQ q ha)];exact q) λc xs q=>by rw[zL (jQ q ha)];exact q
   rcases O with z | z
   ·rw[z];exact a0 b u e
   ·exact a0 c _ z
theorem Inv.turnedL{t':Nat}{fp:List Addr}(I:Inv X pins σ H s)(k : ∀b u,b∉fp->s.heap.get? b=some u->h'.get? b=some u)(U : ∀b∈fp,Wr X pins H b):Inv X pins σ H {s with heap:=h',toks:=t'}:=by
 have Y : ∀b u,H b=some u->b∉fp:=λb u e z=>by rw[(U b z).1]at e;cases e
 refine I.step (g':=s.gens) (d':=s.drawn) (ch:=fp) (λb hb=>⟨(U b hb).2.2.2.1,(U b hb).2.1,(U b hb).2.2.2.2.1,(U b hb).2.2.2.2.2⟩) (λb u _ _ O e _=>k b u O e) (λb u _ _ O e _=>⟨u.slots,k b u O e⟩)
  (λb u _ e n=>n) (λb u O e=>⟨u,k b u O e⟩) (λb xs e=>e) (λb ob xs e=>e)
  (λb ps e=>⟨#[],by rw[e];simp⟩) (λm hm=>?_) (λb u e=>?_) I.bare
 ·obtain⟨ob,es,ep,ho,r⟩:=hm
  refine⟨ob,es,ep,k _ ob (λz=>(U _ z).2.1 rfl) ho,r⟩
 ·refine(I.hok b u e).stay (λc v O q=>k c v ?_ q) (λc q=>q) λc xs q=>q
  rcases O with z | z
  ·rw[z];exact Y b u e
  ·exact Y c _ z
end
def SqK(k:Sk)(K:Ip)(H:Hp)(a:Addr)(xs:List V):Prop:=match k with
 | .L=>SqL K H a xs
 | .T=>SqT K H a xs
theorem Inv.sq(I:Inv X pins σ H s)(h:SqK k X.K H a xs) :
 ∃O:List Value,Vals xs O/\SqAt k s.heap a O.toArray/\xs.length<=sizeLine:=by
 cases k with
 | L=>obtain⟨O,r,p,z⟩:=I.list h;exact⟨O,r,p.isList,z⟩
 | T=>obtain⟨O,r,p,z⟩:=I.tuple h;exact⟨O,r,p,z⟩
theorem Inv.sq_inj(I:Inv X pins σ H s)(h:SqK k X.K H a xs)(h':SqK k X.K H a ys):xs=ys:=by
 cases k with
 | L=>exact I.list_inj h h'
 | T=>exact I.tuple_inj h h'
def Itz(z I:Sk)(K:Ip)(a b:Addr):It:=
 ⟨λi H=>∃xs ys,SqK z K H a xs/\SqK I K H b ys/\i<xs.length/\i<ys.length,
  λi H x H'=>∃p u v,x = .ref p/\H p=none/\H'=upd H p (.tup [u,v])/\(∀xs,SqK z K H a xs->xs[i]? = some u)/\(∀ys,SqK I K H b ys->ys[i]? = some v),
  λi H=>∃xs ys,SqK z K H a xs/\SqK I K H b ys/\(xs.length<=i\/ys.length<=i)⟩
theorem gw{P:Program}{w:World}{K:Ip}{elts:List Expr}{x1:Nat}{tpos:Pos}(k1 k2:Sk){z TI TO Y i2 a b:Addr}(D:ZipApart z TI TO Y i2 a b) :
 Turn P w K (.Tuple elts x1 tpos) (Itz k1 k2 K a b) [z,TI,TO,Y,i2] z (λi h=>IsZip h z TI TO .none/\IsPair h TI (.ref Y) (.ref i2)/\(∃c d,IsPair h TO c d)/\ItAt k1 h Y a i/\ItAt k2 h i2 b i) where
 mem:=by simp
 obj:=λi h ⟨hz,U,⟨c,d,a8⟩,h1,h2⟩ y hy=>by
  simp only[IG,Li,or_false]at hy;rcases hy with rfl | rfl | rfl | rfl | rfl
  ·exact⟨_,hz,λv q=>by cases q⟩
  ·exact⟨_,U,λv q=>by cases q⟩
  ·exact⟨_,a8,λv q=>by cases q⟩
  ·exact h1.obj
  ·exact h2.obj
 keep:=λi h h' ⟨hz,U,⟨c,d,a8⟩,h1,h2⟩ k=>
  ⟨k z ⋯ _ hz,k TI ⋯ _ U,⟨c,d,k TO ⋯ _ a8⟩,h1.at λo e=>k Y ⋯ o e,h2.at λo e=>k i2 ⋯ o e⟩
 item:=by
  rintro X hP hw hK hc i pins s σ H E I hf ⟨hz,U,⟨c,d,a8⟩,h1,h2⟩ ⟨xs,ys,ag,am,bg,bi⟩;subst hP hw hK;obtain⟨bl,ar,p1,z1⟩:=I.sq ag;obtain⟨bm,ax,p2,z2⟩:=I.sq am;have hx:xs[i]? = some xs[i]:=Iv bg;have hy:ys[i]? = some ys[i]:=Iv bi;obtain⟨u1,bn,bv⟩:=ar.get hx;obtain⟨u2,c0,c1⟩:=ax.get hy;have hT:s.TypeIs (.ref z) "zip":=⟨_,hz,rfl⟩;unfold pyNext;refine Iq (Ri (Ml (name:=LR "__next__") hT Pj (ME Pj hT F.entry_zip_next
   (aW D hz U a8 h1 h2 p1 p2 (x:=u1) (y:=u2) (by simpa using bn) (by simpa using c0) λg a1 a2 a3 a4 a5 a6 a7=>IA ⟨_,rfl,?_⟩) (F.args_zip_next_1 _))))
  refine wpAny_letOwnedTupleGo_zip a1 λg2 c7 a9=>?_;have lt : ∀{c o},s.heap.get? c=some o->s.heap.objs.size≠c:=λe=>MJ<|IL e;have c8:IsPair g2 s.heap.objs.size u1 u2:=a9.extBut _ _ (lt hz) a5;have kk : ∀O u,O ∉ [z,TI,TO,Y,i2]->s.heap.get? O=some u->g2.get? O=some u:=λO u hb e=>by simp only[IG,Li,or_false,not_or]at hb;exact a9.extBut _ _ hb.1<|a7 O u hb.1 hb.2.2.1 hb.2.2.2.1 hb.2.2.2.2 e
  have I1:Inv X pins σ (upd H s.heap.objs.size<|.tup [xs[i],ys[i]]) {s with heap:=g2,toks:=s.toks}:=
   I.turnLaid (fp:=[z,TI,TO,Y,i2]) kk hf (IC _) ⟨by show 2<=sizeLine;decide,[u1,u2],.cons bv<|.cons c1 .nil,⟨_,c8,rfl,_,rfl⟩⟩
  have ca:H s.heap.objs.size=none:=I.fresh;refine⟨.ref s.heap.objs.size,_,I1,rfl,⟨_,_,_,rfl,ca,rfl,λch b0=>by rw[I.sq_inj b0 ag];exact hx,λci b0=>by rw[I.sq_inj b0 am];exact hy⟩,?_,λO hb=>?_⟩
  ·exact⟨c7,a9.extBut _ _ D.TIz<|a7 _ _ D.TIz D.TITO D.TIi1 D.TIi2 U,⟨_,_,a9.extBut _ _ D.TOz a2⟩,a3.at λo e=>a9.extBut _ _ D.i1z e,a4.at λo e=>a9.extBut _ _ D.i2z e⟩
  ·have cb:O≠s.heap.objs.size:=by
    simp only[IG,Li,or_false]at hb;rcases hb with rfl | rfl | rfl | rfl | rfl
    ·exact(lt hz).symm
    ·exact(lt U).symm
    ·exact(lt a8).symm
    ·obtain⟨o,e,_⟩:=h1.obj;exact(lt e).symm
    ·obtain⟨o,e,_⟩:=h2.obj;exact(lt e).symm
   rw[zL cb];exact(hf O hb).1
 done:=by
  rintro X hP hw hK hc i pins s σ H E I hf ⟨hz,U,⟨c,d,a8⟩,h1,h2⟩ ⟨xs,ys,ag,am,hi⟩;subst hP hw hK;obtain⟨bl,ar,p1,z1⟩:=I.sq ag;obtain⟨bm,ax,p2,z2⟩:=I.sq am;have hT:s.TypeIs (.ref z) "zip":=⟨_,hz,rfl⟩;have l1:=ar.length;have l2:=ax.length;unfold pyNext;refine Iq (Ri (Ml (name:=LR "__next__") hT Pj (ME Pj hT F.entry_zip_next
   (gn (show X.A.handled=none from I.ok.hd hc) D hz U a8 h1 h2 p1 p2 (by rcases hi with q | q;left;simp;omega;right;simp;omega) λg e hk he=>?_) (F.args_zip_next_1 _))))
  obtain⟨o,ho,ce⟩:=he;refine Iq (Ro (T:="StopIteration") (b:=true) ⟨o,ho,ce⟩ isSubtype_stop (IA ⟨rfl,?_⟩));refine I.turnedL (t':=s.toks) (fp:=[z,TI,TO,Y,i2]) (λO u hb e=>?_) hf;simp only[IG,Li,or_false,not_or]at hb;exact hk O u hb.1 hb.2.2.1 hb.2.2.2.1 hb.2.2.2.2 e
 self:=λ_ _ _ _ _ st h=>wpAny_pyIter_zip st.1 h
def HP(K:Ip)(ta:TA):TI:=λσ H R=>ta σ H λvs H1=>∃z I a b,vs=[.ref a,.ref b]/\(∃xs,SqK z K H1 a xs)/\(∃ys,SqK I K H1 b ys)/\R (Itz z I K a b) H1
theorem uS{X:Cx}{e1 U:Expr}{ta:TA}{p pos:Pos}{elts:List Expr}{x1:Nat}{tpos:Pos}(hg:Gl X "zip")(hm:X.mg "zip" = none)(ha:PA X [e1,U] ta)
 (hv:bootBuiltins "zip" = some (.type "zip")) (hs:starEach [e1,U] X.env=[(false,eval e1 X.env),(false,eval U X.env)]:=by rfl) (a3:starEach [U] X.env=[(false,eval U X.env)]:=by rfl) :
 PI X (.Tuple elts x1 tpos) (.Call (.Name "zip" p) [e1,U] [] pos) (HP X.K ta):=by
 intro pins s σ H R I h;refine Call_ (yC I hg hm hv<|Ma (thn (ha pos pins s σ H _ I h) λus s1 hZ=>?_) (by rw[hs,a3])<|by rw[a3];rfl);obtain⟨vs,H1,Y,r1,q1⟩:=hZ;obtain⟨z,O,a,b,e,⟨xs,an⟩,⟨ys,ap⟩,q⟩:=q1;subst e;obtain⟨w1,w2,eu,as,ax⟩:=sY r1;subst eu;cases as;cases ax;obtain⟨b0,bl,p1,z1⟩:=Y.sq an;obtain⟨b9,bm,p2,z2⟩:=Y.sq ap;have la:=p1.lt;have lb:=p2.lt;refine callType_new F.called_zip ⋯ (F.typeCall_zip_2 _ _) (F.newCall_zip_2 _ _) (λobj=>F.args_object_init_3 obj _ _) F.entry_zip_new (gk z O a b b0.toArray b9.toArray) ⟨p1,p2,?_⟩;have keep : ∀c o,s1.heap.get? c=some o->(Jp z O s1.heap a b).get? c=some o:=λc o e=>
  Ir _ (Ir _<|Ir _<|Ir _<|Ir _ e)
 have y1:(LM s1.heap<|itO z a).objs.size=s1.heap.objs.size+1:=Ls ..;have y2:(LM (LM s1.heap<|itO z a)<|itO O b).objs.size=s1.heap.objs.size+2:=by rw[Ls,y1]
 have y3:(LM (LM (LM s1.heap<|itO z a)<|itO O b)<|vX (.ref s1.heap.objs.size)<|.ref<|s1.heap.objs.size+1).objs.size=s1.heap.objs.size+3:=by rw[Ls,y2]
 have y4:(LM (LM (LM (LM s1.heap<|itO z a)<|itO O b)<|vX (.ref s1.heap.objs.size)<|.ref<|s1.heap.objs.size+1)<|vX .none .none).objs.size=s1.heap.objs.size+4:=by rw[Ls,y3]
 have g0:ItAt z (Jp z O s1.heap a b) s1.heap.objs.size a 0:=(J3 z s1.heap a).at λo e=>Ir _<|Ir _<|Ir _<|Ir _ e;have g1:ItAt O (Jp z O s1.heap a b) (s1.heap.objs.size+1) b 0:=by have q:=J3 O (LM s1.heap<|itO z a) b;rw[y1]at q;exact q.at λo e=>Ir _<|Ir _<|Ir _ e
 have g2:IsPair (Jp z O s1.heap a b) (s1.heap.objs.size+2) (.ref s1.heap.objs.size) (.ref<|s1.heap.objs.size+1):=by have q:_=some (vX (.ref s1.heap.objs.size)<|.ref<|s1.heap.objs.size+1):=IR (LM (LM s1.heap<|itO z a)<|itO O b) (o:=vX (.ref s1.heap.objs.size)<|.ref<|s1.heap.objs.size+1) rfl;rw[y2]at q;exact Ir _<|Ir _ q
 have g3:IsPair (Jp z O s1.heap a b) (s1.heap.objs.size+3) .none .none:=by have q:_=some (vX .none .none):=IR (LM (LM (LM s1.heap<|itO z a)<|itO O b)<|vX (.ref s1.heap.objs.size)<|.ref<|s1.heap.objs.size+1) (o:=vX .none .none) rfl;rw[y3]at q;exact Ir _ q
 have g4:IsZip (Jp z O s1.heap a b) (s1.heap.objs.size+4) (s1.heap.objs.size+2) (s1.heap.objs.size+3) .none:=by have q:=IR (LM (LM (LM (LM s1.heap<|itO z a)<|itO O b)<|vX (.ref s1.heap.objs.size)<|.ref<|s1.heap.objs.size+1)<|vX .none .none) (o:=CB (s1.heap.objs.size+2)<|s1.heap.objs.size+3) rfl;rw[y4]at q;exact q
 refine⟨⟨_,g4,rfl⟩,wpAny_pyIter_zip (s:={s1 with heap:=Jp z O s1.heap a b}) g4 ?_⟩;have I2:Inv X pins σ H1 {s1 with heap:=Jp z O s1.heap a b,toks:=s1.toks}:=Y.kept keep;have nn : ∀m:Nat,s1.heap.objs.size≠s1.heap.objs.size+m+1:=λm=>by omega
 have a0 : ∀m:Nat,a≠s1.heap.objs.size+m:=λm=>Ln<|IW la<|LW _ m;have a1 : ∀m:Nat,b≠s1.heap.objs.size+m:=λm=>Ln<|IW lb<|LW _ m;have ne : ∀m n:Nat,m≠n->(s1.heap.objs.size+m:Nat)≠s1.heap.objs.size+n:=λm n h=>by omega
 have D:ZipApart (s1.heap.objs.size+4) (s1.heap.objs.size+2) (s1.heap.objs.size+3) s1.heap.objs.size (s1.heap.objs.size+1) a b:=
  ⟨ne 2 4 ⋯,ne 3 4 ⋯,ne 0 4 ⋯,ne 1 4 ⋯,ne 2 3 ⋯,ne 2 0 ⋯,ne 2 1 ⋯,ne 3 0 ⋯,ne 3 1 ⋯,ne 0 1 ⋯,
   a0 4,a0 3,a0 0,a0 1,a1 4,a1 3,a1 0,a1 1⟩
 refine⟨_,[s1.heap.objs.size+4,s1.heap.objs.size+2,s1.heap.objs.size+3,s1.heap.objs.size,s1.heap.objs.size+1],_,_,H1,rfl,I2,gw z O D,⟨g4,g2,⟨_,_,g3⟩,g0,g1⟩,λc hc=>?_,q⟩;have a9:s1.heap.objs.size<=c:=by
  simp only[IG,Li,or_false]at hc;rcases hc with rfl | rfl | rfl | rfl | rfl
  ·exact LW _ _
  ·exact LW _ _
  ·exact LW _ _
  ·exact IC _
  ·exact LW _ _
 exact Y.fpOk a9<|Y.hok.fresh a9
def Itk(k:Sk)(K:Ip)(a:Addr):It:=match k with
 | .L=>Itl K a
 | .T=>Itt K a
def HQ(K:Ip)(tl:TE):TI:=λσ H R=>tl σ H λx H1=>∃a k,x = .ref a/\(∃xs,SqK k K H1 a xs)/\R (Itk k K a) H1
theorem mM(U:PE X l tl):PI X tg l (HQ X.K tl):=by
 intro pins s σ H R I h;refine thn (U pins s σ H _ I h) λv s1 Y=>?_;obtain⟨x,H1,z,r1,q1⟩:=Y;obtain⟨a,k,e,⟨xs,hq⟩,q⟩:=q1;subst e;cases r1;have O : ∀b ∈ [s1.heap.objs.size],Wr X pins H1 b:=λb hb=>by
  have e:b=s1.heap.objs.size:=by simpa using hb
  subst e;exact z.fpOk (IC _)<|z.hok.fresh<|IC _
 obtain⟨a3,rv,p,hz⟩:=z.sq hq;cases k with
 | L=>exact Rm p ⟨s1.heap.objs.size,[s1.heap.objs.size],_,_,H1,rfl,z.kept (t':=s1.toks) λb o e=>Ir _ e,br a _,⟨_,IR _ rfl,rfl,rfl⟩,O,q⟩
 | T=>exact ON p ⟨s1.heap.objs.size,[s1.heap.objs.size],_,_,H1,rfl,z.kept (t':=s1.toks) λb o e=>Ir _ e,Wv a _,⟨_,IR _ rfl,rfl,rfl⟩,O,q⟩
section
variable{κ:Type} [DecidableEq κ]
def Vj(kvs:List (κ×V))(k:κ):Option V:=(kvs.find? λz=>decide<|z.1=k).map (·.2)
def gU(kvs:List (κ×V))(k:κ)(v:V):List (κ×V):=
 if (kvs.any λz=>decide<|z.1=k)=true then kvs.map (λz=>if z.1=k then (z.1,v)else z)else kvs++[(k,v)]
theorem QL{p:κ×V}{r:List (κ×V)}{k:κ}(e:p.1=k):Vj (p::r) k=some p.2:=by simp[Vj,MY,e]
theorem Vi{p:κ×V}{r:List (κ×V)}{k:κ}(e : ¬p.1=k):Vj (p::r) k=Vj r k:=by simp[Vj,MY,e]
theorem YF(kvs:List (κ×V))(k:κ)(v:V):(gU kvs k v).length<=kvs.length+1:=by
 unfold gU;split
 ·rw[IQ];omega
 ·rw[LD,Lj,Mz];omega
theorem RelO.isSome_eq(r:RelO o u):o.isSome=u.isSome:=by
 cases o with
 | none=>cases u with
  | none=>rfl
  | some _=>exact(show False from r).elim
 | some _=>cases u with
  | none=>exact(show False from r).elim
  | some _=>rfl
theorem KV.val{kvs:List (κ×V)}{vs:List (κ×Value)}(r:KV kvs vs)(k:κ):RelO (Vj kvs k) (valueAt vs k):=by
 unfold KV at r
 induction r with
 | nil=>exact MF
 | @cons p q ps I h t U=>
  obtain⟨h1,h2⟩:=h;by_cases e:p.1=k
  ·have O:q.1=k:=h1.symm.trans e
   have b:valueAt (q::I) k=some q.2:=by simp[valueAt,MY,O]
   rw[QL e,b];exact h2
  ·have O : ¬q.1=k:=λz=>e (h1.trans z)
   have b:valueAt (q::I) k=valueAt I k:=by simp[valueAt,MY,O]
   rw[Vi e,b];exact U
theorem KV.any(r:KV kvs vs)(k:κ):(kvs.any λz=>decide<|z.1=k)=vs.any λz=>decide (z.1=k):=by
 unfold KV at r
 induction r with
 | nil=>rfl
 | cons h t I=>rw[OO,OO,I,h.1]
theorem KV.repl(r:KV kvs vs)(k:κ)(O:RelV y u) :
 KV (kvs.map λI=>if I.1=k then (I.1,y)else I) (vs.map λI=>if I.1=k then (I.1,u)else I):=by
 unfold KV at r ⊢
 induction r with
 | nil=>exact .nil
 | @cons p q ps Y h t U=>
  rw[IS,IS];refine .cons ?_ U;obtain⟨h1,h2⟩:=h;by_cases e:p.1=k
  ·rw[RY e,RY (h1.symm.trans e)];exact⟨h1,O⟩
  ·rw[EQ e,EQ (λz=>e<|h1.trans z)];exact⟨h1,h2⟩
theorem KV.put(r:KV kvs vs)(k:κ)(z:RelV y u):KV (gU kvs k y) (stored vs k u):=by
 unfold gU stored;rw[r.any k];by_cases e:(vs.any λI=>decide<|I.1=k)=true
 ·rw[RY e,RY e];exact r.repl k z
 ·rw[EQ e,EQ e];exact Paired.snoc r ⟨rfl,z⟩
end
theorem iT(r:RelV (kV k) u):(qw P w).is k u=true:=by
 cases k with
 | inl i=>obtain⟨t,e⟩:=(show ∃t,u=PB i t from r);subst e;exact YB P w i t
 | inr x=>obtain⟨t,e⟩:=(show ∃t,u=OY x t from r);subst e;exact YA P w x t
theorem KA : ∀{ks:List Key} {us:List Value},Vals (ks.map kV) us->ItemsAre (qw P w) ks us
 | [],_,r=>by rw[Pa]at r;cases r;exact .nil
 | k::ks,_,r=>by
  rw[IS]at r;cases r with
  | cons h t=>exact .cons (iT h)<|KA t
abbrev KT(H:Hp):List (List Key×V)->List (List Key×Addr×Value)->Prop:=Paired λp q=>p.1=q.1/\H q.2.1=some (.tup (p.1.map kV))/\RelV p.2 q.2.2
theorem KT.val{H:Hp}{kvs:List (List Key×V)}{xs:List (List Key×Addr×Value)}(r:KT H kvs xs)(k:List Key):RelO (Vj kvs k) ((atKey xs k).map (·.2)):=by
 induction r with
 | nil=>exact MF
 | @cons p q ps I h t U=>
  obtain⟨h1,_,h2⟩:=h;by_cases e:p.1=k
  ·have O:q.1=k:=h1.symm.trans e
   have b:atKey (q::I) k=some q.2:=by simp[atKey,MY,O]
   rw[QL e,b];exact h2
  ·have O : ¬q.1=k:=λz=>e (h1.trans z)
   have b:atKey (q::I) k=atKey I k:=by simp[atKey,MY,O]
   rw[Vi e,b];exact U
section
variable{P:Program}{w:World}{H:Hp}{h:Heap}{a:Addr}
theorem ui(ok:HOk P w H h)(e:Rd H a u):ObjOk P w H h a u:=e.ok ok
theorem lA(ok:HOk P w H h)(e:Rd H a (.dK kvs)):kvs.length<=sizeLine/\(a==sysModules)=false/\∃vs,KV kvs vs/\h.DictOf (qw P w) a vs:=
 show ObjOk P w H h a (.dK kvs)from ui ok e
theorem Fo(ok:HOk P w H h)(e:H a=some (.dK kvs)):kvs.length<=sizeLine/\(a==sysModules)=false/\∃vs,KV kvs vs/\h.DictOf (qw P w) a vs:=lA ok<|.inl e
theorem dA(ok:HOk P w H h)(e:H a=some (.tup<|ks.map kV)):(tupleKind<|qw P w).is h ks a:=by obtain⟨_,z,r,o,h1,h2,n,I⟩:=(show ObjOk P w H h a (.tup<|ks.map kV)from ok a _ e);exact⟨o,z.toArray,n,h1,(Prod.mk.inj h2).1,I,by simpa using KA r⟩
theorem rM(ok:HOk P w H h)(e:Rd H a (.dT kvs)):kvs.length<=sizeLine/\(a==sysModules)=false/\
 ∃xs,KT H kvs xs/\h.DictOfH (tupleKind<|qw P w) a xs:=by
 obtain⟨z,y,xs,r,o,es,O,h1,h2,U,Y,h5⟩:=(show ObjOk P w H h a (.dT kvs)from ui ok e);refine⟨z,y,xs,r,o,es,O,h1,h2,U,Y,λx hx=>?_,h5⟩;have all : ∀{l:List (List Key×V)} {m:List (List Key×Addr×Value)},KT H l m->∀x∈m,(tupleKind<|qw P w).is h x.1 x.2.1:=by
  intro l m q
  induction q with
  | nil=>intro x hx;exact nomatch hx
  | @cons p q ps qs I t ih=>
   intro x hx;rcases IG.mp hx with e | hx
   ·subst e
    exact dA ok (by rw[<- I.1];exact I.2.1)
   ·exact ih x hx
 exact all r x hx
end
def BF(H:Hp)(a:Addr)(y:V)(r:Option V):Prop:=
 (∃kvs k,Rd H a (.dK kvs)/\y=kV k/\r=Vj kvs k)\/∃kvs k b,Rd H a (.dT kvs)/\y = .ref b/\H b=some (.tup<|k.map kV)/\r=Vj kvs k
section
variable{X:Cx}{pins:RW}{σ:St}{H:Hp}{s:Shared}{a:Addr}{y v:V}{u r:Value}{o:Option V}{A:Around}{E:RQ}
theorem Inv.big(I:Inv X pins σ H s):sysModules<s.heap.objs.size:=by have h:mainGlobals<s.heap.objs.size:=(I.mod.glob.keeps I.bk).lt;exact Nat.lt_trans ⋯ h
theorem eV(hu:A.units+1<cLine)(I:Inv X pins σ H s)(g:BF H a y (some v))(ry:RelV y u)(h : ∀w' s',Inv X pins σ H s'->RelV v w'->Q w' s') :
 wpAny (model X.prog X.w) A (getItem (.ref a) u) Q E s:=by
 rcases g with⟨kvs,k,e,O,l⟩ | ⟨kvs,k,b,e,O,eb,l⟩
 ·subst O
  obtain⟨z,hd,vs,U,Y⟩:=lA I.hok e;obtain⟨w',hw,a0⟩:=RelO.some_of (v:=v) (o:=valueAt vs k) (by rw[l];exact U.val k);exact wpAny_getItem_of (iT ry) Y.mapOf hw<|h w' _ (I.tok _) a0
 ·subst O
  cases (show u=Lq b from ry);obtain⟨z,hd,xs,U,Y⟩:=rM I.hok e;obtain⟨w',hw,a0⟩:=RelO.some_of (v:=v) (o:=(atKey xs k).map (·.2)) (by rw[l];exact U.val k);obtain⟨p,hp,a5⟩:=Option.map_eq_some_iff.mp hw;refine wpAny_getItem_heap (NV hu) (dA I.hok eb) Y hp ?_;rw[a5];exact h w' _ (I.tok _) a0
theorem HS(hu:A.units+1<cLine)(I:Inv X pins σ H s)(g:BF H a y o)(ry:RelV y u)(h : ∀s',Inv X pins σ H s'->Q (.bool o.isSome) s') :
 wpAny (model X.prog X.w) A (compareOp .In u<|.ref a) Q E s:=by
 rcases g with⟨kvs,k,e,O,l⟩ | ⟨kvs,k,b,e,O,eb,l⟩
 ·subst O
  obtain⟨z,hd,vs,U,Y⟩:=lA I.hok e;refine wpAny_in_of (iT ry) hd Y.mapOf ?_;rw[<- (U.val k).isSome_eq,<- l];exact h _<|I.tok _
 ·subst O
  cases (show u=Lq b from ry);obtain⟨z,hd,xs,U,Y⟩:=rM I.hok e;refine wpAny_in_heap (NV hu) (dA I.hok eb) hd Y ?_;have q:=(U.val k).isSome_eq;rw[Option.isSome_map]at q;rw[<- q,<- l];exact h _<|I.tok _
theorem rT(I:Inv X pins σ H s)(O:Mut (H a))(hs:NG a s.heap h')(he : ∃q,h'.get? a=some q)(new:ObjOk X.prog X.w (upd H a ob) h' a ob) :
 Inv X pins σ (upd H a ob) {s with heap:=h',toks:=t'}:=
 I.write (x:=a) (e:=a) O (.inl rfl) (λb q hb z=>(hs.2 b hb).trans z) he new
theorem Bh(z:kvs.length<=sizeLine)(hd:(a==sysModules)=false)(I:KV kvs vs)(O:h'.DictOf (qw P w) a vs) :
 ObjOk P w H' h' a (.dK kvs):=⟨z,hd,vs,I,O⟩
end
def CA(i:Expr):Prop:=∀z I,subscripted i false z I=operate [z,I] (getItem z I)
theorem bA{prog:Program}{w:World}{A:Around}{E:RQ}{s:Shared}{env:Env}{value z:Expr}{pos:Pos}{T id:String}{Q:RQ}
 (hl:typeLookup (.type T) "__getitem__" = pure (some (.builtin id))) (hs:CA z)
 (h:wpAny (model prog w) A (eval value env) (λo Y=>wpAny (model prog w) A (eval z env) (λi I=>I.TypeIs o T/\wpAny (model prog w) A (getItem o i) Q E I) E Y) E s) :
 wpAny (model prog w) A (eval (.Subscript value z pos) env) Q E s:=by
 refine Subscript_<|Nr h (λo Y h₁=>Nr h₁ (λi I O=>?_) λ_ _ x=>x) λ_ _ x=>x;obtain⟨hT,O⟩:=O;unfold subscriptTail;refine Iq ?_;rw[getitemInPython_of_ne hT.not_modules];refine Iq<|wpAny_specialOf hT hl ?_;have U:wpAny (model prog w) A (subscripted z false o i) (λr s₃=>wpAny (model prog w) A (letTemporaryGo value o r >>= λ_=>pure r) Q E s₃) E I:=by rw[hs o i];exact wpAny_operating<|Nr O (λr s₃ h₃=>Iq<|wpAny_letTemporaryGo<|IA h₃) λ_ _ x=>x
 first
  | exact IA<|Iq U
  | exact Iq<|IA<|Iq U
  | exact Iq U
theorem YW(I:Inv X pins σ H s)(g:BF H a y o):s.TypeIs (.ref a) "dict":=by
 rcases g with⟨kvs,k,e,_,_⟩ | ⟨kvs,k,b,e,_,_,_⟩
 ·obtain⟨_,_,vs,_,z⟩:=lA I.hok e
  exact z.typeIs
 ·obtain⟨_,_,xs,_,z⟩:=rM I.hok e
  exact z.typeIs
def CY(td ty:TE):TE:=λσ H Q=>td σ H λx H1=>ty σ H1 λy H2=>∃a v,x = .ref a/\BF H2 a y (some v)/\Q v H2
def Hn(ty td:TE):TE:=λσ H Q=>ty σ H λy H1=>td σ H1 λx H2=>∃a o,x = .ref a/\BF H2 a y o/\Q (.bl o.isSome) H2
section
variable{X:Cx}{o i e value:Expr}{pos pos' tpos:Pos}{td ty tv:TE}
theorem pw(O:X.A.units+1<cLine)(U:PE X o td)(hi:PE X i ty)(hs:CA i):PE X (.Subscript o i pos) (CY td ty):=by intro pins s σ H Q I h;refine bA PySem.F.slot_dict_getitem.lookup hs<|thn (U pins s σ H _ I h) λu s1 ⟨x,H1,Y,rx,q1⟩=>thn (hi pins s1 σ H1 _ Y q1) λiv s2 ⟨y,H2,z,ry,a,v,ex,g,q2⟩=>?_;subst ex;obtain rfl:u=Lq a:=rx;exact⟨YW z g,eV O z g ry λw' s3 I3 a4=>⟨v,H2,I3,a4,q2⟩⟩
theorem Ab(z:X.A.units+1<cLine)(hi:PE X i ty)(O:PE X o td):PC X .In i o (Hn ty td):=by intro pins s σ H Q I h;refine thn (hi pins s σ H _ I h) λiv s1 ⟨y,H1,U,Y,q1⟩=>thn (O pins s1 σ H1 _ U q1) λu s2 ⟨x,H2,I2,rx,a,ov,ex,g,q2⟩=>?_;subst ex;obtain rfl:u=Lq a:=rx;exact HS z I2 g Y λs3 I3=>⟨.bl ov.isSome,H2,I3,rfl,q2⟩
end
theorem lB(h:Heap)(hb:sysModules<h.objs.size):ObjOk P w H (h.push {cls:= .type "dict",data:= .dict #[]}) h.objs.size (.dK []):=
 ⟨MN _,beq_eq_false_iff_ne.mpr<|Ly<|Ln hb,[],.nil,Heap.DictOf.new h⟩
def bz:List (TE×TE)->St->Hp->(List (V×V)->Hp->Prop)->Prop
 | [],_,H,Q=>Q [] H
 | (tk,tv)::r,σ,H,Q=>tk σ H λx H1=>tv σ H1 λy H2=>bz r σ H2 λps z=>Q ((x,y)::ps) z
abbrev VV:List (V×V)->List (Value×Value)->Prop:=Paired λp q=>RelV p.1 q.1/\RelV p.2 q.2
def PPs(X:Cx)(pos:Pos)(z:List (Option Expr))(I:List Expr)(O:List (TE×TE)):Prop:=
 ∀(pins:RW) (s:Shared) (σ:St) (H:Hp) (Q:List (V×V)->Hp->Prop),Inv X pins σ H s->bz O σ H Q->
  wpAny (model X.prog X.w) X.A (evalPairs<|pairTrees z I X.env pos) (λvs s'=>∃ps H',Inv X pins σ H' s'/\VV ps vs/\Q ps H') X.xe s
theorem oV{X:Cx}{pos:Pos}:PPs X pos [] [] []:=λpins s σ H Q I h=>pairTrees_nil_walk ⟨[],H,I,.nil,h⟩
theorem VI{X:Cx}{pos:Pos}{k v:Expr}{ks:List (Option Expr)}{vs:List Expr}{z tv:TE}{O:List (TE×TE)}(hk:PE X k z)(U:PE X v tv)(Y:PPs X pos ks vs O) :
 PPs X pos (some k::ks) (v::vs) ((z,tv)::O):=λpins s σ H Q I h=>
 pairTrees_cons_walk (thn (hk pins s σ H _ I h) λu s1 ⟨x,H1,I1,rx,q1⟩=>thn (U pins s1 σ H1 _ I1 q1) λw2 s2 ⟨y,H2,I2,ry,q2⟩=>
  thn (Y pins s2 σ H2 _ I2 q2) λws s3 ⟨ps,H3,I3,a7,q3⟩=>⟨(x,y)::ps,H3,I3,.cons ⟨rx,ry⟩ a7,q3⟩)
def ZG(kvs more:List (Key×V)):List (Key×V):=more.foldl (λacc z=>gU acc z.1 z.2) kvs
theorem KV.merge : ∀{more:List (Key×V)} {rs:List (Key×Value)} {kvs:List (Key×V)} {vs:List (Key×Value)},KV more rs->KV kvs vs->KV (ZG kvs more) (merged vs rs):=by
 intro more rs kvs vs r;unfold KV at r
 induction r generalizing kvs vs with
 | nil=>intro q;exact q
 | @cons p q ps O h t z=>
  intro I;have e:KV (gU kvs p.1 p.2) (stored vs q.1 q.2):=by have:=I.put p.1 h.2;rw[<- h.1];exact this
  exact z e
theorem vk : ∀(more kvs:List (Key×V)),(ZG kvs more).length<=kvs.length+more.length
 | [],kvs=>by show kvs.length<=kvs.length+0;omega
 | p::r,kvs=>by have h1:=vk r<|gU kvs p.1 p.2;have h2:=YF kvs p.1 p.2;show(ZG (gU kvs p.1 p.2) r).length<=_;rw[Lj];omega
theorem QD{P:Program}{w:World} : ∀{kvs:List (Key×V)} {z:List (Value×Value)},VV (kvs.map λI=>(kV I.1,I.2)) z->∃rs,Carries (qw P w) z rs/\KV kvs rs
 | [],_,r=>by rw[Pa]at r;cases r;exact⟨[],MF,.nil⟩
 | p::kvs,_,r=>by
  rw[IS]at r;cases r with
  | @cons a b O bs h t=>
   obtain⟨rs,c,q⟩:=QD (P:=P) (w:=w) t;obtain⟨b1,b2⟩:=b;exact⟨(p.1,b2)::rs,⟨iT h.1,rfl,c⟩,.cons ⟨rfl,h.2⟩ q⟩
def CV(I:List (TE×TE)):TE:=λσ H Q=>∀p,H p=none->bz I σ (upd H p<|.dK []) λps H2=>H2 p=some (.dK [])/\∃kvs:List (Key×V),ps=kvs.map (λz=>(kV z.1,z.2))/\kvs.length<=15/\Q (.ref p) (upd H2 p<|.dK<|ZG [] kvs)
theorem pq{X:Cx}{pos:Pos}{O:List (Option Expr)}{U:List Expr}{Y:List (TE×TE)}(h:PPs X pos O U Y)(a2:O.all (·.isSome)=true)(hl:O.length=U.length)(h0:O ≠ [])
 (a4:O.length<=15):PE X (.Dict O U pos) (CV Y):=by
 intro pins s σ H Q I q;have hn:=I.hok.fresh (IC s.heap.objs.size);have I1:=I.laid (a:=s.heap.objs.size) (o:= .dK []) (h':=s.heap.push {cls:= .type "dict",data:= .dict #[]}) (t':=s.toks) (λ_ _ q=>Ir _ q) (IC _) (lB s.heap I.big);refine wpAny_Dict_walk (knd:=qw X.prog X.w) a2 hl h0 a4 (thn (h pins _ σ _ _ I1 (q _ hn)) λws s2 ⟨ps,H2,I2,a6,e,kvs,ep,lk,q2⟩=>?_);subst ep;obtain⟨rs,c,rk⟩:=QD (P:=X.prog) (w:=X.w) a6;obtain⟨z,hd,am,r0,dd⟩:=Fo I2.hok e;cases r0;refine⟨rs,c,dd,λh' a1 hs=>⟨.ref s.heap.objs.size,_,?_,rfl,q2⟩⟩;have hz:(ZG [] kvs).length<=sizeLine:=by have h1:=vk kvs [];rw[Mz]at h1;rw[PX];omega
 have he : ∃q,h'.get? s.heap.objs.size=some q:=let ⟨q,_,_,hq,_⟩:=a1;⟨q,hq⟩;exact rT I2 (by rw[e];exact MF) hs he<|Bh hz hd (rk.merge .nil) a1
end L2
namespace DL
open PySem PySem.Spec PyProof.Rows L2
def xNames:List Str:=["NoPrime","Nought","NoTable","NoWidths","NoRow","Unlike","TooMany","NoTurn","NoLine","Nothing","NoArrow","NoText","NoRoom"]
def sU(K:Ip)(c:Str):Option Addr:=match OQ K mainGlobals c with
 | some (some (.ref C))=>some C
 | _=>none
def Hh(K:Ip)(C:Addr):Bool:=
 ["int","bool","str","tuple","list"].all (λt=>Nu K (.ref C) (.type t)==some false) && Nu K (.ref C) (.type "ValueError")==some true &&
 Lr K (.ref C) "__getattribute__" == some (some (.builtin "BaseException.__getattribute__")) && Lr K (.ref C) "__getattr__" == some none &&
 Lr K (.ref C) "__class__" == some (some (.builtin "object.__class__")) && PySem.W.mroIn K C (.type "object")==some true && PySem.W.mroIn K C (.type "BaseException")==some true &&
 PySem.W.specialIn K (.builtin "object.__class__") "__get__" == some (some (.builtin "getset_descriptor.__get__")) && PySem.W.takesIn K (.builtin "object.__class__")==some true &&
 (PySem.W.clsIn K C).any (λz=> !z.hasDel) && PySem.W.typeIn K (.ref C)==some (.type "type")
def Gg(K:Ip):Bool:=match sU K "SplitError" with
 | some S=>xNames.all λc=>match sU K c with
  | some C=>Hh K C && Nu K (.ref C) (.ref S)==some true && xNames.all λz=>match sU K z with
   | some I=>Nu K (.ref C) (.ref I)==some (c==z)
   | none=>false
  | none=>false
 | none=>false
def HY(h:Heap)(a:Addr)(C:Addr):Prop:=∃o vs,h.get? a=some o/\o.cls = .ref C/\o.data = .fields vs
structure XRep(K:Ip)(H:Hp)(c:Str)(n:Option Int)(a:Addr):Prop where
 all:Gg K=true
 mem:c∈xNames
 ex : ∃C φ,sU K c=some C/\H a=some (.ext φ)/\(∀h,φ h->HY h a C)/\
  match n with
  | none=>True
  | some i=>∃d,(∀h,φ h->∃o,h.get? a=some o/\o.dict=some d)/\H d=some (.xd [(if c==("NoRoom" : Str)then "room" else "at",.int i)])
theorem XRep.mono{K:Ip}{H H':Hp}{c:Str}{n:Option Int}{a:Addr}(e : ∀b o,H b=some o->H' b=some o)(h:XRep K H c n a):XRep K H' c n a:=by
 obtain⟨h1,h2,C,φ,I,g2,O,z⟩:=h;refine⟨h1,h2,C,φ,I,e _ _ g2,O,?_⟩;cases n with
 | none=>exact z
 | some i=>obtain⟨d,U,Y⟩:=z;exact⟨d,U,e _ _ Y⟩
abbrev St:=L2.St
def ET:D->Option Key
 | .int i=>some (.inl i)
 | .str x=>some (.inr x)
 | _=>none
def du:List D->Option (List Key)
 | []=>some []
 | d::ds=>(ET d).bind λk=>(du ds).map λr=>k::r
def DRp(H:Hp)(a:Addr)(ks:List D)(xs:List V):Prop:=∃kk,du ks=some kk/\kk.length=xs.length/\H a=some (.dK<|kk.zip xs)
def nV(k:List Int):Int:=reduceHash<|Builtin.Tuple.tupleHashOf<|k.map hashInt
def gf(o:Obj)(xs:List (List Int×Addr×Value)):Prop:=o.ExactDict/\∃es z,o.data = .dict es z/\es.toList=xs.map (λx=>⟨nV x.1,.ref x.2.1,x.2.2⟩)/\(xs.map (·.1)).Nodup
def atO(a:Addr)(o:Obj):HO:= .ext λh=>h.get? a=some o
def DRt(K:Ip)(H:Hp)(a:Addr)(ks:List (List Int))(ys:List V):Prop:=
 (a==sysModules)=false/\∃o xs,H a=some (atO a o)/\gf o xs/\xs.map (·.1)=ks/\xs.length<=sizeLine/\(∀x∈xs,SqT K H x.2.1<|x.1.map V.int)/\Vals ys (xs.map (·.2.2))
def fs2(z I:V):List (Str×V):=Xc "table" I (Xc "p" z [])
theorem Fe(z I:V):(fs2 z I).lookup ("p" : Str)=some z:=by unfold fs2;rw[qx,qx,EQ ⋯,RY rfl]
theorem Fb(I z:V):(fs2 I z).lookup ("table" : Str)=some z:=by unfold fs2;rw[qx,RY rfl]
theorem Ff(z I:V):(fs2 z I).lookup ("forth" : Str)=none:=by unfold fs2;rw[qx,qx,EQ ⋯,EQ ⋯];rfl
mutual
def Rep(K:Ip)(H:Hp):D->V->Prop
 | .non,v=>v = .non
 | .bl b,v=>v = .bl b
 | .int i,v=>v = .int i
 | .str x,v=>v = .str x
 | .tup ds,v=>∃a xs,v = .ref a/\SqT K H a xs/\Reps K H ds xs
 | .lst ds,v=>∃a xs,v = .ref a/\SqL K H a xs/\Reps K H ds xs
 | .dic ks vs,v=>∃a xs,v = .ref a/\DRp H a ks xs/\Reps K H vs xs
 | .dct ks vs,v=>∃a xs,v = .ref a/\DRt K H a ks xs/\Reps K H vs xs
def Reps(K:Ip)(H:Hp):List D->List V->Prop
 | [],xs=>xs=[]
 | d::ds,xs=>∃x r,xs=x::r/\Rep K H d x/\Reps K H ds r
end
theorem sameT{K:Ip}{H H':Hp}{a:Addr}{xs:List V}(e:Same H H')(h:SqT K H a xs):SqT K H' a xs:=by
 rcases h with(h | ⟨o,h⟩) | h
 ·exact .inl<|.inl<|e _ _ h
 ·exact .inl<|.inr ⟨o,e _ _ h⟩
 ·exact .inr h
theorem X9{k:Sk}{K:Ip}{H H':Hp}{a:Addr}{xs:List V}(e:Same H H')(h:SqK k K H a xs):SqK k K H' a xs:=by
 cases k
 ·exact e.seq h
 ·exact sameT e h
mutual
theorem Rep.mono{K:Ip}{H H':Hp}(e:Same H H') : ∀{d:D} {v:V},Rep K H d v->Rep K H' d v
 | .non,_,h=>h
 | .bl _,_,h=>h
 | .int _,_,h=>h
 | .str _,_,h=>h
 | .tup ds,v,h=>by obtain⟨a,xs,e1,h1,h2⟩:=(show ∃a xs,v = .ref a/\SqT K H a xs/\Reps K H ds xs from h);exact(show ∃a xs,v = .ref a/\SqT K H' a xs/\Reps K H' ds xs from⟨a,xs,e1,sameT e h1,Reps.mono e h2⟩)
 | .lst ds,v,h=>by obtain⟨a,xs,e1,h1,h2⟩:=(show ∃a xs,v = .ref a/\SqL K H a xs/\Reps K H ds xs from h);exact(show ∃a xs,v = .ref a/\SqL K H' a xs/\Reps K H' ds xs from⟨a,xs,e1,e.seq h1,Reps.mono e h2⟩)
 | .dic ks vs,v,h=>by obtain⟨a,xs,e1,⟨kk,z,g2,I⟩,h2⟩:=(show ∃a xs,v = .ref a/\DRp H a ks xs/\Reps K H vs xs from h);exact(show ∃a xs,v = .ref a/\DRp H' a ks xs/\Reps K H' vs xs from⟨a,xs,e1,⟨kk,z,g2,e _ _ I⟩,Reps.mono e h2⟩)
 | .dct ks vs,v,h=>by obtain⟨a,xs,e1,⟨z,o,zs,g2,I,O,U,g6,Y⟩,h2⟩:=(show ∃a xs,v = .ref a/\DRt K H a ks xs/\Reps K H vs xs from h);exact(show ∃a xs,v = .ref a/\DRt K H' a ks xs/\Reps K H' vs xs from⟨a,xs,e1,⟨z,o,zs,e _ _ g2,I,O,U,λx hx=>sameT e<|g6 x hx,Y⟩,Reps.mono e h2⟩)
theorem Reps.mono{K:Ip}{H H':Hp}(e:Same H H') : ∀{ds:List D} {xs:List V},Reps K H ds xs->Reps K H' ds xs
 | [],_,h=>h
 | d::ds,xs,h=>by obtain⟨x,r,e1,h1,h2⟩:=(show ∃x r,xs=x::r/\Rep K H d x/\Reps K H ds r from h);exact(show ∃x r,xs=x::r/\Rep K H' d x/\Reps K H' ds r from⟨x,r,e1,Rep.mono e h1,Reps.mono e h2⟩)
end
section
variable{K:Ip}{H:Hp}
theorem Reps.nil:Reps K H [] []:=(show([]:List V)=[]from rfl)
theorem Reps.cons(h:Rep K H d x)(t:Reps K H ds xs):Reps K H (d::ds) (x::xs):=⟨x,xs,rfl,h,t⟩
theorem Reps.inv_nil(h:Reps K H [] xs):xs=[]:=h
theorem Reps.inv_cons(h:Reps K H (d::ds) xs) : ∃x r,xs=x::r/\Rep K H d x/\Reps K H ds r:=h
theorem Reps.length : ∀{ds:List D} {xs:List V},Reps K H ds xs->xs.length=ds.length
 | [],xs,h=>by rw[h.inv_nil];rfl
 | d::ds,xs,h=>by obtain⟨x,r,e,_,t⟩:=h.inv_cons;rw[e,Lj,Lj,Reps.length t]
theorem Reps.get : ∀{ds:List D} {xs:List V} {i:Nat} {d:D},Reps K H ds xs->ds[i]? = some d->∃x,xs[i]? = some x/\Rep K H d x
 | [],_,_,_,_,e=>by simp at e
 | c::ds,xs,0,d,h,e=>by obtain⟨x,r,e1,h1,_⟩:=h.inv_cons;simp at e;subst e;exact⟨x,by rw[e1];rfl,h1⟩
 | c::ds,xs,i+1,d,h,e=>by obtain⟨x,r,e1,_,t⟩:=h.inv_cons;obtain⟨y,z,g2⟩:=Reps.get (i:=i) (d:=d) t (by simpa using e);exact⟨y,by rw[e1];simpa using z,g2⟩
theorem Reps.getV{ds:List D}{xs:List V}{i:Nat}{x:V}(h:Reps K H ds xs)(e:xs[i]? = some x) : ∃d,ds[i]? = some d/\Rep K H d x:=by
 have hi:i<ds.length:=by rw[<- h.length];exact(IX.mp e).1
 obtain⟨y,e1,r⟩:=h.get<|Iv hi;rw[e]at e1;cases e1;exact⟨_,Iv hi,r⟩
theorem Reps.append : ∀{ds es:List D} {xs ys:List V},Reps K H ds xs->Reps K H es ys->Reps K H (ds++es) (xs++ys)
 | [],_,xs,_,h,g=>by rw[h.inv_nil];exact g
 | d::ds,es,xs,ys,h,g=>by obtain⟨x,r,e,h1,t⟩:=h.inv_cons;rw[e];exact Reps.cons h1<|Reps.append t g
theorem Reps.drop : ∀{ds:List D} {xs:List V} (n:Nat),Reps K H ds xs->Reps K H (ds.drop n) (xs.drop n)
 | _,_,0,h=>h
 | [],xs,n+1,h=>by rw[h.inv_nil];exact Reps.nil
 | d::ds,xs,n+1,h=>by obtain⟨x,r,e,_,t⟩:=h.inv_cons;rw[e];exact Reps.drop n t
theorem Reps.take : ∀{ds:List D} {xs:List V} (n:Nat),Reps K H ds xs->Reps K H (ds.take n) (xs.take n)
 | _,_,0,h=>by simp;exact Reps.nil
 | [],xs,n+1,h=>by rw[h.inv_nil];exact Reps.nil
 | d::ds,xs,n+1,h=>by obtain⟨x,r,e,h1,t⟩:=h.inv_cons;rw[e];exact Reps.cons h1<|Reps.take n t
end
structure Ext(H0 H H0' H':Hp):Prop where
 s0:Same H0 H0'
 s1:Same H H'
 sub:Same H0' H'
 new : ∀a,H0 a=none->H a≠none->H0' a=none
theorem Ext.refl(s:Same H0 H):Ext H0 H H0 H:=⟨Same.refl _,Same.refl _,s,λ_ h _=>h⟩
theorem Ext.trans(a:Ext H0 H H1 G1)(b:Ext H1 G1 H2 G2):Ext H0 H H2 G2:=
 ⟨a.s0.trans b.s0,a.s1.trans b.s1,b.sub,λc h1 h2=>b.new c (a.new c h1 h2) (by
  cases q:H c with
  | none=>exact absurd q h2
  | some o=>rw[a.s1 c o q];simp)⟩
theorem zW(h:H p=none)(o:HO):Same H (upd H p o):=λb u q=>by rw[zL (jQ q h)];exact q
theorem jP(s:Same H0 H)(h:H p=none):H0 p=none:=s.free h
theorem X8(s:Same H0 H):Same (upd H0 p o) (upd H p o):=λb u q=>by
 by_cases e:b=p
 ·subst e;rw[zJ]at q ⊢;exact q
 ·rw[zL e]at q ⊢;exact s b u q
theorem Ext.alloc(s:Same H0 H)(h:H p=none)(o:HO):Ext H0 H (upd H0 p o) (upd H p o):=
 ⟨zW (jP s h) o,zW h o,X8 s,λa h1 h2=>by rw[zL (λe=>h2<|by rw[e];exact h)];exact h1⟩
theorem Ext.hide(s:Same H0 H)(h:H p=none)(o:HO):Ext H0 H H0 (upd H p o):=
 ⟨Same.refl _,zW h o,s.trans<|zW h o,λa h1 _=>h1⟩
theorem Ext.show(e:Ext H0 H H0' H')(h1:H a=none)(h2:H0' a=none)(O:H' a=some o)(s:Same H0 H):Ext H0 H (upd H0' a o) H':=
 ⟨e.s0.trans<|zW h2 o,e.s1,λb u q=>by
  by_cases z:b=a
  ·subst z;rw[zJ]at q;rw[O];exact q
  ·rw[zL z]at q;exact e.sub b u q,λb U I=>by
  rw[zL (λz=>I<|by rw[z];exact h1)];exact e.new b U I⟩
structure Nest(K:Ip)(H0 H:Hp)(rows:List (List D))(a:Addr)(bs:List Addr):Prop where
 a0:H0 a=none
 ha:H a=some (.lst<|bs.map V.ref)
 nd:(a::bs).Nodup
 len:bs.length=rows.length
 row : ∀(k:Nat) b row,bs[k]? = some b->rows[k]? = some row->H0 b=none/\∃xs,H b=some (.lst xs)/\Reps K H0 row xs
theorem Nest.at{K:Ip}{H0 H:Hp}{rows:List (List D)}{a:Addr}{bs:List Addr}(n:Nest K H0 H rows a bs){b:Addr}(hb:b∈a::bs):H0 b=none/\∃xs,H b=some (.lst xs):=by
 rcases IG.mp hb with rfl | hb
 ·exact⟨n.a0,_,n.ha⟩
 ·obtain⟨k,hk⟩:=List.getElem?_of_mem hb
  have z:=(IX.mp hk).1;rw[n.len]at z;obtain⟨h1,xs,h2,_⟩:=n.row k b _ hk<|Iv z;exact⟨h1,xs,h2⟩
theorem Nest.move{K:Ip}{H0 H H0' H':Hp}{rows:List (List D)}{a:Addr}{bs:List Addr}(n:Nest K H0 H rows a bs)(s:Same H0 H0')(h0 : ∀b∈a::bs,H0' b=none)(h : ∀b∈a::bs,H' b=H b):Nest K H0' H' rows a bs:=
 ⟨h0 a IY,by rw[h a IY];exact n.ha,n.nd,n.len,λk b row hk z=>by obtain⟨_,xs,h2,I⟩:=n.row k b row hk z;have hb:b∈a::bs:=IT _<|Mi hk;exact⟨h0 b hb,xs,by rw[h b hb];exact h2,I.mono s⟩⟩
def NestOk(K:Ip)(H0 H:Hp)(σ:St)(γ:Ctx):Prop:=
 (∀(i:Nat) rows,γ[i]? = some (.nest rows)->∃a bs,σ[i]? = some (some (.ref a))/\Nest K H0 H rows a bs/\∀(j:Nat) ds c,γ[j]? = some (.own ds)->σ[j]? = some (some (.ref c))->c∉a::bs)/\
 ∀(i j:Nat) z r2,γ[i]? = some (.nest z)->γ[j]? = some (.nest r2)->i=j
theorem NestOk.nil0{K:Ip}{H0 H:Hp}{σ:St}{γ:Ctx}(h : ∀(i:Nat) rows,γ[i]? ≠ some (.nest rows)):NestOk K H0 H σ γ:=⟨λi rows e=>absurd e<|h i rows,λi j z r2 e=>absurd e<|h i z⟩
theorem NestOk.move{K:Ip}{H0 H H0' H':Hp}{σ:St}{γ:Ctx}(n:NestOk K H0 H σ γ)(s:Same H0 H0')(h : ∀(i:Nat) rows a bs,γ[i]? = some (.nest rows)->σ[i]? = some (some (.ref a))->Nest K H0 H rows a bs->(∀(j:Nat) ds c,γ[j]? = some (.own ds)->σ[j]? = some (some (.ref c))->c∉a::bs)->∀b∈a::bs,H0' b=none/\H' b=H b):NestOk K H0' H' σ γ:=
 ⟨λi rows e=>by obtain⟨a,bs,h1,h2,z⟩:=n.1 i rows e;exact⟨a,bs,h1,h2.move s (λb hb=>(h i rows a bs e h1 h2 z b hb).1)<|λb hb=>(h i rows a bs e h1 h2 z b hb).2,z⟩,n.2⟩
theorem NestOk.ext{K:Ip}{H0 H H0' H':Hp}{σ:St}{γ:Ctx}(n:NestOk K H0 H σ γ)(e:Ext H0 H H0' H'):NestOk K H0' H' σ γ:=
 n.move e.s0 λi rows a bs _ _ h2 _ b hb=>by obtain⟨z,xs,g2⟩:=h2.at hb;exact⟨e.new b z (by rw[g2];simp),by rw[e.s1 b _ g2,g2]⟩
structure RC(K:Ip)(H0 H:Hp)(σ:St)(γ:Ctx):Prop where
 sub:Same H0 H
 len:σ.length=γ.length
 val : ∀(i:Nat) d,γ[i]? = some (.val d)->∃v,σ[i]? = some (some v)/\Rep K H0 d v
 own : ∀(i:Nat) ds,γ[i]? = some (.own ds)->∃a xs,σ[i]? = some (some (.ref a))/\H0 a=none/\H a=some (.lst xs)/\Reps K H0 ds xs
 ne : ∀(i j:Nat) a ds es,γ[i]? = some (.own ds)->γ[j]? = some (.own es)->σ[i]? = some (some (.ref a))->σ[j]? = some (some (.ref a))->i=j
 nst:NestOk K H0 H σ γ
theorem RC.ext{K:Ip}{H0 H H0' H':Hp}{σ:St}{γ:Ctx}(r:RC K H0 H σ γ)(e:Ext H0 H H0' H'):RC K H0' H' σ γ:=
 ⟨e.sub,r.len,λi d h=>let ⟨v,h1,h2⟩:=r.val i d h;⟨v,h1,h2.mono e.s0⟩,
  λi ds h=>let ⟨a,xs,h1,h2,z,I⟩:=r.own i ds h;⟨a,xs,h1,e.new a h2 (by rw[z];simp),e.s1 _ _ z,I.mono e.s0⟩,r.ne,r.nst.ext e⟩
def tV(K:Ip)(f:CO D):TE:=λσ H Q=>∃H0 γ d,RC K H0 H σ γ/\f γ=some d/\∀v H' H0',Ext H0 H H0' H'->Rep K H0' d v->Q v H'
def tQ(K:Ip)(f:CO (Sk×List D)):TE:=λσ H Q=>∃H0 γ k ds,RC K H0 H σ γ/\f γ=some (k,ds)/\∀a xs H' H0',Ext H0 H H0' H'->SqK k K H' a xs->(k = .T->SqT K H0' a xs)->Reps K H0' ds xs->Q (.ref a) H'
def tO(K:Ip)(f:CO (List D)):TE:=λσ H Q=>∃H0 γ ds,RC K H0 H σ γ/\f γ=some ds/\
 ∀a xs H' H0',Ext H0 H H0' H'->H a=none->H0' a=none->H' a=some (.lst xs)->Reps K H0' ds xs->Q (.ref a) H'
def tT(K:Ip)(f:CO Bool):TT:=λσ H Q=>∃H0 γ b,RC K H0 H σ γ/\f γ=some b/\∀H' H0',Ext H0 H H0' H'->Q b H'
def tA(K:Ip)(f:CO (List D)):TA:=λσ H Q=>∃H0 γ ds,RC K H0 H σ γ/\f γ=some ds/\∀vs H' H0',Ext H0 H H0' H'->Reps K H0' ds vs->Q vs H'
abbrev PV(X:Cx)(e:Expr)(f:CO D):Prop:=PE X e (tV X.K f)
abbrev PQ(X:Cx)(e:Expr)(f:CO (Sk×List D)):Prop:=PE X e (tQ X.K f)
abbrev PO(X:Cx)(e:Expr)(f:CO (List D)):Prop:=PE X e (tO X.K f)
abbrev PTD(X:Cx)(e:Expr)(f:CO Bool):Prop:=PT X e (tT X.K f)
abbrev PWD(X:Cx)(e:Expr)(f:CO Bool):Prop:=PW X e (tT X.K f)
abbrev PAD(X:Cx)(es:List Expr)(f:CO (List D)):Prop:=PA X es (tA X.K f)
theorem qe(h:PE X e t)(i : ∀σ H Q,t' σ H Q->t σ H Q):PE X e t':=λpins s σ H Q I q=>h pins s σ H Q I<|i σ H Q q
theorem Yn(h:PT X e t)(i : ∀σ H Q,t' σ H Q->t σ H Q):PT X e t':=λpins s σ H Q I q=>h pins s σ H Q I<|i σ H Q q
theorem uw(h:PW X e t)(i : ∀σ H Q,t' σ H Q->t σ H Q):PW X e t':=λz pins s σ H Q I q=>h z pins s σ H Q I<|i σ H Q q
theorem Ae(h:PA X es t)(i : ∀σ H Q,t' σ H Q->t σ H Q):PA X es t':=λpos pins s σ H Q I q=>h pos pins s σ H Q I<|i σ H Q q
theorem ki{X:Cx}{st:Stmt}{t t':TS}(h:PS X st t)(i : ∀D σ H,t' D σ H->t D σ H):PS X st t':=λpins s σ H D I q=>h pins s σ H D I<|i D σ H q
theorem cg{X:Cx}{st:List Stmt}{t t':TS}(h:PSs X st t)(i : ∀D σ H,t' D σ H->t D σ H):PSs X st t':=λpins s σ H D I q=>h pins s σ H D I<|i D σ H q
theorem Kh(h:PI X tg e t)(i : ∀σ H R,t' σ H R->t σ H R):PI X tg e t':=λpins s σ H R I q=>h pins s σ H R I<|i σ H R q
theorem yM(h:n<=lim):n<=sizeLine:=LG h ⋯
section
variable{X:Cx}{e a b c:Expr}{pos:Pos}
theorem PV.q(h:PV X e f):PQ X e (zG f):=qe h λσ H Q Y=>by
 obtain⟨H0,γ,k,ds,rc,I,q⟩:=Y;unfold zG at I;cases e1:f γ with
 | none=>rw[e1]at I;cases I
 | some d=>
  rw[e1]at I;refine⟨H0,γ,d,rc,e1,λv H' H0' ext r=>?_⟩;cases d with
  | tup es=>
   obtain⟨O,U⟩:k = .T/\ds=es:=by simp[jf]at I;exact⟨I.1.symm,I.2.symm⟩
   subst O U;obtain⟨a,xs,rfl,h1,h2⟩:=(show ∃a xs,v = .ref a/\SqT X.K H0' a xs/\Reps X.K H0' ds xs from r);exact q a xs H' H0' ext (sameT ext.sub h1) (λ_=>h1) h2
  | lst es=>
   obtain⟨O,U⟩:k = .L/\ds=es:=by simp[jf]at I;exact⟨I.1.symm,I.2.symm⟩
   subst O U;obtain⟨a,xs,rfl,h1,h2⟩:=(show ∃a xs,v = .ref a/\SqL X.K H0' a xs/\Reps X.K H0' ds xs from r);exact q a xs H' H0' ext (ext.sub.seq h1) (λz=>nomatch z) h2
  | _=>simp[jf]at I
theorem PO.v(h:PO X e f):PV X e (qi f):=qe h λσ H Q U=>by
 obtain⟨H0,γ,d,rc,z,q⟩:=U;unfold qi at z;cases e1:f γ with
 | none=>rw[e1]at z;cases z
 | some ds=>
  rw[e1]at z;cases z;refine⟨H0,γ,ds,rc,e1,λa xs H' H0' ext h1 h2 Y r=>?_⟩;exact q _ _ _ (ext.show h1 h2 Y rc.sub) (show ∃I O,V.ref a = .ref I/\SqL X.K _ I O/\Reps X.K _ ds O from⟨a,xs,rfl,SqL.of zJ,r.mono<|zW h2 _⟩)
theorem PO.q(h:PO X e f):PQ X e (jV f):=qe h λσ H Q O=>by
 obtain⟨H0,γ,k,ds,rc,I,q⟩:=O;unfold jV at I;cases e1:f γ with
 | none=>rw[e1]at I;cases I
 | some es=>
  rw[e1]at I;cases I;exact⟨H0,γ,_,rc,e1,λa xs H' H0' ext h1 h2 U r=>q a xs H' H0' ext (SqL.of U) (λz=>nomatch z) r⟩
theorem ux(i:Nat)(h:PE X e (Jk i)):PV X e (zf i):=qe h λσ H Q I=>by
 obtain⟨H0,γ,d,rc,z,q⟩:=I;unfold zf at z;cases e1:γ[i]? with
 | none=>rw[e1]at z;cases z
 | some c=>
  rw[e1]at z;cases c with
  | val d'=>
   cases z;obtain⟨v,h1,h2⟩:=rc.val i d e1;exact⟨v,h1,q v H H0 (Ext.refl rc.sub) h2⟩
  | no=>cases z
  | own ds=>cases z
  | nest rows=>cases z
theorem uP(i:Nat)(h:PE X e (Jk i)):PQ X e (zh i):=qe h λσ H Q hZ=>by
 obtain⟨H0,γ,k,ds,rc,I,q⟩:=hZ;unfold zh at I;cases e1:γ[i]? with
 | none=>rw[e1]at I;cases I
 | some c=>
  rw[e1]at I;cases c with
  | no=>cases I
  | nest rows=>cases I
  | own es=>
   cases I;obtain⟨a,xs,h1,h2,h3,h4⟩:=rc.own i ds e1;exact⟨_,h1,q a xs H H0 (Ext.refl rc.sub) (SqL.of h3) (λz=>nomatch z) h4⟩
  | val d=>
   obtain⟨v,h1,h2⟩:=rc.val i d e1;refine⟨v,h1,?_⟩;cases d with
   | tup es=>
    obtain⟨U,Y⟩:k = .T/\ds=es:=by simp[yR,jf]at I;exact⟨I.1.symm,I.2.symm⟩
    subst U Y;obtain⟨a,xs,rfl,O,g2⟩:=(show ∃a xs,v = .ref a/\SqT X.K H0 a xs/\Reps X.K H0 ds xs from h2);exact q a xs H H0 (Ext.refl rc.sub) (sameT rc.sub O) (λ_=>O) g2
   | lst es=>
    obtain⟨U,Y⟩:k = .L/\ds=es:=by simp[yR,jf]at I;exact⟨I.1.symm,I.2.symm⟩
    subst U Y;obtain⟨a,xs,rfl,O,g2⟩:=(show ∃a xs,v = .ref a/\SqL X.K H0 a xs/\Reps X.K H0 ds xs from h2);exact q a xs H H0 (Ext.refl rc.sub) (rc.sub.seq O) (λz=>nomatch z) g2
   | _=>simp[yR,jf]at I
theorem Xa(h:PE X e (tC v))(r : ∀H,Rep X.K H d v):PV X e (zu d):=qe h λσ H Q z=>by obtain⟨H0,γ,d',rc,I,q⟩:=z;cases I;exact q v H H0 (Ext.refl rc.sub)<|r H0
theorem zm:PV X (.Constant (.int i) j pos) (zu<|.int i):=Xa uZ λ_=>(show V.int i = .int i from rfl)
theorem oN:PV X (.Constant (.bool x) j pos) (zu<|.bl x):=Xa ED λ_=>(show V.bl x = .bl x from rfl)
theorem xu:PV X (.Constant (.str x) j pos) (zu<|.str x):=Xa mO λ_=>(show V.str x = .str x from rfl)
def Snd(K:Ip)(r:R2)(F:D->D->Option D):Prop:=∀H0 H x y dx z d Q,Same H0 H->Rep K H0 dx x->Rep K H0 z y->F dx z=some d->(∀v H' H0',Ext H0 H H0' H'->Rep K H0' d v->Q v H')->r x y H Q
theorem ze(h:o.bind f=some y) : ∃x,o=some x/\f x=some y:=by
 cases o with
 | none=>cases h
 | some x=>exact⟨x,rfl,h⟩
theorem Yt{K:Ip}{r:R2}{F:D->D->Option D}{fa fb:CO D}(hs:Snd K r F) : ∀σ H Q,tV K (zH F fa fb) σ H Q->tOp r (tV K fa) (tV K fb) σ H Q:=λσ H Q O=>by obtain⟨H0,γ,d,rc,z,q⟩:=O;obtain⟨x,e1,z⟩:=ze z;obtain⟨y,U,z⟩:=ze z;refine⟨H0,γ,x,rc,e1,λY H1 a0 x1 r1=>⟨a0,γ,y,rc.ext x1,U,λv2 H2 a3 I r2=>?_⟩⟩;exact hs a3 H2 Y v2 x y d Q I.sub (r1.mono I.s0) r2 z λv H' H0' x3 r3=>q v H' H0' (x1.trans<|I.trans x3) r3
theorem JP(z:OpR X (binaryOp op) r)(hs:Snd X.K r F)(ha:PV X a fa)(hb:PV X b fb):PV X (.BinOp a op b pos) (zH F fa fb):=
 qe (ph z ha hb) (Yt hs)
theorem bZ(z:OpR X (compareOp op) r)(hs:Snd X.K r F)(ha:PV X a fa)(hb:PV X b fb)(hm:behindInMarks op b=false):PV X (.Compare a [op] [b] pos) (zH F fa fb):=
 qe (px z ha hb hm) (Yt hs)
theorem w4{d:D}{b:Bool}(h:asB d=some b):d = .bl b:=by cases d<;>simp[asB]at h;rw[h]
theorem Yl(I:OpR X (compareOp op) r)(hs:Snd X.K r F)(ha:PV X a fa)(hb:PV X b fb)(hm:behindInMarks op b=false):PTD X (.Compare a [op] [b] pos) (sB<|zH F fa fb):=
 Yn (Ym I ha hb hm) λσ H Q O=>by obtain⟨H0,γ,k,rc,z,q⟩:=O;obtain⟨d,e1,z⟩:=ze z;refine Yt hs σ H _ ⟨H0,γ,d,rc,e1,λv H' H0' x r=>?_⟩;rw[w4 z]at r;exact⟨k,r,q H' H0' x⟩
theorem yL{f:CO D}(h:PV X e f)(he : ∀I,isTrue e X.env I=(do let v <- I;standAt e.pos;holding [v] (truthy v)):=by intro _;rfl):PTD X e (sB f):=
 Yn (uJ h he) λσ H Q O=>by obtain⟨H0,γ,k,rc,z,q⟩:=O;obtain⟨d,e1,z⟩:=ze z;refine⟨H0,γ,d,rc,e1,λv H' H0' x r=>?_⟩;rw[w4 z]at r;exact⟨k,r,q H' H0' x⟩
theorem QX(h:PTD X a f):PWD X (.BoolOp .And [a] pos) f:=oJ h
theorem oH(h:PTD X a f):PWD X (.BoolOp .Or [a] pos) f:=uu h
theorem Yj{f g:CO Bool}{xJ:List Expr}(ha:PTD X a f)(hb:PWD X (.BoolOp .And (b::xJ) pos) g):PWD X (.BoolOp .And (a::b::xJ) pos) (gO f g):=
 uw (uv ha hb) λσ H Q I=>by
  obtain⟨H0,γ,k,rc,z,q⟩:=I;obtain⟨c,e1,z⟩:=ze z;refine⟨H0,γ,c,rc,e1,λH' H0' x=>?_⟩;cases c with
  | true=>rw[RY rfl]at z ⊢;exact⟨H0',γ,k,rc.ext x,z,λH2 O U=>q H2 O<|x.trans U⟩
  | false=>rw[EQ IE]at z ⊢;cases z;exact q H' H0' x
theorem uq{f g:CO Bool}{xJ:List Expr}(ha:PTD X a f)(hb:PWD X (.BoolOp .Or (b::xJ) pos) g):PWD X (.BoolOp .Or (a::b::xJ) pos) (tZ f g):=
 uw (Eu ha hb) λσ H Q I=>by
  obtain⟨H0,γ,k,rc,z,q⟩:=I;obtain⟨c,e1,z⟩:=ze z;refine⟨H0,γ,c,rc,e1,λH' H0' x=>?_⟩;cases c with
  | true=>rw[RY rfl]at z ⊢;cases z;exact q H' H0' x
  | false=>rw[EQ IE]at z ⊢;exact⟨H0',γ,k,rc.ext x,z,λH2 O U=>q H2 O<|x.trans U⟩
theorem vV(ha:PTD X a f):PTD X (.UnaryOp .Not a pos) (kf f):=
 Yn (uK ha) λσ H Q I=>by
  obtain⟨H0,γ,k,rc,z,q⟩:=I;unfold kf at z;cases e1:f γ with
  | none=>rw[e1]at z;cases z
  | some c=>rw[e1]at z;cases z;exact⟨H0,γ,c,rc,e1,λH' H0' x=>q H' H0' x⟩
theorem gV(h:PWD X e f):PTD X e f:=h.pt
theorem mD(h:PV X a f):PV X (.BoolOp op [a] pos) f:=uV h
theorem mE{f g:CO D}{xJ:List Expr}(ha:PV X a f)(hb:PV X (.BoolOp .And (b::xJ) pos) g):PV X (.BoolOp .And (a::b::xJ) pos) (BJ f g):=
 qe (Aa ha hb) λσ H Q I=>by
  obtain⟨H0,γ,d,rc,z,q⟩:=I;obtain⟨c,e1,z⟩:=ze z;obtain⟨O,U,e1⟩:=ze e1;refine⟨H0,γ,O,rc,U,λv H' H0' x r=>?_⟩;rw[w4 e1]at r;refine⟨c,r,?_⟩;cases c with
  | true=>rw[RY rfl]at z ⊢;exact⟨H0',γ,d,rc.ext x,z,λY H2 a0 x2 r2=>q Y H2 a0 (x.trans x2) r2⟩
  | false=>rw[EQ IE]at z ⊢;cases z;exact q _ H' H0' x (show V.bl false = .bl false from rfl)
theorem uy(ha:PV X a f):PV X (.UnaryOp .Not a pos) (Ei f):=
 qe (uW ha) λσ H Q O=>by
  obtain⟨H0,γ,d,rc,z,q⟩:=O;unfold Ei at z;cases e1:f γ with
  | none=>rw[e1]at z;cases z
  | some I=>
   rw[e1]at z;refine⟨H0,γ,I,rc,e1,λv H' H0' x r=>?_⟩;cases I with
   | bl c=>cases z;exact⟨c,r,q _ H' H0' x<|show V.bl (!c) = .bl (!c)from rfl⟩
   | _=>cases z
theorem xo(Y:PTD X c k)(ha:PV X a f)(hb:PV X b g):PV X (.IfExp c a b pos) (JM k f g):=
 qe (ip Y ha hb) λσ H Q hZ=>by
  obtain⟨H0,γ,d,rc,z,q⟩:=hZ;obtain⟨t,e1,z⟩:=ze z;refine⟨H0,γ,t,rc,e1,λH' H0' x=>?_⟩;cases t with
  | true=>rw[RY rfl]at z ⊢;exact⟨H0',γ,d,rc.ext x,z,λI H2 O U r2=>q I H2 O (x.trans U) r2⟩
  | false=>rw[EQ IE]at z ⊢;exact⟨H0',γ,d,rc.ext x,z,λI H2 O U r2=>q I H2 O (x.trans U) r2⟩
theorem pz:PAD X [] zE:=Ae qa λσ H Q z=>by obtain⟨H0,γ,ds,rc,I,q⟩:=z;cases I;exact q [] H H0 (Ext.refl rc.sub) Reps.nil
theorem iy(ha:PV X e f)(U:PAD X es g)(hs:starEach (e::es) X.env=(false,eval e X.env)::starEach es X.env:=by rfl):PAD X (e::es) (zb f g):=
 Ae (zX ha U hs) λσ H Q Y=>by
  obtain⟨H0,γ,ds,rc,z,q⟩:=Y;obtain⟨x,e1,z⟩:=ze z;cases I:g γ with
  | none=>rw[I]at z;cases z
  | some r=>
   rw[I]at z;cases z;exact⟨H0,γ,x,rc,e1,λv H1 a0 x1 r1=>⟨a0,γ,r,rc.ext x1,I,λvs H2 a2 O r2=>q (v::vs) H2 a2 (x1.trans O)<|Reps.cons (r1.mono O.s0) r2⟩⟩
theorem jy(h:PAD X es f):PV X (.Tuple es x1 pos) (qh f):=
 qe (uU h) λσ H Q Y=>by
  obtain⟨H0,γ,d,rc,z,q⟩:=Y;obtain⟨ds,e1,z⟩:=ze z;by_cases I:ds.length<=lim
  ·rw[RY I]at z;cases z
   refine⟨H0,γ,ds,rc,e1,λvs H1 a0 x1 O=>⟨yM (by rw[O.length];exact I),λp U=>?_⟩⟩;exact q _ _ _ (x1.trans<|Ext.alloc x1.sub U _) (show ∃a xs,V.ref p = .ref a/\SqT X.K _ a xs/\Reps X.K _ ds xs from⟨p,vs,rfl,SqT.of zJ,O.mono<|zW (jP x1.sub U) _⟩)
  ·rw[EQ I]at z;cases z
theorem k5(h:PAD X es f):PO X (.List es pos) (xX f):=
 qe (uX h) λσ H Q hZ=>by
  obtain⟨H0,γ,d,rc,I,q⟩:=hZ;obtain⟨ds,e1,I⟩:=ze I;by_cases U:ds.length<=lim
  ·rw[RY U]at I;cases I
   refine⟨H0,γ,_,rc,e1,λvs H1 a1 x1 Y=>⟨yM (by rw[Y.length];exact U),λp O=>?_⟩⟩;exact q p vs _ a1 (x1.trans<|Ext.hide x1.sub O _) (by
    cases z:H p with
    | none=>rfl
    | some o=>rw[x1.s1 p o z]at O;cases O) (jP x1.sub O) zJ Y
  ·rw[EQ U]at I;cases I
end
theorem yb:entryFor table "dict.update.loop" = some Builtin.«dict.update.loop» :=entryFor_of_tree (by kernel_rfl)
theorem k4(args:Args):(Code.builtin "dict.update.loop" args).quiet=true:=Code.quiet_builtin _ ⋯
end DL
namespace L2
open PySem PySem.Spec PyProof.Rows
structure M2(X:Cx)(o:Expr)(m:Str)(apos:Pos)(e f:Expr)(cpos:Pos):Prop where
 base:attributeBase o m X.env (eval o X.env)=eval o X.env
 few:((backTo cpos<|starEach [e,f] X.env).all (λx=> !x.1) && (backToKw cpos<|keywordEach [] X.env).all (λx=>x.1.isSome)
  && decide (([e,f]:List Expr).length+([]:List Keyword).length+(if ([]:List Keyword).isEmpty then 0 else 1)<30))=true
 line:(apos.endLine==cpos.line)=true
 trees:backTo cpos (starEach [e,f] X.env)=[(false,eval e X.env),(false,eval f X.env)]
end L2
namespace DL
open PySem L2
def Ii(i:Nat)(f:CO D)(γ:Ctx):Option D:=(qy γ[i]?).bind λds=>(f<|γ.set i<|.val<|.lst ds).bind λd=>if Fj d=true then some d else none
def HA(i:Nat)(f:CO Bool)(γ:Ctx):Option Bool:=(qy γ[i]?).bind λds=>f<|γ.set i<|.val<|.lst ds
def Gq(i:Nat)(γ:Ctx):Option Fl:=(qy γ[i]?).map λ_=> .next (γ.set i<|.own [])
def xh(ds:List D):List D:=(Io ds.length).map λ(i:Nat)=>D.tup [.int i,ds[i]?.getD .non]
def WO(f:CO D)(γ:Ctx):Option (List D):=(f γ).bind λd=>match d with
 | .tup ds=>some (xh ds)
 | _=>none
def Jy:List D->Option (List Int)
 | []=>some []
 | .int i::r=>(Jy r).map λl=>i::l
 | _::_=>none
def Ie(f:CO D)(g:CO (Sk×List D))(γ:Ctx):Option D:=(f γ).bind λd=>(g γ).bind λa=>(asI d).bind λi=>(Jy a.2).map λl=> .bl (decide<|i∈l)
def ed(k:Int):List Int->Option Nat
 | []=>none
 | i::r=>if i=k then some 0 else (ed k r).map (· + 1)
def Ig(f g:CO D)(γ:Ctx):Option D:=(f γ).bind λd=>((g γ).bind asI).bind λk=>match d with
 | .tup ds=>(Jy ds).bind λl=>(ed k l).map λ(j:Nat)=>D.int (j:Int)
 | _=>none
def ff(T:Tg)(f:CO (List D))(γ:Ctx):List D->Option (List<|List D)
 | []=>some []
 | d::ds=>(qM T d γ).bind λγ1=>(f γ1).bind λe=>(ff T f γ ds).map λr=>e::r
def Gp(src:CO (List D))(T:Tg)(n:Nat)(fr:List Nat)(f:CO (List D))(γ:Ctx):Option (List<|List D):=(src γ).bind λds=>if ds.length<=lim then ff T f (jk n fr γ) ds else none
def XJ:Option Cell->Option (List<|List D)
 | some (.nest rows)=>some rows
 | _=>none
def mz(γ:Ctx)(j i:Nat)(r:List D):Ctx:=(γ.set j .no).set i (.own r)
def Wa(j i:Nat)(g f:CO D)(γ:Ctx):List (List D)->Option (List<|List D)
 | []=>some []
 | r::rs=>(f<|mz γ j i r).bind λd=>((g<|mz γ j i r).bind asI).bind λk=>(ixD r.length k).bind λm=>(Wa j i g f γ rs).map λt=>r.set m d::t
def El(j i:Nat)(g f:CO D)(γ:Ctx):Option Fl:=(XJ γ[j]?).bind λrows=>if i=j\/γ.length<=i then none else (Wa j i g f γ rows).map λz=> .next ((γ.set j<|.nest z).set i .no)
def BI(i:Nat)(F:CO Fl)(γ:Ctx):Option Fl:=(qy γ[i]?).bind λds=>F<|γ.set i<|.val<|.lst ds
def Hy(i:Nat)(F:CO Fl)(γ:Ctx):Option Fl:=(XJ γ[i]?).bind λrows=>F<|γ.set i<|.val<|.lst<|rows.map D.lst
def Gk(is:List Nat)(f:CO D)(γ:Ctx):Option Fl:=(f γ).bind λd=>match d with
 | .lst ds=>if ds.length=is.length then some (.next<|qF is ds γ)else none
 | _=>none
def X4:List D->Option (List Str)
 | []=>some []
 | .str x::r=>(X4 r).map λl=>x::l
 | _::_=>none
def ji(x:Str):Bool:=decide<|x.length<=1000
def Ka(f:CO D)(g:CO (Sk×List D))(γ:Ctx):Option D:=(f γ).bind λd=>(g γ).bind λa=>match d,a.1 with
 | .str sep,.L=>(X4 a.2).bind λl=>if l.length<=lim/\l.all ji=true/\ji sep=true then some (.str<|Rl sep l)else none
 | _,_=>none
def JL(f g:CO D)(γ:Ctx):Option D:=(f γ).bind λd=>((g γ).bind asI).bind λi=>match d with
 | .str z=>if ji z=true then (ixD z.cps.toList.length i).bind λk=>z.cps.toList[k]?.map λc=> .str ⟨#[c]⟩else none
 | _=>none
def QV(f:CO D)(γ:Ctx):Option D:=(f γ).bind λd=>match d with
 | .str z=>if ji z=true then some (.int z.length)else none
 | _=>none
def Hz(z O I U:Str)(f:CO D)(γ:Ctx):Option D:=(f γ).bind λd=>match d with
 | .str x=>if z=I then none else if x=z then some (.str O)else if x=I then some (.str U)else none
 | _=>none
def ub(f g:CO D)(γ:Ctx):Option D:=((f γ).bind asI).bind λi=>((g γ).bind asI).map λj=> .int (if j<i then j else i)
abbrev Xn:=Str×Option Int
def xNo:CO Xn:=λ_=>none
def CD(c:Str):CO Xn:=λ_=>some (c,none)
def xIf(k:CO Bool)(G H:CO Xn):CO Xn:=λγ=>(k γ).bind λb=>if b=true then G γ else H γ
def HU(c:Str):Str:=if c==("NoRoom" : Str)then "room" else "at"
def vT(f:CO D)(g:CO (Sk×List D)):CO D:=λγ=>(f γ).bind λd=>(g γ).bind λa=>(asI d).bind λi=>(Jy a.2).map λl=> .bl (!decide (i∈l))
end DL
namespace DL
open PySem L2
open PySem.W (KasT kas_sort)
def xP(z:Str):List D:=z.cps.toList.map λc=>D.str ⟨#[c]⟩
def tU(f:CO D)(γ:Ctx):Option (List D):=(f γ).bind λd=>match d with
 | .str z=>if ji z=true then some (xP z)else none
 | _=>none
def Zp(f:CO D)(γ:Ctx):Option (List D):=(f γ).bind λd=>match d with
 | .str z=>if ji z=true then some (xh<|xP z)else none
 | _=>none
def mr(f:CO D)(γ:Ctx):Option (List D):=(f γ).bind λd=>match d with
 | .lst ds=>some (xh ds)
 | _=>none
def Hx(f:CO D)(g:CO (Sk×List D))(γ:Ctx):Option D:=(f γ).bind λd=>(g γ).bind λa=>match d with
 | .str x=>(X4 a.2).map λl=> .bl (l.any λy=>y==x)
 | _=>none
def gN(f g:CO D):CO D:=λγ=>(f γ).bind λd=>(g γ).bind λe=>match d,e with
 | .str x,.str y=>if ji x=true/\ji y=true then some (.str<|x++y)else none
 | _,_=>none
def tX(f:CO D)(l h:CO (Option Int)):CO D:=λγ=>(f γ).bind λd=>(l γ).bind λlo=>(h γ).bind λhi=>match d with
 | .str z=>if ji z=true then some (.str<|Txt.slice z lo hi)else none
 | _=>none
def EE:D->Option (Int×Int)
 | .tup [.int a,.int b]=>some (a,b)
 | _=>none
def mQ:List D->Option (List<|Int×Int)
 | []=>some []
 | d::r=>(EE d).bind λp=>(mQ r).map λl=>p::l
def HI(x y:Int×Int):Bool:=if x.1=y.1 then decide (x.2<y.2)else decide (x.1<y.1)
def Ep{α:Type}(lt:Nat->Nat->Bool):KasT α->α
 | .ret a=>a
 | .ask i j k=>Ep lt<|k<|lt i j
def Yr(ps:List (Int×Int)):List Nat:=if ps.length<2 then Io ps.length else (Ep (λi j=>HI (ps.getD i (0,0))<|ps.getD j (0,0))<|kas_sort ps.length).toList
def Ef(ds:List D):Option (List D):=(mQ ds).bind λps=>if ds.length<64 then some ((Yr ps).map λi=>ds.getD i .non)else none
def tW(f:CO (Sk×List D))(γ:Ctx):Option (List D):=(f γ).bind λa=>match a.1 with
 | .L=>Ef a.2
 | _=>none
end DL
namespace DL
open PySem L2
def bK(i:Nat)(f:CO (List D))(γ:Ctx):Option Fl:=(qy γ[i]?).bind λds=>(f γ).bind λes=>if ds.length+es.length<=lim then some (.next<|γ.set i<|.own<|ds++es)else none
def mw(F G:List D->Option Res)(g:CO (List D))(γ:Ctx):Option (List D):=(g γ).bind λl=>match l with
 | [p,.str z,t,b]=>((if z=("r" : Str)then F else G) [p,t,b]).bind BK
 | _=>none
def kX:List D->Option (List Int)
 | []=>some []
 | .int i::r=>(kX r).map λl=>i::l
 | _::_=>none
def rP(ds es:List D):Option D:=match kX ds with
 | some ns=>if ds.length=es.length/\ns.Nodup/\ds.length<=lim then some (.dic ds es)else none
 | none=>none
def Xw:List D->List D->Int->Option D
 | k::ks,v::vs,i=>match k with
  | .int j=>if j=i then some v else Xw ks vs i
  | _=>Xw ks vs i
 | _,_,_=>none
open PySem.Spec PyProof.Rows
structure RS(K:Ip)(E0 E H0 H:Hp)(σ:St)(γ:Ctx):Prop where
 rc:RC K H0 H σ γ
 ext:Ext E0 E H0 H
 fresh : ∀(i:Nat) ds a,γ[i]? = some (.own ds)->σ[i]? = some (some (.ref a))->E a=none
 fr2 : ∀(i:Nat) rows a xs,γ[i]? = some (.nest rows)->σ[i]? = some (some (.ref a))->H a=some (.lst xs)->E a=none/\∀b,V.ref b∈xs->E b=none
def Sat(K:Ip)(E0 E:Hp)(D:Ends):Fl->Prop
 | .next γ=>∀σ H H0,RS K E0 E H0 H σ γ->D.nx σ H
 | .brk γ=>∀σ H H0,RS K E0 E H0 H σ γ->D.bk σ H
 | .cont γ=>∀σ H H0,RS K E0 E H0 H σ γ->D.ct σ H
 | .ret (.val d)=>∀v H H0,Ext E0 E H0 H->Rep K H0 d v->D.rt v H
 | .ret (.own es)=>∀a xs H H0,Ext E0 E H0 H->E a=none->H0 a=none->H a=some (.lst xs)->Reps K H0 es xs->D.rt (.ref a) H
def tS(K:Ip)(F:CO Fl):TS:=λD σ H=>∃E0 E H0 γ z,RS K E0 E H0 H σ γ/\F γ=some z/\Sat K E0 E D z
abbrev PSD(X:Cx)(st:Stmt)(F:CO Fl):Prop:=PS X st (tS X.K F)
abbrev aQ(X:Cx)(sts:List Stmt)(F:CO Fl):Prop:=PSs X sts (tS X.K F)
section
variable{K:Ip}{E0 E H0 H H0' H':Hp}{σ:St}{γ:Ctx}
theorem RS.step(r:RS K E0 E H0 H σ γ)(e:Ext H0 H H0' H'):RS K E0 E H0' H' σ γ:=⟨r.rc.ext e,r.ext.trans e,r.fresh,λi rows a xs h1 h2 I=>by obtain⟨O,bs,z,g2,_⟩:=r.rc.nst.1 i rows h1;rw[h2]at z;cases z;have:=e.s1 a _ g2.ha;rw[I]at this;cases this;exact r.fr2 i rows a _ h1 h2 g2.ha⟩
theorem zQ{α:Type}{l:List α}{i j:Nat}{x y:α}(h:(l.set i x)[j]? = some y):(j=i/\y=x/\i<l.length)\/(j≠i/\l[j]? = some y):=by
 by_cases e:i=j
 ·subst e
  by_cases z:i<l.length
  ·rw[LJ z]at h;cases h;exact .inl ⟨rfl,rfl,z⟩
  ·rw[List.set_eq_of_length_le ⋯]at h
   exact absurd (IX.mp h).1 z
 ·rw[IH e]at h;exact .inr ⟨Ly e,h⟩
theorem NestOk.setVal{i:Nat}{d:D}{v:V}(n:NestOk K H0 H σ γ):NestOk K H0 H (σ.set i<|some v) (γ.set i<|.val d):=
 ⟨λj rows e=>by
  rcases zQ e with⟨_,z,_⟩ | ⟨O,z⟩
  ·cases z
  ·obtain⟨a,bs,h1,h2,U⟩:=n.1 j rows z
   refine⟨a,bs,by rw[IH (Ly O)];exact h1,h2,λk ds c e1 I=>?_⟩;rcases zQ e1 with⟨_,z,_⟩ | ⟨hk,z1⟩
   ·cases z
   ·rw[IH (Ly hk)]at I;exact U k ds c z1 I,
 λj k Y r2 e1 I=>by
  rcases zQ e1 with⟨_,z,_⟩ | ⟨_,z1⟩
  ·cases z
  ·rcases zQ I with⟨_,z,_⟩ | ⟨_,z2⟩
   ·cases z
   ·exact n.2 j k Y r2 z1 z2⟩
theorem RC.setVal{i:Nat}{d:D}{v:V}(r:RC K H0 H σ γ)(h:Rep K H0 d v):RC K H0 H (σ.set i<|some v) (γ.set i<|.val d):=by
 refine⟨r.sub,by simp[r.len],λj d' e=>?_,λj ds e=>?_,λj k a ds es e1 e2 U Y=>?_,r.nst.setVal⟩
 ·rcases zQ e with⟨rfl,z,hl⟩ | ⟨I,z⟩
  ·cases z;exact⟨v,LJ (by rw[r.len];exact hl),h⟩
  ·obtain⟨v',O,g2⟩:=r.val j d' z
   exact⟨v',by rw[IH (Ly I)];exact O,g2⟩
 ·rcases zQ e with⟨rfl,z,hl⟩ | ⟨I,z⟩
  ·cases z
  ·obtain⟨a,xs,O,g2⟩:=r.own j ds z
   exact⟨a,xs,by rw[IH (Ly I)];exact O,g2⟩
 ·rcases zQ e1 with⟨_,z,_⟩ | ⟨I,z1⟩
  ·cases z
  ·rcases zQ e2 with⟨_,z,_⟩ | ⟨hk,z2⟩
   ·cases z
   ·rw[IH (Ly I)]at U
    rw[IH (Ly hk)]at Y;exact r.ne j k a ds es z1 z2 U Y
theorem RS.setVal{i:Nat}{d:D}{v:V}(r:RS K E0 E H0 H σ γ)(h:Rep K H0 d v):RS K E0 E H0 H (σ.set i<|some v) (γ.set i<|.val d):=
 ⟨r.rc.setVal h,r.ext,λj ds a e1 I=>by
  rcases zQ e1 with⟨_,z,_⟩ | ⟨O,z⟩
  ·cases z
  ·rw[IH (Ly O)]at I;exact r.fresh j ds a z I,
 λj rows a xs e1 I U=>by
  rcases zQ e1 with⟨_,z,_⟩ | ⟨O,z⟩
  ·cases z
  ·rw[IH (Ly O)]at I;exact r.fr2 j rows a xs z I U⟩
theorem ZH : ∀{z bs:List Addr},z.map V.ref=bs.map V.ref->z=bs
 | [],[],_=>rfl
 | [],_::_,h=>by cases h
 | _::_,[],h=>by cases h
 | a::z,b::bs,h=>by rw[IS,IS]at h;injection h with h1 h2;injection h1 with h1;rw[h1,ZH h2]
theorem RS.setOwn{i:Nat}{es:List D}{a:Addr}{xs:List V}{G0 G:Hp}(r:RS K E0 E G0 G σ γ)(e:Ext G0 G H0 H)(h1:G a=none)(h2:H0 a=none)(h3:H a=some (.lst xs))(h4:Reps K H0 es xs) :
 RS K E0 E H0 H (σ.set i<|some (.ref a)) (γ.set i<|.own es):=by
 have rc:=r.rc.ext e;have no : ∀(j:Nat) ds,γ[j]? = some (.own ds)->¬σ[j]? = some (some (.ref a)):=λj ds g z=>by obtain⟨b,ys,I,g2,g3,_⟩:=r.rc.own j ds g;rw[z]at I;cases I;rw[h1]at g3;cases g3
 refine⟨⟨rc.sub,by simp[rc.len],λj d' g=>?_,λj ds g=>?_,λj k b ds fs e1 Y e3 e4=>?_,⟨λj rows g=>?_,λj k r1 r2 I g2=>?_⟩⟩,r.ext.trans e,λj ds b I g2=>?_,λj rows b xs I g2 g3=>?_⟩
 ·rcases zQ g with⟨_,z,_⟩ | ⟨O,z⟩
  ·cases z
  ·obtain⟨v',I,g2⟩:=rc.val j d' z
   exact⟨v',by rw[IH (Ly O)];exact I,g2⟩
 ·rcases zQ g with⟨rfl,z,U⟩ | ⟨O,z⟩
  ·cases z;exact⟨a,xs,LJ (by rw[rc.len];exact U),h2,h3,h4⟩
  ·obtain⟨b,ys,I,g2⟩:=rc.own j ds z
   exact⟨b,ys,by rw[IH (Ly O)];exact I,g2⟩
 ·rcases zQ e1 with⟨rfl,z,U⟩ | ⟨O,z1⟩
  ·rcases zQ Y with⟨rfl,_,_⟩ | ⟨hk,z2⟩
   ·rfl
   ·rw[LJ (by rw[rc.len];exact U)]at e3
    rw[IH (Ly hk)]at e4;cases e3;exact absurd e4<|no k fs z2
  ·rcases zQ Y with⟨rfl,z,U⟩ | ⟨hk,z2⟩
   ·rw[LJ (by rw[rc.len];exact U)]at e4
    rw[IH (Ly O)]at e3;cases e4;exact absurd e3<|no j ds z1
   ·rw[IH (Ly O)]at e3
    rw[IH (Ly hk)]at e4;exact rc.ne j k b ds fs z1 z2 e3 e4
 ·rcases zQ g with⟨_,z,_⟩ | ⟨O,z⟩
  ·cases z
  ·obtain⟨b,bs,I,g2,g3⟩:=r.rc.nst.1 j rows z
   obtain⟨b',a3,f1,f2,f3⟩:=rc.nst.1 j rows z;rw[I]at f1;cases f1;have eb:a3.map V.ref=bs.map V.ref:=by have:=e.s1 b _ g2.ha;rw[f2.ha]at this;injection this with this;injection this
   have ae:a3=bs:=ZH eb;subst ae;refine⟨b,a3,by rw[IH (Ly O)];exact I,f2,λk ds c e1 Y=>?_⟩;rcases zQ e1 with⟨rfl,_,U⟩ | ⟨hk,z1⟩
   ·rw[LJ (by rw[rc.len];exact U)]at Y;cases Y
    intro hm;obtain⟨_,am,q⟩:=g2.at hm;rw[h1]at q;cases q
   ·rw[IH (Ly hk)]at Y;exact f3 k ds c z1 Y
 ·rcases zQ I with⟨_,z,_⟩ | ⟨_,z1⟩
  ·cases z
  ·rcases zQ g2 with⟨_,z,_⟩ | ⟨_,z2⟩
   ·cases z
   ·exact rc.nst.2 j k r1 r2 z1 z2
 ·rcases zQ I with⟨rfl,z,U⟩ | ⟨O,z⟩
  ·rw[LJ (by rw[rc.len];exact U)]at g2;cases g2
   cases q:E a with
   | none=>rfl
   | some o=>rw[r.ext.s1 a o q]at h1;cases h1
  ·rw[IH (Ly O)]at g2;exact r.fresh j ds b z g2
 ·rcases zQ I with⟨_,z,_⟩ | ⟨O,z⟩
  ·cases z
  ·rw[IH (Ly O)]at g2;exact(r.step e).fr2 j rows b xs z g2 g3
theorem RS.rewrite{i:Nat}{ds es:List D}{a:Addr}{xs ys:List V}(r:RS K E0 E H0 H σ γ)(hi:γ[i]? = some (.own ds))(hs:σ[i]? = some (some (.ref a)))(h4:Reps K H0 es ys) :
 RS K E0 E H0 (upd H a<|.lst ys) σ (γ.set i<|.own es):=by
 obtain⟨a',ae,g1,g2,g3,g4⟩:=r.rc.own i ds hi;rw[hs]at g1;cases g1;have an:i<γ.length:=(IX.mp hi).1;refine⟨⟨λb o q=>?_,by simp[r.rc.len],λj d' g=>?_,λj fs g=>?_,λj k b fs gs e1 I e3 e4=>?_,⟨λj rows g=>?_,λj k r1 r2 e1 I=>?_⟩⟩,⟨r.ext.s0,λb o q=>?_,λb o q=>?_,r.ext.new⟩,λj fs b e1 I=>?_,λj rows b zs e1 I e3=>?_⟩
 ·rw[zL (λz=>by rw[z,g2]at q;cases q)];exact r.rc.sub b o q
 ·rcases zQ g with⟨_,z,_⟩ | ⟨hj,z⟩
  ·cases z
  ·exact r.rc.val j d' z
 ·rcases zQ g with⟨rfl,z,hl⟩ | ⟨hj,z⟩
  ·cases z;exact⟨a,ys,hs,g2,zJ,h4⟩
  ·obtain⟨b,zs,O,U,Y,f4⟩:=r.rc.own j fs z
   refine⟨b,zs,O,U,?_,f4⟩;rw[zL (λq=>hj<|r.rc.ne j i a fs ds z hi (by rw[O,q]) hs)];exact Y
 ·have c1 : ∃fs',γ[j]? = some (.own fs'):=by
   rcases zQ e1 with⟨q,_,_⟩ | ⟨_,z⟩
   ·exact⟨ds,by rw[q];exact hi⟩
   ·exact⟨fs,z⟩
  have c2 : ∃fs',γ[k]? = some (.own fs'):=by
   rcases zQ I with⟨q,_,_⟩ | ⟨_,z⟩
   ·exact⟨ds,by rw[q];exact hi⟩
   ·exact⟨gs,z⟩
  obtain⟨O,z1⟩:=c1;obtain⟨U,z2⟩:=c2;exact r.rc.ne j k b O U z1 z2 e3 e4
 ·rcases zQ g with⟨_,z,_⟩ | ⟨hj,z⟩
  ·cases z
  ·obtain⟨b,bs,O,U,Y⟩:=r.rc.nst.1 j rows z
   have a4:=Y i ds a hi hs;refine⟨b,bs,O,U.move (Same.refl _) (λc hc=>(U.at hc).1)<|λc hc=>zL λq=>a4<|q ▸ hc,λk fs c e1 I=>?_⟩;rcases zQ e1 with⟨q,_,_⟩ | ⟨_,z1⟩
   ·rw[q,hs]at I;cases I;exact a4
   ·exact Y k fs c z1 I
 ·rcases zQ e1 with⟨_,z,_⟩ | ⟨_,z1⟩
  ·cases z
  ·rcases zQ I with⟨_,z,_⟩ | ⟨_,z2⟩
   ·cases z
   ·exact r.rc.nst.2 j k r1 r2 z1 z2
 ·rw[zL (λz=>by rw[z,r.fresh i ds a hi hs]at q;cases q)];exact r.ext.s1 b o q
 ·rw[zL (λz=>by rw[z,g2]at q;cases q)];exact r.ext.sub b o q
 ·rcases zQ e1 with⟨q,_,_⟩ | ⟨_,z⟩
  ·rw[q]at I;exact r.fresh i ds b hi I
  ·exact r.fresh j fs b z I
 ·rcases zQ e1 with⟨_,z,_⟩ | ⟨hj,z⟩
  ·cases z
  ·obtain⟨b',bs,O,U,Y⟩:=r.rc.nst.1 j rows z
   rw[I]at O;cases O;rw[zL (show b≠a from λq=>Y i ds a hi hs<|by rw[q];exact IY)]at e3;exact r.fr2 j rows b zs z I e3
end
section
variable{X:Cx}{e a b c:Expr}{pos:Pos}{st:Stmt}{xJ:List Stmt}
theorem j9:aQ X [] xc:=cg oP λD σ H z=>by obtain⟨E0,E,H0,γ,U,rs,I,O⟩:=z;cases I;exact O σ H H0 rs
theorem zo{F G:CO Fl}(h1:PSD X st F)(h2:aQ X xJ G):aQ X (st::xJ) (zK F G):=cg (wL h1 h2) λD σ H U=>by
 obtain⟨E0,E,H0,γ,Y,rs,z,I⟩:=U;obtain⟨O,e1,z⟩:=ze z;refine⟨E0,E,H0,γ,O,rs,e1,?_⟩;cases O with
 | next γ'=>exact λσ' H' H0' a0=>⟨E0,E,H0',γ',Y,a0,z,I⟩
 | brk γ'=>cases z;exact I
 | cont γ'=>cases z;exact I
 | ret r=>cases z;cases r<;>exact I
theorem zq(h1:PSD X st F):aQ X [st] F:=Zr h1
theorem zA(h:o.map f=some y) : ∃x,o=some x/\f x=y:=by
 cases o with
 | none=>cases h
 | some x=>exact⟨x,rfl,by simpa using h⟩
theorem zR{f:CO D}(h:PV X e f):PSD X (.Return (some e) pos) (qv f):=ki (JR h) λD σ H I=>by obtain⟨E0,E,H0,γ,U,rs,z,O⟩:=I;obtain⟨d,e1,z⟩:=zA z;subst z;exact⟨H0,γ,d,rs.rc,e1,λv H' H0' x r=>O v H' H0' (rs.ext.trans x) r⟩
theorem yk{f:CO (List D)}(h:PO X e f):PSD X (.Return (some e) pos) (vS f):=ki (JR h) λD σ H I=>by
 obtain⟨E0,E,H0,γ,Y,rs,z,O⟩:=I;obtain⟨ds,e1,z⟩:=zA z;subst z;refine⟨H0,γ,ds,rs.rc,e1,λa xs H' H0' x h1 h2 U r=>O a xs H' H0' (rs.ext.trans x) ?_ h2 U r⟩;cases q:E a with
 | none=>rfl
 | some o=>rw[rs.ext.s1 a o q]at h1;cases h1
theorem kF(i:Nat)(h:PE X e (Jk i)):PSD X (.Return (some e) pos) (Zn i):=ki (JR h) λD σ H O=>by
 obtain⟨E0,E,H0,γ,fl,rs,z,I⟩:=O;unfold Zn at z;cases e1:γ[i]? with
 | none=>rw[e1]at z;cases z
 | some c=>
  rw[e1]at z;cases c with
  | no=>cases z
  | val d=>
   cases z;obtain⟨v,h1,h2⟩:=rs.rc.val i d e1;exact⟨v,h1,I v H H0 rs.ext h2⟩
  | nest rows=>cases z
  | own ds=>
   cases z;obtain⟨a,xs,h1,h2,U,Y⟩:=rs.rc.own i ds e1;exact⟨_,h1,I a xs H H0 rs.ext (rs.fresh i ds a e1 h1) h2 U Y⟩
theorem Kf:PSD X (.Continue pos) oE:=ki Yo λD σ H ⟨E0,E,H0,γ,O,rs,z,I⟩=>by cases z;exact I σ H H0 rs
theorem ve:PSD X st wu:=ki hV λD σ H ⟨E0,E,H0,γ,I,rs,z,O⟩=>by cases z
theorem xQ{k:CO Bool}{F G:CO Fl}{x y:List Stmt}(U:PTD X c k)(ha:aQ X x F)(hb:aQ X y G):PSD X (.If c x y pos) (sIf k F G):=ki (Ez U ha hb) λD σ H Y=>by
 obtain⟨E0,E,H0,γ,I,rs,z,O⟩:=Y;obtain⟨t,e1,z⟩:=ze z;refine⟨H0,γ,t,rs.rc,e1,λH' H0' x=>?_⟩;cases t with
 | true=>rw[RY rfl]at z ⊢;exact⟨E0,E,H0',γ,I,rs.step x,z,O⟩
 | false=>rw[EQ IE]at z ⊢;exact⟨E0,E,H0',γ,I,rs.step x,z,O⟩
theorem oQ(i:Nat){f:CO D}(h:PS X st (WA (tV X.K f)<|yx i)):PSD X st (jo i f):=ki h λD σ H I=>by obtain⟨E0,E,H0,γ,U,rs,z,O⟩:=I;obtain⟨d,e1,z⟩:=zA z;subst z;exact⟨H0,γ,d,rs.rc,e1,λv H' H0' x r=>O _ _ H0'<|(rs.step x).setVal r⟩
theorem VG(i:Nat){f:CO (List D)}(h:PS X st (WA (tO X.K f)<|yx i)):PSD X st (ke i f):=ki h λD σ H I=>by obtain⟨E0,E,H0,γ,Y,rs,z,O⟩:=I;obtain⟨ds,e1,z⟩:=zA z;subst z;exact⟨H0,γ,ds,rs.rc,e1,λa xs H' H0' x h1 h2 U r=>O _ _ H0'<|rs.setOwn x h1 h2 U r⟩
theorem xU(h:qy o=some ds):o=some (.own ds):=by
 cases o with
 | none=>cases h
 | some c=>cases c<;>simp[qy]at h;rw[h]
theorem WV(i:Nat){f:CO D}(h:PE X e (tBM X.K "list" bS (Jk i) (Zh (tV X.K f) sG)))(hs:swapsWith e none pos.line X.env=pure false:=by rfl):PSD X (.Expr e pos) (kZ i f):=
 ki (Xe h hs) λD σ H Y=>by
  obtain⟨E0,E,H0,γ,fl,rs,z,a0⟩:=Y;obtain⟨ds,e1,z⟩:=ze z;obtain⟨d,e2,z⟩:=ze z;have e1:=xU e1;by_cases I:ds.length<lim
  ·rw[RY I]at z;cases z
   obtain⟨a,xs,h1,h2,O,U⟩:=rs.rc.own i ds e1;refine⟨_,h1,.inl ⟨rfl,_,SqL.of O⟩,H0,γ,d,rs.rc,e2,λv H' H0' x r=>?_⟩;have a2:=rs.step x;have a3:=x.s1 _ _ O;refine⟨a,xs,v,rfl,rfl,a3,?_,?_⟩
   ·exact IW (by rw[U.length];exact I)<|yM<|IC _
   ·exact a0 _ _ H0'<|a2.rewrite (xs:=xs) e1 h1<|(U.mono x.s0).append (Reps.cons r Reps.nil)
  ·rw[EQ I]at z;cases z
end
def Hd(K:Ip)(H0 H:Hp)(Q:VK):Res->Prop
 | .val d=>∀v H' H0',Ext H0 H H0' H'->Rep K H0' d v->Q v H'
 | .own es=>∀a xs H' H0',Ext H0 H H0' H'->H a=none->H0' a=none->H' a=some (.lst xs)->Reps K H0' es xs->Q (.ref a) H'
def spF(K:Ip)(n:Nat)(F:List D->Option Res):Sp:=λvs H Q _=>∃H0 ds r,Same H0 H/\Reps K H0 ds vs/\ds.length=n/\F ds=some r/\Hd K H0 H Q r
theorem spF.len{K:Ip}{n:Nat}{F:List D->Option Res}{ps:List Str}(hn:ps.length=n) : ∀vs H Q E,spF K n F vs H Q E->vs.length=ps.length:=λvs H Q E h=>by obtain⟨H0,ds,r,_,h1,h2,_⟩:=h;rw[h1.length,h2,hn]
section
variable{P:Program}{w:World}{K:Ip}{mg:RJ}{base:Heap}
theorem Vw(s:Same H0 H)(h:Reps K H0 ds vs)(hn:ds.length<=N.length):RS K H0 H H0 H (Jt N vs) (zY N.length ds):=by
 have z:=h.length;refine⟨⟨s,by simp[L2.Jt,zY,z],λi d e=>?_,λi es e=>?_,λi j a es fs e _ _ _=>?_,NestOk.nil0 λi rows e=>?_⟩,Ext.refl s,λi es a e _=>?_,λi rows a xs e _ _=>?_⟩
 all_goals unfold zY at e
 ·by_cases hi:i<ds.length
  ·rw[LX (by simpa using hi),Lo]at e
   cases e1:ds[i]? with
   | none=>rw[e1]at e;cases e
   | some d'=>
    rw[e1]at e;cases e;obtain⟨x,I,g2⟩:=h.get e1;refine⟨x,?_,g2⟩;unfold L2.Jt;rw[LX (by simp;omega),Lo,I];rfl
  ·rw[LB (by simpa using hi),NM]at e
   split at e<;>cases e
 all_goals
  by_cases hi:i<ds.length
  ·rw[LX (by simpa using hi),Lo]at e
   cases e1:ds[i]? with
   | none=>rw[e1]at e;cases e
   | some d'=>rw[e1]at e;cases e
  ·rw[LB (by simpa using hi),NM]at e
   split at e<;>cases e
theorem Fg{x qual:Str}{st:Stmt}{f:Addr}{fd:FuncData}{N ps:List Str}{k:Nat}{F:CO Fl}(U:L2.Fun K x qual st f fd)(S:FnScope N ps (zT st))
 (Y : ∀(cdv:Value) (A:Around) (outer:List Env) (s:Shared) (H:Hp) (E:XK),Room k (A.deeper<|envOfC qual (zT st) s.heap.objs.size f cdv)->aQ (rW CX0 P w K mg base N qual (zT st) f cdv A outer s H E).nox (jZ st) F) :
 FnOk P w K mg base CX0 (k+1) f fd ps (spF K ps.length<|z6 N.length F):=by
 refine U.ok S (spF.len rfl)<|λcdv A outer s H vs Q E hr h=>⟨_,Y cdv A outer s H E hr,?_⟩;obtain⟨H0,ds,r,s0,h1,h2,h3,I⟩:=h;obtain⟨O,e1,z⟩:=ze h3;have a2:ps.length<=N.length:=by have:=congrArg Po S.pre;rw[Nl]at this;omega
 refine⟨H0,H,H0,zY N.length ds,O,Vw s0 h1 ⋯,e1,?_⟩;cases O with
 | ret r'=>cases z;cases r<;>exact I
 | next γ=>cases z;exact λσ' H' H0' rs=>I .non H' H0' rs.ext (show V.non = .non from rfl)
 | brk γ=>cases z
 | cont γ=>cases z
end
section
variable{X:Cx}{es:List Expr}{pos p:Pos}{k:Nat}{f:Addr}{fd:FuncData}{ps:List Str}{x:Str}{F:List D->Option Res}{g:CO (List D)}
theorem oM{A0:List Expr}(G:FnOk X.prog X.w X.K X.mg X.base CX0 k f fd ps (spF X.K ps.length F))(ha:PAD X es g)(Y : ∀γ ds,g γ=some ds->ds.length=ps.length)
 (hc : ∀{t:TA},PA X es t->PE X (.Call (.Name x p) es [] pos) (gA (spF X.K ps.length F) [] E0 t)):PV X (.Call (.Name x p) es [] pos) (zC F g):=
 qe (hc ha) λσ H Q hZ=>by
  obtain⟨H0,γ,d,rc,z,q⟩:=hZ;obtain⟨ds,e1,z⟩:=ze z;obtain⟨r,e2,z⟩:=zA z;refine⟨H0,γ,ds,rc,e1,λvs H1 a3 x1 r1=>⟨a3,ds,r,x1.sub,by simpa using r1,Y γ ds e1,e2,?_⟩⟩;subst z;cases r with
  | val d=>exact λv H' H0' I r2=>q v H' H0' (x1.trans I) r2
  | own fs=>
   refine λa xs H' H0' I h1 h2 h3 r2=>q _ H' _ (x1.trans<|I.show h1 h2 h3 x1.sub) ?_;exact(show ∃O U,V.ref a = .ref O/\SqL X.K _ O U/\Reps X.K _ fs U from⟨a,xs,rfl,SqL.of zJ,r2.mono<|zW h2 _⟩)
theorem oZ(G:FnOk X.prog X.w X.K X.mg X.base CX0 k f fd ps (spF X.K ps.length F))(ha:PAD X es g)(O : ∀γ ds,g γ=some ds->ds.length=ps.length)
 (U : ∀{t:TA},PA X es t->PE X (.Call (.Name x p) es [] pos) (gA (spF X.K ps.length F) [] E0 t)):PO X (.Call (.Name x p) es [] pos) (jB F g):=
 qe (U ha) λσ H Q Y=>by
  obtain⟨H0,γ,fs,rc,I,q⟩:=Y;obtain⟨ds,e1,I⟩:=ze I;obtain⟨r,e2,I⟩:=ze I;refine⟨H0,γ,ds,rc,e1,λvs H1 a1 x1 r1=>⟨a1,ds,r,x1.sub,by simpa using r1,O γ ds e1,e2,?_⟩⟩;cases r with
  | val d=>cases I
  | own gs=>
   cases I;exact λa xs H' H0' x2 h1 h2 h3 r2=>q a xs H' H0' (x1.trans x2) (by
    cases z:H a with
    | none=>rfl
    | some o=>rw[x1.s1 a o z]at h1;cases h1) h2 h3 r2
end
structure Walk(K:Ip)(H0 Hs:Hp)(J:It)(ds:List D):Prop where
 go : ∀i H1,Same Hs H1->i<ds.length->J.go i H1
 stop : ∀H1,Same Hs H1->J.stop ds.length H1
 yld : ∀i H1 x H1',Same Hs H1->i<ds.length->J.yld i H1 x H1'->∃d,ds[i]? = some d/\∀G0,Same H0 G0->Same G0 H1->∃G0',Ext G0 H1 G0' H1'/\Rep K G0' d x
theorem Walk.weak{K:Ip}{H0 Hs z:Hp}{J:It}{ds:List D}(w:Walk K H0 Hs J ds)(s:Same Hs z):Walk K H0 z J ds:=
 ⟨λi H1 h=>w.go i H1<|s.trans h,λH1 h=>w.stop H1<|s.trans h,λi H1 x H1' h=>w.yld i H1 x H1'<|s.trans h⟩
theorem QK{k:Sk}{K:Ip}{H0 Hs:Hp}{a:Addr}{xs:List V}{ds:List D}(h:SqK k K Hs a xs)(r:Reps K H0 ds xs):Walk K H0 Hs (Itk k K a) ds:=by
 have O:=r.length;refine⟨λi H1 s hi=>?_,λH1 s=>?_,λi H1 x H1' s hi y=>?_⟩
 ·have hx:i<xs.length:=by omega
  cases k with
  | L=>exact⟨xs,xs[i],s.seq h,Iv hx⟩
  | T=>exact⟨xs,xs[i],sameT s h,Iv hx⟩
 ·cases k with
  | L=>exact⟨xs,s.seq h,by omega⟩
  | T=>exact⟨xs,sameT s h,by omega⟩
 ·have e:H1'=H1/\xs[i]? = some x:=by
   cases k with
   | L=>exact⟨y.1,y.2 xs<|s.seq h⟩
   | T=>exact⟨y.1,y.2 xs<|sameT s h⟩
  obtain⟨e1,z⟩:=e;subst e1;obtain⟨d,hd,I⟩:=r.getV z;exact⟨d,hd,λG0 s1 s2=>⟨G0,Ext.refl s2,I.mono s1⟩⟩
theorem vU(lo:Int)(n:Nat):(vc lo n).length=n:=by simp[vc]
theorem JF{K:Ip}{H0 Hs:Hp}(lo:Int)(n:Nat):Walk K H0 Hs (Itr lo n) (vc lo n):=by
 refine⟨λi H1 s hi=>?_,λH1 s=>?_,λi H1 x H1' s hi y=>?_⟩
 ·rw[vU]at hi;exact hi
 ·rw[vU];exact IC _
 ·rw[vU]at hi
  obtain⟨e1,z⟩:=y;subst e1 z;exact⟨.int<|lo+i,by simp[vc,hi],λG0 s1 s2=>⟨G0,Ext.refl s2,(show V.int (lo+i) = .int (lo+i)from rfl)⟩⟩
theorem gp{I O:Sk}{K:Ip}{H0 Hs:Hp}{a b:Addr}{xs ys:List V}{ds es:List D}(h1:SqK I K Hs a xs)(U:Reps K H0 ds xs)(h2:SqK O K Hs b ys)(r2:Reps K H0 es ys) :
 Walk K H0 Hs (Itz I O K a b) (Jq ds es):=by
 have l1:=U.length;have l2:=r2.length;have hz:(Jq ds es).length=min ds.length es.length:=by simp[Jq]
 refine⟨λi H1 s hi=>?_,λH1 s=>?_,λi H1 x H1' s hi y=>?_⟩
 ·exact⟨xs,ys,X9 s h1,X9 s h2,by omega,by omega⟩
 ·refine⟨xs,ys,X9 s h1,X9 s h2,?_⟩
  rw[hz];omega
 ·obtain⟨p,u,v,e1,z,e2,g1,g2⟩:=y
  obtain⟨d,hd,hr⟩:=U.getV<|g1 xs<|X9 s h1;obtain⟨c,hc,a5⟩:=r2.getV<|g2 ys<|X9 s h2;refine⟨.tup [d,c],?_,λG0 s1 s2=>⟨upd G0 p<|.tup [u,v],?_,?_⟩⟩
  ·have a6:(ds.zip es)[i]? = some (d,c):=List.getElem?_zip_eq_some.mpr ⟨hd,hc⟩
   simp[Jq,a6]
  ·rw[e2];exact Ext.alloc s2 z _
  ·rw[e1]
   exact(show ∃Y a0,V.ref p = .ref Y/\SqT K _ Y a0/\Reps K _ [d,c] a0 from⟨p,[u,v],rfl,SqT.of zJ,Reps.cons ((hr.mono s1).mono (zW (jP s2 z) _))<|Reps.cons ((a5.mono s1).mono (zW (jP s2 z) _)) Reps.nil⟩)
def tIc(K:Ip)(src:CO (List D)):TI:=λσ H R=>∃H0 γ ds,RC K H0 H σ γ/\src γ=some ds/\∀J H' H0',Ext H0 H H0' H'->Walk K H0' H' J ds->R J H'
def tIf(K:Ip)(src:CO (List D)):TI:=λσ H R=>∃H0 γ ds,RC K H0 H σ γ/\src γ=some ds/\∀J H' H0',Ext H0 H H0' H'->Walk K H0' H0' J ds->R J H'
abbrev PIC(X:Cx)(tg e:Expr)(src:CO (List D)):Prop:=PI X tg e (tIc X.K src)
abbrev PIF(X:Cx)(tg e:Expr)(src:CO (List D)):Prop:=PI X tg e (tIf X.K src)
section
variable{X:Cx}{tg e a b:Expr}{pos p:Pos}
theorem PIF.c(h:PIF X tg e src):PIC X tg e src:=Kh h λσ H R ⟨H0,γ,ds,rc,z,q⟩=>⟨H0,γ,ds,rc,z,λJ H' H0' x w=>q J H' H0' x<|w.weak x.sub⟩
theorem ju(h:PQ X e f):PIC X tg e (zO f):=Kh (mM h) λσ H R z=>by obtain⟨H0,γ,ds,rc,I,q⟩:=z;obtain⟨⟨k,es⟩,e1,O⟩:=zA I;subst O;exact⟨H0,γ,k,es,rc,e1,λa xs H' H0' x h1 _ r=>⟨a,k,rfl,⟨xs,h1⟩,q _ H' H0' x<|QK h1 r⟩⟩
theorem Yq(h:PV X e f):PIF X tg e (zO<|zG f):=Kh (mM h) λσ H R O=>by
 obtain⟨H0,γ,ds,rc,U,q⟩:=O;obtain⟨⟨k,es⟩,e1,z⟩:=zA U;subst z;obtain⟨d,Y,e1⟩:=ze e1;refine⟨H0,γ,d,rc,Y,λv H' H0' x r=>?_⟩;cases d with
 | tup fs=>
  obtain⟨z,I⟩:k = .T/\es=fs:=by simp[jf]at e1;exact⟨e1.1.symm,e1.2.symm⟩
  subst z I;obtain⟨a,xs,rfl,h1,h2⟩:=(show ∃a xs,v = .ref a/\SqT X.K H0' a xs/\Reps X.K H0' es xs from r);exact⟨a,.T,rfl,⟨xs,sameT x.sub h1⟩,q _ H' H0' x<|QK (k:= .T) h1 h2⟩
 | lst fs=>
  obtain⟨z,I⟩:k = .L/\es=fs:=by simp[jf]at e1;exact⟨e1.1.symm,e1.2.symm⟩
  subst z I;obtain⟨a,xs,rfl,h1,h2⟩:=(show ∃a xs,v = .ref a/\SqL X.K H0' a xs/\Reps X.K H0' es xs from r);exact⟨a,.L,rfl,⟨xs,x.sub.seq h1⟩,q _ H' H0' x<|QK (k:= .L) h1 h2⟩
 | _=>simp[jf]at e1
theorem qc(h:asI d=some i):d = .int i:=by cases d<;>simp[asI]at h;rw[h]
theorem Xr(h:inR i=true) : -(2 ^ 62)<=i/\i<2 ^ 62:=by unfold inR at h;have h:=of_decide_eq_true h;omega
theorem WZ(I:Gl X "range")(hm:X.mg "range" = none)(ha:PV X a f)(hs:starEach [a] X.env=[(false,eval a X.env)]:=by rfl):PIF X tg (.Call (.Name "range" p) [a] [] pos) (jK f):=
 Kh (cF I hm (zX ha qa hs) hs) λσ H R O=>by
  obtain⟨H0,γ,ds,rc,z,q⟩:=O;obtain⟨n,e1,z⟩:=ze z;obtain⟨d,U,e1⟩:=ze e1;by_cases hn:inR n=true
  ·rw[RY hn]at z;cases z
   refine⟨H0,γ,d,rc,U,λv H' H0' x r=>?_⟩;rw[qc e1]at r;obtain⟨h1,h2⟩:=Xr hn;exact⟨n,by rw[show v = .int n from r],h1,h2,q _ H' H0' x<|JF 0 n.toNat⟩
  ·rw[EQ hn]at z;cases z
theorem WY(U:Gl X "range")(hm:X.mg "range" = none)(ha:PV X a f)(hb:PV X b g)(hs:starEach [a,b] X.env=[(false,eval a X.env),(false,eval b X.env)]:=by rfl)(I:starEach [b] X.env=[(false,eval b X.env)]:=by rfl) :
 PIF X tg (.Call (.Name "range" p) [a,b] [] pos) (QU f g):=
 Kh (cE U hm (zX ha (zX hb qa I)<|by rw[hs,I]) hs I) λσ H R Y=>by
  obtain⟨H0,γ,ds,rc,z,q⟩:=Y;obtain⟨m,e1,z⟩:=ze z;obtain⟨d,e0,e1⟩:=ze e1;obtain⟨n,O,z⟩:=ze z;obtain⟨c,e2,O⟩:=ze O;by_cases hn:inR m=true/\inR n=true
  ·rw[RY hn]at z;cases z
   refine⟨H0,γ,d,rc,e0,λv H' H0' x r=>⟨H0',γ,c,rc.ext x,e2,λv2 H2 a3 x2 r2=>?_⟩⟩;rw[qc e1]at r;rw[qc O]at r2;obtain⟨h1,h2⟩:=Xr hn.1;obtain⟨h3,h4⟩:=Xr hn.2;exact⟨m,n,by rw[show v = .int m from r,show v2 = .int n from r2],⟨h1,h2,h3,h4⟩,q _ H2 a3 (x.trans x2)<|JF m (n - m).toNat⟩
  ·rw[EQ hn]at z;cases z
theorem bG{K:Ip}{H:Hp}{d:D}{v:V}{k:Sk}{ds:List D}(r:Rep K H d v)(e:jf d=some (k,ds)) : ∃a xs,v = .ref a/\SqK k K H a xs/\Reps K H ds xs:=by
 cases d with
 | tup fs=>simp[jf]at e;obtain⟨e1,z⟩:=e;subst e1 z;exact r
 | lst fs=>simp[jf]at e;obtain⟨e1,z⟩:=e;subst e1 z;exact r
 | _=>simp[jf]at e
theorem pe{f g:CO D}{elts:List Expr}{x1:Nat}{tpos:Pos}(hg:Gl X "zip")(hm:X.mg "zip" = none)(ha:PV X a f)(hb:PV X b g)(hs:starEach [a,b] X.env=[(false,eval a X.env),(false,eval b X.env)]:=by rfl)(O:starEach [b] X.env=[(false,eval b X.env)]:=by rfl) :
 PIF X (.Tuple elts x1 tpos) (.Call (.Name "zip" p) [a,b] [] pos) (gG f g):=
 Kh (uS hg hm (zX ha (zX hb qa O)<|by rw[hs,O]) PyProof.Rows.boot_zip hs O) λσ H R hZ=>by obtain⟨H0,γ,ds,rc,z,q⟩:=hZ;obtain⟨⟨k1,m⟩,e1,z⟩:=ze z;obtain⟨d,e0,e1⟩:=ze e1;obtain⟨⟨k2,n⟩,U,z⟩:=zA z;obtain⟨c,e2,U⟩:=ze U;subst z;refine⟨H0,γ,d,rc,e0,λv H' H0' x r=>⟨H0',γ,c,rc.ext x,e2,λv2 H2 a9 I r2=>?_⟩⟩;obtain⟨a1,xs,rfl,Y,g2⟩:=bG (r.mono I.s0) e1;obtain⟨a2,ys,rfl,g3,g4⟩:=bG r2 U;exact⟨k1,k2,a1,a2,rfl,⟨xs,X9 I.sub Y⟩,⟨ys,X9 I.sub g3⟩,q _ H2 a9 (x.trans I)<|gp Y g2 g3 g4⟩
end
def Vu:List Nat->List V->St->St
 | i::is,v::vs,σ=>Vu is vs<|σ.set i<|some v
 | _,_,σ=>σ
def gs:List Nat->TGs
 | []=>GC
 | i::is=>Bb (yx i)<|gs is
def gOf(K:Ip):Tg->TG
 | .nm i=>yx i
 | .tp is=>GB K is.length<|gs is
theorem dQ : ∀{is:List Nat} {vs:List V} {σ:St} {H:Hp} {Q:St->Hp->Prop},vs.length=is.length->Q (Vu is vs σ) H->gs is vs σ H Q
 | [],[],_,_,_,_,q=>⟨rfl,q⟩
 | i::is,v::vs,σ,H,Q,hl,q=>⟨v,vs,rfl,dQ (by simpa using hl) q⟩
 | [],_::_,_,_,_,hl,_=>by simp at hl
 | _::_,[],_,_,_,hl,_=>by simp at hl
theorem RS.setAll{K:Ip}{E0 E H0 H:Hp} : ∀{is:List Nat} {ds:List D} {vs:List V} {σ:St} {γ:Ctx},RS K E0 E H0 H σ γ->Reps K H0 ds vs->RS K E0 E H0 H (Vu is vs σ) (qF is ds γ)
 | [],ds,vs,σ,γ,r,h=>by cases ds<;>cases vs<;>exact r
 | i::is,[],vs,σ,γ,r,h=>by rw[h.inv_nil];exact r
 | i::is,d::ds,vs,σ,γ,r,h=>by obtain⟨x,t,e,h1,h2⟩:=h.inv_cons;subst e;show RS K E0 E H0 H (DL.Vu is t<|σ.set i<|some x) (qF is ds<|γ.set i<|.val d);exact RS.setAll (r.setVal h1) h2
theorem RC.setAll{K:Ip}{H0 H:Hp} : ∀{is:List Nat} {ds:List D} {vs:List V} {σ:St} {γ:Ctx},RC K H0 H σ γ->Reps K H0 ds vs->RC K H0 H (Vu is vs σ) (qF is ds γ)
 | [],ds,vs,σ,γ,r,h=>by cases ds<;>cases vs<;>exact r
 | i::is,[],vs,σ,γ,r,h=>by rw[h.inv_nil];exact r
 | i::is,d::ds,vs,σ,γ,r,h=>by obtain⟨x,t,e,h1,h2⟩:=h.inv_cons;subst e;show RC K H0 H (DL.Vu is t<|σ.set i<|some x) (qF is ds<|γ.set i<|.val d);exact RC.setAll (r.setVal h1) h2
theorem ZW{K:Ip}{H0 H:Hp}{T:Tg}{d:D}{v:V}{σ:St}{γ γ1:Ctx}{Q:St->Hp->Prop}(s:Same H0 H)(h:Rep K H0 d v)(e:qM T d γ=some γ1)
 (q : ∀z,(RC K H0 H σ γ->RC K H0 H z γ1)->(∀E0 E,RS K E0 E H0 H σ γ->RS K E0 E H0 H z γ1)->Q z H):gOf K T v σ H Q:=by
 cases T with
 | nm i=>cases e;exact q _ (λr=>r.setVal h) λE0 E r=>r.setVal h
 | tp is=>
  cases d with
  | tup ds=>
   simp only[qM]at e;by_cases I:ds.length=is.length
   ·rw[RY I]at e;cases e
    obtain⟨a,xs,rfl,h1,h2⟩:=(show ∃a xs,v = .ref a/\SqT K H0 a xs/\Reps K H0 ds xs from h);have hx:xs.length=is.length:=by rw[h2.length,I]
    exact⟨a,xs,rfl,sameT s h1,hx,dQ hx<|q _ (λr=>r.setAll h2) λE0 E r=>r.setAll h2⟩
   ·rw[EQ I]at e;cases e
  | _=>simp[qM]at e
theorem Ext.rebase{E0 E z H0 H B:Hp}(e:Ext E0 E z B)(x:Ext z E H0 H):Ext E0 E H0 H:=
 ⟨e.s0.trans x.s0,x.s1,x.sub,λa h1 h2=>x.new a (e.new a h1 h2) h2⟩
theorem Ext.base{E0 E z B:Hp}(e:Ext E0 E z B):Ext z E z B:=⟨Same.refl _,e.s1,e.sub,λa h _=>h⟩
theorem Sat.rebase{K:Ip}{E0 E I B:Hp}{D:Ends}{z:Fl}(e:Ext E0 E I B)(h:Sat K E0 E D z):Sat K I E D z:=by
 cases z with
 | next γ=>exact λσ H H0 r=>h σ H H0 ⟨r.rc,e.rebase r.ext,r.fresh,r.fr2⟩
 | brk γ=>exact λσ H H0 r=>h σ H H0 ⟨r.rc,e.rebase r.ext,r.fresh,r.fr2⟩
 | cont γ=>exact λσ H H0 r=>h σ H H0 ⟨r.rc,e.rebase r.ext,r.fresh,r.fr2⟩
 | ret r=>
  cases r with
  | val d=>exact λv H H0 x q=>h v H H0 (e.rebase x) q
  | own es=>exact λa xs H H0 x h1 h2 O q=>h a xs H H0 (e.rebase x) h1 h2 O q
section
variable{X:Cx}{tg iter:Expr}{body:List Stmt}{pos:Pos}
theorem oS{src:CO (List D)}{T:Tg}{F:CO Fl}(hp:PassesOwn (model X.prog X.w) X.A X.env X.xe)(hc:X.calm=true)(hi:PIF X tg iter src)(hg:PG X tg (gOf X.K T))(hb:aQ X body F)
 (hs : ∀x,foldedSetIterable iter X.env x=pure x:=by intro _;rfl):PSD X (.For tg iter body [] pos) (Jm src T F):=
 ki (uO hp hc hi hg hb hs) λD σ H hZ=>by
  obtain⟨E0,E,H0,γ,I,rs,z,U⟩:=hZ;obtain⟨ds,e1,z⟩:=ze z;refine⟨H0,γ,ds,rs.rc,e1,λJ H1 O x1 wk=>?_⟩;have rs1:=rs.step x1;have ex:=rs1.ext;refine⟨λi m σ H=>m=ds.length - i/\i<=ds.length/\∃H0 γ I,RS X.K O E H0 H σ γ/\qo T F (ds.drop i) γ=some I/\Sat X.K O E D I,⟨_,rfl,MN _,O,γ,I,⟨rs1.rc,ex.base,rs1.fresh,rs1.fr2⟩,z,U.rebase ex⟩,?_⟩;rintro i m σ H ⟨rfl,hi,H0,γ,I,rs,z,U⟩;have a1:Same O H:=rs.ext.s0.trans rs.ext.sub;by_cases Y:i<ds.length
  ·refine .inr ⟨wk.go i H a1 Y,λσ H=>i+1<=ds.length/\∃H0 γ I,RS X.K O E H0 H σ γ/\qo T F (ds.drop<|i+1) γ=some I/\Sat X.K O E D I,λσ' H' n=>⟨ds.length - (i+1),by omega,rfl,n.1,n.2⟩,λx H' y=>?_⟩
   obtain⟨d,hd,hx⟩:=wk.yld i H x H' a1 Y y;obtain⟨G0,xg,rg⟩:=hx H0 rs.ext.s0 rs.rc.sub;have aa:ds.drop i=d::ds.drop (i+1):=by
    have ac:d=ds[i]:=by rw[Iv Y]at hd;exact(LH hd).symm
    rw[ac];exact List.drop_eq_getElem_cons Y
   rw[aa]at z;simp only[qo]at z;obtain⟨γ1,eb,z⟩:=ze z;obtain⟨f1,eF,z⟩:=ze z;refine ZW xg.sub rg eb λσ1 _ am=>⟨O,E,G0,γ1,f1,am O E<|rs.step xg,eF,?_⟩;cases f1 with
   | next γ2=>exact λσ2 H2 a2 r2=>⟨Y,a2,γ2,I,r2,z,U⟩
   | cont γ2=>exact λσ2 H2 a2 r2=>⟨Y,a2,γ2,I,r2,z,U⟩
   | brk γ2=>cases z;exact U
   | ret r=>cases z;cases r<;>exact U
  ·have e:i=ds.length:=by omega
   subst e;rw[List.drop_length]at z;cases z;exact .inl ⟨wk.stop H a1,U σ H H0 rs⟩
end
theorem xv(h:(jk n fr γ)[i]? = some c):c = .no\/(∃d j,c = .val d/\n<=i/\fr[i - n]? = some j/\γ[j]? = some (.val d)):=by
 unfold jk at h;by_cases hi:i<n
 ·rw[LX (by simpa using hi),NM,RY hi]at h
  exact .inl (LH h).symm
 ·rw[LB (by simpa using hi),Lo,List.length_replicate]at h
  cases e:fr[i - n]? with
  | none=>rw[e]at h;cases h
  | some j=>
   rw[e]at h;have h':qY (γ[j]?.getD .no)=c:=by simpa using h
   cases e2:γ[j]? with
   | none=>rw[e2]at h';exact .inl h'.symm
   | some z=>
    rw[e2]at h';cases z with
    | no=>exact .inl h'.symm
    | own ds=>exact .inl h'.symm
    | nest rows=>exact .inl h'.symm
    | val d=>exact .inr ⟨d,j,h'.symm,by omega,rfl,e2⟩
theorem RC.pull{K:Ip}{H0 H:Hp}{σ:St}{γ:Ctx}{own:List Str}{fr:List (Str×Nat)}(r:RC K H0 H σ γ):RC K H0 H (L2.mG own fr σ) (jk own.length (fr.map (·.2)) γ):=by
 refine⟨r.sub,by simp[L2.mG,jk],λi d h=>?_,λi ds h=>?_,λi j a ds es h _ _ _=>?_,NestOk.nil0 λi rows h=>?_⟩
 ·rcases xv h with z | ⟨d',j,z,hi,I,O⟩
  ·cases z
  ·cases z
   obtain⟨v,h1,h2⟩:=r.val j d O;refine⟨v,?_,h2⟩;rw[Lo]at I;cases q:fr[i - own.length]? with
   | none=>rw[q]at I;cases I
   | some p=>
    rw[q]at I;have U:p.2=j:=by simpa using I
    unfold L2.mG;rw[LB (by simpa using hi),Lo,IQ,q];simp[U,h1]
 ·rcases xv h with z | ⟨d',j,z,_⟩<;>cases z
 ·rcases xv h with z | ⟨d',j,z,_⟩<;>cases z
 ·rcases xv h with z | ⟨d',j,z,_⟩<;>cases z
theorem RC.weak{K:Ip}{H0 H:Hp}{σ:St}{γ γ':Ctx}(r:RC K H0 H σ γ)(I:γ'.length=γ.length)(O : ∀(i:Nat) d,γ'[i]? = some (.val d)->γ[i]? = some (.val d))(z : ∀(i:Nat) ds,γ'[i]? ≠ some (.own ds))(U : ∀(i:Nat) rows,γ'[i]? ≠ some (.nest rows)):RC K H0 H σ γ':=
 ⟨r.sub,by rw[I];exact r.len,λi d h=>r.val i d<|O i d h,λi ds h=>absurd h<|z i ds,λi j a ds es h _ _ _=>absurd h<|z i ds,NestOk.nil0 U⟩
theorem RC.upd{K:Ip}{H0 H:Hp}{σ:St}{γ:Ctx}{D:Addr}{o:HO}(r:RC K H0 H σ γ)(h0:H0 D=none)(I : ∀(i:Nat) ds,γ[i]? ≠ some (.own ds))(O : ∀(i:Nat) rows,γ[i]? ≠ some (.nest rows)):RC K H0 (upd H D o) σ γ:=
 ⟨λb u q=>by rw[zL (λz=>by rw[z,h0]at q;cases q)];exact r.sub b u q,r.len,r.val,λi ds h=>absurd h<|I i ds,λi j a ds es h _ _ _=>absurd h<|I i ds,NestOk.nil0 O⟩
theorem Zl : ∀{is:List Nat} {ds:List D} {γ:Ctx},(qF is ds γ).length=γ.length
 | [],ds,γ=>by cases ds<;>rfl
 | i::is,[],γ=>rfl
 | i::is,d::ds,γ=>by show(qF is ds<|γ.set i<|.val d).length=_;rw[Zl];simp
theorem Zm : ∀{is:List Nat} {ds:List D} {γ:Ctx} {i:Nat},i∉is->(qF is ds γ)[i]? = γ[i]?
 | [],ds,γ,i,_=>by cases ds<;>rfl
 | j::is,[],γ,i,_=>rfl
 | j::is,d::ds,γ,i,h=>by show(qF is ds<|γ.set j<|.val d)[i]? = _;rw[Zm (λz=>h<|IT _ z),IH (λz=>h<|by rw[<- z];exact IY)]
theorem fE(h:qM T d γ=some γ1):γ1.length=γ.length/\∀i,i∉T.idx->γ1[i]? = γ[i]? :=by
 cases T with
 | nm j=>cases h;exact⟨by simp,λi hi=>IH<|λz=>hi<|by simp[Tg.idx,z]⟩
 | tp is=>
  cases d with
  | tup ds=>
   simp only[qM]at h;by_cases I:ds.length=is.length
   ·rw[RY I]at h;cases h;exact⟨Zl,λi hi=>Zm hi⟩
   ·rw[EQ I]at h;cases h
  | _=>simp[qM]at h
section
variable{K:Ip}{own:List Str}{fr:List (Str×Nat)}{src:CO (List D)}{T:Tg}{k:CO Bool}{f:CO D}
theorem vy(hT : ∀i∈T.idx,i<own.length)(c1 : ∀σ H Q,tT K k σ H Q->tt σ H Q) : ∀σ H Q,tO K (zP src T own.length (fr.map (·.2)) k f) σ H Q->gz (tIc K src) own fr (gOf K T) tt (tV K f) σ H Q:=λσ H Q hZ=>by
 obtain⟨H0,γ,ds,rc,U,q⟩:=hZ;obtain⟨items,e1,U⟩:=ze U;by_cases hl:items.length<=lim
 ·rw[RY hl]at U
  refine⟨H0,γ,items,rc,e1,λJ H1 a7 x1 wk D hD=>?_⟩;have a8 : ∀(i:Nat) es,(jk own.length (fr.map (·.2)) γ)[i]? ≠ some (.own es):=λi es h=>by rcases xv h with z | ⟨d',j,z,_⟩<;>cases z
  have a9 : ∀(i:Nat) rows,(jk own.length (fr.map (·.2)) γ)[i]? ≠ some (.nest rows):=λi es h=>by rcases xv h with z | ⟨d',j,z,_⟩<;>cases z
  have ar:a7 D=none:=jP x1.sub hD;have c3:H D=none:=by
   cases z:H D with
   | none=>rfl
   | some o=>rw[x1.s1 D o z]at hD;cases hD
  refine⟨λi m ys σ' H'=>m=items.length - i/\i<=items.length/\ys.length<=i/\H' D=some (.lst ys)/\∃H0' a2 a4,RC K H0' H' σ' (jk own.length (fr.map (·.2)) γ)/\H0' D=none/\Ext a7 H1 H0' H'/\Reps K H0' a2 ys/\zS T k f (jk own.length (fr.map (·.2)) γ) (items.drop i)=some a4/\ds=a2++a4,
   ⟨_,rfl,MN _,IC _,zJ,a7,[],ds,((rc.ext x1).pull).upd ar a8 a9,ar,Ext.hide x1.sub hD _,Reps.nil,U,rfl⟩,?_⟩
  rintro i m ys σ' H' ⟨rfl,hi,hy,a5,H0',a2,a4,aa,as,Y,r',I,rfl⟩;refine⟨a5,?_⟩;by_cases a0:i<items.length
  ·refine .inr ⟨wk.go i H' Y.s1 a0,?_,λx ac y=>?_⟩
   ·have:=yM<|IC lim;omega
   obtain⟨d,hd,hx⟩:=wk.yld i H' x ac Y.s1 a0 y;obtain⟨G0,O,rg⟩:=hx H0' Y.s0 aa.sub;have c5:items.drop i=d::items.drop (i+1):=by
    have c6:d=items[i]:=by rw[Iv a0]at hd;exact(LH hd).symm
    rw[c6];exact List.drop_eq_getElem_cons a0
   rw[c5]at I;simp only[zS]at I;obtain⟨γ1,eb,I⟩:=ze I;obtain⟨b,ek,I⟩:=ze I;have c8:G0 D=none:=O.new D as (by rw[a5];simp);have b0:ac D=some (.lst ys):=O.s1 _ _ a5;obtain⟨bl,bg⟩:=fE eb;have b9 : ∀{σ2:St} {G2 H2:Hp},RC K G2 H2 σ2 γ1->RC K G2 H2 σ2 (jk own.length (fr.map (·.2)) γ):=λr=>r.weak bl.symm (λj d' hj=>by
    by_cases hm:j∈T.idx
    ·rcases xv hj with z | ⟨d2,j2,_,hn,_⟩
     ·cases z
     ·exact absurd (hT j hm) ⋯
    ·rw[bg j hm];exact hj) a8 a9
   refine ZW O.sub rg eb λσ1 bi _=>c1 σ1 ac _ ⟨G0,γ1,b,bi<|aa.ext O,ek,λH3 ae x3=>?_⟩;have ag:=(bi<|aa.ext O).ext x3;have xa:=Y.trans<|O.trans x3;have bn:ae D=none:=x3.new D c8 (by rw[b0];simp);have am:H3 D=some (.lst ys):=x3.s1 _ _ b0;cases b with
   | true=>
    dsimp only;rw[RY rfl]at I ⊢;obtain⟨e,ee,I⟩:=ze I;obtain⟨xJ,er,I⟩:=zA I;refine⟨ae,γ1,e,ag,ee,λv H4 bv x4 r4=>?_⟩;have an:bv D=none:=x4.new D bn (by rw[am];simp);have ch:H4 D=some (.lst ys):=x4.s1 _ _ am;have xb:=xa.trans x4;refine⟨ch,items.length - (i+1),by omega,rfl,a0,by rw[LD,NZ];omega,zJ,bv,a2++[e],xJ,(b9<|ag.ext x4).upd an a8 a9,an,?_,(r'.mono<|(O.trans<|x3.trans x4).s0).append (Reps.cons r4 Reps.nil),er,?_⟩
    ·exact⟨xb.s0,λc o z=>by rw[zL (λw=>by rw[w,hD]at z;cases z)];exact xb.s1 c o z,λc o z=>by rw[zL (λw=>by rw[w,an]at z;cases z)];exact xb.sub c o z,xb.new⟩
    ·rw[<- I];simp
   | false=>
    dsimp only;rw[EQ IE]at I ⊢;exact⟨items.length - (i+1),by omega,rfl,a0,by omega,am,ae,a2,a4,b9 ag,bn,xa,r'.mono<|(O.trans x3).s0,I,rfl⟩
  ·have e:i=items.length:=by omega
   subst e;rw[List.drop_length]at I;cases I;rw[Na]at q;exact .inl ⟨wk.stop H' Y.s1,q D ys H' H0' (x1.trans Y) c3 as a5 r'⟩
 ·rw[EQ hl]at U;cases U
end
section
variable{X:Cx}{scope:Scope}{own:List Str}{fr:List (Str×Nat)}{elt tg iter c:Expr}{pos:Pos}{src:CO (List D)}{T:Tg}{k:CO Bool}{f:CO D}
theorem oY(z:X.calm=true)(ok:CompOk X scope fr)(I : ∀i∈T.idx,i<own.length)(hi:PIC X tg iter src)(O : ∀fp s2 H2,PG (jv X scope (own++fr.map (·.1)) fp s2 H2) tg<|gOf X.K T)
 (he : ∀fp s2 H2,PV (jv X scope (own++fr.map (·.1)) fp s2 H2) elt f) (hs : ∀x,foldedSetIterable iter X.env x=pure x:=by intro _;rfl) :
 PO X (.ListComp elt [⟨tg,iter,[],0⟩] scope pos) (zP src T own.length (fr.map (·.2)) jA f):=
 qe (Ys z ok hi O (λ_ _ _=>VL) he hs) (vy I λσ H Q ⟨H0,γ,b,rc,U,q⟩=>by cases U;exact q H H0<|Ext.refl rc.sub)
theorem cv(z:X.calm=true)(ok:CompOk X scope fr)(I : ∀i∈T.idx,i<own.length)(hi:PIC X tg iter src)(O : ∀fp s2 H2,PG (jv X scope (own++fr.map (·.1)) fp s2 H2) tg<|gOf X.K T)
 (hk : ∀fp s2 H2,PTD (jv X scope (own++fr.map (·.1)) fp s2 H2) c k) (he : ∀fp s2 H2,PV (jv X scope (own++fr.map (·.1)) fp s2 H2) elt f) (hs : ∀x,foldedSetIterable iter X.env x=pure x:=by intro _;rfl) :
 PO X (.ListComp elt [⟨tg,iter,[c],0⟩] scope pos) (zP src T own.length (fr.map (·.2)) k f):=
 qe (Ys z ok hi O (λfp s2 H2=>VJ<|hk fp s2 H2) he hs) (vy I λσ H Q h=>h)
theorem ia(z:X.N.Nodup)(I:X.N[i]? = some y)(O:Loc X.env.scope y)(U:X.fn y=true\/X.env.scope.names.lookup y=some .local)
 (Y:X.calm=true) (ok:CompOk X scope fr) (hT : ∀i∈T.idx,i<own.length) (hi:PIC X tg iter src) (hg : ∀fp s2 H2,PG (jv X scope (own++fr.map (·.1)) fp s2 H2) tg<|gOf X.K T)
 (he : ∀fp s2 H2,PV (jv X scope (own++fr.map (·.1)) fp s2 H2) elt f) (hs : ∀x,foldedSetIterable iter X.env x=pure x:=by intro _;rfl) :
 PS X (.Assign [.Name y py] (.ListComp elt [⟨tg,iter,[],0⟩] scope pos) spos) (WA (tO X.K<|zP src T own.length (fr.map (·.2)) jA f)<|yx i):=
 ki (JQ z I O U Y ok hi hg (λ_ _ _=>VL) he hs) λD σ H h=>vy hT (λσ H Q hZ=>by obtain⟨H0,γ,b,rc,ef,q⟩:=hZ;cases ef;exact q H H0<|Ext.refl rc.sub) σ H _ h
theorem WW(z:X.N.Nodup)(I:X.N[i]? = some y)(O:Loc X.env.scope y)(U:X.fn y=true\/X.env.scope.names.lookup y=some .local)
 (Y:X.calm=true) (ok:CompOk X scope fr) (hT : ∀i∈T.idx,i<own.length) (hi:PIC X tg iter src) (hg : ∀fp s2 H2,PG (jv X scope (own++fr.map (·.1)) fp s2 H2) tg<|gOf X.K T)
 (hk : ∀fp s2 H2,PTD (jv X scope (own++fr.map (·.1)) fp s2 H2) c k) (he : ∀fp s2 H2,PV (jv X scope (own++fr.map (·.1)) fp s2 H2) elt f) (hs : ∀x,foldedSetIterable iter X.env x=pure x:=by intro _;rfl) :
 PS X (.Assign [.Name y py] (.ListComp elt [⟨tg,iter,[c],0⟩] scope pos) spos) (WA (tO X.K<|zP src T own.length (fr.map (·.2)) k f)<|yx i):=
 ki (JQ z I O U Y ok hi hg (λfp s2 H2=>VJ<|hk fp s2 H2) he hs) λD σ H h=>vy hT (λσ H Q h=>h) σ H _ h
end
theorem jW{K:Ip}{H:Hp}{i:Int}{v:V}(h:Rep K H (.int i) v):v = .int i:=h
theorem gE{K:Ip}{g:Int->Int->D}{z:Int->Int->V}(O : ∀H i j,Rep K H (g i j)<|z i j):Snd K (rI0 z) (dI g):=λH0 H x y dx U d Q s rx Y I q=>by cases dx<;>cases U<;>simp[dI]at I;subst I;exact⟨_,_,jW rx,jW Y,q _ H H0 (Ext.refl s)<|O H0 _ _⟩
theorem bD{K:Ip}{C:Int->Int->Prop}{c:Int->Int->Bool}{g:Int->Int->D}{z:Int->Int->V}(O : ∀i j,c i j=true->C i j)(U : ∀H i j,Rep K H (g i j)<|z i j):Snd K (rI C z) (dIc c g):=λH0 H x y dx Y d Q s rx ry I q=>by cases dx<;>cases Y<;>simp[dIc]at I;obtain⟨e1,e2⟩:=I;subst e2;exact⟨_,_,jW rx,jW ry,O _ _ e1,q _ H H0 (Ext.refl s)<|U H0 _ _⟩
theorem oh{K:Ip}:Snd K (rI0 λi j=> .int (i - j)) Jo:=gE λ_ _ _=>rfl
theorem lP(h:XX i j=true):CMul i j:=by unfold XX at h;rw[LO,decide_eq_true_eq,decide_eq_true_eq]at h;unfold CMul;omega
theorem ot{K:Ip}:Snd K (rI Hg λi j=> .int (i/j)) aH:=bD (λi j h=>by unfold Br at h;rw[ID,decide_eq_true_eq,decide_eq_true_eq]at h;exact⟨h.1,by omega⟩) λ_ _ _=>rfl
theorem oo{K:Ip}:Snd K (rI (λ_ j=>0<j) λi j=> .int (i%j)) yG:=bD (λi j h=>by unfold Cj at h;exact of_decide_eq_true h) λ_ _ _=>rfl
theorem oi{K:Ip}:Snd K (rI Hf λi j=> .int (i ^ j.toNat)) rV:=bD (λi j h=>by unfold Bq at h;rw[ID,ID,decide_eq_true_eq,decide_eq_true_eq,decide_eq_true_eq]at h;exact⟨h.1.1,by omega,h.2⟩) λ_ _ _=>rfl
theorem bC{K:Ip}:Snd K (rI0 λi j=> .bl (decide<|i<j)) dLt:=gE λ_ _ _=>rfl
theorem X6{K:Ip}:Snd K (rI0 λi j=> .bl (decide<|i<=j)) dLe:=gE λ_ _ _=>rfl
theorem mi{K:Ip}:Snd K (rI0 λi j=> .bl (decide<|j<i)) dGt:=gE λ_ _ _=>rfl
section
variable{X:Cx}
def mC(K:Ip):R2:=λx y H Q=>∃a b xs ys,x = .ref a/\y = .ref b/\SqT K H a xs/\SqT K H b ys/\xs.length+ys.length<=sizeLine/\
 (xs=[]->Q (.ref b) H)/\(ys=[]->Q (.ref a) H)/\∀p,H p=none->Q (.ref p) (upd H p<|.tup<|xs++ys)
theorem iz:OpR X (binaryOp .Add) (mC X.K):=by
 intro pins s σ H x y v u Q I rx ry h;obtain⟨a,b,xs,ys,rfl,rfl,ha,hb,hz,q0,q1,q2⟩:=h;cases rx;cases ry;obtain⟨O,r,U,z1⟩:=I.tuple ha;obtain⟨a9,r2,Y,z2⟩:=I.tuple hb;by_cases he:xs=[]
 ·have e1:O=[]:=(r.nil_iff).mpr he
  obtain⟨⟨cls,dd,data,sl⟩,ho,hc,n,hd⟩:=id U;obtain⟨⟨am,ac,data2,ae⟩,a2,a3,n2,a4⟩:=id Y;simp only at hc hd a3 a4;subst hc hd a3 a4;exact Rn ⟨_,ho,rfl⟩ ⟨_,a2,rfl⟩ Rp seq_tuple_add OK OF (Ou _ _)
   (tuple_addW0 a b O.toArray a9.toArray n n2 dd ac sl ae<|by simp[e1]) ⟨ho,a2,⟨.ref b,H,I,rfl,q0 he⟩⟩
 ·have e1:O ≠ []:=λz=>he ((r.nil_iff).mp z)
  refine HT.Fz U Y e1 (λz=>⟨.ref a,H,I,rfl,q1<|(r2.nil_iff).mp z⟩) (λ_=>?_) (by rw[<- r.length,<- r2.length];exact hz);refine⟨.ref s.heap.objs.size,_,I.laid (t':=s.toks) (o:= .tup (xs++ys)) (λc ob q=>Ir _ q) (IC _) ?_,rfl,q2 _<|I.hok.fresh<|IC _⟩;exact⟨by rw[LD];exact hz,_,r.append r2,IsTupD.new _ _⟩
def uk(K:Ip):R2:=λx y H Q=>∃l b xs zs,x = .ref l/\y = .ref b/\SqL K H l xs/\SqL K H b zs/\xs.length+zs.length<=sizeLine/\∀p,H p=none->Q (.ref p) (upd H p<|.lst<|xs++zs)
theorem iA:OpR X (binaryOp .Add) (uk X.K):=by
 intro pins s σ H x y v u Q I rx ry h;obtain⟨l,b,xs,zs,rfl,rfl,hH,hB,hz,q⟩:=h;cases rx;cases ry;obtain⟨z,r,⟨o,n,e,U,Y,c3⟩,z1⟩:=I.list hH;obtain⟨O,r2,⟨o2,n2,e2,d1,d2,d3⟩,z2⟩:=I.list hB;have l1:=r.length;have l2:=r2.length;obtain⟨cls,dct,dt,sl⟩:=o;obtain⟨an,ap,ar,aa⟩:=o2;simp only at U Y c3 d1 d2 d3;subst U Y c3 d1 d2 d3;have ac:EP X pins σ Q (.ref s.heap.objs.size) {s with heap:=s.heap.push {cls:= .type "list",data:= .seq (z++O).toArray}}:=
  ⟨.ref _,_,I.lnew (t':=s.toks) (r.append r2) (by rw[LD];omega),rfl,q _ I.fresh⟩
 have ea:z.toArray++O.toArray=(z++O).toArray:=by simp
 refine Rn ⟨_,e,rfl⟩ ⟨_,e2,rfl⟩ noFill_list_add seq_list_add PySem.F.slot_list_add PySem.F.entry_list_add (PySem.F.args_list_add_2 _ _)
  (list_addW l b z.toArray O.toArray n n2 none none sl aa<|by rw[IF,IF];omega) ⟨e,e2,?_⟩
 rw[ea];exact ac
end
def kE(scope sc:Scope):Scope:={scope with names:=scope.names.map λp=>if p.2==Ld && sc.kind == .function && sc.names.lookup p.1==some .cell then (p.1,MV)else (p.1,p.2)}
theorem WR(scope:Scope)(env:Env):relabel scope env=kE scope env.scope:=by unfold relabel kE;rfl
structure SX(X:Cx)(sc:Scope)(N T:List Str)(k:Nat):Prop where
 esc:X.env.scope=sc
 eN:X.N=N
 nd:N.Nodup
 calm:X.calm=true
 room:Room k X.A
 fn : ∀x∈T,X.fn x=true\/sc.names.lookup x=some .local
def Yd(sc:Scope)(N:List Str)(i:Nat)(x:Str):Bool:=
 decide (N[i]? = some x) && (decide (sc.names.lookup x=some .local) || decide (sc.names.lookup x=some .cell) || decide (sc.names.lookup x=some .free)) && !(x==("__debug__" : Str)) && !(x==("__classdict__" : Str))
def yv(sc:Scope)(N T:List Str)(i:Nat)(x:Str):Bool:=decide (x∈T) && decide (N[i]? = some x) && (decide (sc.names.lookup x=some .local) || decide (sc.names.lookup x=some .cell))
def vM(sc:Scope)(x:Str):Bool:=decide (sc.names.lookup x=some .globalImplicit) && !(x==("__name__" : Str)) && !(x==("__debug__" : Str))
section
variable{X:Cx}{sc:Scope}{N T:List Str}{k:Nat}{i:Nat}{x:Str}{pos:Pos}
theorem SX.var(h:SX X sc N T k)(c:Yd sc N i x=true):PE X (.Name x pos) (Jk i):=by
 unfold Yd at c;simp only[ID,LO,decide_eq_true_eq,MM]at c;obtain⟨⟨⟨h1,h2⟩,z⟩,I⟩:=c;refine mN (by rw[h.eN];exact h1) ?_ z I;unfold Vis;rw[h.esc];rcases h2 with(h2 | h2) | h2
 ·exact .inl h2
 ·exact .inr<|.inl h2
 ·exact .inr<|.inr h2
theorem SX.loc(h:SX X sc N T k)(c:yv sc N T i x=true):X.N[i]? = some x/\L2.Loc X.env.scope x/\(X.fn x=true\/X.env.scope.names.lookup x=some .local):=by
 unfold yv at c;simp only[ID,LO,decide_eq_true_eq]at c;refine⟨by rw[h.eN];exact c.1.2,?_,?_⟩
 ·unfold L2.Loc;rw[h.esc];exact c.2
 ·rw[h.esc];exact h.fn x c.1.1
theorem SX.ndX(h:SX X sc N T k):X.N.Nodup:=by rw[h.eN];exact h.nd
theorem SX.tgt(h:SX X sc N T k)(i:Nat)(c:yv sc N T i x=true):PG X (.Name x pos) (yx i):=by obtain⟨h1,h2,z⟩:=h.loc c;exact cH h.ndX h1 h2 z
theorem SX.tgts(h:SX X sc N T k)(g:PGs X es (gs is))(hn:(assignEach es X.env).length=is.length:=by rfl)(z:(assignEach es X.env).findIdx? (·.1)=none:=by rfl):PG X (.Tuple es j pos) (gOf X.K<|.tp is):=
 uT h.calm g hn z
theorem SX.set(h:SX X sc N T k)(i:Nat)(c:yv sc N T i x=true)(he:PE X e te)(hs:swapsWith e (some (.Name x pos')) pos.line X.env=pure false:=by rfl):PS X (.Assign [.Name x pos'] e pos) (WA te<|yx i):=by obtain⟨h1,h2,z⟩:=h.loc c;exact uN h.ndX h1 h2 he hs z
theorem SX.gl(h:SX X sc N T k)(c:vM sc x=true):Gl X x/\x ≠ "__name__"/\(x==("__debug__" : Str))=false:=by
 unfold vM at c;simp only[ID,decide_eq_true_eq,MM]at c;refine⟨?_,?_,c.2⟩
 ·show X.env.scope.names.lookup x=_
  rw[h.esc];exact c.1.1
 ·intro e;rw[e]at c;simp at c
def YZ(sc scope:Scope)(N:List Str)(fr:List (Str×Nat)):Bool:=
 decide (scope.kind = .function) && decide ((scope.names.map (·.1)).Nodup) && scope.names.all (λp=> !(p.2==Ld) || decide (sc.names.lookup p.1=some .cell) || decide (sc.names.lookup p.1=some .free)) &&
 fr.all λp=>decide (scope.names.lookup p.1=some .free) && decide (N[p.2]? = some p.1)
def Eb(own:List Str)(scope:Scope)(fr:List (Str×Nat)):Bool:=decide ((own++fr.map (·.1)).Nodup) && own.all (λx=>decide (scope.names.lookup x=some .local) || decide (scope.names.lookup x=some .cell))
theorem SX.compOk(h:SX X sc N T k)(c:YZ sc scope N fr=true):CompOk X scope fr:=by
 unfold YZ at c;simp only[ID,decide_eq_true_eq,LC,LO,MM]at c;obtain⟨⟨⟨O,U⟩,Y⟩,I⟩:=c;refine⟨O,U,λp z hk=>?_,λp z=>⟨(I p z).1,by rw[h.eN];exact(I p z).2⟩⟩;have e:X.env.kindOf p.1=sc.names.lookup p.1:=by show X.env.scope.names.lookup p.1=_;rw[h.esc]
 rw[e];rcases Y p z with(q | q) | q
 ·rw[hk]at q;exact absurd q ⋯
 ·exact .inl q
 ·exact .inr q
theorem ZI(scope sc:Scope)(x:Str):(kE scope sc).names.lookup x=(scope.names.lookup x).map λk=>if (k==Ld && sc.kind == .function && sc.names.lookup x==some .cell)then MV else k:=by
 unfold kE;dsimp only;generalize scope.names=l
 induction l with
 | nil=>rfl
 | cons p r I=>
  obtain⟨n,O⟩:=p;rw[IS];cases hx:x==n with
  | true=>
   have e:x=n:=by simpa using hx
   subst e;dsimp only;split
   ·rename_i z;rw[LL,LL,beq_self_eq_true];dsimp only[Oy];rw[RY z]
   ·rename_i z;rw[LL,LL,beq_self_eq_true];dsimp only[Oy];rw[EQ z]
  | false=>
   dsimp only;split
   ·rw[LL,LL,hx];exact I
   ·rw[LL,LL,hx];exact I
theorem SX.comp(h:SX X sc N T k)(c:Eb own scope fr=true) :
 SX (jv X scope (own++fr.map (·.1)) fp s2 H2) (kE scope sc) (own++fr.map (·.1)) own k:=by
 unfold Eb at c;simp only[ID,decide_eq_true_eq,LC,LO]at c;refine⟨?_,rfl,c.1,h.calm,h.room,λx hx=>?_⟩
 ·show relabel scope X.env=_
  rw[WR,h.esc]
 ·rcases c.2 x hx with q | q
  ·right;rw[ZI,q];rfl
  ·left
   show(scope.names.lookup x==some .cell)=true;rw[q];rfl
end
mutual
def toP:D->PyData
 | .non=> .none
 | .bl b=> .bool b
 | .int i=> .int i
 | .str x=> .str x
 | .tup ds=> .tuple (toPs ds)
 | .lst ds=> .list (toPs ds)
 | .dic _ _=> .none
 | .dct _ _=> .none
def toPs:List D->List PyData
 | []=>[]
 | d::ds=>toP d::toPs ds
end
theorem okS_dic(h:okS (.dic ks vs)=true):False:=by simp[okS]at h
theorem okS_dct(h:okS (.dct ks vs)=true):False:=by simp[okS]at h
mutual
theorem eqv_toP : ∀x y:D,okS x=true->okS y=true->NP (toP x) (toP y)=eqD x y
 | .non,y,_,h=>by cases y<;>first | exact(okS_dic h).elim | exact(okS_dct h).elim | simp[toP,NP,eqD]
 | .bl a,y,_,h=>by cases y<;>first | exact(okS_dic h).elim | exact(okS_dct h).elim | simp[toP,NP,eqD]
 | .int a,y,_,h=>by cases y<;>first | exact(okS_dic h).elim | exact(okS_dct h).elim | simp[toP,NP,eqD]
 | .str a,y,_,h=>by cases y<;>first | exact(okS_dic h).elim | exact(okS_dct h).elim | simp[toP,NP,eqD]
 | .dic c n,y,h,_=>(okS_dic h).elim
 | .dct c n,y,h,_=>(okS_dct h).elim
 | .tup xs,y,h1,h2=>by
  cases y with
  | tup ys=>simp only[okS]at h1 h2;simp only[toP,NP,eqD];exact eqvs_toP xs ys h1 h2
  | dic c n=>exact(okS_dic h2).elim
  | dct c n=>exact(okS_dct h2).elim
  | _=>simp[toP,NP,eqD]
 | .lst xs,y,h1,h2=>by
  cases y with
  | lst ys=>simp only[okS]at h1 h2;simp only[toP,NP,eqD];exact eqvs_toP xs ys h1 h2
  | dic c n=>exact(okS_dic h2).elim
  | dct c n=>exact(okS_dct h2).elim
  | _=>simp[toP,NP,eqD]
theorem eqvs_toP : ∀xs ys:List D,okSs xs=true->okSs ys=true->Pn (toPs xs) (toPs ys)=eqDs xs ys
 | [],ys,_,_=>by cases ys<;>simp[toPs,Pn,eqDs]
 | x::xs,ys,h1,h2=>by
  cases ys with
  | nil=>simp[toPs,Pn,eqDs]
  | cons y ys=>
   simp only[okSs,ID]at h1 h2;simp only[toPs,Pn,eqDs];rw[eqv_toP x y h1.1 h2.1,eqvs_toP xs ys h1.2 h2.2]
end
mutual
theorem lay_toP : ∀x:D,okS x=true->(toP x).canLay0=true
 | .non,_=>by simp[toP,NQ]
 | .bl a,_=>by simp[toP,NQ]
 | .int a,_=>by simp[toP,NQ]
 | .str a,h=>by simpa[toP,NQ,okS,PyData.strOk]using h
 | .tup xs,h=>by simp only[okS]at h;simp only[toP,NQ];exact lays_toP xs h
 | .lst xs,h=>by simp only[okS]at h;simp only[toP,NQ];exact lays_toP xs h
 | .dic c n,h=>(okS_dic h).elim
 | .dct c n,h=>(okS_dct h).elim
theorem lays_toP : ∀xs:List D,okSs xs=true->PK (toPs xs)=true
 | [],_=>by simp[toPs,PK]
 | x::xs,h=>by simp only[okSs,ID]at h;simp only[toPs,PK];rw[lay_toP x h.1,lays_toP xs h.2];rfl
end
mutual
theorem depth_toP : ∀x:D,(toP x).depth=deep x
 | .non=>by simp[toP,NA,deep]
 | .bl a=>by simp[toP,NA,deep]
 | .int a=>by simp[toP,NA,deep]
 | .str a=>by simp[toP,NA,deep]
 | .dic c n=>by simp[toP,NA,deep]
 | .dct c n=>by simp[toP,NA,deep]
 | .tup xs=>by simp only[toP,NA,deep];rw[depths_toP xs]
 | .lst xs=>by simp only[toP,NA,deep];rw[depths_toP xs]
theorem depths_toP : ∀xs:List D,PyData.depthAll (toPs xs)=deeps xs
 | []=>by simp[toPs,PyData.depthAll,deeps]
 | x::xs=>by simp only[toPs,PyData.depthAll,deeps];rw[depth_toP x,depths_toP xs]
end
theorem ya(h:okD d=true):okS d=true:=by unfold okD at h;rw[ID]at h;exact h.2
theorem yZ(h:okD d=true):SeqAt.shaped (toP d)=true:=by unfold okD at h;rw[ID,decide_eq_true_eq]at h;unfold SeqAt.shaped;rw[lay_toP d h.2,OP,depth_toP];exact decide_eq_true ⋯
section
variable{X:Cx}{pins:RW}{σ:St}{H0 H:Hp}{s:Shared}
mutual
theorem reads_of(I:Inv X pins σ H s)(sub:Same H0 H) : ∀{d:D} {v:V} {u:Value},okS d=true->Rep X.K H0 d v->RelV v u->∃z,Reads s.heap u (toP d) z
 | .non,v,u,_,h,r=>by cases (show v = .non from h);cases r;exact⟨_,.none⟩
 | .bl b,v,u,_,h,r=>by cases (show v = .bl b from h);cases r;exact⟨_,.bool b⟩
 | .int i,v,u,_,h,r=>by cases (show v = .int i from h);obtain⟨t,rfl⟩:=r;exact⟨_,.int i t⟩
 | .str x,v,u,_,h,r=>by cases (show v = .str x from h);obtain⟨t,rfl⟩:=r;exact⟨_,.str x t⟩
 | .dic c n,v,u,o,_,_=>(okS_dic o).elim
 | .dct c n,v,u,o,_,_=>(okS_dct o).elim
 | .tup ds,v,u,o,h,r=>by obtain⟨a,xs,rfl,h1,h2⟩:=(show ∃a xs,v = .ref a/\SqT X.K H0 a xs/\Reps X.K H0 ds xs from h);cases r;simp only[okS]at o;obtain⟨a0,O,⟨ob,U,Y,n,hd⟩,hz⟩:=I.tuple<|sameT sub h1;obtain⟨z,ra⟩:=readsAll_of I sub o h2 O;exact⟨z,.tuple U Y hd<|by simpa using ra⟩
 | .lst ds,v,u,o,h,r=>by obtain⟨a,xs,rfl,h1,h2⟩:=(show ∃a xs,v = .ref a/\SqL X.K H0 a xs/\Reps X.K H0 ds xs from h);cases r;simp only[okS]at o;obtain⟨a0,O,p,hz⟩:=I.list<|sub.seq h1;obtain⟨ob,U,Y,n,hd⟩:=p.isList;obtain⟨z,ra⟩:=readsAll_of I sub o h2 O;exact⟨_,.list U Y hd<|by simpa using ra⟩
theorem readsAll_of(I:Inv X pins σ H s)(sub:Same H0 H) : ∀{ds:List D} {xs:List V} {us:List Value},okSs ds=true->Reps X.K H0 ds xs->Vals xs us->∃z,ReadsAll s.heap us (toPs ds) z
 | [],xs,us,_,h,r=>by rw[h.inv_nil]at r;cases r;exact⟨_,.nil⟩
 | d::ds,xs,us,o,h,r=>by
  obtain⟨x,t,e,h1,h2⟩:=h.inv_cons;subst e;simp only[okSs,ID]at o;cases r with
  | cons O r2=>
   obtain⟨z,ra⟩:=reads_of I sub o.1 h1 O;obtain⟨bs,U⟩:=readsAll_of I sub o.2 h2 r2;exact⟨_,.cons ra U⟩
end
end
def Gu(K:Ip):R2:=λx y H Q=>∃H0 dx z,Same H0 H/\Rep K H0 dx x/\Rep K H0 z y/\okD dx=true/\okD z=true/\Q (.bl<|eqD dx z) H
def Gr(K:Ip):R2:=λx y H Q=>∃H0 dx z,Same H0 H/\Rep K H0 dx x/\Rep K H0 z y/\okD dx=true/\okD z=true/\Q (.bl<|!eqD dx z) H
theorem mS(U:X.A.units+64<cLine):OpR X (compareOp .Eq) (Gu X.K):=by intro pins s σ H x y v u Q I rx Y h;obtain⟨H0,dx,dy,sub,r1,r2,z,O,q⟩:=h;obtain⟨as,ra⟩:=reads_of I sub (ya z) r1 rx;obtain⟨bs,rb⟩:=reads_of I sub (ya O) r2 Y;exact eq_dataH ra rb (yZ z) (yZ O) U ⟨.bl _,H,I,by rw[eqv_toP _ _ (ya z) (ya O)];rfl,q⟩
theorem Ah(U:X.A.units+64<cLine):OpR X (compareOp .NotEq) (Gr X.K):=by intro pins s σ H x y v u Q I rx Y h;obtain⟨H0,dx,dy,sub,r1,r2,z,O,q⟩:=h;obtain⟨as,ra⟩:=reads_of I sub (ya z) r1 rx;obtain⟨bs,rb⟩:=reads_of I sub (ya O) r2 Y;exact ne_dataH ra rb (yZ z) (yZ O) U ⟨.bl _,H,I,by rw[eqv_toP _ _ (ya z) (ya O)];rfl,q⟩
theorem bE{K:Ip}:Snd K (Gu K) dEq:=λH0 H x y dx I d Q s rx O z q=>by
 unfold dEq at z;split at z
 ·rename_i h;cases z;exact⟨H0,dx,I,s,rx,O,h.1,h.2,q _ H H0 (Ext.refl s) rfl⟩
 ·cases z
theorem oj{K:Ip}:Snd K (Gr K) dNe:=λH0 H x y dx I d Q s rx O z q=>by
 unfold dNe at z;split at z
 ·rename_i h;cases z;exact⟨H0,dx,I,s,rx,O,h.1,h.2,q _ H H0 (Ext.refl s) rfl⟩
 ·cases z
theorem SX.u64(h:SX X sc N T k):X.A.units+64<cLine:=by have:=h.room.un;omega
section
variable{X:Cx}{sc:Scope}{N T:List Str}{k:Nat}{a b c:Expr}{pos p:Pos}{fa fb fc:CO D}
theorem qW(ha:PV X a fa)(hb:PV X b fb):PV X (.BinOp a .Sub b pos) (zH Jo fa fb):=JP Af oh ha hb
theorem JO(ha:PV X a fa)(hb:PV X b fb):PV X (.BinOp a .FloorDiv b pos) (zH aH fa fb):=JP pC ot ha hb
theorem qX(ha:PV X a fa)(hb:PV X b fb):PV X (.BinOp a .Mod b pos) (zH yG fa fb):=JP Ai oo ha hb
theorem bU(ha:PV X a fa)(hb:PV X b fb):PV X (.BinOp a .Pow b pos) (zH rV fa fb):=JP Ag oi ha hb
theorem uC(ha:PV X a fa)(hb:PV X b fb):PV X (.Compare a [.Gt] [b] pos) (zH dGt fa fb):=bZ Aj mi ha hb<|JW b
theorem uE(h:SX X sc N T k)(ha:PV X a fa)(hb:PV X b fb):PV X (.Compare a [.Eq] [b] pos) (zH dEq fa fb):=bZ (mS h.u64) bE ha hb<|JW b
theorem VE(ha:PV X a fa)(hb:PV X b fb):PTD X (.Compare a [.Gt] [b] pos) (sB<|zH dGt fa fb):=Yl Aj mi ha hb<|JW b
theorem vd(h:SX X sc N T k)(ha:PV X a fa)(hb:PV X b fb):PTD X (.Compare a [.Eq] [b] pos) (sB<|zH dEq fa fb):=Yl (mS h.u64) bE ha hb<|JW b
theorem wz(h:SX X sc N T k)(ha:PV X a fa)(hb:PV X b fb):PTD X (.Compare a [.NotEq] [b] pos) (sB<|zH dNe fa fb):=Yl (Ah h.u64) oj ha hb<|JW b
theorem kY{K:Ip}{H:Hp}{ds:List D}{v:V}(h:Rep K H (.tup ds) v) : ∃a xs,v = .ref a/\SqT K H a xs/\Reps K H ds xs:=h
theorem pV{K:Ip}{H:Hp}{ds:List D}{v:V}(h:Rep K H (.lst ds) v) : ∃a xs,v = .ref a/\SqL K H a xs/\Reps K H ds xs:=h
theorem xf{K:Ip}{H:Hp}{ds:List D}{a:Addr}{xs:List V}(h1:SqT K H a xs)(h2:Reps K H ds xs):Rep K H (.tup ds) (.ref a):=⟨a,xs,rfl,h1,h2⟩
theorem Yi{K:Ip}{H:Hp}{ds:List D}{a:Addr}{xs:List V}(h1:SqL K H a xs)(h2:Reps K H ds xs):Rep K H (.lst ds) (.ref a):=⟨a,xs,rfl,h1,h2⟩
theorem ou{K:Ip}:Snd K (λx y H Q=>rI0 (λi j=> .int (i+j)) x y H Q\/mC K x y H Q) jF:=λH0 H x y dx dy d Q s rx U I q=>by
 cases dx<;>cases dy<;>simp[jF]at I
 ·subst I;exact .inl ⟨_,_,jW rx,jW U,q _ H H0 (Ext.refl s) rfl⟩
 ·rename_i ds es
  obtain⟨hl,rfl⟩:=I;obtain⟨a,xs,rfl,h1,h2⟩:=kY rx;obtain⟨b,ys,rfl,Y,z⟩:=kY U;refine .inr ⟨a,b,xs,ys,rfl,rfl,sameT s h1,sameT s Y,yM (by rw[h2.length,z.length];exact hl),λe=>?_,λe=>?_,λp hp=>?_⟩
  ·have O:ds=[]:=by
    have:=h2.length;rw[e]at this;exact Lu this.symm
   subst O;exact q _ H H0 (Ext.refl s)<|xf Y z
  ·have O:es=[]:=by
    have:=z.length;rw[e]at this;exact Lu this.symm
   subst O;exact q _ H H0 (Ext.refl s) (by rw[Na];exact xf h1 h2)
  ·exact q _ _ _ (Ext.alloc s hp _)<|xf (SqT.of zJ)<|(h2.append z).mono (zW (jP s hp) _)
theorem z5(ha:PV X a fa)(hb:PV X b fb):PV X (.BinOp a .Add b pos) (zH jF fa fb):=JP (op_add.or iz) ou ha hb
end
theorem QJ(O:A.handled=none)(k:Sk)(I z:Addr)(U:z≠I)(items:Array Value) :
 Walks P w A I [I,z] [I] items.size (λi v=>items[i]? = some v) (λi h=>ItAt k h I z i/\SqAt k h z items):=by
 cases k
 ·exact Walks.list O I z U items
 ·exact Walks.tuple O I z U items
theorem Zs(zs:List Int) : ∀n,preSum (λi=>zs.getD i 0) n=(zs.take n).sum
 | 0=>by simp[preSum]
 | n+1=>by
  have z:=Zs zs n;simp only[preSum,z];by_cases h:n<zs.length
  ·rw[List.take_succ_eq_append_getElem h,List.sum_append]
   simp[h]
  ·rw[Mq ⋯,Mq ⋯]
   simp[h]
section
variable{X:Cx}{pins:RW}{σ:St}{H:Hp}{s:Shared}
theorem fz(hc:X.calm=true):JE X (.builtin "sum") (λxs H Q=>∃p k ys zs,xs=[.ref p]/\SqK k X.K H p ys/\ys=(zs:List Int).map V.int/\Q (.int zs.sum) H):=by
 intro pins s σ H vs us Q I rv h;obtain⟨p,k,ys,zs,rfl,hq,rfl,q⟩:=h;obtain⟨u,rfl,O⟩:=wC rv;cases O;obtain⟨z,r,hs,hz⟩:=I.sq hq;have lt:=hs.lt;have U:=r.length;rw[IQ]at U;refine call_sum_walkG<|Kz hs ⟨_,[_,p],[_],z.toArray.size,_,_,λi=>zs.getD i 0,rfl,QJ (A:=X.A.in1) (I.ok.hd hc) k _ p (Ln lt) z.toArray,⟨J3 k _ p,hs.at λo e=>Ir _ e⟩,?_,?_,?_⟩
 ·intro b hb
  rw[Ls];simp only[IG,Li,or_false]at hb;rcases hb with rfl | rfl
  ·exact Mf _
  ·exact LY lt
 ·intro i v hv
  have Y:z[i]? = some v:=by simpa using hv
  have hi:i<zs.length:=by rw[U];exact(IX.mp Y).1
  obtain⟨u,e1,O⟩:=r.get (i:=i) (x:= .int zs[i]) (by simp[hi]);rw[Y]at e1;cases e1;obtain⟨t,rfl⟩:=O;exact⟨t,by simp[hi]⟩
 ·intro h' tk t' hk
  have e:preSum (λi=>zs.getD i 0) z.toArray.size=zs.sum:=by rw[Zs,Mq (by rw[IF,U];exact IC _)]
  refine⟨.int zs.sum,H,I.kept (t':=tk)<|λb u e=>hk b u ?_ (Ir _ e),⟨t',by rw[e]⟩,q⟩;simp only[IG,Li,or_false];exact Ln<|IL e
def tm:V->Option Bool
 | .non=>some false
 | .bl b=>some b
 | .int i=>some (i != 0)
 | _=>none
theorem Vo(r:RelV x u)(e:tm x=some b)(q:Q b s):wpAny (model P w) A (truthy u) Q E s:=by
 cases x with
 | non=>cases r;cases e;exact λ_ _ _=>q
 | bl c=>cases r;cases e;exact Mx q
 | int i=>obtain⟨t,rfl⟩:=r;cases e;exact PyProof.Rows.truthy_int q
 | _=>cases e
def Wy:List V->Option (List Bool)
 | []=>some []
 | x::r=>(tm x).bind λb=>(Wy r).map λl=>b::l
theorem Zg : ∀{xs:List V} {bs:List Bool},Wy xs=some bs->bs.length=xs.length/\∀(i:Nat) x,xs[i]? = some x->tm x=some (bs.getD i false)
 | [],bs,h=>by cases h;exact⟨rfl,λi x e=>by simp at e⟩
 | y::xs,bs,h=>by
  obtain⟨b,e1,h⟩:=ze h;obtain⟨l,z,h⟩:=zA h;subst h;obtain⟨h1,h2⟩:=Zg z;refine⟨by simp[h1],λi x e=>?_⟩;cases i with
  | zero=>simp at e;subst e;simpa using e1
  | succ i=>simpa using h2 i x (by simpa using e)
theorem fW(bs:List Bool):(Io bs.length).all (λi=>bs.getD i false)=bs.all id:=by
 rw[Mr];simp only[LC,Iu,id_eq];constructor
 ·intro h b hb
  obtain⟨i,hi,e⟩:=List.mem_iff_getElem.mp hb;have:=h i hi;rw[Iy,Iv hi]at this;rw[<- e];exact this
 ·intro h i hi
  rw[Iy,Iv hi];exact h _<|LU hi
theorem fV(bs:List Bool):(Io bs.length).any (λi=>bs.getD i false)=bs.any id:=by
 rw[Mr];simp only[List.any_eq_true,Iu,id_eq];constructor
 ·rintro⟨i,hi,h⟩
  rw[Iy,Iv hi]at h;exact⟨_,LU hi,h⟩
 ·rintro⟨b,hb,h⟩
  obtain⟨i,hi,e⟩:=List.mem_iff_getElem.mp hb;refine⟨i,hi,?_⟩;rw[Iy,Iv hi,Nf,e];exact h
theorem fD(hc:X.calm=true):JE X (.builtin "all") (λxs H Q=>∃p k ys bs,xs=[.ref p]/\SqK k X.K H p ys/\Wy ys=some bs/\Q (.bl (bs.all id)) H):=by
 intro pins s σ H vs us Q I rv h;obtain⟨p,k,ys,bs,rfl,hq,ht,q⟩:=h;obtain⟨u,rfl,O⟩:=wC rv;cases O;obtain⟨z,r,hs,hz⟩:=I.sq hq;have lt:=hs.lt;have U:=r.length;obtain⟨a4,a5⟩:=Zg ht;refine call_all_walk<|Kz hs ⟨_,[_,p],[_],z.toArray.size,_,_,λi=>bs.getD i false,rfl,QJ (A:=X.A.in1) (I.ok.hd hc) k _ p (Ln lt) z.toArray,⟨J3 k _ p,hs.at λo e=>Ir _ e⟩,?_,?_⟩
 ·intro i v s' Q' E' hv hQ
  have Y:z[i]? = some v:=by simpa using hv
  have hi:i<ys.length:=by rw[U];exact(IX.mp Y).1
  obtain⟨u,e1,O⟩:=r.get (i:=i) (x:=ys[i]) (by simp[hi]);rw[Y]at e1;cases e1;exact Vo O (a5 i ys[i] (by simp[hi])) hQ
 ·intro h' tk hk
  have e:(Io z.toArray.size).all (λi=>bs.getD i false)=bs.all id:=by rw[IF,<- U,<- a4];exact fW bs
  refine⟨.bl<|bs.all id,H,I.kept (t':=tk)<|λb u e=>hk b u ?_ (Ir _ e),by rw[e];rfl,q⟩;simp only[IG,Li,or_false];exact Ln<|IL e
theorem fC(hc:X.calm=true):JE X (.builtin "any") (λxs H Q=>∃p k ys bs,xs=[.ref p]/\SqK k X.K H p ys/\Wy ys=some bs/\Q (.bl (bs.any id)) H):=by
 intro pins s σ H vs us Q I rv h;obtain⟨p,k,ys,bs,rfl,hq,ht,q⟩:=h;obtain⟨u,rfl,O⟩:=wC rv;cases O;obtain⟨z,r,hs,hz⟩:=I.sq hq;have lt:=hs.lt;have U:=r.length;obtain⟨a4,a5⟩:=Zg ht;refine call_any_walk<|Kz hs ⟨_,[_,p],[_],z.toArray.size,_,_,λi=>bs.getD i false,rfl,QJ (A:=X.A.in1) (I.ok.hd hc) k _ p (Ln lt) z.toArray,⟨J3 k _ p,hs.at λo e=>Ir _ e⟩,?_,?_⟩
 ·intro i v s' Q' E' hv hQ
  have Y:z[i]? = some v:=by simpa using hv
  have hi:i<ys.length:=by rw[U];exact(IX.mp Y).1
  obtain⟨u,e1,O⟩:=r.get (i:=i) (x:=ys[i]) (by simp[hi]);rw[Y]at e1;cases e1;exact Vo O (a5 i ys[i] (by simp[hi])) hQ
 ·intro h' tk hk
  have e:(Io z.toArray.size).any (λi=>bs.getD i false)=bs.any id:=by rw[IF,<- U,<- a4];exact fV bs
  refine⟨.bl<|bs.any id,H,I.kept (t':=tk)<|λb u e=>hk b u ?_ (Ir _ e),by rw[e];rfl,q⟩;simp only[IG,Li,or_false];exact Ln<|IL e
end
section
variable{X:Cx}{sc:Scope}{N T:List Str}{k:Nat}{e a b c:Expr}{pos p p2:Pos}{f g:CO D}{fq:CO (Sk×List D)}
theorem Ed{K:Ip}{H:Hp}{k:Sk}{a:Addr}{xs:List V}(h:SqK k K H a xs):SqL K H a xs\/SqT K H a xs:=by
 cases k
 ·exact .inl h
 ·exact .inr h
theorem kh(h:SX X sc N T k)(c:vM sc "len" = true)(z:X.mg "len" = none)(I:PQ X e fq)(hs:starEach [e] X.env=[(false,eval e X.env)]:=by rfl):PV X (.Call (.Name "len" p) [e] [] pos) (Zo fq):=
 qe (yl KY (h.gl c).1 z PySem.boot_len (zX I qa hs) ⋯ ⋯ hs rfl) λσ H Q O=>by obtain⟨H0,γ,d,rc,U,q⟩:=O;obtain⟨⟨kk,ds⟩,e1,Y⟩:=zA U;subst Y;refine⟨H0,γ,kk,ds,rc,e1,λa xs H' H0' ext h1 h2 r=>⟨a,xs,rfl,Ed h1,?_⟩⟩;exact q _ H' H0' ext (show V.int xs.length = .int ds.length by rw[r.length])
theorem jX(h:SX X sc N T k)(c:vM sc "tuple" = true)(z:X.mg "tuple" = none)(O:PQ X e fq)(hs:starEach [e] X.env=[(false,eval e X.env)]:=by rfl):PV X (.Call (.Name "tuple" p) [e] [] pos) (z4 fq):=
 qe (Kj XM (h.gl c).1 z PyProof.Rows.boot_tuple (zX O qa hs) ⋯ ⋯ hs rfl) λσ H Q U=>by
  obtain⟨H0,γ,d,rc,Y,q⟩:=U;obtain⟨⟨kk,ds⟩,e1,e2⟩:=zA Y;subst e2;refine⟨H0,γ,kk,ds,rc,e1,λa xs H' H0' ext h1 h2 r=>⟨a,xs,rfl,?_⟩⟩;cases kk with
  | L=>exact .inl ⟨h1,λl I=>q _ _ _ (ext.trans<|Ext.alloc ext.sub I _)<|xf (SqT.of zJ)<|r.mono<|zW (jP ext.sub I) _⟩
  | T=>exact .inr ⟨h1,q _ H' H0' ext (xf (h2 rfl) r)⟩
theorem ZF{H H':Hp}(s:Same H H'){a:Addr}(h:H' a=none):H a=none:=by
 cases z:H a with
 | none=>rfl
 | some o=>rw[s a o z]at h;cases h
theorem X2 : ∀{ds:List D} {n:Int},WE ds=some n->∃zs:List Int,ds=zs.map D.int/\n=zs.sum
 | [],n,h=>by cases h;exact⟨[],rfl,rfl⟩
 | d::ds,n,h=>by
  cases d with
  | int i=>
   obtain⟨s,e,h⟩:=zA h;obtain⟨zs,rfl,rfl⟩:=X2 e;exact⟨i::zs,rfl,by rw[<- h];simp⟩
  | _=>cases h
theorem Kc{K:Ip}{H:Hp} : ∀{zs:List Int} {xs:List V},Reps K H (zs.map D.int) xs->xs=zs.map V.int
 | [],xs,h=>h.inv_nil
 | z::zs,xs,h=>by obtain⟨x,r,e,h1,h2⟩:=Reps.inv_cons h;rw[e,jW h1,Kc h2];rfl
theorem bT(h:SX X sc N T k)(c:vM sc "sum" = true)(z:X.mg "sum" = none)(U:PQ X e fq)(hs:starEach [e] X.env=[(false,eval e X.env)]:=by rfl):PV X (.Call (.Name "sum" p) [e] [] pos) (sH fq):=
 qe (yl (fz h.calm) (h.gl c).1 z PyProof.Rows.boot_sum (zX U qa hs) ⋯ ⋯ hs rfl) λσ H Q Y=>by obtain⟨H0,γ,d,rc,I,q⟩:=Y;obtain⟨⟨kk,ds⟩,e1,I⟩:=ze I;obtain⟨n,e2,e3⟩:=zA I;subst e3;obtain⟨zs,O,rfl⟩:=X2 e2;have O:ds=zs.map D.int:=O;subst O;exact⟨H0,γ,kk,_,rc,e1,λa xs H' H0' ext h1 h2 r=>⟨a,kk,xs,zs,rfl,h1,Kc r,q _ H' H0' ext rfl⟩⟩
theorem nU{K:Ip}{H:Hp}{d:D}{x:V}{b:Bool}(h:Rep K H d x)(e:CI d=some b):tm x=some b:=by
 cases d with
 | non=>cases (show x = .non from h);exact e
 | bl c=>cases (show x = .bl c from h);exact e
 | int i=>cases (show x = .int i from h);exact e
 | _=>cases e
theorem QO{K:Ip}{H:Hp} : ∀{ds:List D} {xs:List V} {bs:List Bool},Reps K H ds xs->QP ds=some bs->Wy xs=some bs
 | [],xs,bs,h,e=>by rw[h.inv_nil];exact e
 | d::ds,xs,bs,h,e=>by obtain⟨x,r,z,h1,h2⟩:=h.inv_cons;obtain⟨b,e1,e⟩:=ze e;obtain⟨l,I,e⟩:=zA e;subst z e;show(tm x).bind _=_;rw[nU h1 e1];show((Wy r).map λl=>b::l)=_;rw[QO h2 I];rfl
theorem mF(h:SX X sc N T k)(c:vM sc "all" = true)(z:X.mg "all" = none)(O:PQ X e fq)(hs:starEach [e] X.env=[(false,eval e X.env)]:=by rfl):PV X (.Call (.Name "all" p) [e] [] pos) (sM fq):=
 qe (yl (fD h.calm) (h.gl c).1 z PyProof.Rows.boot_all (zX O qa hs) ⋯ ⋯ hs rfl) λσ H Q U=>by obtain⟨H0,γ,d,rc,I,q⟩:=U;obtain⟨⟨kk,ds⟩,e1,I⟩:=ze I;obtain⟨bs,Y,e3⟩:=zA I;subst e3;exact⟨H0,γ,kk,_,rc,e1,λa xs H' H0' ext h1 h2 r=>⟨a,kk,xs,bs,rfl,h1,QO r Y,q _ H' H0' ext rfl⟩⟩
theorem uH(h:SX X sc N T k)(c:vM sc "any" = true)(z:X.mg "any" = none)(O:PQ X e fq)(hs:starEach [e] X.env=[(false,eval e X.env)]:=by rfl):PV X (.Call (.Name "any" p) [e] [] pos) (sJ fq):=
 qe (yl (fC h.calm) (h.gl c).1 z PyProof.Rows.boot_any (zX O qa hs) ⋯ ⋯ hs rfl) λσ H Q U=>by obtain⟨H0,γ,d,rc,I,q⟩:=U;obtain⟨⟨kk,ds⟩,e1,I⟩:=ze I;obtain⟨bs,Y,e3⟩:=zA I;subst e3;exact⟨H0,γ,kk,_,rc,e1,λa xs H' H0' ext h1 h2 r=>⟨a,kk,xs,bs,rfl,h1,QO r Y,q _ H' H0' ext rfl⟩⟩
theorem bX(h:SX X sc N T k)(c:vM sc "int" = true)(z:X.mg "int" = none)(U:PV X e f)(hs:starEach [e] X.env=[(false,eval e X.env)]:=by rfl):PV X (.Call (.Name "int" p) [e] [] pos) (bJ f):=
 qe (Kj fB (h.gl c).1 z PyProof.Rows.boot_int (zX U qa hs) ⋯ ⋯ hs rfl) λσ H Q Y=>by
  obtain⟨H0,γ,d,rc,I,q⟩:=Y;obtain⟨O,e1,I⟩:=ze I;refine⟨H0,γ,O,rc,e1,λv H' H0' ext r=>?_⟩;cases O with
  | int i=>cases I;exact .inl ⟨i,by rw[jW r],q _ H' H0' ext rfl⟩
  | bl b=>cases I;exact .inr ⟨b,by rw[show v = .bl b from r],q _ H' H0' ext rfl⟩
  | _=>cases I
end
section
variable{X:Cx}{sc:Scope}{N T:List Str}{k:Nat}{e a b c:Expr}{pos p p2:Pos}{f g:CO D}{fq:CO (Sk×List D)}
theorem mY(h:ixD n i=some j):ixN n i=some j:=by
 unfold ixD at h;unfold ixN;split at h
 ·rename_i h1;rw[RY h1.1,RY h1.2];exact h
 ·split at h
  ·rename_i h1 h2;rw[EQ ⋯,RY ⋯];exact h
  ·cases h
theorem zM(ha:PQ X a fq)(hb:PV X b g)(hs:Y8 b:=by intro _ _;rfl):PV X (.Subscript a b pos) (sIx fq g):=
 qe (uY (ix_list.or AW) ha hb hs) λσ H Q hZ=>by
  obtain⟨H0,γ,d,rc,z,q⟩:=hZ;obtain⟨⟨kk,ds⟩,e1,z⟩:=ze z;obtain⟨i,O,z⟩:=ze z;obtain⟨di,e3,O⟩:=ze O;obtain⟨j,e4,z⟩:=ze z;refine⟨H0,γ,kk,ds,rc,e1,λp xs H' H0' ext h1 h2 r=>⟨H0',γ,di,rc.ext ext,e3,λv2 H2 a4 I r2=>?_⟩⟩;rw[qc O]at r2;obtain⟨x,hx,rx⟩:=r.get z;have U:atI xs i=some x:=by unfold atI;rw[r.length,mY e4];exact hx
  have Y:=q x H2 a4 (ext.trans I)<|rx.mono I.s0;cases kk with
  | L=>exact .inl ⟨p,xs,i,x,rfl,jW r2,I.s1.seq h1,U,Y⟩
  | T=>exact .inr ⟨p,xs,i,x,rfl,jW r2,sameT I.s1 h1,U,Y⟩
theorem wg{P:Program}{w:World}{A:Around}{E:RQ}{s:Shared}{t sl:Addr}{items:Array Value}{I O:Value}{lo hi:Option Int}{Q:RQ}(z:IsTup s.heap t items)(hs:s.heap.IsSliceOf sl I O .none)(pl:IsPart I lo)(U:IsPart O hi)
 (hw:HT.sIx items.size 0 lo=0/\HT.sIx items.size items.size hi=items.size) (h:Q (.ref t) s):wpAny (model P w) A (getItem (.ref t)<|.ref sl) Q E s:=by
 obtain⟨os,Y,a0,a3⟩:=id hs;have a1:s.TypeIs (.ref sl) "slice":=⟨os,Y,a0⟩;unfold getItem
 try with_reducible refine Os ?_
 first | refine Iq (IA ?_) | skip
 refine Iq (wpAny_sequenceKey z.typeIs ⋯ ?_);refine Iq (Ml (name:=LR "__getitem__") z.typeIs Md
  (ME Md z.typeIs entry_tuple_getitem ?_ (args_tuple_getitem _ _)))
 show wpAny _ _ (Builtin.Tuple.tupleItemsOf (.ref t) >>= _) _ _ s;refine Iq<|Pc z ?_;refine Iq<|Of a1 ?_;rw[RY ⋯];refine Iq<|HT.wD hs pl U ?_;have a2:(((HT.sIx items.size 0 lo:Nat):Int)==0 && (1:Int)==1 && (HT.sIx items.size items.size hi - HT.sIx items.size 0 lo)==items.size)=true:=by rw[hw.1,hw.2];simp
 show wpAny _ _ (if (((HT.sIx items.size 0 lo:Nat):Int)==0 && (1:Int)==1 && (HT.sIx items.size items.size hi - HT.sIx items.size 0 lo)==items.size)=true then _ else _) _ _ s;rw[RY a2];refine Iq (m:=Nm _) ?_;unfold Nm;refine Iq<|Of z.typeIs<|IA ?_;rw[RY ⋯];exact Iq<|Ox<|IA ⟨_,rfl,IA h⟩
def Er(K:Ip):V->Option Int->Option Int->Hp->VK->Prop:=λx lo hi H Q=>∃a xs,x = .ref a/\SqT K H a xs/\(HT.sIx xs.length 0 lo=0/\HT.sIx xs.length xs.length hi=xs.length->Q (.ref a) H)/\∀p,H p=none->Q (.ref p) (upd H p<|.tup<|rX xs lo hi)
theorem ox:SlR X (Er X.K):=by
 intro pins s σ H x v U Y lo hi sl Q I rx hs pl z h;obtain⟨a,xs,rfl,hx,q1,q2⟩:=h;by_cases hw:HT.sIx xs.length 0 lo=0/\HT.sIx xs.length xs.length hi=xs.length
 ·cases rx
  obtain⟨a2,r,O,hz⟩:=I.tuple hx;have a3:a2.toArray.size=xs.length:=by rw[IF];exact r.length.symm
  refine⟨"tuple",_,Md.lookup,O.typeIs,?_⟩;exact wg O hs pl z (by rw[a3];exact hw) ⟨.ref a,H,I,rfl,q1 hw⟩
 ·exact tK pins s σ H (.ref a) v U Y lo hi sl Q I rx hs pl z ⟨a,xs,rfl,hx,hw,q2⟩
theorem wW(n d:Nat)(o:Option Int):JB n d o=HT.sIx n d o:=by cases o<;>rfl
theorem gS{K:Ip}{H:Hp}{ds:List D}{xs:List V}(r:Reps K H ds xs)(lo hi:Option Int):Reps K H (vx ds lo hi) (rX xs lo hi):=by unfold vx rX;rw[<- wW,<- wW,r.length];exact(r.drop _).take _
theorem eY{ds:List D}{lo hi:Option Int}(h:HT.sIx ds.length 0 lo=0/\HT.sIx ds.length ds.length hi=ds.length):vx ds lo hi=ds:=by unfold vx;rw[wW,wW,h.1,h.2];simp
def tB(K:Ip)(f:CO (Option Int)):TO:=λσ H Q=>∃H0 γ o,RC K H0 H σ γ/\f γ=some o/\∀H' H0',Ext H0 H H0' H'->Q o H'
theorem qm:L2.PO X none (tB X.K Jl):=λpins s σ H Q I ⟨H0,γ,o,rc,z,q⟩=>oX pins s σ H Q I (by cases z;exact q H H0<|Ext.refl rc.sub)
theorem j8(h:PV X e f):L2.PO X (some e) (tB X.K<|sBd f):=λpins s σ H Q I ⟨H0,γ,o,rc,z,q⟩=>oW h pins s σ H Q I (by
 obtain⟨i,e1,O⟩:=zA z;obtain⟨d,U,e1⟩:=ze e1;subst O;refine⟨H0,γ,d,rc,U,λv H' H0' x r=>?_⟩;rw[qc e1]at r;exact⟨i,jW r,q H' H0' x⟩)
theorem kg{lo hi:Option Expr}{O U:CO (Option Int)}(ha:PV X a f)(hl:L2.PO X lo (tB X.K O))(hh:L2.PO X hi (tB X.K U)):PV X (.Subscript a (.Slice lo hi none p2) pos) (QT f O U):=
 qe (VO ox ha hl hh) λσ H Q hZ=>by
  obtain⟨H0,γ,d,rc,z,q⟩:=hZ;obtain⟨Y,e1,z⟩:=ze z;obtain⟨l,e2,z⟩:=ze z;obtain⟨u,e3,z⟩:=ze z;refine⟨H0,γ,Y,rc,e1,λv H' H0' x r=>⟨H0',γ,l,rc.ext x,e2,λH2 a8 I=>⟨a8,γ,u,(rc.ext x).ext I,e3,λH3 aa x3=>?_⟩⟩⟩;have xa:=x.trans<|I.trans x3;cases Y with
  | tup ds=>
   cases z;obtain⟨a1,xs,rfl,h1,h2⟩:=kY<|r.mono (I.trans x3).s0;have ae:=h2.length;refine⟨a1,xs,rfl,sameT x3.sub h1,λhw=>?_,λp hp=>?_⟩
   ·rw[ae]at hw
    exact q _ H3 aa xa (by rw[eY hw];exact xf h1 h2)
   ·exact q _ _ _ (xa.trans<|Ext.alloc x3.sub hp _)<|xf (SqT.of zJ)<|(gS h2 _ _).mono (zW (jP x3.sub hp) _)
  | _=>cases z
theorem Vy{K:Ip}{H:Hp}{ds:List D}{xs:List V}(r:Reps K H ds xs) : ∀n:Nat,Reps K H (Iw n ds).flatten (Iw n xs).flatten
 | 0=>Reps.nil
 | n+1=>by rw[MG,MG,MX,MX];exact r.append<|Vy r n
theorem cz(ha:PQ X a fq)(hb:PQ X b gq):PO X (.BinOp a .Add b pos) (Kb fq gq):=
 qe (ph iA ha hb) λσ H Q hZ=>by
  obtain⟨H0,γ,ds,rc,z,q⟩:=hZ;obtain⟨⟨k1,Y⟩,e1,z⟩:=ze z;obtain⟨⟨k2,d2⟩,e2,z⟩:=ze z;cases k1<;>cases k2<;>try (simp at z;done)
  dsimp only at z;by_cases O:Y.length+d2.length<=lim
  ·rw[RY O]at z;cases z
   refine⟨H0,γ,.L,Y,rc,e1,λa1 xs H1 a9 x1 h1 h2 r1=>⟨a9,γ,.L,d2,rc.ext x1,e2,λa2 ys H2 ac I h3 h4 r2=>⟨a1,a2,xs,ys,rfl,rfl,I.s1.seq h1,h3,yM (by rw[r1.length,r2.length];exact O),λp U=>?_⟩⟩⟩;exact q p (xs++ys) _ ac (x1.trans<|I.trans<|Ext.hide I.sub U _) (ZF (x1.trans I).s1 U) (jP I.sub U) zJ<|(r1.mono I.s0).append r2
  ·rw[EQ O]at z;cases z
theorem AL{K:Ip}{t c:String}{b:Bool}(h:(if ((ND t) == .type c)=true then some true else if PySem.W.kitMeta c=true then (fastBuiltinMro t).map (·.contains (.type c))else none)=some b):Nu K (.type t) (.type c)=some b:=h
def tyN:Ty->String
 | .int=>"int"
 | .bool=>"bool"
 | .str=>"str"
 | .tuple=>"tuple"
 | .list=>"list"
def AM:D->String
 | .non=>"NoneType"
 | .bl _=>"bool"
 | .int _=>"int"
 | .str _=>"str"
 | .tup _=>"tuple"
 | .lst _=>"list"
 | .dic _ _=>"dict"
 | .dct _ _=>"dict"
theorem Kx{K:Ip}(T:Ty)(d:D):Nu K (.type<|AM d) (.type<|tyN T)=some (sO T d):=by cases d<;>cases T<;>(dsimp only[AM,tyN,sO,ni,AY,nc,mZ,nh];exact AL ⋯)
theorem iW{pins:RW}{σ:St}{H0 H:Hp}{s:Shared}{A:Around}{E:RQ}{Q:RQ}{d:D}{x:V}{u:Value}(I:Inv X pins σ H s)(sub:Same H0 H)(rx:RelV x u)(r:Rep X.K H0 d x)(T:Ty)
 (h : ∀Y,Q (.bool (sO T d)) {s with toks:=Y}):wpAny (model X.prog X.w) A (call (.builtin "isinstance") [u,.type (tyN T)]) Q E s:=by
 cases d with
 | non=>have e:=Kx (K:=X.K) T .non;cases (show x = .non from r);cases (show u=Nk from rx);exact Lv PySem.W.kitx_none I.kIn MF e (λz=>nomatch z) h
 | bl y=>have e:=Kx (K:=X.K) T<|.bl y;cases (show x = .bl y from r);cases (show u=PM y from rx);exact Lv PySem.W.kitx_bool I.kIn MF e (λz=>nomatch z) h
 | int i=>have e:=Kx (K:=X.K) T<|.int i;cases (show x = .int i from r);obtain⟨t,q⟩:=(show ∃t,u=PB i t from rx);cases q;exact Lv PySem.W.kitx_int I.kIn MF e (λz=>nomatch z) h
 | str y=>have e:=Kx (K:=X.K) T<|.str y;cases (show x = .str y from r);obtain⟨t,q⟩:=(show ∃t,u=OY y t from rx);cases q;exact Lv PySem.W.kitx_str I.kIn MF e (λz=>nomatch z) h
 | tup ds=>
  have e:=Kx (K:=X.K) T<|.tup ds;obtain⟨a,xs,rfl,h1,h2⟩:=kY r;cases (show u=Lq a from rx);obtain⟨a0,rv,⟨o,O,U,_⟩,hz⟩:=I.tuple<|sameT sub h1;exact Lv PySem.W.kitx_tuple I.kIn ⟨o,O,U⟩ e (λz=>nomatch z) h
 | lst ds=>
  have e:=Kx (K:=X.K) T<|.lst ds;obtain⟨a,xs,rfl,h1,h2⟩:=pV r;cases (show u=Lq a from rx);obtain⟨a0,rv,p,hz⟩:=I.list<|sub.seq h1;obtain⟨o,O,U,_⟩:=p.isList;exact Lv PH I.kIn ⟨o,O,U⟩ e (λz=>nomatch z) h
 | dic ks vs=>
  have e:=Kx (K:=X.K) T<|.dic ks vs;obtain⟨a,xs,rfl,⟨kk,_,_,h1⟩,_⟩:=(show ∃a xs,x = .ref a/\DRp H0 a ks xs/\Reps X.K H0 vs xs from r);exact dE I rx (.dK<|sub _ _ h1) e h
 | dct ks vs=>
  have e:=Kx (K:=X.K) T<|.dct ks vs;obtain⟨a,xs,rfl,⟨_,o,zs,h1,h2,_⟩,_⟩:=(show ∃a xs,x = .ref a/\DRt X.K H0 a ks xs/\Reps X.K H0 vs xs from r);cases (show u=Lq a from rx);obtain⟨O,_⟩:=(show ObjOk X.prog X.w H s.heap a (atO a o)from I.hok a _<|sub _ _ h1);exact Lv PJ I.kIn ⟨o,O,h2.1.1⟩ e (λz=>nomatch z) h
theorem uB(T:Ty)(h:SX X sc N L k)(c:vM sc "isinstance" = true)(z:X.mg "isinstance" = none)(O:vM sc ty=true)(z2:X.mg ty=none)(hb:bootBuiltins ty=some (.type (tyN T)))(ha:PV X a f)
 (hs:starEach [a,.Name ty p2] X.env=[(false,eval a X.env),(false,eval (.Name ty p2) X.env)]:=by rfl):PV X (.Call (.Name "isinstance" p) [a,.Name ty p2] [] pos) (sIs T f):=by
 intro pins s σ H Q I ⟨H0,γ,d,rc,ef,q⟩;obtain⟨Y,e1,e2⟩:=zA ef;subst e2;refine NU<|yC I (h.gl c).1 z PyProof.Rows.boot_isinstance ?_ ⋯ ⋯;refine Pe ?_ (by rw[hs];rfl) rfl;rw[hs];show wpAny _ _ (spliced ((false,eval a X.env)::backTo pos [(false,eval (.Name ty p2) X.env)])) _ _ s;refine Np<|thn (ha pins s σ H _ I ⟨H0,γ,Y,rc,e1,λv H' H0' x r=>(show(λv H'=>∃H0',Ext H0 H H0' H'/\Rep X.K H0' Y v) v H' from⟨H0',x,r⟩)⟩) λu s1 hZ=>?_;obtain⟨x,H1,U,r1,a4,x1,rr⟩:=hZ;show wpAny _ _ (spliced ((false,eval (.Name ty p2) X.env)::[])) _ _ s1;refine Np<|yC U (h.gl O).1 z2 hb ?_ (h.gl O).2.1 (h.gl O).2.2;refine OH ?_;exact iW U x1.sub r1 rr T λtk=>⟨.bl _,H1,U.tok tk,rfl,q _ H1 a4 x1 rfl⟩
end
section
variable{X:Cx}{sc:Scope}{N L:List Str}{k:Nat}{e a b c:Expr}{pos p p2:Pos}{f g:CO D}{fq:CO (Sk×List D)}
theorem qP(h:SX X sc N L k)(c:vM sc "range" = true)(z:X.mg "range" = none)(ha:PV X a f)(hs:starEach [a] X.env=[(false,eval a X.env)]:=by rfl):PIF X tg (.Call (.Name "range" p) [a] [] pos) (jK f):=WZ (h.gl c).1 z ha hs
theorem VN(h:SX X sc N L k)(c:vM sc "range" = true)(z:X.mg "range" = none)(ha:PV X a f)(hb:PV X b g)(hs:starEach [a,b] X.env=[(false,eval a X.env),(false,eval b X.env)]:=by rfl)(I:starEach [b] X.env=[(false,eval b X.env)]:=by rfl) :
 PIF X tg (.Call (.Name "range" p) [a,b] [] pos) (QU f g):=WY (h.gl c).1 z ha hb hs I
theorem VM(h:SX X sc N L k)(c:vM sc "zip" = true)(z:X.mg "zip" = none)(ha:PV X a f)(hb:PV X b g)(hs:starEach [a,b] X.env=[(false,eval a X.env),(false,eval b X.env)]:=by rfl)(I:starEach [b] X.env=[(false,eval b X.env)]:=by rfl) :
 PIF X (.Tuple elts x1 tpos) (.Call (.Name "zip" p) [a,b] [] pos) (gG f g):=pe (h.gl c).1 z ha hb hs I
theorem bW(h:SX X sc N L k)(c:vM sc "isinstance" = true)(z:X.mg "isinstance" = none)(I:vM sc "int" = true)(z2:X.mg "int" = none)(ha:PV X a f)
 (hs:starEach [a,.Name "int" p2] X.env=[(false,eval a X.env),(false,eval (.Name "int" p2) X.env)]:=by rfl):PV X (.Call (.Name "isinstance" p) [a,.Name "int" p2] [] pos) (sIs .int f):=uB .int h c z I z2 PyProof.Rows.boot_int ha hs
theorem WS(h:SX X sc N L k)(c:vM sc "isinstance" = true)(z:X.mg "isinstance" = none)(I:vM sc "bool" = true)(z2:X.mg "bool" = none)(ha:PV X a f)
 (hs:starEach [a,.Name "bool" p2] X.env=[(false,eval a X.env),(false,eval (.Name "bool" p2) X.env)]:=by rfl):PV X (.Call (.Name "isinstance" p) [a,.Name "bool" p2] [] pos) (sIs .bool f):=uB .bool h c z I z2 PyProof.Rows.boot_bool ha hs
theorem gW(ha:PQ X a fq)(he : ∀z,isTrue a X.env z=(do let v <- z;standAt a.pos;holding [v] (truthy v)):=by intro _;rfl):PTD X a (oz fq):=
 Yn (gX ha he) λσ H Q I=>by
  obtain⟨H0,γ,t,rc,O,q⟩:=I;obtain⟨⟨kk,ds⟩,e1,U⟩:=zA O;subst U;refine⟨H0,γ,kk,ds,rc,e1,λp xs H' H0' ext h1 h2 r=>⟨!ds.isEmpty,?_,q H' H0' ext⟩⟩;have e:xs.isEmpty=ds.isEmpty:=by have:=r.length;cases xs<;>cases ds<;>simp_all
  rw[<- e];cases kk with
  | L=>exact .inl ⟨xs,h1,rfl⟩
  | T=>exact .inr<|.inl ⟨xs,h1,rfl⟩
theorem uz(ha:PV X a f):PV X (.UnaryOp .USub a pos) (ua f):=
 qe (EC sZ ha) λσ H Q z=>by obtain⟨H0,γ,d,rc,I,q⟩:=z;obtain⟨i,e1,O⟩:=zA I;obtain⟨U,Y,e1⟩:=ze e1;subst O;refine⟨H0,γ,U,rc,Y,λv H' H0' x r=>?_⟩;rw[qc e1]at r;exact⟨i,jW r,q _ H' H0' x rfl⟩
theorem Xd(i:Nat)(h:SX X sc N L k)(c:Yd sc N i x=true)(ha:PV X a f)(hs:starEach [a] X.env=[(false,eval a X.env)]:=by rfl)
 (z:attributeBase (.Name x np) "append" X.env (eval (.Name x np) X.env)=eval (.Name x np) X.env:=by rfl)
 (I:((backTo cpos<|starEach [a] X.env).all (λx=> !x.1) && (backToKw cpos<|keywordEach [] X.env).all (λx=>x.1.isSome)
   && decide ([a].length+([]:List Keyword).length+(if ([]:List Keyword).isEmpty then 0 else 1)<30))=true:=by rfl)
 (O:(apos.endLine==cpos.line)=true:=by rfl) (U:swapsWith (.Call (.Attribute (.Name x np) "append" apos) [a] [] cpos) none pos.line X.env=pure false:=by rfl) :
 PSD X (.Expr (.Call (.Attribute (.Name x np) "append" apos) [a] [] cpos) pos) (kZ i f):=
 WV i (ir OE PySem.F.slot_list_append PySem.F.type_list_append cW (h.var c) (zX ha qa hs) z I O hs rfl) U
theorem qj(i:Nat){st:Stmt}{f:CO (List D)}(h:PS X st (WA (tO X.K f)<|yx i)):PSD X st (jo i<|qi f):=ki h λD σ H I=>by obtain⟨E0,E,H0,γ,fl,rs,z,O⟩:=I;obtain⟨d,e1,z⟩:=zA z;obtain⟨ds,U,e1⟩:=zA e1;subst z e1;exact⟨H0,γ,ds,rs.rc,U,λa xs H' H0' x h1 h2 Y r=>O _ _ _<|(rs.step<|x.show h1 h2 Y rs.rc.sub).setVal (Yi (SqL.of zJ)<|r.mono<|zW h2 _)⟩
theorem psc(i:Nat)(h:SX X sc N L k)(c:yv sc N L i y=true)
 (z:X.calm=true) (ok:CompOk X scope fr) (I : ∀i∈T.idx,i<own.length) (hi:PIC X tg iter src) (O : ∀fp s2 H2,PG (jv X scope (own++fr.map (·.1)) fp s2 H2) tg<|gOf X.K T)
 (he : ∀fp s2 H2,PV (jv X scope (own++fr.map (·.1)) fp s2 H2) elt f) (hs : ∀x,foldedSetIterable iter X.env x=pure x:=by intro _;rfl) :
 PS X (.Assign [.Name y py] (.ListComp elt [⟨tg,iter,[],0⟩] scope cpos) spos) (WA (tO X.K<|zP src T own.length (fr.map (·.2)) jA f)<|yx i):=by
 obtain⟨h1,h2,U⟩:=h.loc c;exact ia h.ndX h1 h2 U z ok I hi O he hs
theorem Ey(i:Nat)(h:SX X sc N L k)(c:yv sc N L i y=true)
 (z:X.calm=true) (ok:CompOk X scope fr) (I : ∀i∈T.idx,i<own.length) (hi:PIC X tg iter src) (O : ∀fp s2 H2,PG (jv X scope (own++fr.map (·.1)) fp s2 H2) tg<|gOf X.K T)
 (hk : ∀fp s2 H2,PTD (jv X scope (own++fr.map (·.1)) fp s2 H2) cnd kk) (he : ∀fp s2 H2,PV (jv X scope (own++fr.map (·.1)) fp s2 H2) elt f) (hs : ∀x,foldedSetIterable iter X.env x=pure x:=by intro _;rfl) :
 PS X (.Assign [.Name y py] (.ListComp elt [⟨tg,iter,[cnd],0⟩] scope cpos) spos) (WA (tO X.K<|zP src T own.length (fr.map (·.2)) kk f)<|yx i):=by
 obtain⟨h1,h2,U⟩:=h.loc c;exact WW h.ndX h1 h2 U z ok I hi O hk he hs
theorem VF(I:PG X tg (gOf X.K T))(he:PV X e f)(hs:swapsWithSole [tg] e pos.line X.env=pure false:=by rfl)(hw:swappedStores [tg] e X.env=pure none:=by rfl)
 (h1:(assignEach [tg] X.env).map (·.2)=[assign tg X.env]:=by rfl):PSD X (.Assign [tg] e pos) (gH T f):=
 ki (mI he I hs hw h1) λD σ H O=>by obtain⟨E0,E,H0,γ,fl,rs,z,U⟩:=O;obtain⟨d,e1,z⟩:=ze z;obtain⟨γ1,Y,z⟩:=zA z;subst z;refine⟨H0,γ,d,rs.rc,e1,λv H' H0' x r=>?_⟩;exact ZW x.sub r Y λσ1 _ a1=>U σ1 H' H0'<|a1 E0 E<|rs.step x
end
structure FnD(P:Program)(w:World)(K:Ip)(mg:RJ)(base:Heap)(k:Nat)(x:Str)(n:Nat)(F:List D->Option Res):Prop where
 ex : ∃(f:Addr) (fd:FuncData) (ps:List Str),ps.length=n/\FnOk P w K mg base CX0 k f fd ps (spF K ps.length F)/\mg x=some (.ref f)/\Mn K (.ref f)=true/\Binds K fd ps []
structure DefAt(K:Ip)(mg:RJ)(x:Str)(st:Stmt)(ps:List Str):Prop where
 ex : ∃(f:Addr) (fd:FuncData),L2.Fun K x x st f fd/\(∀us:List Value,us.length=ps.length->bindArgs fd ⟨us,[]⟩=pure (ps.zip us))/\mg x=some (.ref f)
def PAn(X:Cx)(es:List Expr)(n:Nat)(g:CO (List D)):Prop:=PAD X es g/\∀γ ds,g γ=some ds->ds.length=n
section
variable{X:Cx}{sc:Scope}{N L:List Str}{k:Nat}{e:Expr}{es:List Expr}{f:CO D}{g:CO (List D)}{n:Nat}{pos p:Pos}{x:Str}
theorem zk:PAn X [] 0 zE:=⟨pz,λγ ds h=>by cases h;rfl⟩
theorem za(ha:PV X e f)(z:PAn X es n g)(hs:starEach (e::es) X.env=(false,eval e X.env)::starEach es X.env:=by rfl):PAn X (e::es) (n+1) (zb f g):=
 ⟨iy ha z.1 hs,λγ ds h=>by obtain⟨y,e1,h⟩:=ze h;obtain⟨r,I,h⟩:=zA h;subst h;rw[Lj,z.2 γ r I]⟩
variable{j:Nat}{F:List D->Option Res}
theorem Ex(z:FnD X.prog X.w X.K X.mg X.base j x n F)(I:j<=k)(h:SX X sc N L k)(c:vM sc x=true)(ha:PAn X (e::es) n g)
 (he:starEach (e::es) X.env=(false,eval e X.env)::starEach es X.env:=by rfl) (O:(backTo pos<|starEach es X.env).any (·.1)=false:=by rfl):PV X (.Call (.Name x p) (e::es) [] pos) (zC F g):=by
 obtain⟨fa,fd,ps,hn,G,hm,hk,hb⟩:=z.ex;subst hn;exact oM (A0:=[]) G ha.1 ha.2 λ{t} U=>Zt G (h.room.mono I) (h.gl c).1 hm hk hb .nil Kk U (h.gl c).2.2 he O
theorem EB(z:FnD X.prog X.w X.K X.mg X.base j x n F)(I:j<=k)(h:SX X sc N L k)(c:vM sc x=true)(ha:PAn X (e::es) n g)
 (he:starEach (e::es) X.env=(false,eval e X.env)::starEach es X.env:=by rfl) (O:(backTo pos<|starEach es X.env).any (·.1)=false:=by rfl):PO X (.Call (.Name x p) (e::es) [] pos) (jB F g):=by
 obtain⟨fa,fd,ps,hn,G,hm,hk,hb⟩:=z.ex;subst hn;exact oZ G ha.1 ha.2 λ{t} U=>Zt G (h.room.mono I) (h.gl c).1 hm hk hb .nil Kk U (h.gl c).2.2 he O
end
section
variable{P:Program}{w:World}{K:Ip}{mg:RJ}{base:Heap}
def YX(N ps:List Str)(st:Stmt):Bool:=
 decide ((zT st).kind = .function) && decide ((zT st).isCoroutine=false) && decide ((zT st).isGenerator=false) && decide N.Nodup && decide (N.take ps.length=ps) &&
 ps.all (λx=>decide ((zT st).names.lookup x=some .local) || decide ((zT st).names.lookup x=some .cell)) && (zT st).names.all (λy=> !(y.2==Ld))
theorem y6{N ps:List Str}{st:Stmt}(h:YX N ps st=true):FnScope N ps (zT st):=by unfold YX at h;simp only[ID,decide_eq_true_eq,LC,LO,MM]at h;obtain⟨⟨⟨⟨⟨⟨h1,h2⟩,z⟩,I⟩,O⟩,U⟩,Y⟩:=h;exact⟨h1,h2,z,I,O,U,λy hy e=>by have:=Y y hy;rw[e]at this;exact absurd this ⋯⟩
theorem mP{X:Cx}(hx:X.xe=λ_ _=>False):PassesOwn (model X.prog X.w) X.A X.env X.xe:=by rw[hx];exact PassesOwn.never
theorem xq{x:Str}{st:Stmt}{N ps:List Str}{k:Nat}{F:CO Fl}(A:DefAt K mg x st ps)(hd:YX N ps st=true)
 (I : ∀X:Cx,X.prog=P->X.w=w->X.K=K->X.mg=mg->X.base=base->SX X (zT st) N N k->X.xe=(λ_ _=>False)->aQ X (jZ st) F) :
 FnD P w K mg base (k+1) x ps.length (z6 N.length F):=by
 obtain⟨f,fd,z,hb,hm⟩:=A.ex;have S:=y6 hd;refine⟨f,fd,ps,rfl,Fg z S λcdv A outer s H E O=>?_,hm,z.kp,.all hb⟩;exact I _ rfl rfl rfl rfl rfl ⟨rfl,rfl,S.nd,rfl,O,λ_ _=> .inl rfl⟩ rfl
theorem GD{h:Heap}{x:Str}{st:Stmt}{ps:List Str}{f:Addr}{oc:Value}{od an:Option Addr}{osl:Array (Option Value)}{kV doc pm cdv ct:Value}(z:K.In h)(G:h.Ns mainGlobals mg)
 (a:OQ K mainGlobals x=some (some (.ref f))) (l:K.lookup f=some ⟨oc,od,.func<|My x x (xi st) (jZ st) (zT st) .none kV doc pm an cdv ct,osl⟩)
 (c:Nv K cdv x=true) (kp:Mn K (.ref f)=true)
 (b : ∀(kV doc pm:Value) (an:Option Addr) (cdv ct:Value) (us:List Value),us.length=ps.length->bindArgs (My x x (xi st) (jZ st) (zT st) .none kV doc pm an cdv ct) ⟨us,[]⟩=pure (ps.zip us)):DefAt K mg x st ps:=
 ⟨f,_,V9 l c kp,b kV doc pm an cdv ct,Ph z G a⟩
end
end DL
namespace DL
open PySem PySem.Spec PyProof.Rows L2
open AutoSeq1 (wpAny_loadPart')
theorem wH:fillsNumberSlot (.type "tuple") "mul" = pure false:=
 PySem.fillsNumberSlot_seq (id:="tuple.__mul__") (r:=some (.builtin "tuple.__rmul__")) Og.lookup ⋯ F.slot_tuple_rmul.lookup ⋯
theorem Kd:seqRepeat? (.type "tuple")=pure (some (.builtin "tuple.__mul__")):=by unfold seqRepeat?;rw[PySem.seqSlot_of (T:="tuple") (name:="__mul__") (id:="tuple.__mul__") Og.lookup ⋯,PySem.seqSlot_of (T:="tuple") (name:="__rmul__") (id:="tuple.__rmul__") F.slot_tuple_rmul.lookup ⋯];rfl
theorem Jz(a:Int)(t:Tok)(l:Addr)(items:Array Value)(n:Nat)(z:Option Addr)(sl:Array (Option Value)) :
 Meets (Builtin.«int.__rmul__» ⟨[.int a t,.ref l],[]⟩) (λ_ R s=>s.heap.get? l=some {cls:= .type "tuple",dict:=z,data:= .seq items n,slots:=sl}/\R (.ok (.ret Value.notImplemented)) s):=
 .of_wp λprog w A R s h=>by obtain⟨I,g,d,O,os⟩:=s;obtain⟨U,h⟩:=h;wp_walk;exact⟨_,rfl,h⟩
theorem QN(a:Int)(t:Tok)(l:Addr)(items:Array Value)(n:Nat)(I:Option Addr)(sl:Array (Option Value))(h1 : ¬(decide (a < -(2 ^ 63)) || decide (a>=2 ^ 63))=true)(h2 : ¬(items.isEmpty || a==1)=true)
 (O : ¬(decide (a<=0) || items.isEmpty)=true) (U : ¬((items.size:Int)*a>(2 ^ 63 - 1)/8)) (Y : ¬Builtin.Tuple.tupleTooMany ((items.size:Int)*a)=true) (hz:((Iw a.toNat items).foldl (· ++ ·) #[]).size<=sizeLine) :
 Meets (Builtin.«tuple.__mul__» ⟨[.ref l,.int a t],[]⟩) (λ_ R s=>s.heap.get? l=some {cls:= .type "tuple",dict:=I,data:= .seq items n,slots:=sl}/\
  R (.ok (.ret (.ref s.heap.objs.size))) {s with heap:=s.heap.push {cls:= .type "tuple",data:= .seq ((Iw a.toNat items).foldl (· ++ ·) #[])}}):=
 .of_wp λprog w A R s h=>by
  obtain⟨hp,g,d,tk,os⟩:=s;obtain⟨z,h⟩:=h
  wp_walk using MQ z
  rw[EQ h1];refine Iq<|Pc (s:=⟨hp,g,d,tk,os⟩) ⟨_,z,rfl,n,rfl⟩ ?_;dsimp only;rw[EQ h2,EQ O,EQ U,EQ Y];refine Iq (m:=MC _)<|Mj ?_ hz;exact IA ⟨_,rfl,h⟩
theorem Js(a:Int)(t:Tok)(l:Addr)(items:Array Value)(n:Nat)(I:Option Addr)(sl:Array (Option Value))(h1 : ¬(decide (a < -(2 ^ 63)) || decide (a>=2 ^ 63))=true)(h2 : ¬(items.isEmpty || a==1)=true)
 (O:(decide (a<=0) || items.isEmpty)=true) :
 Meets (Builtin.«tuple.__mul__» ⟨[.ref l,.int a t],[]⟩) (λ_ R s=>s.heap.get? l=some {cls:= .type "tuple",dict:=I,data:= .seq items n,slots:=sl}/\
  R (.ok (.ret (.ref s.heap.objs.size))) {s with heap:=s.heap.push {cls:= .type "tuple",data:= .seq #[]}}):=
 .of_wp λprog w A R s h=>by
  obtain⟨U,g,d,Y,os⟩:=s;obtain⟨z,h⟩:=h
  wp_walk using MQ z
  rw[EQ h1];refine Iq<|Pc (s:=⟨U,g,d,Y,os⟩) ⟨_,z,rfl,n,rfl⟩ ?_;dsimp only;rw[EQ h2,RY O];refine Iq (m:=MC _)<|Mj ?_ (MN _);exact IA ⟨_,rfl,h⟩
theorem Jr(a:Int)(t:Tok)(l:Addr)(items:Array Value)(n:Nat)(I:Option Addr)(sl:Array (Option Value))(h1 : ¬(decide (a < -(2 ^ 63)) || decide (a>=2 ^ 63))=true)(h2:(items.isEmpty || a==1)=true) :
 Meets (Builtin.«tuple.__mul__» ⟨[.ref l,.int a t],[]⟩) (λ_ R s=>s.heap.get? l=some {cls:= .type "tuple",dict:=I,data:= .seq items n,slots:=sl}/\R (.ok (.ret (.ref l))) s):=
 .of_wp λprog w A R s h=>by
  obtain⟨O,g,d,U,os⟩:=s;obtain⟨z,h⟩:=h
  wp_walk using MQ z
  rw[EQ h1];refine Iq (Pc (s:=⟨O,g,d,U,os⟩) ⟨_,z,rfl,n,rfl⟩ ?_);dsimp only;rw[RY h2];refine Iq (m:=Nm _) ?_;unfold Nm;refine Iq (Of (T:="tuple") ⟨_,z,rfl⟩ (IA ?_));rw[RY ⋯];exact Iq (Ox (IA ⟨_,rfl,h⟩))
section
variable{X:Cx}
def uj(K:Ip):R2:=λx y H Q=>∃l k xs,x = .ref l/\y = .int k/\SqT K H l xs/\ -(2 ^ 62)<=k/\k<2 ^ 62/\xs.length*k.toNat<=sizeLine/\(xs=[]\/k=1->Q (.ref l) H)/\
 ∀p,H p=none->Q (.ref p) (upd H p<|.tup (Iw k.toNat xs).flatten)
theorem pA:OpR X (binaryOp .Mult) (uj X.K):=by
 intro pins s σ H x y v u Q I rx ry h;obtain⟨l,k,xs,rfl,rfl,hq,h1,h2,hz,q1,q2⟩:=h;cases rx;obtain⟨t,rfl⟩:=ry;obtain⟨z,r,ht,z1⟩:=I.tuple hq;obtain⟨⟨cls,dd,data,sl⟩,O,hc,n,hd⟩:=id ht;simp only at hc hd;subst hc hd;have ac:=r.length;have g1 : ¬(decide (k < -(2 ^ 63)) || decide (k>=2 ^ 63))=true:=by simp;omega
 refine wpAny_binaryOp_repeat_ref (T:="tuple") (U:="int") ⋯ ⟨_,O,rfl⟩ (λs'=>typeIs_int s' k t) wH F.fills_int_mul F.slot_int_rmul Kd F.slot_int_index.lookup
  (Ob F.slot_int_rmul (typeIs_int s k t) F.entry_int_rmul (F.args_int_rmul_2 _ _) (Jz k t l z.toArray n dd sl) ⟨O,rfl,⟨_,O,rfl⟩,?_⟩)
 have f0 : ∀m:Nat,List.foldl (λx1 x2=>x1++x2) #[] (Iw m z.toArray)=(Iw m z).flatten.toArray:=λm=>by have:=KN z m [];rw[List.nil_append]at this;exact this
 by_cases g2:(z.toArray.isEmpty || k==1)=true
 ·refine Ob Og ⟨_,O,rfl⟩ Rj (PZ _ _) (Jr k t l z.toArray n dd sl g1 g2) ⟨O,⟨.ref l,H,I,rfl,q1 ?_⟩⟩
  rw[LO]at g2;rcases g2 with g | g
  ·left
   have:z=[]:=by simpa using g
   exact(r.nil_iff).mp this
  ·right;simpa using g
 ·have a3:=g2
  simp only[LO,not_or]at a3;have ae:z ≠ []:=by intro e;exact a3.1 (by rw[e];rfl)
  have am:0<z.length:=List.length_pos_iff.mpr ae;by_cases Y:(decide (k<=0) || z.toArray.isEmpty)=true
  ·have hk:k.toNat=0:=by
    rw[LO]at Y;rcases Y with g | g
    ·have:=of_decide_eq_true g;omega
    ·exact absurd g a3.1
   refine Ob Og ⟨_,O,rfl⟩ Rj (PZ _ _) (Js k t l z.toArray n dd sl g1 g2 Y) ⟨O,?_⟩;refine⟨.ref s.heap.objs.size,_,I.laid (t':=s.toks) (o:= .tup (Iw k.toNat xs).flatten) (λc ob q=>Ir _ q) (IC _) ?_,rfl,q2 _<|I.hok.fresh<|IC _⟩;rw[hk];exact⟨MN _,[],.nil,IsTupD.new _ _⟩
  ·have hk : ¬k<=0:=by intro g;exact Y (by rw[LO];exact .inl<|decide_eq_true g)
   have hsz:z.length*k.toNat<=sizeLine:=by rw[<- ac];exact hz
   have an:((z.toArray.size:Nat):Int)*k<=(sizeLine:Int):=by
    rw[IF];have e:((z.length*k.toNat:Nat):Int)=(z.length:Int)*k:=by rw[Int.natCast_mul,Oj ⋯]
    omega
   have ap:sizeLine=16777216:=PX;have ag:(List.foldl (λx1 x2=>x1++x2) #[] (Iw k.toNat z.toArray)).size<=sizeLine:=by rw[f0,IF,dj,Rb];exact hsz
   refine Ob Og ⟨_,O,rfl⟩ Rj (PZ _ _) (QN k t l z.toArray n dd sl g1 g2 Y ⋯ (by unfold Builtin.Tuple.tupleTooMany;simp only[decide_eq_true_eq];omega) ag) ⟨O,?_⟩;rw[f0];refine⟨.ref s.heap.objs.size,_,I.laid (t':=s.toks) (o:= .tup (Iw k.toNat xs).flatten) (λc ob q=>Ir _ q) (IC _) ?_,rfl,q2 _<|I.hok.fresh<|IC _⟩;exact⟨by rw[dj,Rb];exact hz,_,r.rep k.toNat,IsTupD.new _ _⟩
theorem om{K:Ip}:Snd K (λx y H Q=>rI CMul (λi j=> .int (i*j)) x y H Q\/uj K x y H Q) yF:=λH0 H x y dx Y d Q s rx O z q=>by
 cases dx<;>cases Y<;>simp[yF]at z
 ·obtain⟨e1,I⟩:=z
  subst I;exact .inl ⟨_,_,jW rx,jW O,lP e1,q _ H H0 (Ext.refl s) rfl⟩
 ·rename_i ds j
  obtain⟨⟨hl,hj⟩,rfl⟩:=z;obtain⟨a,xs,rfl,h1,h2⟩:=kY rx;obtain⟨q1,q2⟩:=Xr hj;refine .inr ⟨a,j,xs,rfl,jW O,sameT s h1,q1,q2,yM (by rw[h2.length];exact hl),λe=>?_,λp U=>?_⟩
  ·refine q _ H H0 (Ext.refl s) ?_
   rcases e with e | e
   ·have I:ds=[]:=by
     have:=h2.length;rw[e]at this;exact Lu this.symm
    subst I;rw[show(Iw j.toNat ([]:List D)).flatten=[]by simp];exact xf h1 h2
   ·subst e
    rw[show(Iw (1:Int).toNat ds).flatten=ds by simp];exact xf h1 h2
  ·exact q _ _ _ (Ext.alloc s U _)<|xf (SqT.of zJ)<|(Vy h2 _).mono (zW (jP s U) _)
theorem xm(ha:PV X a fa)(hb:PV X b fb):PV X (.BinOp a .Mult b pos) (zH yF fa fb):=JP (op_mul.or pA) om ha hb
end
end DL
namespace DL
open PySem PySem.Spec PyProof.Rows L2
theorem RC.lendAt{K:Ip}{H0 H:Hp}{σ:St}{γ:Ctx}{i:Nat}{ds:List D}{a:Addr}{xs:List V}(r:RC K H0 H σ γ)(e:γ[i]? = some (.own ds))(h1:σ[i]? = some (some (.ref a)))(h2:H0 a=none)(h3:H a=some (.lst xs))(h4:Reps K H0 ds xs):RC K (L2.upd H0 a<|.lst xs) H σ (γ.set i<|.val<|.lst ds):=by
 refine⟨λb o q=>?_,by simp[r.len],λj d g=>?_,λj es g=>?_,λj k b es fs e1 I e3 e4=>?_,⟨λj rows g=>?_,λj k r1 r2 e1 I=>?_⟩⟩
 ·by_cases z:b=a
  ·subst z;rw[zJ]at q;rw[h3];exact q
  ·rw[zL z]at q;exact r.sub b o q
 ·rcases zQ g with⟨rfl,z,hl⟩ | ⟨O,z⟩
  ·cases z;exact⟨_,h1,Yi (SqL.of zJ)<|h4.mono<|zW h2 _⟩
  ·obtain⟨v,U,g2⟩:=r.val j d z
   exact⟨v,U,g2.mono<|zW h2 _⟩
 ·rcases zQ g with⟨_,z,_⟩ | ⟨O,z⟩
  ·cases z
  ·obtain⟨b,ys,U,g2,g3,g4⟩:=r.own j es z
   refine⟨b,ys,U,?_,g3,g4.mono<|zW h2 _⟩;rw[zL (λq=>O<|r.ne j i a es ds z e (by rw[U,q]) h1)];exact g2
 ·rcases zQ e1 with⟨_,z,_⟩ | ⟨O,z1⟩
  ·cases z
  ·rcases zQ I with⟨_,z,_⟩ | ⟨hk,z2⟩
   ·cases z
   ·exact r.ne j k b es fs z1 z2 e3 e4
 ·rcases zQ g with⟨_,z,_⟩ | ⟨O,z⟩
  ·cases z
  ·obtain⟨b,bs,f1,f2,f3⟩:=r.nst.1 j rows z
   have aa:=f3 i ds a e h1;refine⟨b,bs,f1,f2.move (zW h2 _) (λc Y=>by rw[zL (λq=>aa<|by rw[<- q];exact Y)];exact(f2.at Y).1)<|λc Y=>rfl,λk fs c e1 I=>?_⟩;rcases zQ e1 with⟨_,z,_⟩ | ⟨_,z1⟩
   ·cases z
   ·exact f3 k fs c z1 I
 ·rcases zQ e1 with⟨_,z,_⟩ | ⟨_,z1⟩
  ·cases z
  ·rcases zQ I with⟨_,z,_⟩ | ⟨_,z2⟩
   ·cases z
   ·exact r.nst.2 j k r1 r2 z1 z2
end DL
namespace L2
open PySem PySem.Spec PyProof.Rows
open AutoSeq1 (wpAny_loadPart')
section
variable{prog:Program}{w:World}{A:Around}{E:RQ}{s:Shared}
theorem aD{z it l:Addr}{n:Nat}{xs:Array Value}{x U:Value}{Q:RQ}(hz:IsEnum s.heap z it n U)(h1:ItAt .T s.heap it l n)(hl:SqAt .T s.heap l xs)(hx:xs[n]? = some x)(a1:z≠it)
 (hQ : ∀g,IsEnumOut g z it ((n:Int)+1) x s.heap.objs.size->ItAt .T g it l (n+1)->IsPair g s.heap.objs.size (.int n s.toks) x->g.objs.size=s.heap.objs.size+1->
   (∀c o,c≠z->c≠it->s.heap.get? c=some o->g.get? c=some o)->Q (.ref s.heap.objs.size) {s with heap:=g,toks:=s.toks+1}) :
 wpAny (model prog w) A (Builtin.«enumerate.__next__» ⟨[.ref z],[]⟩) (λbb s'=>∃v,bb = .done (.ret v)/\Q v s') E s:=by
 refine Iq (m:=field (.ref z) 2) (LV hz rfl (x:= .ref it) rfl ?_);refine Iq (m:=Ll (.ref it)) (vj h1 hl hx λg1 bd a5=>?_);have a6:IsEnum g1 z it n U:=a5.extBut _ _ a1 hz;refine Iq (m:=field (.ref z) 3) (LV a6 rfl (x:=rawInt n) rfl ?_);refine Iq (m:=field (.ref z) 4) (LV a6 rfl (x:= .none) rfl ?_);refine Iq (m:=mkInt n) (wpAny_mkInt ?_);refine Iq (m:=setField (.ref z) 3 (rawInt ((n:Int)+1))) (Ms a6 ⋯ λg2 a7 a8=>?_);replace a7:IsEnum g2 z it ((n:Int)+1) U:=a7;refine Iq (m:=setField (.ref z) 4 .none) (Ms a7 ⋯ λY a9 aa=>?_);replace a9:IsEnum Y z it ((n:Int)+1) U:=a9;refine Iq (m:=newTuple [.int n s.toks,x]) (wpAny_newTuple ?_);have a2:IsEnum (Y.push {cls:= .type "tuple",data:= .seq #[.int n s.toks,x]}) z it ((n:Int)+1) U:=Ir _ a9;generalize a3:Y.push {cls:= .type "tuple",data:= .seq #[.int n s.toks,x]}=O at a2;have y1:g1.objs.size=s.heap.objs.size:=a5.1;have y2:g2.objs.size=g1.objs.size:=a8.1;have y3:Y.objs.size=g2.objs.size:=aa.1;have hsz:Y.objs.size=s.heap.objs.size:=by rw[y3,y2,y1]
 have bl:z<s.heap.objs.size:=IL hz;have bm:IsPair O s.heap.objs.size (.int n s.toks) x:=by show O.get? _=_;rw[<- a3,<- hsz];exact IR _ rfl
 have y4:O.objs.size=s.heap.objs.size+1:=by rw[<- a3,Ls,hsz]
 have bv : ∀c o,c≠z->c≠it->s.heap.get? c=some o->O.get? c=some o:=λc o I c2 e=>by rw[<- a3];exact Ir _<|aa.extBut _ _ I<|a8.extBut _ _ I<|a5.extBut _ _ c2 e
 have c0:ItAt .T O it l (n+1):=bd.at λo e=>by rw[<- a3];exact Ir _<|aa.extBut _ _ a1.symm<|a8.extBut _ _ a1.symm e
 refine Iq (m:=LI<|.ref z) ?_;unfold LI;refine Iq<|LV a2 rfl (x:= .none) rfl<|IA ?_;simp only[if_true];refine Iq<|Ox<|Iq<|LV a2 rfl (x:=U) rfl ?_;refine Iq<|Ms a2 ⋯ λg5 ag ar=>?_;replace ag:IsEnum g5 z it ((n:Int)+1) x:=ag;rw[hsz];refine Iq (m:=MD (.ref z)<|.ref s.heap.objs.size) ?_;unfold MD;refine Iq<|Ms ag ⋯ λg6 am as=>?_;replace am:IsEnumOut g6 z it ((n:Int)+1) x s.heap.objs.size:=am;refine Ms am ⋯ λg7 an ax=>?_;replace an:IsEnumOut g7 z it ((n:Int)+1) x s.heap.objs.size:=an;have up : ∀c o,c≠z->O.get? c=some o->g7.get? c=some o:=λc o I e=>ax.extBut _ _ I<|as.extBut _ _ I<|ar.extBut _ _ I e;have y7:g7.objs.size=s.heap.objs.size+1:=by have q5:g5.objs.size=O.objs.size:=ar.1;have q6:g6.objs.size=g5.objs.size:=as.1;have q7:g7.objs.size=g6.objs.size:=ax.1;rw[q7,q6,q5,y4]
 exact Iq<|wpAny_letGo<|IA ⟨_,rfl,hQ g7 an (c0.at λo e=>up _ o a1.symm e) (up _ _ (MJ bl) bm) y7 λc o I c2 e=>up c o I<|bv c o I c2 e⟩
theorem eD{z it l:Addr}{n:Nat}{xs:Array Value}{I:Value}{Q:Fin->Shared->Prop}(O:A.handled=none)(hz:IsEnum s.heap z it n I)(h1:ItAt .T s.heap it l n)(U:SqAt .T s.heap l xs)(hx:xs[n]? = none)
 (Y : ∀g e,Heap.ExtBut it s.heap g->(∃o,g.get? e=some o/\o.cls = .type "StopIteration")->E (.ref e) {s with heap:=g}) :
 wpAny (model prog w) A (Builtin.«enumerate.__next__» ⟨[.ref z],[]⟩) Q E s:=
 Iq (m:=field (.ref z) 2) (LV hz rfl (x:= .ref it) rfl<|Iq (m:=Ll<|.ref it)<|Xh O h1 U hx Y)
end
def rL(i:Addr):Obj:={cls:= .type "enumerate",data:= .fields #[.none,.bool false,.ref i,rawInt 0,.none,.none]}
def ZR(h:Heap)(l:Addr):Heap:=LM (LM h<|itO .T l)<|rL h.objs.size
theorem eC(l:Addr)(xs:Array Value) :
 Meets (Builtin.«enumerate.__new__» ⟨[.type "enumerate",.ref l],[]⟩) (λ_ R s=>SqAt .T s.heap l xs/\R (.ok (.ret (.ref (s.heap.objs.size+1)))) {s with heap:=ZR s.heap l}):=
 .of_wp λprog w A R s h=>by
  obtain⟨U,g,d,Y,os⟩:=s;obtain⟨hl,h⟩:=h;have a1:=sub_enumerate;have z:Heap.IsTuple (Shared.heap ⟨U,g,d,Y,os⟩) l xs:=hl;obtain⟨o,I,O,m,hd⟩:=id z;obtain⟨cls,dct,a2,sl⟩:=o;simp only at O hd;subst O hd;simp only[ZR,rL,itO,Ls]at h
  wp_walk using MQ I
  refine wpAny_stack_any λst=>IA ?_;split
  ·rename_i c _ _ _ _ _
   cases (c==ND "enumerate")<;>(wp_walk using MQ I,ON z;exact⟨_,rfl,by simpa[Ls,Oo]using h⟩)
  ·wp_walk using MQ I,ON z
   exact⟨_,rfl,by simpa[Ls,Oo]using h⟩
def Ite(K:Ip)(a:Addr):It:=
 ⟨λi H=>∃xs,SqK .T K H a xs/\i<xs.length,
  λi H x H'=>∃p u,x = .ref p/\H p=none/\H'=upd H p (.tup [.int i,u])/\(∀xs,SqK .T K H a xs->xs[i]? = some u),
  λi H=>∃xs,SqK .T K H a xs/\xs.length<=i⟩
theorem vn(hz:IsEnum s.heap z it n old)(h:Q (.ref z) s):wpAny (model prog w) A (pyIter (.ref z)) Q E s:=by have I:s.TypeIs (.ref z) "enumerate":=⟨_,hz,rfl⟩;refine wpAny_pyIter_slot I F.slot_enumerate_iter (ME F.slot_enumerate_iter I F.entry_enumerate_iter ?_ (F.args_enumerate_iter_1 _));have O:wpAny (model prog w) A.in1 (ret (.ref z)) (λO s'=>∃v,O = .done (.ret v)/\∃T m,s'.TypeIs v T/\typeLookup (.type T) "__next__" = pure (some m)/\Q v s') E s:=IA ⟨_,rfl,"enumerate",_,I,Nw.lookup,h⟩;exact O
theorem bt{P:Program}{w:World}{K:Ip}{elts:List Expr}{x1:Nat}{tpos:Pos}{z it a:Addr}(ae:z≠it) :
 Turn P w K (.Tuple elts x1 tpos) (Ite K a) [z,it] z (λi h=>(∃U,IsEnum h z it i U)/\ItAt .T h it a i) where
 mem:=by simp
 obj:=λi h ⟨⟨U,hz⟩,h1⟩ y hy=>by
  simp only[IG,Li,or_false]at hy;rcases hy with rfl | rfl
  ·exact⟨_,hz,λv q=>by cases q⟩
  ·exact h1.obj
 keep:=λi h h' ⟨⟨U,hz⟩,h1⟩ k=>⟨⟨U,k z ⋯ _ hz⟩,h1.at λo e=>k it ⋯ o e⟩
 item:=by
  rintro X hP hw hK hc i pins s σ H E I hf ⟨⟨U,hz⟩,h1⟩ ⟨xs,a6,an⟩;subst hP hw hK;obtain⟨ap,a9,p1,z1⟩:=I.sq a6;have hx:xs[i]? = some xs[i]:=Iv an;obtain⟨u1,ar,as⟩:=a9.get hx;have Y:s.TypeIs (.ref z) "enumerate":=⟨_,hz,rfl⟩;unfold pyNext;refine Iq (Ri (Ml (name:=LR "__next__") Y Nw (ME Nw Y F.entry_enumerate_next
   (aD hz h1 p1 (x:=u1) (by simpa using ar) ae λg a1 a2 a3 a4 a5=>IA ⟨_,rfl,?_⟩) (F.args_enumerate_next_1 _))))
  refine wpAny_letOwnedTupleGo_enum a1 λg2 bd ac=>?_;have lt : ∀{c o},s.heap.get? c=some o->s.heap.objs.size≠c:=λe=>MJ<|IL e;have be:IsPair g2 s.heap.objs.size (.int i s.toks) u1:=ac.extBut _ _ (lt hz) a3;have kk : ∀O u,O ∉ [z,it]->s.heap.get? O=some u->g2.get? O=some u:=λO u hb e=>by simp only[IG,Li,or_false,not_or]at hb;exact ac.extBut _ _ hb.1<|a5 O u hb.1 hb.2 e
  have I1:Inv X pins σ (upd H s.heap.objs.size<|.tup [.int i,xs[i]]) {s with heap:=g2,toks:=s.toks+1}:=
   I.turnLaid (fp:=[z,it]) kk hf (IC _) ⟨by show 2<=sizeLine;decide,[.int i s.toks,u1],.cons ⟨_,rfl⟩<|.cons as .nil,⟨_,be,rfl,_,rfl⟩⟩
  have bi:H s.heap.objs.size=none:=I.fresh;refine⟨.ref s.heap.objs.size,_,I1,rfl,⟨_,_,rfl,bi,rfl,λc1 bl=>by rw[I.sq_inj bl a6];exact hx⟩,?_,λO hb=>?_⟩
  ·exact⟨⟨_,by have:=bd;rwa [show((i:Int)+1)=((i+1:Nat):Int)by omega]at this⟩,a2.at λo e=>ac.extBut _ _ ae.symm e⟩
  ·have bm:O≠s.heap.objs.size:=by
    simp only[IG,Li,or_false]at hb;rcases hb with rfl | rfl
    ·exact(lt hz).symm
    ·obtain⟨o,e,_⟩:=h1.obj;exact(lt e).symm
   rw[zL bm];exact(hf O hb).1
 done:=by
  rintro X hP hw hK hc i pins s σ H E I hf ⟨⟨U,hz⟩,h1⟩ ⟨xs,a6,hi⟩;subst hP hw hK;obtain⟨ap,a9,p1,z1⟩:=I.sq a6;have Y:s.TypeIs (.ref z) "enumerate":=⟨_,hz,rfl⟩;have l1:=a9.length;unfold pyNext;refine Iq (Ri (Ml (name:=LR "__next__") Y Nw (ME Nw Y F.entry_enumerate_next
   (eD (show X.A.handled=none from I.ok.hd hc) hz h1 p1 (by simp;omega) λg e hk he=>?_) (F.args_enumerate_next_1 _))))
  obtain⟨o,ho,bv⟩:=he;refine Iq (Ro (T:="StopIteration") (b:=true) ⟨o,ho,bv⟩ isSubtype_stop (IA ⟨rfl,?_⟩));refine I.turnedL (t':=s.toks) (fp:=[z,it]) (λO u hb e=>?_) hf;simp only[IG,Li,or_false,not_or]at hb;exact hk O u hb.2 e
 self:=λ_ _ _ _ _ st h=>vn st.1.choose_spec h
def EZ(K:Ip)(ta:TA):TI:=λσ H R=>ta σ H λvs H1=>∃a,vs=[.ref a]/\(∃xs,SqK .T K H1 a xs)/\R (Ite K a) H1
theorem pf{X:Cx}{e1:Expr}{ta:TA}{p pos:Pos}{elts:List Expr}{x1:Nat}{tpos:Pos}(hg:Gl X "enumerate")(hm:X.mg "enumerate" = none)(ha:PA X [e1] ta)
 (hv:bootBuiltins "enumerate" = some (.type "enumerate")) (hs:starEach [e1] X.env=[(false,eval e1 X.env)]:=by rfl) :
 PI X (.Tuple elts x1 tpos) (.Call (.Name "enumerate" p) [e1] [] pos) (EZ X.K ta):=by
 intro pins s σ H R I h;refine Call_<|yC I hg hm hv<|Ma (thn (ha pos pins s σ H _ I h) λus s1 hZ=>?_) (by rw[hs];rfl) rfl;obtain⟨vs,H1,z,r1,q1⟩:=hZ;obtain⟨a,e,⟨xs,a6⟩,q⟩:=q1;subst e;obtain⟨w1,eu,a8⟩:=wC r1;subst eu;cases a8;obtain⟨a9,ae,U,z1⟩:=z.sq a6;have la:=U.lt;refine callType_new F.called_enumerate ⋯ (F.typeCall_enumerate_1 _) (F.newCall_enumerate_1 _) (λobj=>F.args_object_init_2 obj _) F.entry_enumerate_new (eC a a9.toArray) ⟨U,?_⟩;have keep : ∀c o,s1.heap.get? c=some o->(ZR s1.heap a).get? c=some o:=λc o e=>Ir _<|Ir _ e;have y1:(LM s1.heap<|itO .T a).objs.size=s1.heap.objs.size+1:=Ls ..;have g0:ItAt .T (ZR s1.heap a) s1.heap.objs.size a 0:=(J3 .T s1.heap a).at λo e=>Ir _ e;have O:IsEnum (ZR s1.heap a) (s1.heap.objs.size+1) s1.heap.objs.size 0 .none:=by have q:=IR (LM s1.heap<|itO .T a) (o:=rL s1.heap.objs.size) rfl;rw[y1]at q;exact q
 refine⟨⟨_,O,rfl⟩,vn (s:={s1 with heap:=ZR s1.heap a}) O ?_⟩;have I2:Inv X pins σ H1 {s1 with heap:=ZR s1.heap a,toks:=s1.toks}:=z.kept keep;refine⟨_,[s1.heap.objs.size+1,s1.heap.objs.size],_,_,H1,rfl,I2,bt<|MJ<|Mf _,⟨⟨_,O⟩,g0⟩,λc Y=>?_,q⟩;have a0:s1.heap.objs.size<=c:=by
  simp only[IG,Li,or_false]at Y;rcases Y with rfl | rfl
  ·exact LW _ _
  ·exact IC _
 exact z.fpOk a0<|z.hok.fresh a0
end L2
namespace DL
open PySem PySem.Spec PyProof.Rows L2
theorem KB{K:Ip}{H:Hp} : ∀{ds:List D} {xs:List V} {l:List Int},Reps K H ds xs->Jy ds=some l->xs=l.map V.int
 | [],xs,l,r,e=>by cases e;rw[show xs=[]from r];rfl
 | d::ds,xs,l,r,e=>by
  obtain⟨x,r',rfl,z,r2⟩:=(show ∃x r,xs=x::r/\Rep K H d x/\Reps K H ds r from r);cases d with
  | int i=>
   obtain⟨l',e1,rfl⟩:=zA (show(Jy ds).map (λl=>i::l)=some l from e);rw[KB r2 e1,show x = .int i from z];rfl
  | _=>cases e
theorem KO : ∀l:List Int,(l.map V.int).all XA=true
 | []=>rfl
 | i::l=>by simp only[IS,List.all_cons,KO l,Bool.and_true];rfl
theorem dJ(i:Int) : ∀l:List Int,inV (.int i) (l.map V.int)=decide (i∈l)
 | []=>rfl
 | j::l=>by
  have z:=dJ i l;unfold inV at z ⊢;rw[IS,OO,z];have e:eqV (.int j) (.int i)=(j==i):=rfl;rw[e];by_cases h:i=j
  ·subst h
   rw[beq_self_eq_true,Bool.true_or];exact(decide_eq_true IY).symm
  ·rw[beq_false_of_ne (Ly h),Bool.false_or]
   exact decide_eq_decide.mpr ⟨λq=>IT _ q,λq=>(IG.mp q).resolve_left h⟩
theorem ba{K:Ip}{H0 Hs:Hp}{a:Addr}{xs:List V}{ds:List D}(h:SqT K Hs a xs)(r:Reps K H0 ds xs):Walk K H0 Hs (Ite K a) (xh ds):=by
 have hl:=r.length;have hz:(xh ds).length=ds.length:=by simp[xh]
 refine⟨λi H1 s hi=>?_,λH1 s=>?_,λi H1 x H1' s hi y=>?_⟩
 ·exact⟨xs,sameT s h,by omega⟩
 ·exact⟨xs,sameT s h,by omega⟩
 ·obtain⟨p,u,e1,z,I,O⟩:=y
  obtain⟨d,hd,U⟩:=r.getV<|O xs<|sameT s h;refine⟨.tup [.int i,d],?_,λG0 s1 s2=>⟨upd G0 p<|.tup [.int i,u],?_,?_⟩⟩
  ·have Y:i<ds.length:=by omega
   unfold xh;rw[Lo,MH Y,Lm,hd];rfl
  ·rw[I];exact Ext.alloc s2 z _
  ·rw[e1]
   exact xf (SqT.of zJ)<|Reps.cons (show V.int i = .int i from rfl)<|Reps.cons ((U.mono s1).mono (zW (jP s2 z) _)) Reps.nil
section
variable{X:Cx}{sc:Scope}{N L:List Str}{k:Nat}{a b c:Expr}{pos p:Pos}{f fa fb fc:CO D}
theorem cD(h:SX X sc N L k)(c:vM sc "enumerate" = true)(z:X.mg "enumerate" = none)(ha:PV X a f)(hs:starEach [a] X.env=[(false,eval a X.env)]:=by rfl) :
 PIF X (.Tuple elts x1 tpos) (.Call (.Name "enumerate" p) [a] [] pos) (WO f):=
 Kh (pf (h.gl c).1 z (zX ha qa hs) boot_enumerate hs) λσ H R U=>by
  obtain⟨H0,γ,ds,rc,I,q⟩:=U;obtain⟨d,Y,I⟩:=ze I;cases d with
  | tup es=>
   cases I;refine⟨H0,γ,_,rc,Y,λv H' H0' x r=>?_⟩;obtain⟨a1,xs,rfl,O,g2⟩:=kY r;exact⟨a1,rfl,⟨xs,sameT x.sub O⟩,q _ H' H0' x<|ba O g2⟩
  | _=>cases I
theorem gT(ho:OpR X (compareOp op) r)(a4:OpR X (compareOp op') r')(s1:Snd X.K r F)(s2:Snd X.K r' G)(ha:PV X a fa)(hb:PV X b fb)(hc:PV X c fc)
 (hm:lastMarks [op,op'] [b,c]=false:=by with_unfolding_all rfl):PV X (.Compare a [op,op'] [b,c] pos) (y8 F G fa fb fc):=
 qe (iq ho a4 ha hb hc hm) λσ H Q hZ=>by
  obtain⟨H0,γ,d,rc,I,q⟩:=hZ;obtain⟨x,e1,I⟩:=ze I;obtain⟨y,e2,I⟩:=ze I;obtain⟨k,e3,I⟩:=ze I;obtain⟨Y,e4,e5⟩:=ze e3;refine⟨H0,γ,x,rc,e1,λv1 H1 ac x1 r1=>⟨ac,γ,y,rc.ext x1,e2,λv2 H2 ag O r2=>s1 ag H2 v1 v2 x y Y _ O.sub (r1.mono O.s0) r2 e4 λv3 H3 a2 x3 r3=>?_⟩⟩;cases Y with
  | bl k'=>
   cases e5;refine⟨k,show v3 = .bl k from r3,?_⟩;cases k with
   | true=>
    rw[RY rfl];rw[RY rfl]at I;obtain⟨z,e6,e7⟩:=ze I;exact⟨a2,γ,z,((rc.ext x1).ext O).ext x3,e6,λv4 H4 b9 U r4=>s2 b9 H4 v2 v4 y z d _ U.sub ((r2.mono x3.s0).mono U.s0) r4 e7 λv5 H5 bi x5 r5=>q v5 H5 bi (((x1.trans O).trans x3).trans (U.trans x5)) r5⟩
   | false=>
    rw[EQ ⋯];rw[EQ ⋯]at I;cases I;exact q _ H3 a2 ((x1.trans O).trans x3) rfl
  | _=>cases e5
end
theorem yV : ∀{l:List Int} {us:List Value},Vals (l.map V.int) us->∀i,i<us.toArray.size->∃z u,us.toArray[i]? = some (.int z u)/\l[i]? = some z
 | [],us,r,i,hi=>by cases r;exact absurd hi<|Lc _
 | z::l,u::us,.cons r t,i,hi=>by
  cases i with
  | zero=>
   obtain⟨I,rfl⟩:=r;exact⟨z,I,by simp,by simp⟩
  | succ i=>
   obtain⟨O,u',e1,U⟩:=yV t i (by simpa using hi);exact⟨O,u',by simpa using e1,by simpa using U⟩
section
variable{K:Ip}{E0 E H0 H:Hp}{σ:St}{γ:Ctx}
theorem RS.freeze(r:RS K E0 E H0 H σ γ)(e:γ[i]? = some (.own ds)) : ∃H0',RS K E0 E H0' H σ (γ.set i<|.val<|.lst ds):=by
 obtain⟨a,xs,h1,h2,Y,h4⟩:=r.rc.own i ds e;have ea:=r.fresh i ds a e h1;obtain⟨H0',s0,U⟩ : ∃H0',H0'=upd H0 a (.lst xs)/\RC K H0' H σ (γ.set i<|.val<|.lst ds):=by refine⟨_,rfl,?_⟩;exact RC.lendAt r.rc e h1 h2 Y h4
 subst s0;refine⟨_,U,⟨r.ext.s0.trans<|zW h2 _,r.ext.s1,U.sub,λc q1 I=>?_⟩,λj es b O g2=>?_,λj rows b ys O g2 g3=>?_⟩
 ·rw[zL (λz=>by rw[z,ea]at I;exact I rfl)];exact r.ext.new c q1 I
 ·rcases zQ O with⟨_,z,_⟩ | ⟨_,z⟩
  ·cases z
  ·exact r.fresh j es b z g2
 ·rcases zQ O with⟨_,z,_⟩ | ⟨_,z⟩
  ·cases z
  ·exact r.fr2 j rows b ys z g2 g3
open Classical in
end
section
variable{X:Cx}{st:Stmt}{F:CO Fl}
theorem ck(i:Nat)(h:PSD X st F):PSD X st (BI i F):=ki h λD σ H I=>by obtain⟨E0,E,H0,γ,O,rs,z,U⟩:=I;obtain⟨ds,e1,z⟩:=ze z;obtain⟨H0',Y⟩:=rs.freeze<|xU e1;exact⟨E0,E,H0',_,O,Y,z,U⟩
end
end DL
namespace L2
open PySem PySem.Spec PyProof.Rows
def Es(K:Ip):V->List V->Hp->VK->Prop:=λx vs H Q=>∃z p zs,x = .str z/\vs=[.ref p]/\SqL K H p (zs.map V.str)/\Builtin.Str.tooLong (zs.toArray.foldl (λa p=>a+p.length+z.length) 0)=false/\Q (.str<|Rl z zs) H
theorem XY : ∀{zs:List Str} {us:List Value},Vals (zs.map V.str) us->∃l:List (Str×Tok),strValues l=us/\l.map (·.1)=zs
 | [],us,r=>by cases r;exact⟨[],rfl,rfl⟩
 | z::zs,u::us,.cons r t=>by obtain⟨I,rfl⟩:=r;obtain⟨l,rfl,h⟩:=XY t;exact⟨(z,I)::l,rfl,by simp[h]⟩
theorem pS{X:Cx}:MtR X "str.join" (Es X.K):=by intro pins s σ H x vs v us Q I rx U h;obtain⟨z,p,zs,rfl,rfl,Y,O,q⟩:=h;obtain⟨t,rfl⟩:=rx;obtain⟨w1,rfl,rw⟩:=wC U;cases rw;obtain⟨a0,r,pl,hz⟩:=I.list Y;obtain⟨l,rfl,e⟩:=XY r;subst e;refine Ob F.slot_str_join (typeIs_str _ _ _) F.entry_str_join (F.args_str_join_2 _ _) (meets_str_join_list z t p l O) ⟨pl.isList,post_join l ⟨joinFit_length O,λt' k=>?_⟩⟩;refine⟨.str (Rl z (l.map (·.1))),H,(I.kept (h':=s.heap) (t':=k) λb o e=>e),⟨t',?_⟩,q⟩;show OY (Builtin.Str.glued z (l.map (·.1))) t'=_;rw[StrLaws.glued_eq_join]
end L2
namespace DL
open PySem PySem.Spec PyProof.Rows L2
theorem X3{K:Ip}{H:Hp} : ∀{ds:List D} {xs:List V} {l:List Str},Reps K H ds xs->X4 ds=some l->xs=l.map V.str
 | [],xs,l,r,e=>by cases e;rw[show xs=[]from r];rfl
 | d::ds,xs,l,r,e=>by
  obtain⟨x,r',rfl,z,r2⟩:=(show ∃x r,xs=x::r/\Rep K H d x/\Reps K H ds r from r);cases d with
  | str i=>
   obtain⟨l',e1,rfl⟩:=zA (show(X4 ds).map (λl=>i::l)=some l from e);rw[X3 r2 e1,show x = .str i from z];rfl
  | _=>cases e
section
variable{X:Cx}{sc:Scope}{N L:List Str}{k:Nat}{o e a b:Expr}{apos cpos pos p:Pos}{f g:CO D}{q:CO (Sk×List D)}
theorem yY(h:ji x=true):x.length<=1000:=of_decide_eq_true h
theorem vQ(h:ji x=true):x.length<=sizeLine:=LG (yY h) ⋯
theorem bV(U:PV X o f)(he:PQ X e q)(Y:attributeBase o "join" X.env (eval o X.env)=eval o X.env:=by rfl)
 (a0:((backTo cpos<|starEach [e] X.env).all (λx=> !x.1) && (backToKw cpos<|keywordEach [] X.env).all (λx=>x.1.isSome) && decide ([e].length+([]:List Keyword).length+(if ([]:List Keyword).isEmpty then 0 else 1)<30))=true:=by rfl)
 (a1:(apos.endLine==cpos.line)=true:=by rfl) (hs:starEach [e] X.env=[(false,eval e X.env)]:=by rfl):PV X (.Call (.Attribute o "join" apos) [e] [] cpos) (Ka f q):=
 qe (ir PySem.F.plainAttrs_str PySem.F.slot_str_join PySem.F.type_str_join pS U (zX he qa hs) Y a0 a1 hs rfl) λσ H Q hZ=>by
  obtain⟨H0,γ,d,rc,z,qq⟩:=hZ;obtain⟨d1,e1,z⟩:=ze z;obtain⟨⟨kk,ds⟩,e2,z⟩:=ze z;cases d1 with
  | str O=>
   cases kk with
   | L=>
    obtain⟨l,e3,z⟩:=ze z;by_cases I:l.length<=lim/\l.all ji=true/\ji O=true
    ·rw[RY I]at z;cases z
     refine⟨H0,γ,_,rc,e1,λv H' H0' x r=>?_⟩;rw[show v = .str O from r];refine⟨rfl,H0',γ,.L,ds,rc.ext x,e2,λa xs H2 a7 x2 h1 h2 r2=>?_⟩;have ex:=X3 r2 e3;subst ex;refine⟨O,a,l,rfl,rfl,h1,StrLaws.joinFits (B:=1000) (λy hy=>yY<|LC.mp I.2.1 y hy) ?_,qq _ H2 a7 (x.trans x2) rfl⟩;have hl:=I.1;have:lim=2500:=rfl;have h3:=yY I.2.2;have:l.length*O.length<=2500*1000:=Nat.mul_le_mul ⋯ h3;omega
    ·rw[EQ I]at z;cases z
   | T=>cases z
  | _=>cases z
theorem QY(ha:PV X a f)(hb:PV X b g)(hs:Y8 b:=by intro _ _;rfl):PV X (.Subscript a b pos) (JL f g):=
 qe (uY AX ha hb hs) λσ H Q Y=>by
  obtain⟨H0,γ,d,rc,I,q⟩:=Y;obtain⟨d1,e1,I⟩:=ze I;obtain⟨i,O,I⟩:=ze I;obtain⟨di,e3,O⟩:=ze O;cases d1 with
  | str z=>
   by_cases U:ji z=true
   ·have I:(if ji z=true then (ixD z.cps.toList.length i).bind λk=>z.cps.toList[k]?.map λc=>D.str ⟨#[c]⟩else none)=some d:=I
    rw[RY U]at I;obtain⟨j,e4,I⟩:=ze I;obtain⟨c,e5,rfl⟩:=zA I;refine⟨H0,γ,_,rc,e1,λv H' H0' x r=>⟨H0',γ,di,rc.ext x,e3,λv2 H2 a5 x2 r2=>?_⟩⟩;rw[qc O]at r2;refine⟨z,i,c,r,jW r2,vQ U,?_,q _ H2 a5 (x.trans x2) rfl⟩;unfold atI;rw[mY e4];exact e5
   ·have I:(if ji z=true then (ixD z.cps.toList.length i).bind λk=>z.cps.toList[k]?.map λc=>D.str ⟨#[c]⟩else none)=some d:=I
    rw[EQ U]at I;cases I
  | _=>cases I
theorem QZ(h:SX X sc N L k)(c:vM sc "len" = true)(z:X.mg "len" = none)(ha:PV X e f)(hs:starEach [e] X.env=[(false,eval e X.env)]:=by rfl):PV X (.Call (.Name "len" p) [e] [] pos) (QV f):=
 qe (yl KW (h.gl c).1 z PySem.boot_len (zX ha qa hs) ⋯ ⋯ hs rfl) λσ H Q U=>by
  obtain⟨H0,γ,d,rc,I,q⟩:=U;obtain⟨Y,e1,I⟩:=ze I;cases Y with
  | str z=>
   by_cases O:ji z=true
   ·have I:(if ji z=true then some (D.int z.length)else none)=some d:=I
    rw[RY O]at I;cases I;refine⟨H0,γ,_,rc,e1,λv H' H0' x r=>⟨z,by rw[show v = .str z from r],vQ O,q _ H' H0' x rfl⟩⟩
   ·have I:(if ji z=true then some (D.int z.length)else none)=some d:=I
    rw[EQ O]at I;cases I
  | _=>cases I
end
section
variable{X:Cx}{sc:Scope}{N L:List Str}{k:Nat}{b:Expr}{f:CO D}
theorem uA(h:SX X sc N L k)(c:vM sc "min" = true)(z:X.mg "min" = none)(ha:PV X a f)(hb:PV X b g)(hs:starEach [a,b] X.env=[(false,eval a X.env),(false,eval b X.env)]:=by rfl)(O:starEach [b] X.env=[(false,eval b X.env)]:=by rfl) :
 PV X (.Call (.Name "min" p) [a,b] [] pos) (ub f g):=
 qe (yl (fA h.calm) (h.gl c).1 z PyProof.Rows.boot_min (zX ha (zX hb qa O)<|by rw[hs,O]) ⋯ ⋯ (by rw[hs,O]) (by rw[O];rfl)) λσ H Q Y=>by obtain⟨H0,γ,d,rc,I,q⟩:=Y;obtain⟨i,e1,I⟩:=ze I;obtain⟨d1,e0,e1⟩:=ze e1;obtain⟨j,U,I⟩:=zA I;obtain⟨d2,e2,U⟩:=ze U;subst I;refine⟨H0,γ,d1,rc,e0,λv H' H0' x r=>⟨H0',γ,d2,rc.ext x,e2,λv2 H2 a4 x2 r2=>⟨i,j,?_,q _ H2 a4 (x.trans x2) rfl⟩⟩⟩;rw[qc e1]at r;rw[qc U]at r2;rw[jW r,jW r2]
end
def EJ(c:Xn)(od:Option Addr)(H0:Hp):Prop:=match c.2 with
 | none=>od=none
 | some i=>∃d,od=some d/\H0 d=some (.xd [(HU c.1,.int i)])
def spX(K:Ip)(n:Nat)(G:List D->Option Xn):Sp:=λvs H _ E=>∃H0 ds c,Same H0 H/\Reps K H0 ds vs/\ds.length=n/\G ds=some c/\
 ∀C H' H0' od,Gg K=true->c.1∈xNames->sU K c.1=some C->EJ c od H0'->Ext H0 H H0' H'->E (.ref C) od H'
section ap
variable(γ:Ctx)
@[simp] def vB:=@zG.eq_1
@[simp] def Wo:=@qi.eq_1
@[simp] def fQ:=@jV.eq_1
@[simp] def xD:=@zf.eq_1
@[simp] def xC:=@zh.eq_1
@[simp] theorem vC(d):zu d γ=some d:=rfl
@[simp] def fU:=@zH.eq_1
@[simp] def Hb:=@sB.eq_1
@[simp] def Gc:=@gO.eq_1
@[simp] def GN:=@tZ.eq_1
@[simp] def FG:=@kf.eq_1
@[simp] def GZ:=@BJ.eq_1
@[simp] def HV:=@sOr.eq_1
@[simp] def GO:=@Ei.eq_1
@[simp] def nA:=@JM.eq_1
@[simp] theorem wA:zE γ=some []:=rfl
@[simp] def ye:=@zb.eq_1
@[simp] def Bv:=@qh.eq_1
@[simp] def FM:=@xX.eq_1
@[simp] def FH:=@xc.eq_1
@[simp] def fT:=@qv.eq_1
@[simp] def fS:=@vS.eq_1
@[simp] def FE:=@Zn.eq_1
@[simp] def GW:=@Ih.eq_1
@[simp] def FY:=@oE.eq_1
@[simp] def FQ:=@sIf.eq_1
@[simp] def K6:=@jo.eq_1
@[simp] def Y4:=@ke.eq_1
@[simp] def FV:=@oB.eq_1
@[simp] def vD:=@kZ.eq_1
@[simp] def wq:=@zC.eq_1
@[simp] def lW:=@jB.eq_1
@[simp] def yq:=@zO.eq_1
@[simp] def Jc:=@jK.eq_1
@[simp] def By:=@QU.eq_1
@[simp] def GJ:=@gG.eq_1
@[simp] def Jd:=@Jm.eq_1
@[simp] def yS:=@zP.eq_1
@[simp] theorem GK:jA γ=some true:=rfl
@[simp] def FZ:=@Kb.eq_1
@[simp] def FF:=@oA.eq_1
@[simp] def XO:=@sIx.eq_1
@[simp] def Co:=@mq.eq_1
@[simp] theorem GP:Jl γ=some none:=rfl
@[simp] def Gb:=@sBd.eq_1
@[simp] def Bx:=@QT.eq_1
@[simp] def GQ:=@Zo.eq_1
@[simp] def HW:=@sIs.eq_1
@[simp] def GS:=@Ic.eq_1
@[simp] def aO:=@z4.eq_1
@[simp] def Bz:=@Ej.eq_1
@[simp] def GM:=@sH.eq_1
@[simp] def Ha:=@sM.eq_1
@[simp] def GY:=@sJ.eq_1
@[simp] def FP:=@bJ.eq_1
@[simp] def FK:=@Hu.eq_1
@[simp] def FD:=@oz.eq_1
theorem jj(F G):zK F G γ=(F γ).bind λz=>match z with
 | .next γ'=>G γ'
 | f=>some f:=rfl
end ap
@[simp] theorem Wm(ds):jf (.tup ds)=some (.T,ds):=rfl
@[simp] theorem Wn(ds):jf (.lst ds)=some (.L,ds):=rfl
@[simp] theorem z9(d):fw (some (.val d))=some d:=rfl
@[simp] theorem jN(d):yR (some (.val d))=jf d:=rfl
@[simp] theorem sd(d):yR (some (.own d))=some (.L,d):=rfl
@[simp] theorem xB(d):qy (some (.own d))=some d:=rfl
@[simp] theorem se(d):Y0 (some (.val d))=some (.ret<|.val d):=rfl
@[simp] theorem sf(d):Y0 (some (.own d))=some (.ret<|.own d):=rfl
@[simp] theorem GH(b):asB (.bl b)=some b:=rfl
@[simp] theorem xj(b):asI (.int b)=some b:=rfl
@[simp] theorem y9(d):uh (.val d)=d:=rfl
@[simp] theorem BL(d):uh (.own d) = .lst d:=rfl
@[simp] theorem QW(d):BK (.own d)=some d:=rfl
@[simp] theorem Ce(i j):Jo (.int i) (.int j)=some (.int<|i - j):=rfl
@[simp] theorem We(i j):jF (.int i) (.int j)=some (.int<|i+j):=rfl
@[simp] theorem Cg(i j):yG (.int i) (.int j)=if 0<j then some (.int<|i%j)else none:=by show(if Cj i j=true then _ else _)=_;simp[Cj]
@[simp] theorem lH(i j):aH (.int i) (.int j)=if 0<j/\j<1073741824 then some (.int<|i/j)else none:=by
 show(if Br i j=true then _ else _)=_;have e:(Br i j=true)=(0<j/\j<1073741824):=by unfold Br;rw[ID,decide_eq_true_eq,decide_eq_true_eq];apply propext;constructor<;>intro h<;>exact⟨h.1,by omega⟩
 simp only[e]
@[simp] theorem lG(i j):yF (.int i) (.int j)=if XX i j=true then some (.int<|i*j)else none:=rfl
@[simp] theorem Cf(i j):rV (.int i) (.int j)=if Bq i j=true then some (.int<|i ^ j.toNat)else none:=rfl
@[simp] theorem Fq(i j):dLt (.int i) (.int j)=some (.bl<|decide<|i<j):=rfl
@[simp] theorem Fs(i j):dLe (.int i) (.int j)=some (.bl<|decide<|i<=j):=rfl
@[simp] theorem Fv(i j):dGt (.int i) (.int j)=some (.bl<|decide<|j<i):=rfl
@[simp] theorem Fw(i j):dGe (.int i) (.int j)=some (.bl<|decide<|j<=i):=rfl
@[simp] theorem Fx(i j):dEq (.int i) (.int j)=some (.bl<|decide<|i=j):=by unfold dEq;rw[RY ⟨rfl,rfl⟩];exact congrArg (λb=>some (D.bl b)) (by rw[Mr];simp[eqD])
@[simp] theorem Fp(i j):dNe (.int i) (.int j)=some (.bl<|!decide (i=j)):=by unfold dNe;rw[RY ⟨rfl,rfl⟩];exact congrArg (λb=>some (D.bl !b)) (by rw[Mr];simp[eqD])
@[simp] theorem tP(i is d ds γ):qF (i::is) (d::ds) γ=qF is ds (γ.set i<|.val d):=rfl
@[simp] theorem tN(ds γ):qF [] ds γ=γ:=by cases ds<;>rfl
@[simp] theorem wZ(i d γ):qM (.nm i) d γ=some (γ.set i<|.val d):=rfl
@[simp] theorem K1(i j a b γ):qM (.tp [i,j]) (.tup [a,b]) γ=some ((γ.set i<|.val a).set j (.val b)):=rfl
@[simp] theorem kB(γ:Ctx)(G:CO Fl):(some (Fl.next γ)).bind (λz=>match z with
 | .next γ'=>G γ'
 | f=>some f)=G γ:=rfl
theorem Wj(i j:Int)(h1 : -(2 ^ 64)<j)(h2:j<2 ^ 64):XX i j=true:=by unfold XX;rw[LO];right;exact decide_eq_true ⋯
theorem ZV(i j:Int)(h1 : -(2 ^ 64)<i)(h2:i<2 ^ 64):XX i j=true:=by unfold XX;rw[LO];left;exact decide_eq_true ⋯
theorem dM(h1 : -(2 ^ 62)<i)(h2:i<2 ^ 62):inR i=true:=by unfold inR;exact decide_eq_true ⋯
@[simp] theorem jM(n k:Nat):ixD n (k:Int)=if k<n then some k else none:=by
 unfold ixD;by_cases h:k<n
 ·rw[RY ⟨Int.natCast_nonneg k,by omega⟩,RY h];simp
 ·rw[EQ ⋯,EQ ⋯,EQ h]
theorem jd:lim=2500:=rfl
@[simp] theorem Cc:0<=lim:=MN _
@[simp] theorem Cb:1<=lim:=by decide
@[simp] theorem Ca:2<=lim:=by decide
@[simp] theorem BZ:3<=lim:=by decide
@[simp] theorem BY:4<=lim:=by decide
@[simp] theorem BX:5<=lim:=by decide
@[simp] theorem BW:6<=lim:=by decide
@[simp] theorem BV:7<=lim:=by decide
@[simp] theorem BU:8<=lim:=by decide
@[simp] theorem BR:0<lim:=by decide
@[simp] theorem Xq(h:n<=lim):inR (n:Int)=true:=dM ⋯ (by have:=jd;omega)
@[simp] theorem ix0(n:Nat):ixD (n+1) 0=some 0:=jM (n+1) 0 ▸ rfl
@[simp] theorem ix1(n:Nat):ixD (n+2) 1=some 1:=by have:=jM (n+2) 1;simpa using this
@[simp] theorem ix2(n:Nat):ixD (n+3) 2=some 2:=by have:=jM (n+3) 2;simpa using this
theorem zB(r:α->D) : ∀(l:List α),(∀x∈l,zS T k f γ [g x]=some [r x])->zS T k f γ (l.map g)=some (l.map r)
 | [],_=>rfl
 | x::l,h=>by
  have h1:=h x IY;have h2:=zB r l λy z=>h y<|IT _ z;simp only[IS,zS]at h1 ⊢;cases e1:qM T (g x) γ with
  | none=>rw[e1]at h1;simp at h1
  | some γ1=>
   rw[e1]at h1;simp only[Iz]at h1 ⊢;cases e2:k γ1 with
   | none=>rw[e2]at h1;simp at h1
   | some b=>
    rw[e2]at h1;simp only[Iz]at h1 ⊢;cases b with
    | false=>simp at h1
    | true=>
     simp only[RY]at h1 ⊢;cases e3:f γ1 with
     | none=>rw[e3]at h1;simp at h1
     | some e=>
      rw[e3]at h1;simp at h1;rw[h2];simp[h1]
theorem zD(h1:qM T d γ=some γ1)(h2:k γ1=some true)(z:f γ1=some e):zS T k f γ [d]=some [e]:=by simp[zS,h1,h2,z]
theorem jm(T F d ds γ):qo T F (d::ds) γ=(qM T d γ).bind λγ1=>(F γ1).bind λI=>match I with
 | .next z=>qo T F ds z
 | .cont z=>qo T F ds z
 | .brk z=>some (.next z)
 | .ret r=>some (.ret r):=rfl
theorem KM(P:Nat->Ctx->Prop) : ∀(ds:List D) (k:Nat) (γ:Ctx),P k γ->(∀i d γ,ds[i]? = some d->P (k+i) γ->∃γ',((qM T d γ).bind F=some (.next γ')\/(qM T d γ).bind F=some (.cont γ'))/\P (k+i+1) γ')->
 ∃γ',qo T F ds γ=some (.next γ')/\P (k+ds.length) γ'
 | [],k,γ,h,_=>⟨γ,rfl,h⟩
 | d::ds,k,γ,h,step=>by
  obtain⟨γ1,e,h1⟩:=step 0 d γ rfl h;obtain⟨γ',z,h2⟩:=KM P ds (k+1) γ1 (by simpa using h1) (λi d' I hd O=>by have:=step (i+1) d' I (by simpa using hd) (by rw[show k+(i+1)=k+1+i by omega];exact O);rw[show k+(i+1)+1=k+1+i+1 by omega]at this;exact this)
  refine⟨γ',?_,by rw[show k+(d::ds).length=k+1+ds.length by simp;omega];exact h2⟩;rw[jm];cases eb:qM T d γ with
  | none=>rw[eb]at e;simp at e
  | some U=>
   rw[eb]at e;simp only[Iz]at e ⊢;rcases e with e | e<;>rw[e]<;>exact z
def zF(n:Nat)(f:Nat->Int):List D:=(Io n).map λi=>D.int<|f i
theorem jE(n f):zF n f=(Io n).map λi=>D.int (f i):=rfl
def zN(h w:Nat)(f:RK):List D:=(Io h).map λi=>D.tup<|zF w<|f i
def jn(h w:Nat)(f:RK):D:= .tup [.int h,.int w,.tup (zN h w f)]
@[simp] theorem kN(n f):(zF n f).length=n:=by simp[zF]
@[simp] theorem wU(h w f):(zN h w f).length=h:=by simp[zN]
@[simp] theorem Fm(f)(h:i<(zF n f).length):(zF n f)[i] = .int (f i):=by simp[zF]
theorem qH(f)(h:i<n):(zF n f)[i]? = some (.int<|f i):=by simp[zF,h]
@[simp] theorem Fn(f)(hi:i<(zN h w f).length):(zN h w f)[i] = .tup (zF w<|f i):=by simp[zN]
theorem xS(h : ∀i,i<n->f i=g i):zF n f=zF n g:=by unfold zF;apply IK;intro i hi;rw[h i (Iu.mp hi)]
theorem yp(e : ∀i j,i<h->j<w->f i j=g i j):zN h w f=zN h w g:=by unfold zN;apply IK;intro i hi;rw[xS λj z=>e i j (Iu.mp hi) z]
theorem vq{h w:Nat}{f g:RK}(e : ∀i j,i<h->j<w->f i j=g i j):jn h w f=jn h w g:=by unfold jn;rw[yp e]
theorem qG(n:Nat):vc 0 n=zF n λi=>(i:Int):=by simp[vc,zF]
theorem Vg(n:Nat)(f g:Nat->Int):Jq (zF n f) (zF n g)=(Io n).map λi=>D.tup [.int (f i),.int (g i)]:=by unfold Jq zF;rw[Od];simp
def zc(f:Nat->Int):Nat->Int
 | 0=>0
 | n+1=>zc f n+f n
theorem Zj : ∀(xs:List Int) (y:Int),WE (xs.map D.int++[.int y])=(WE<|xs.map D.int).map λs=>s+y
 | [],y=>by simp[WE]
 | x::xs,y=>by simp only[IS,Rg,WE];rw[Zj xs y];cases e:WE (xs.map D.int)<;>simp[Int.add_assoc]
theorem Zi(f:Nat->Int) : ∀n,WE (zF n f)=some (zc f n)
 | 0=>rfl
 | n+1=>by
  have z:=Zi f n;have e : ∀m,zF m f=((Io m).map f).map D.int:=λm=>by simp[zF]
  rw[e]at z ⊢;rw[Me,Lx,Lx,List.map_singleton,List.map_singleton,Zj,z];simp[zc]
def xl:=z6 2<|qv<|z4<|jV<|zP (zO<|zh 1) (.nm 0) 1 [0] jA (zH yG (zf 0)<|zf 1)
def Vd:=z6 3<|qv<|zC xl<|zb (zf 0)<|zb (qi<|zP (zO<|zG<|sIx (zh 1)<|zu<|.int 2) (.nm 0) 1 [2] jA (sH<|jV<|zP (gG (zf 0)<|zf 1) (.tp [0,1]) 2 [] jA (zH yF (zf 0)<|zf 1))) zE
def js:=z6 2<|zK (jo 1<|qi<|zP (jK<|sIx (zh 0)<|zu<|.int 1) (.nm 0) 1 [0] jA (z4<|jV<|zP (zO<|zG<|sIx (zh 1)<|zu<|.int 2) (.nm 0) 1 [0] jA (sIx (zh 0)<|zf 1)))<|qv<|qh<|zb (sIx (zh 0)<|zu<|.int 1)<|zb (sIx (zh 0)<|zu<|.int 0)<|zb (z4<|zh 1) zE
def jC:=z6 2<|zK (jo 1<|qi<|zP (jK<|zf 0) (.nm 0) 1 [0] jA (z4<|jV<|zP (jK<|zf 1) (.nm 0) 1 [0] jA (JM (sB<|zH dEq (zf 1)<|zf 0) (zu<|.int 1)<|zu<|.int 0)))<|qv<|qh<|zb (zf 0)<|zb (zf 0)<|zb (z4<|zh 1) zE
def qR:=z6 2<|qv<|qh<|zb (zf 0)<|zb (zf 1)<|zb (zH yF (qh<|zb (zH yF (qh<|zb (zu<|.int 0) zE)<|zf 1) zE)<|zf 0) zE
def vK:=z6 3<|zK (Jm (QU (zu<|.int 1)<|zf 0) (.nm 2)<|sIf (sB<|zH dEq (zH yG (zH yF (zf 1)<|zf 2)<|zf 0)<|zu<|.int 1) (Zn 2) xc) wu
def jS:=z6 5<|zK (jo 4<|sIx (zh 1)<|zf 3)<|zK (sIf (sB<|zH dEq (zf 4)<|zu<|.int 0) (Zn 1) xc)<|qv<|zC xl<|zb (zf 0)<|zb (qi<|zP (gG (zf 1)<|zf 2) (.tp [0,1]) 2 [4] jA (zH Jo (zf 0)<|zH yF (zf 2)<|zf 1)) zE
def qL:=z6 9<|zK (jo 3<|qi<|zP (zO<|zh 2) (.nm 0) 1 [0] jA (zC xl<|zb (zf 1)<|zb (zf 0) zE))<|zK (ke 4<|xX zE)<|zK (Jm (jK<|zf 1) (.nm 5)<|zK (jo 6<|qi<|zP (zO<|zh 3) (.nm 0) 1 [5] (sB<|zH dNe (sIx (zh 0)<|zf 1)<|zu<|.int 0) (zf 0))<|zK (sIf (kf<|oz<|zh 6) oE xc)<|zK (jo 7<|zC vK<|zb (zf 0)<|zb (sIx (zG<|sIx (zh 6)<|zu<|.int 0)<|zf 5) zE)<|zK (jo 8<|zC xl<|zb (zf 0)<|zb (qi<|zP (zO<|zG<|sIx (zh 6)<|zu<|.int 0) (.nm 0) 1 [7] jA (zH yF (zf 1)<|zf 0)) zE)<|zK (jo 3<|qi<|zP (zO<|zh 3) (.nm 0) 1 [0,5,8] jA (zC jS<|zb (zf 1)<|zb (zf 0)<|zb (zf 3)<|zb (zf 2) zE))<|ke 4<|Kb (jV<|zP (zO<|zh 4) (.nm 0) 1 [0,5,8] jA (zC jS<|zb (zf 1)<|zb (zf 0)<|zb (zf 3)<|zb (zf 2) zE))<|jV<|xX<|zb (zf 8) zE)<|Zn 4
def jJ:=z6 2<|vS<|zP (zO<|zh 1) (.nm 0) 1 [0] (kf<|sB<|sJ<|zG<|QT (zf 0) Jl<|sBd<|zf 1) (QT (zf 0) (sBd<|zf 1) Jl)
def j7:=z6 5<|zK (jo 3<|qi<|zP (gG (sIx (zG<|zC js<|zb (zf 1) zE)<|zu<|.int 2)<|sIx (zG<|zC jC<|zb (sIx (zh 1)<|zu<|.int 1) zE)<|zu<|.int 2) (.tp [0,1]) 2 [] jA (zH jF (zf 0)<|zf 1))<|zK (jo 4<|qi<|zP (zO<|zh 2) (.nm 0) 1 [1] jA (zH jF (zf 0)<|zH yF (qh<|zb (zu<|.int 0) zE)<|sIx (zh 1)<|zu<|.int 1))<|vS<|jB jJ<|zb (sIx (zh 1)<|zu<|.int 0)<|zb (qi<|jB qL<|zb (zf 0)<|zb (zH jF (sIx (zh 1)<|zu<|.int 0)<|sIx (zh 1)<|zu<|.int 1)<|zb (qi<|Kb (zh 3)<|zh 4) zE) zE
def kT:=z6 2<|vS<|jB j7<|zb (zf 0)<|zb (zf 1)<|zb (qi<|xX zE) zE
def yU:=z6 2<|vS<|jB qL<|zb (zf 0)<|zb (sIx (zh 1)<|zu<|.int 0)<|zb (sIx (zG<|zC js<|zb (zf 1) zE)<|zu<|.int 2) zE
section
variable(γ:Ctx)
@[simp] def GX:=@Ii.eq_1
@[simp] def Ga:=@HA.eq_1
@[simp] def Cv:=@Gq.eq_1
end
def jD:=z6 1<|qv<|sIx (jV<|zP (WO<|zf 0) (.tp [0,1]) 2 [] (sB<|zH dNe (zf 1)<|zu<|.int 0) (zf 0))<|zu<|.int 0
def vE:=z6 7<|zK (jo 3<|sIx (zh 1)<|zu<|.int 1)<|zK (ke 4<|oA (jV<|xX<|zb (zu<|.int 0) zE)<|zf 3)<|zK (Jm (zO<|zG<|qi<|jB qL<|zb (zf 0)<|zb (zH jF (zf 3)<|zu<|.int 1)<|zb (qi<|zP (gG (sIx (zh 1)<|zu<|.int 2)<|zf 2) (.tp [0,1]) 2 [] jA (zH jF (zf 0)<|qh<|zb (zf 1) zE)) zE) (.nm 5)<|zK (jo 6<|zC jD<|zb (zf 5) zE)<|zK (sIf (sB<|zH dEq (zf 6)<|zf 3) (qv<|zu .non) xc)<|mq 4 (zf 6)<|sIx (zh 5)<|zf 3)<|qv<|z4<|zh 4
section
variable(γ:Ctx)
@[simp] def FU:=@WO.eq_1
@[simp] def GU:=@Ie.eq_1
@[simp] def GV:=@Ig.eq_1
@[simp] theorem Cw(F G a b c):y8 F G a b c γ=(a γ).bind λx=>(b γ).bind λy=>((F x y).bind asB).bind λk=>if k=true then (c γ).bind λz=>G y z else some (.bl false):=rfl
@[simp] def fP:=@gH.eq_1
end
section
variable(γ:Ctx)
@[simp] def Cu:=@Gp.eq_1
@[simp] def BA:=@El.eq_1
@[simp] def nB:=@BI.eq_1
@[simp] def FT:=@Hy.eq_1
@[simp] def Cn:=@Gk.eq_1
end
@[simp] theorem lO(r):XJ (some (.nest r))=some r:=rfl
section
variable(γ:Ctx)
@[simp] def lU:=@JL.eq_1
@[simp] def sy:=@QV.eq_1
@[simp] def FX:=@Hz.eq_1
@[simp] def sA:=@Ka.eq_1
end
def x6:=z6 2 (qv (JM (sB (zH dEq (zf 1) (zu (.str "r")))) (zf 0) (zH jF (zf 0) (zu (.int 1)))))
def XU:=z6 2 (qv (JM (sB (zH dEq (zf 1) (zu (.str "r")))) (zH jF (zf 0) (zu (.int 1))) (zf 0)))
def kP:=z6 1 (qv (JM (sB (zH dEq (zf 0) (zu (.str "r")))) (zu (.str "l")) (zu (.str "r"))))
def Ek(f:CO D):CO D:=λγ=>(f γ).map λd=> .bl (sO .list d || sO .tuple d)
def QH:=z6 1<|qv<|BJ (sIs .int<|zf 0)<|Ei<|sIs .bool<|zf 0
def vH:=z6 2<|qv<|BJ (zC QH<|zb (zf 1) zE)<|y8 dLe dLt (zu<|.int 0) (zf 1)<|zf 0
def Ve:=z6 2<|qv<|BJ (Ek<|zf 0)<|zH dEq (Zo<|zh 0)<|zf 1
def xE:=z6 1 (qv (Ka (zu (.str "")) (jV (zP (zO (zG (sIx (zh 0) (zu (.int 2))))) (.nm 0) 1 [] jA (sIx (zh 0) (zu (.int 0)))))))
section
variable{X:Cx}{sc:Scope}{N L:List Str}{k:Nat}{a e:Expr}{es:List Expr}{f:CO D}{g:CO (List D)}{pos p p2:Pos}
theorem VH(he:PV X e f)(hs:swapsWith e none pos.line X.env=pure false:=by rfl):PSD X (.Expr e pos) (oB f):=ki (Xe he hs) λD σ H I=>by obtain⟨E0,E,H0,γ,U,rs,z,O⟩:=I;obtain⟨d,e1,z⟩:=zA z;subst z;exact⟨H0,γ,d,rs.rc,e1,λv H' H0' x r=>O σ H' H0'<|rs.step x⟩
structure GL(K:Ip)(mg:RJ)(x:Str)(d:D):Prop where
 ex : ∃u v,mg x=some u/\RelV v u/\∀H,Rep K H d v
theorem Ew{x:Str}{d:D}(h:SX X sc N L k)(c:vM sc x=true)(z:GL X.K X.mg x d):PV X (.Name x pos) (zu d):=by intro pins s σ H Q I ⟨H0,γ,d',rc,O,q⟩;cases O;obtain⟨u,v,h1,h2,U⟩:=z.ex;exact YJ I (h.gl c).1 h1 ⟨v,H,I,h2,q v H H0 (Ext.refl rc.sub)<|U H0⟩ (h.gl c).2.2
end
section
variable{K:Ip}{mg:RJ}{h:Heap}
theorem GA{x:Str}{n:Int}{t:Tok}(z:K.In h)(G:h.Ns mainGlobals mg)(a:OQ K mainGlobals x=some (some (.int n t))):GL K mg x (.int n):=
 ⟨_,.int n,Ph z G a,⟨t,rfl⟩,λ_=>(show V.int n = .int n from rfl)⟩
end
theorem xK(h:PAn X es n g):PAD X es g:=h.1
section
variable{K:Ip}{E0 E H0 H:Hp}{σ:St}{γ:Ctx}
theorem Reps.dropLast : ∀{ds:List D} {xs:List V},Reps K H ds xs->Reps K H ds.dropLast xs.dropLast
 | [],xs,r=>by rw[r.inv_nil];exact Reps.nil
 | [d],xs,r=>by obtain⟨x,r',e,_,r2⟩:=r.inv_cons;rw[e,r2.inv_nil];exact Reps.nil
 | d::d2::ds,xs,r=>by obtain⟨x,r',e,z,r2⟩:=r.inv_cons;obtain⟨O,U,I,_,_⟩:=r2.inv_cons;subst e I;exact Reps.cons z<|Reps.dropLast r2
end
section
variable{X:Cx}{sc:Scope}{N L:List Str}{k:Nat}{a b e:Expr}{pos p p2:Pos}{f g:CO D}
theorem WU{c:Expr}{fa:CO D}(ha:PV X a fa){O:CO (Sk×List D)}(hb:PQ X c O)(hm:behindInMarks .NotIn c=false:=by with_unfolding_all rfl):PTD X (.Compare a [.NotIn] [c] pos) (sB<|vT fa O):=
 Yn (Ym Kl ha hb hm) λσ H Q Y=>by
  obtain⟨H0,γ,d,rc,z,q⟩:=Y;obtain⟨db,e0,eb⟩:=ze z;obtain⟨x,e1,z⟩:=ze e0;obtain⟨⟨kk,ds⟩,e2,z⟩:=ze z;obtain⟨i,e3,z⟩:=ze z;obtain⟨l,e4,rfl⟩:=zA z;cases eb;refine⟨H0,γ,x,rc,e1,λU H1 a5 x1 I=>⟨a5,γ,kk,ds,rc.ext x1,e2,λp xs H2 a6 x2 h1 h2 r=>?_⟩⟩;rw[qc e3]at I;have ex:=KB r e4;subst ex;have hq:SqL X.K H2 p (l.map V.int)\/SqT X.K H2 p (l.map V.int):=by
   cases kk with
   | L=>exact .inl h1
   | T=>exact .inr h1
  refine⟨p,_,rfl,hq,by rw[show U = .int i from I];rfl,KO l,?_⟩;rw[show U = .int i from I,dJ];exact⟨_,rfl,q H2 a6<|x1.trans x2⟩
end
end DL
namespace L2
open PySem PySem.Spec PyProof.Rows
theorem EV(z:Str):strIterType z = "str_ascii_iterator"\/strIterType z = "str_iterator":=by unfold strIterType;split<;>simp
theorem lu{X:Cx}{pins:RW}{σ:St}{H:Hp}{s:Shared}{E:RQ}{z it:Addr}{i U:Nat}{x:Value}{v:V}{g:Heap}{elts:List Expr}{x1:Nat}{tpos:Pos}{Q:Unit->Shared->Prop}
 (I:Inv X pins σ H s) (hf : ∀b ∈ [z,it],Wr X pins H b) (hz:z<s.heap.objs.size) (hi:it<s.heap.objs.size) (a1:IsEnumOut g z it ((i:Int)+1) x s.heap.objs.size)
 (a3:IsPair g s.heap.objs.size (.int i U) x) (a5 : ∀b o,b≠z->b≠it->s.heap.get? b=some o->g.get? b=some o) (rx:RelV v x)
 (a7 : ∀g2,IsEnum g2 z it ((i+1:Nat):Int) x->NG z g g2->Inv X pins σ (upd H s.heap.objs.size<|.tup [.int i,v]) {s with heap:=g2,toks:=U+1}->H s.heap.objs.size=none->
   (∀b ∈ [z,it],upd H s.heap.objs.size (.tup [.int i,v]) b=none)->Q () {s with heap:=g2,toks:=U+1}) :
 wpAny (model X.prog X.w) X.A (letOwnedTupleGo (.Tuple elts x1 tpos) (.ref z)<|.ref s.heap.objs.size) Q E {s with heap:=g,toks:=U+1}:=by
 refine wpAny_letOwnedTupleGo_enum a1 λg2 a8 Y=>?_;have a9:IsPair g2 s.heap.objs.size (.int i U) x:=Y.extBut _ _ (MJ hz) a3;have kk : ∀O u,O ∉ [z,it]->s.heap.get? O=some u->g2.get? O=some u:=λO u hb e=>by simp only[IG,Li,or_false,not_or]at hb;exact Y.extBut _ _ hb.1<|a5 O u hb.1 hb.2 e
 refine a7 g2 (by have:=a8;rwa [show((i:Int)+1)=((i+1:Nat):Int)by omega]at this) Y (I.turnLaid (fp:=[z,it]) kk hf (IC _) ⟨by show 2<=sizeLine;decide,[.int i U,x],.cons ⟨_,rfl⟩<|.cons rx .nil,⟨_,a9,rfl,_,rfl⟩⟩) I.fresh λO hb=>?_;have aa:O≠s.heap.objs.size:=by
  simp only[IG,Li,or_false]at hb;rcases hb with rfl | rfl
  ·exact Ln hz
  ·exact Ln hi
 rw[zL aa];exact(hf O hb).1
def Gf(z:Str):It:=
 ⟨λi _=>i<z.cps.size,λi H x H'=>∃p c,x = .ref p/\H p=none/\H'=upd H p (.tup [.int i,.str ⟨#[c]⟩])/\z.cps[i]? = some c,λi _=>i=z.cps.size⟩
theorem KU{prog:Program}{w:World}{A:Around}(z:A.handled=none)(it:Addr)(x:Str)(t:Tok) :
 Draws prog w A it [it] x.cps.size (λi v=>∃c u,x.cps[i]? = some c/\v = .str ⟨#[c]⟩ u) (λi h=>h.IsStrIter it (strIterType x) x t i):=by
 rcases EV x with q | q
 ·rw[q];exact Draws.strAscii z it x t
 ·rw[q];exact Draws.strWide z it x t
theorem Wx{P:Program}{w:World}{K:Ip}{elts:List Expr}{x1:Nat}{tpos:Pos}{z it:Addr}(x:Str)(t:Tok)(U:z≠it) :
 Turn P w K (.Tuple elts x1 tpos) (Gf x) [z,it] z (λi h=>(∃O,IsEnum h z it i O)/\h.IsStrIter it (strIterType x) x t i) where
 mem:=by simp
 obj:=λi h ⟨⟨O,hz⟩,h1⟩ y hy=>by
  simp only[IG,Li,or_false]at hy;rcases hy with rfl | rfl
  ·exact⟨_,hz,λv q=>by cases q⟩
  ·obtain⟨o,e,c,d⟩:=h1
   exact⟨o,e,λv q=>by rw[d]at q;cases q⟩
 keep:=λi h h' ⟨⟨O,hz⟩,h1⟩ k=>⟨⟨O,k z ⋯ _ hz⟩,by obtain⟨o,e,r⟩:=h1;exact⟨o,k it ⋯ o e,r⟩⟩
 item:=by
  rintro X rfl rfl rfl Y i pins s σ H E I hf ⟨⟨O,hz⟩,h1⟩ a8;have a9:it<s.heap.objs.size:=by obtain⟨o2,e2,_⟩:=h1;exact IL e2
  have Dr:=KU (prog:=X.prog) (w:=X.w) (A:=X.A.in1) (show X.A.in1.handled=none from I.ok.hd Y) it x t;refine wpAny_pyNext_enum_itemD Dr hz h1 a8 U (by simp;exact U) λu g tk hP a1 a2 a3 a4 a5=>⟨_,rfl,?_⟩;obtain⟨c,tu,ap,rfl⟩:=hP;refine lu (v:= .str ⟨#[c]⟩) I hf (IL hz) a9 a1 a3 a5 ⟨_,rfl⟩ λg2 b1 b2 I1 as hn=>⟨.ref s.heap.objs.size,_,I1,rfl,⟨_,_,rfl,as,rfl,ap⟩,⟨⟨_,b1⟩,?_⟩,hn⟩;obtain⟨o,e,r⟩:=a2;exact⟨o,b2.extBut _ _ U.symm e,r⟩
 done:=by rintro X rfl rfl rfl Y i pins s σ H E I hf ⟨⟨O,hz⟩,h1⟩ hi;have hi:i=x.cps.size:=hi;subst hi;have Dr:=KU (prog:=X.prog) (w:=X.w) (A:=X.A.in1) (show X.A.in1.handled=none from I.ok.hd Y) it x t;refine wpAny_pyNext_enum_endD Dr hz h1 λg hk=>⟨rfl,?_⟩;refine I.turnedL (t':=s.toks) (fp:=[z,it]) (λb' u hb e=>?_) hf;simp only[IG,Li,or_false,not_or]at hb;exact hk b' u hb.2 e
 self:=λ_ _ _ _ _ st h=>vn st.1.choose_spec h
def Ba(ta:TA):TI:=λσ H R=>ta σ H λvs H1=>∃z,vs=[.str z]/\R (Gf z) H1
section
variable{X:Cx}{e1:Expr}{ta:TA}{p pos:Pos}{elts:List Expr}{x1:Nat}{tpos:Pos}
theorem ig(hg:Gl X "enumerate")(hm:X.mg "enumerate" = none)(ha:PA X [e1] ta)
 (hv:bootBuiltins "enumerate" = some (.type "enumerate")) (hs:starEach [e1] X.env=[(false,eval e1 X.env)]:=by rfl) :
 PI X (.Tuple elts x1 tpos) (.Call (.Name "enumerate" p) [e1] [] pos) (Ba ta):=by
 intro pins s σ H R I h;refine Call_<|yC I hg hm hv<|Ma (thn (ha pos pins s σ H _ I h) λus s1 hZ=>?_) (by rw[hs];rfl) rfl;obtain⟨vs,H1,O,r1,q1⟩:=hZ;obtain⟨z,rfl,q⟩:=q1;obtain⟨w1,rfl,a5⟩:=wC r1;obtain⟨t,rfl⟩:=a5;refine call_enumerate_str λg b1 b2 b3 b4=>vn (s:={s1 with heap:=g}) b1 ?_;refine⟨_,[s1.heap.objs.size+1,s1.heap.objs.size],_,_,H1,rfl,O.kept (t':=s1.toks) b4,Wx z t<|MJ<|Mf _,⟨⟨_,b1⟩,b2⟩,λc U=>?_,q⟩;have Y:s1.heap.objs.size<=c:=by
  simp only[IG,Li,or_false]at U;rcases U with rfl | rfl
  ·exact LW _ _
  ·exact IC _
 exact O.fpOk Y<|O.hok.fresh Y
end
theorem tM{X:Cx}:SlR X (λx lo hi H Q=>∃z,x = .str z/\z.length<=sizeLine/\Q (.str<|Txt.slice z lo hi) H):=by
 rintro pins s σ H x v vl vu lo hi sl Q I rx ⟨o,O,U,hd⟩ pl pu ⟨z,rfl,hz,q⟩;obtain⟨t,rfl⟩:=rx;have Y : ∀t' k,EP X pins σ Q (.str (Txt.slice z lo hi) t') {s with toks:=k}:=λt' k=>⟨.str _,H,I.tok k,⟨_,rfl⟩,q⟩;refine⟨"str",_,F.slot_str_getitem.lookup,typeIs_str _ _ _,?_⟩;cases pl<;>cases pu
 ·exact NT (l:=none) (u:=none) (st:=none) ⟨o,O,U,hd⟩ rfl<|Px ⟨LG (Ra z _ _) hz,Y⟩
 ·exact NT (l:=none) (u:=some (_,_)) (st:=none) ⟨o,O,U,hd⟩ rfl<|Px ⟨LG (Ra z _ _) hz,Y⟩
 ·exact NT (l:=some (_,_)) (u:=none) (st:=none) ⟨o,O,U,hd⟩ rfl<|Px ⟨LG (Ra z _ _) hz,Y⟩
 ·exact NT (l:=some (_,_)) (u:=some (_,_)) (st:=none) ⟨o,O,U,hd⟩ rfl<|Px ⟨LG (Ra z _ _) hz,Y⟩
end L2
namespace DL
open PySem PySem.Spec PyProof.Rows L2
theorem X7(z:Str):(xP z).length=z.cps.size:=by simp[xP]
theorem gF(z:Str){i c:Nat}(h:z.cps[i]? = some c):(xP z)[i]? = some (.str ⟨#[c]⟩):=by simp[xP,h]
theorem Wu{K:Ip}{H0 Hs:Hp}(z:Str):Walk K H0 Hs (Gf z) (xh<|xP z):=by
 have hz:(xh<|xP z).length=z.cps.size:=by simp[xh,X7]
 refine⟨λi H1 s hi=>?_,λH1 s=>?_,λi H1 x H1' s hi y=>?_⟩
 ·rw[hz]at hi;exact hi
 ·rw[hz];exact rfl
 ·obtain⟨p,c,rfl,I,rfl,O⟩:=y
  refine⟨.tup [.int i,.str ⟨#[c]⟩],?_,λG0 s1 s2=>⟨upd G0 p<|.tup [.int i,.str ⟨#[c]⟩],Ext.alloc s2 I _,?_⟩⟩
  ·rw[hz]at hi
   unfold xh;rw[Lo,MH (by rw[X7];exact hi),Lm,gF z O];rfl
  ·exact xf (SqT.of zJ)<|Reps.cons (show V.int i = .int i from rfl)<|Reps.cons (show V.str ⟨#[c]⟩ = .str ⟨#[c]⟩from rfl) Reps.nil
section
variable{X:Cx}{sc:Scope}{N L:List Str}{k:Nat}{a b e:Expr}{pos p p2:Pos}{f fa fb:CO D}
theorem cC{elts:List Expr}{x1:Nat}{tpos:Pos}(h:SX X sc N L k)(c:vM sc "enumerate" = true)(z:X.mg "enumerate" = none)(ha:PV X a f)(hs:starEach [a] X.env=[(false,eval a X.env)]:=by rfl) :
 PIF X (.Tuple elts x1 tpos) (.Call (.Name "enumerate" p) [a] [] pos) (Zp f):=
 Kh (ig (h.gl c).1 z (zX ha qa hs) boot_enumerate hs) λσ H R U=>by
  obtain⟨H0,γ,ds,rc,I,q⟩:=U;obtain⟨d,Y,I⟩:=ze I;cases d with
  | str z=>
   by_cases O:ji z=true
   ·have I:(if ji z=true then some (xh<|xP z)else none)=some ds:=I
    rw[RY O]at I;cases I;exact⟨H0,γ,_,rc,Y,λv H' H0' x r=>⟨z,by rw[show v = .str z from r],q _ H' H0' x<|Wu z⟩⟩
   ·have I:(if ji z=true then some (xh<|xP z)else none)=some ds:=I
    rw[EQ O]at I;cases I
  | _=>cases I
theorem oK(ha:PV X a fa)(hb:PV X b fb):PV X (.BinOp a .Add b pos) (gN fa fb):=
 qe (ph W1 ha hb) λσ H Q O=>by
  obtain⟨H0,γ,d,rc,z,q⟩:=O;obtain⟨x,e1,z⟩:=ze z;obtain⟨y,U,z⟩:=ze z;cases x with
  | str u=>
   cases y with
   | str w=>
    by_cases I:ji u=true/\ji w=true
    ·have z:(if ji u=true/\ji w=true then some (D.str<|u++w)else none)=some d:=z
     rw[RY I]at z;cases z;refine⟨H0,γ,_,rc,e1,λv1 H1 Y x1 r1=>⟨Y,γ,_,rc.ext x1,U,λv2 H2 a1 x2 r2=>⟨u,w,r1,r2,?_,q _ H2 a1 (x1.trans x2) rfl⟩⟩⟩;have h1:=yY I.1;have h2:=yY I.2;have:2000<=sizeLine:=by decide
     omega
    ·have z:(if ji u=true/\ji w=true then some (D.str<|u++w)else none)=some d:=z
     rw[EQ I]at z;cases z
   | _=>cases z
  | _=>cases z
theorem VA{lo hi:Option Expr}{U Y:CO (Option Int)}(ha:PV X a f)(hl:L2.PO X lo (tB X.K U))(hh:L2.PO X hi (tB X.K Y)):PV X (.Subscript a (.Slice lo hi none p2) pos) (tX f U Y):=
 qe (VO tM ha hl hh) λσ H Q hZ=>by
  obtain⟨H0,γ,d,rc,I,q⟩:=hZ;obtain⟨d1,e1,I⟩:=ze I;obtain⟨l,e2,I⟩:=ze I;obtain⟨u,e3,I⟩:=ze I;refine⟨H0,γ,d1,rc,e1,λv H' H0' x r=>⟨H0',γ,l,rc.ext x,e2,λH2 a7 x2=>⟨a7,γ,u,(rc.ext x).ext x2,e3,λH3 a9 x3=>?_⟩⟩⟩;have xa:=x.trans<|x2.trans x3;cases d1 with
  | str z=>
   by_cases O:ji z=true
   ·have I:(if ji z=true then some (D.str<|Txt.slice z l u)else none)=some d:=I
    rw[RY O]at I;cases I;exact⟨z,r,vQ O,q _ H3 a9 xa rfl⟩
   ·have I:(if ji z=true then some (D.str<|Txt.slice z l u)else none)=some d:=I
    rw[EQ O]at I;cases I
  | _=>cases I
end
end DL
namespace DL
open PySem L2 PyProof.Rows
open PySem.W (KasT kas_sort kas_asc kas_desc kas_tail3 kas_descPart kas_count kas_place kas_bin kas_rev)
def Good{α:Type}(n:Nat)(P:α->Prop):KasT α->Prop
 | .ret a=>P a
 | .ask i j k=>i<n/\j<n/\∀b,Good n P<|k b
theorem Good.mono{α:Type}{n:Nat}{P z:α->Prop}(h : ∀a,P a->z a) : ∀{t:KasT α},Good n P t->Good n z t
 | .ret a,g=>h a g
 | .ask i j k,g=>⟨g.1,g.2.1,λb=>(g.2.2 b).mono h⟩
theorem Good.bind{α β:Type}{n:Nat}{P:α->Prop}{z:β->Prop}{f:α->KasT β}(I : ∀a,P a->Good n z (f a)) : ∀{t:KasT α},Good n P t->Good n z (t.bind f)
 | .ret a,g=>I a g
 | .ask i j k,g=>⟨g.1,g.2.1,λb=>(g.2.2 b).bind I⟩
theorem Good.run : ∀{t:KasT α},Good n P t->P (Ep lt t)
 | .ret a,g=>g
 | .ask i j k,g=>(g.2.2 _).run
def Pm(n:Nat)(p:Array Nat):Prop:=p.toList.Perm<|Io n
theorem Pm.lt(h:Pm n p)(hn:0<n)(i:Nat):p.getD i 0<n:=by
 by_cases hi:i<p.size
 ·have e:p.getD i 0=p[i]:=by simp[Array.getD,hi]
  rw[e];exact Iu.mp<|h.mem_iff.mp ⋯
 ·have e:p.getD i 0=0:=by simp[Array.getD,hi]
  rw[e];exact hn
theorem Pm.rev(h:Pm n p)(i j:Nat):Pm n (kas_rev p i j):=(Array.perm_iff_toList_perm.mp<|mirror_perm p i j _).trans h
theorem Pm.bub(h:Pm n p)(i j:Nat):Pm n (bubble p i j):=(Array.perm_iff_toList_perm.mp<|bubble_perm p i j).trans h
theorem Xs(h:Pm n p)(hn:0<n) : ∀f m,Good n (λ_=>True) (kas_asc p f m)
 | 0,m=>trivial
 | f+1,m=>⟨h.lt hn _,h.lt hn _,λb=>by
  cases b with
  | true=>exact trivial
  | false=>exact Xs h hn f<|m+1⟩
theorem vo(hn:0<n) : ∀f p m q,Pm n p->Good n (λr=>Pm n r.1) (kas_desc f p m q)
 | 0,p,m,q,h=>h
 | f+1,p,m,q,h=>⟨h.lt hn _,h.lt hn _,λb=>by
  cases b with
  | true=>
   show Good n _ (if q>0 then _ else _);split
   ·exact vo hn f _ _ _<|h.rev _ _
   ·exact vo hn f _ _ _ h
  | false=>exact⟨h.lt hn _,h.lt hn _,λd=>by
   cases d with
   | true=>exact h
   | false=>exact vo hn f _ _ _ h⟩⟩
theorem KG{n:Nat}(hn:0<n)(m r:Nat){p:Array Nat}(h:Pm n p):Good n (λr=>Pm n r.2) (kas_tail3 m r p):=by unfold kas_tail3;refine Good.bind (P:=λ_=>True) (λa _=>?_)<|Xs (h.rev _ _) hn _ _;exact(show Pm n (kas_rev p 0 m)from h.rev _ _)
theorem KH{n:Nat}(hn:0<n)(m r:Nat){p:Array Nat}(h:Pm n p):Good n (λr=>Pm n r.2) (kas_descPart m r p):=
 (vo hn _ _ _ _ h).bind λa ha=>by
   show Good n _ (if a.2.2>0 then _ else _);split
   ·exact KG hn _ _<|Pm.rev ha _ _
   ·exact KG hn _ _ ha
theorem ay{n:Nat}(hn:0<n)(r:Nat){p:Array Nat}(h:Pm n p):Good n (λr=>Pm n r.2) (kas_count r p):=
 (Xs h hn _ _).bind λm _=>by
   show Good n _ (if (m==r)=true then _ else if m>1 then _ else _);split
   ·exact h
   ·split
    ·exact⟨h.lt hn _,h.lt hn _,λc=>by
      cases c with
      | true=>exact h
      | false=>exact KH hn _ _<|h.rev _ _⟩
    ·exact KH hn _ _ h
theorem we(hn:0<n)(h:Pm n p)(k:Nat) : ∀f l r,Good n (λ_=>True) (kas_place p k f l r)
 | 0,l,r=>trivial
 | f+1,l,r=>by
  show Good n _ (if l>=r then _ else _);split
  ·exact trivial
  ·exact⟨h.lt hn _,h.lt hn _,λc=>by
    cases c with
    | true=>exact we hn h k f _ _
    | false=>exact we hn h k f _ _⟩
theorem V6{n:Nat}(hn:0<n) : ∀f p k,Pm n p->Good n (Pm n) (kas_bin f p k)
 | 0,p,k,h=>h
 | f+1,p,k,h=>(we hn h k k 0 k).bind λl _=>V6 hn f _ _<|h.bub _ _
theorem dW{n:Nat}(hn:0<n):Good n (Pm n) (kas_sort n):=
 (ay hn n<|show Pm n (List.toArray<|Io n)from List.Perm.refl _).bind λr z=>by
   show Good n _ (if r.1<n then _ else _);split
   ·exact V6 hn _ _ _ z
   ·exact z
theorem W0(ps:List (Int×Int)):(Yr ps).Perm (Io ps.length):=by
 unfold Yr;split
 ·exact List.Perm.refl _
 ·exact(dW ⋯).run
theorem jL(d:α) : ∀ds:List α,(Io ds.length).map (λi=>ds.getD i d)=ds:=λds=>by
 apply OI;intro i;by_cases hi:i<ds.length
 ·simp[hi]
 ·simp[hi,Nat.not_lt.mp hi]
end DL
namespace DL
open PySem PySem.Spec PyProof.Rows L2
open PySem.W (KasT kas_sort kas_ask kat_run kat_snds kat_lt kat_cons kat_no kat_yes kat_nil kat_go kat_one kat_kind KatTups KatGo)
section
variable{X:Cx}{a b c:Expr}{pos:Pos}{fa fb fc:CO D}
theorem Zq{U Y:CmpOp}{r r':R2}{F G:D->D->Option D}(ho:OpR X (compareOp U) r)(a7:OpR X (compareOp Y) r')(s1:Snd X.K r F)(s2:Snd X.K r' G)(ha:PV X a fa)(hb:PV X b fb)(hc:PV X c fc)
 (hm:lastMarks [U,Y] [b,c]=false:=by with_unfolding_all rfl):PTD X (.Compare a [U,Y] [b,c] pos) (sB<|y8 F G fa fb fc):=
 Yn (gY ho a7 ha hb hc hm) λσ H Q hZ=>by
  obtain⟨H0,γ,kq,rc,ac,q0⟩:=hZ;obtain⟨d,I,e9⟩:=ze ac;have q : ∀v H' H0',Ext H0 H H0' H'->Rep X.K H0' d v->∃k,v = .bl k/\Q k H':=λv H' H0' x rr=>by rw[w4 e9]at rr;exact⟨kq,rr,q0 H' H0' x⟩
  obtain⟨x,e1,I⟩:=ze I;obtain⟨y,e2,I⟩:=ze I;obtain⟨k,e3,I⟩:=ze I;obtain⟨bb,e4,e5⟩:=ze e3;refine⟨H0,γ,x,rc,e1,λv1 H1 as x1 r1=>⟨as,γ,y,rc.ext x1,e2,λv2 H2 b0 O r2=>s1 b0 H2 v1 v2 x y bb _ O.sub (r1.mono O.s0) r2 e4 λv3 H3 a5 x3 r3=>?_⟩⟩;cases bb with
  | bl k'=>
   cases e5;refine⟨k,show v3 = .bl k from r3,?_⟩;cases k with
   | true=>
    rw[RY rfl];rw[RY rfl]at I;obtain⟨z,e6,e7⟩:=ze I;exact⟨a5,γ,z,((rc.ext x1).ext O).ext x3,e6,λv4 H4 bv x4 r4=>s2 bv H4 v2 v4 y z d _ x4.sub ((r2.mono x3.s0).mono x4.s0) r4 e7 λv5 H5 c3 x5 r5=>q v5 H5 c3 (((x1.trans O).trans x3).trans (x4.trans x5)) r5⟩
   | false=>
    rw[EQ ⋯];rw[EQ ⋯]at I;cases I;exact q _ H3 a5 ((x1.trans O).trans x3) rfl
  | _=>cases e5
end
end DL
namespace DL
open PySem PySem.Spec PyProof.Rows L2
theorem Zf{H:Hp}{x:Addr}{o o':HO}:upd (upd H x o) x o'=upd H x o':=by
 funext b;by_cases h:b=x
 ·subst h;rw[zJ,zJ]
 ·rw[zL h,zL h,zL h]
structure ClsA(K:Ip)(C:Addr):Prop where
 cls:Cls K C
 np:NoAttr K C "p"
 nt:NoAttr K C "table"
def Zk(C:Addr):Sp:=λvs H Q _=>∃x dx z I,vs=[.ref x,z,I]/\H x=some (.ins C dx [])/\Q .non (upd H x<|.ins C dx<|fs2 z I)
def QR(K:Ip)(C:Addr)(F:List D->Option Res):Sp:=λvs H Q _=>∃x dx z I O H0 p t b ds,vs=[.ref x,O]/\H x=some (.ins C dx<|fs2 z I)/\Same H0 H/\Rep K H0 p z/\Rep K H0 t I/\Rep K H0 b O/\F [p,t,b]=some (.own ds)/\Hd K H0 H Q (.own ds)
section
variable{P:Program}{w:World}{K:Ip}{mg:RJ}{base:Heap}{k:Nat}
theorem rE{q:Str}{st:Stmt}{f C:Addr}{fd:FuncData}(O:L2.Fun K "__init__" q st f fd)(hd:YX ["self","p","table"] ["self","p","table"] st=true)(c:ClsA K C)
 (U : ∀X:Cx,X.prog=P->X.w=w->X.K=K->X.mg=mg->X.base=base->SX X (zT st) ["self","p","table"] ["self","p","table"] k->PSs X (jZ st) (Gj (Em X.K (Jk 0) (Jk 1) "p") (Em X.K (Jk 0) (Jk 2) "table"))) :
 FnOk P w K mg base CX0 (k+1) f fd ["self","p","table"] (Zk C):=by
 have S:=y6 hd;refine O.ok S (λvs H Q E h=>by obtain⟨x,dx,z,I,rfl,_⟩:=h;rfl) λcdv A outer s H vs Q E Y a0=>⟨_,U _ rfl rfl rfl rfl rfl ⟨rfl,rfl,S.nd,rfl,Y,λ_ _=> .inl rfl⟩,?_⟩;obtain⟨x,dx,z,I,rfl,hx,q⟩:=a0;refine⟨z,rfl,.ref x,rfl,x,C,dx,[],rfl,hx,c.cls,c.np,by decide,?_⟩;refine⟨I,rfl,.ref x,rfl,x,C,dx,Xc "p" z [],rfl,zJ,c.cls,c.nt,by show 1<1000;decide,?_⟩;rw[Zf];exact q
theorem Wb{U q:Str}{st:Stmt}{f C:Addr}{fd:FuncData}{F:List D->Option Res}(Y:L2.Fun K U q st f fd)(hd:YX ["self","base"] ["self","base"] st=true)(c:ClsA K C)
 (a0 : ∀X:Cx,X.prog=P->X.w=w->X.K=K->X.mg=mg->X.base=base->SX X (zT st) ["self","base"] ["self","base"] k->
   PSs X (jZ st) (CK (gA (spF X.K 3 F) [] E0 (Zh (CT X.K (Jk 0) "p") (Zh (CT X.K (Jk 0) "table") (Zh (Jk 1) sG)))))) :
 FnOk P w K mg base CX0 (k+1) f fd ["self","base"] (QR K C F):=by
 have S:=y6 hd;refine Y.ok S (λvs H Q E h=>by obtain⟨x,dx,z,I,O,H0,p,t,b,ds,rfl,_⟩:=h;rfl) λcdv A outer s H vs Q E hr a2=>⟨_,a0 _ rfl rfl rfl rfl rfl ⟨rfl,rfl,S.nd,rfl,hr,λ_ _=> .inl rfl⟩,?_⟩;obtain⟨x,dx,z,I,O,H0,p,t,b,ds,rfl,hx,h0,r1,r2,r3,hF,a6⟩:=a2;refine⟨.ref x,rfl,x,C,dx,_,z,rfl,hx,c.cls,c.np,Fe z I,.ref x,rfl,x,C,dx,_,I,rfl,hx,c.cls,c.nt,Fb z I,O,rfl,?_⟩;exact⟨H0,[p,t,b],.own ds,h0,Reps.cons r1<|Reps.cons r2<|Reps.cons r3 Reps.nil,rfl,hF,a6⟩
def Ee(CR CL:Addr):Sp:=λvs H Q _=>∃z s I,vs=[z,.str s,I]/\∀x dx,H x=none->H dx=none->dx≠x->Q (.ref x) (upd (upd H dx (.own x)) x (.ins (if s=("r" : Str)then CR else CL) dx (fs2 z I)))
theorem Fi{x:Str}{st:Stmt}{f CR CL:Addr}{fd:FuncData}(U:L2.Fun K x x st f fd)(hd:YX ["p","way","table"] ["p","way","table"] st=true)
 (Y : ∀X:Cx,X.prog=P->X.w=w->X.K=K->X.mg=mg->X.base=base->SX X (zT st) ["p","way","table"] ["p","way","table"] k->
   PSs X (jZ st) (CK (L2.tIf (nX (tOp rEq (Jk 1) (tC (.str "r")))) (gy CR (Zk CR) [] E0 (Zh (Jk 0) (Zh (Jk 2) sG))) (gy CL (Zk CL) [] E0 (Zh (Jk 0) (Zh (Jk 2) sG)))))) :
 FnOk P w K mg base CX0 (k+1) f fd ["p","way","table"] (Ee CR CL):=by
 have S:=y6 hd;refine U.ok S (λvs H Q E h=>by obtain⟨I,s,O,rfl,_⟩:=h;rfl) λcdv A outer s H vs Q E hr a1=>⟨_,Y _ rfl rfl rfl rfl rfl ⟨rfl,rfl,S.nd,rfl,hr,λ_ _=> .inl rfl⟩,?_⟩;obtain⟨I,z,O,rfl,q⟩:=a1;have go : ∀C,(∀x dx,H x=none->H dx=none->dx≠x->Q (.ref x) (upd (upd H dx (.own x)) x (.ins C dx (fs2 I O))))->gy C (Zk C) [] E0 (Zh (Jk 0) (Zh (Jk 2) sG)) (Jt ["p","way","table"] [I,.str z,O]) H Q:=λC q=>by refine⟨I,rfl,O,rfl,λx dx hx a2 a3=>⟨x,dx,I,O,rfl,zJ,rfl,?_⟩⟩;rw[Zf];exact q x dx hx a2 a3
 refine⟨.str z,rfl,rfl,_,rfl,?_⟩;show(if decide (V.str z=V.str "r")=true then _ else _);by_cases h:z=("r" : Str)
 ·rw[RY (decide_eq_true<|by rw[h])]
  refine go CR λx dx a b c=>?_;have:=q x dx a b c
  rwa [RY h]at this
 ·rw[EQ (by simpa using h)]
  refine go CL λx dx a b c=>?_;have:=q x dx a b c
  rwa [EQ h]at this
end
section
variable{X:Cx}{sc:Scope}{N L:List Str}{k j jr jl:Nat}{a b c d:Expr}{p pos1 apos pos2:Pos}{fa fb fc fd:CO D}{F G:List D->Option Res}{x:Str}{CR CL:Addr}
structure FnBy(P:Program)(w:World)(K:Ip)(mg:RJ)(base:Heap)(j:Nat)(x:Str)(CR CL:Addr):Prop where
 ex : ∃(f:Addr) (fd:FuncData),FnOk P w K mg base CX0 j f fd ["p","way","table"] (Ee CR CL)/\mg x=some (.ref f)/\Mn K (.ref f)=true/\Binds K fd ["p","way","table"] []
structure MethAt(P:Program)(w:World)(K:Ip)(mg:RJ)(base:Heap)(j:Nat)(C:Addr)(F:List D->Option Res):Prop where
 cls:ClsA K C
 ex : ∃(f:Addr) (fd:FuncData),Meth K C "forth" f/\FnOk P w K mg base CX0 j f fd ["self","base"] (QR K C F)/\Binds K fd ["self","base"] []
theorem ib(bb:FnBy X.prog X.w X.K X.mg X.base j x CR CL)(hR:MethAt X.prog X.w X.K X.mg X.base jr CR F)(hL:MethAt X.prog X.w X.K X.mg X.base jl CL G)(h1:j<=k)(h2:jr<=k)(h3:jl<=k)(h:SX X sc N L k)(cx:vM sc x=true)
 (ha:PV X a fa) (hb:PV X b fb) (hc:PV X c fc) (hd:PV X d fd)
 (he:starEach [a,b,c] X.env=(false,eval a X.env)::starEach [b,c] X.env:=by rfl) (bl:(backTo pos1<|starEach [b,c] X.env).any (·.1)=false:=by rfl)
 (bn:starEach [b,c] X.env=(false,eval b X.env)::starEach [c] X.env:=by rfl) (bv:starEach [c] X.env=(false,eval c X.env)::starEach [] X.env:=by rfl)
 (an:starEach [d] X.env=(false,eval d X.env)::starEach [] X.env:=by rfl) (c0:(backTo pos2<|starEach [] X.env).any (·.1)=false:=by rfl)
 (ht:eval (.Call (.Attribute (.Call (.Name x p) [a,b,c] [] pos1) "forth" apos) [d] [] pos2) X.env=(do
   let ov <- eval (.Call (.Name x p) [a,b,c] [] pos1) X.env
   standAt apos.atName
   let (f,first) <- holding [ov] (getMethod ov "forth" pl)
   callWith pos2 f first (backTo pos2<|starEach [d] X.env) (backToKw pos2<|keywordEach [] X.env)):=by rfl) :
   PO X (.Call (.Attribute (.Call (.Name x p) [a,b,c] [] pos1) "forth" apos) [d] [] pos2) (mw F G (zb fa (zb fb (zb fc (zb fd zE))))):=by
  intro pins s σ H Q I ⟨H0,γ,ds,rc,O,q⟩;obtain⟨l,e0,O⟩:=ze O;obtain⟨dp,e1,e0⟩:=ze e0;obtain⟨l1,e2,rfl⟩:=zA e0;obtain⟨dw,e3,e2⟩:=ze e2;obtain⟨l2,e4,rfl⟩:=zA e2;obtain⟨dt,e5,e4⟩:=ze e4;obtain⟨l3,e6,rfl⟩:=zA e4;obtain⟨db,e7,e6⟩:=ze e6;obtain⟨l4,e8,rfl⟩:=zA e6;cases e8;cases dw with
  | str z=>
   have O:((if z=("r" : Str)then F else G) [dp,dt,db]).bind BK=some ds:=O;obtain⟨r,e9,ar⟩:=ze O;cases r with
   | val _=>cases ar
   | own d6=>
    cases ar;obtain⟨d7,d8,Gy,my,ky,ca⟩:=bb.ex;have call:=Zt (p:=p) (pos:=pos1) Gy (h.room.mono h1) (h.gl cx).1 my ky ca .nil Kk (zX ha (zX hb (zX hc qa bv) bn) he) (h.gl cx).2.2 he bl;have go : ∀(C:Addr) (jc:Nat) (Fc:List D->Option Res),(if z=("r" : Str)then CR else CL)=C->MethAt X.prog X.w X.K X.mg X.base jc C Fc->jc<=k->Fc [dp,dt,db]=some (.own ds)->
     wpAny (model X.prog X.w) X.A (eval (.Call (.Attribute (.Call (.Name x p) [a,b,c] [] pos1) "forth" apos) [d] [] pos2) X.env) (EP X pins σ Q) X.xe s:=λC jc Fc hC M hj hF=>by
     obtain⟨fm,da,Mm,Gm,bm⟩:=M.ex;refine pj (pl:=pl) (E:=E0) call M.cls.cls Mm Gm (h.room.mono hj) bm .nil Kk (zX hd qa an) an c0 ht pins s σ H Q I ?_;refine⟨H0,γ,dp,rc,e1,λU H1 cl x1 r1=>⟨cl,γ,_,rc.ext x1,e3,λv2 H2 co x2 r2=>⟨co,γ,dt,(rc.ext x1).ext x2,e5,λY H3 a4 x3 r3=>?_⟩⟩⟩;refine⟨U,z,Y,by rw[show v2 = .str z from r2];rfl,λo a5 n1 n2 cr=>?_⟩;rw[hC];have xe:Ext a4 H3 a4 (upd (upd H3 a5<|.own o) o<|.ins C a5<|fs2 U Y):=(Ext.hide x3.sub n2<|.own o).trans (Ext.hide (x3.sub.trans<|zW n2 _) (by rw[zL (Ly cr)];exact n1) _);have xa:=(x1.trans<|x2.trans x3).trans xe;refine⟨o,a5,fs2 U Y,rfl,zJ,Ff U Y,a4,γ,db,rc.ext xa,e7,λv4 H4 b0 x4 r4=>?_⟩;have b9:Same a4 b0:=x4.s0;refine⟨o,a5,U,Y,v4,b0,dp,dt,db,ds,rfl,x4.s1 _ _ zJ,x4.sub,((r1.mono x2.s0).mono x3.s0).mono b9,r3.mono b9,r4,hF,?_⟩;exact λa' xs H' H0' x5 g1 g2 g3 g4=>q a' xs H' H0' (xa.trans<|x4.trans x5) (ZF (xa.trans x4).s1 g1) g2 g3 g4
    by_cases hz:z=("r" : Str)
    ·rw[RY hz]at e9
     exact go CR jr F (RY hz) hR h2 e9
    ·rw[EQ hz]at e9
     exact go CL jl G (EQ hz) hL h3 e9
  | _=>cases O
end
section
variable{X:Cx}{sc:Scope}{N L:List Str}{k:Nat}{a:Expr}{pos:Pos}{f:CO (List D)}
theorem oT(i:Nat)(h:SX X sc N L k)(c:Yd sc N i x=true)(ha:PO X a f)(hs:starEach [a] X.env=[(false,eval a X.env)]:=by rfl)
 (a0:attributeBase (.Name x np) "extend" X.env (eval (.Name x np) X.env)=eval (.Name x np) X.env:=by rfl)
 (a1:((backTo cpos<|starEach [a] X.env).all (λx=> !x.1) && (backToKw cpos<|keywordEach [] X.env).all (λx=>x.1.isSome)
   && decide ([a].length+([]:List Keyword).length+(if ([]:List Keyword).isEmpty then 0 else 1)<30))=true:=by rfl)
 (a2:(apos.endLine==cpos.line)=true:=by rfl) (a3:swapsWith (.Call (.Attribute (.Name x np) "extend" apos) [a] [] cpos) none pos.line X.env=pure false:=by rfl) :
 PSD X (.Expr (.Call (.Attribute (.Name x np) "extend" apos) [a] [] cpos) pos) (bK i f):=
 ki (Xe (ir OE PySem.F.slot_list_extend PySem.F.type_list_extend cV (h.var c) (zX ha qa hs) a0 a1 a2 hs rfl) a3) λD σ H hZ=>by
  obtain⟨E0,E,H0,γ,fl,rs,z,a5⟩:=hZ;obtain⟨ds,e1,z⟩:=ze z;obtain⟨es,e2,z⟩:=ze z;have e1:=xU e1;by_cases I:ds.length+es.length<=lim
  ·rw[RY I]at z;cases z
   obtain⟨l,xs,h1,h2,O,U⟩:=rs.rc.own i ds e1;refine⟨_,h1,.inl ⟨rfl,_,SqL.of O⟩,H0,γ,es,rs.rc,e2,λb zs H' H0' x g1 g2 g3 Y=>?_⟩;have hl:xs.length+zs.length<=sizeLine:=by
    rw[U.length,Y.length];have:lim<=sizeLine:=by decide
    omega
   refine⟨l,b,xs,zs,rfl,rfl,x.s1 _ _ O,g3,hl,?_⟩;have a9:=rs.step x;exact a5 _ _ _<|a9.rewrite (xs:=xs) e1 h1<|(U.mono x.s0).append Y
  ·rw[EQ I]at z;cases z
end
def lN(K:Ip)(C:Addr):Bool:=OR K C && Mn K (.ref C) && NX K C Str.empty && Ot K C && PD K C &&
 Lr K (.ref C) "__setattr__" == some (some (.builtin "object.__setattr__")) && Lr K (.ref C) "p" == some none && Lr K (.ref C) "table" == some none
structure ArrAt(K:Ip)(mg:RJ)(sI sR sL:Stmt):Prop where
 ex : ∃(CR CL fI fR fL:Addr) (dI dR dL:FuncData),mg "Right" = some (.ref CR)/\mg "Left" = some (.ref CL)/\Mk K CR fI/\Mk K CL fI/\ClsA K CR/\ClsA K CL/\Meth K CR "forth" fR/\Meth K CL "forth" fL/\
  L2.Fun K "__init__" "Arrow.__init__" sI fI dI/\L2.Fun K "forth" "Right.forth" sR fR dR/\L2.Fun K "forth" "Left.forth" sL fL dL/\
  Binds K dI ["self","p","table"] []/\Binds K dR ["self","base"] []/\Binds K dL ["self","base"] []
section
variable{K:Ip}{mg:RJ}{h:Heap}
theorem fi(b:lN K C=true):ClsA K C/\OR K C=true/\Mn K (.ref C)=true:=by unfold lN at b;simp only[ID,beq_iff_eq]at b;obtain⟨⟨⟨⟨⟨⟨⟨b1,b2⟩,b3⟩,b4⟩,b5⟩,b6⟩,b7⟩,b8⟩:=b;exact⟨⟨⟨b3,b4,b5,b6⟩,b7,b8⟩,b1,b2⟩
theorem GI{sI sR sL:Stmt}{CR CL fI fR fL:Addr}{oI oR oL:Value}{eI eR eL aI aR aL:Option Addr}{lI lR lL:Array (Option Value)}{kI dI pI z tI kR dR pR I tR kL dL pL O tL:Value}(U:K.In h)(G:h.Ns mainGlobals mg)
 (nR:OQ K mainGlobals "Right" = some (some (.ref CR))) (nL:OQ K mainGlobals "Left" = some (some (.ref CL)))
 (iR:Lr K (.ref CR) "__init__" = some (some (.ref fI))) (iL:Lr K (.ref CL) "__init__" = some (some (.ref fI)))
 (mR:Lr K (.ref CR) "forth" = some (some (.ref fR))) (mL:Lr K (.ref CL) "forth" = some (some (.ref fL)))
 (uI:K.lookup fI=some ⟨oI,eI,.func (My "__init__" "Arrow.__init__" (xi sI) (jZ sI) (zT sI) .none kI dI pI aI z tI),lI⟩)
 (uR:K.lookup fR=some ⟨oR,eR,.func (My "forth" "Right.forth" (xi sR) (jZ sR) (zT sR) .none kR dR pR aR I tR),lR⟩)
 (uL:K.lookup fL=some ⟨oL,eL,.func (My "forth" "Left.forth" (xi sL) (jZ sL) (zT sL) .none kL dL pL aL O tL),lL⟩)
 (vI:Nv K z "Arrow.__init__" = true) (vR:Nv K I "Right.forth" = true) (vL:Nv K O "Left.forth" = true)
 (w1:Mn K (.ref fI)=true) (w2:Mn K (.ref fR)=true) (w3:Mn K (.ref fL)=true)
 (z1:Oh K (.ref fI)=true) (z2:Oh K (.ref fR)=true) (z3:Oh K (.ref fL)=true)
 (bR:lN K CR=true) (bL:lN K CL=true)
 (gI : ∀(kV doc pm:Value) (an:Option Addr) (cdv ct:Value) (us:List Value),us.length=3->bindArgs (My "__init__" "Arrow.__init__" (xi sI) (jZ sI) (zT sI) .none kV doc pm an cdv ct) ⟨us,[]⟩=pure ((["self","p","table"]:List Str).zip us))
 (gR : ∀(kV doc pm:Value) (an:Option Addr) (cdv ct:Value) (us:List Value),us.length=2->bindArgs (My "forth" "Right.forth" (xi sR) (jZ sR) (zT sR) .none kV doc pm an cdv ct) ⟨us,[]⟩=pure ((["self","base"]:List Str).zip us))
 (gL : ∀(kV doc pm:Value) (an:Option Addr) (cdv ct:Value) (us:List Value),us.length=2->bindArgs (My "forth" "Left.forth" (xi sL) (jZ sL) (zT sL) .none kV doc pm an cdv ct) ⟨us,[]⟩=pure ((["self","base"]:List Str).zip us)):ArrAt K mg sI sR sL:=by
 obtain⟨c1,c2,c3⟩:=fi bR;obtain⟨d1,d2,d3⟩:=fi bL;have Y:=V9 uI vI w1;have FR:=V9 uR vR w2;have FL:=V9 uL vL w3;exact⟨CR,CL,fI,fR,fL,_,_,_,Ph U G nR,Ph U G nL,⟨c2,iR,z1,c3⟩,⟨d2,iL,z1,d3⟩,c1,d1,⟨mR,z2,w2⟩,⟨mL,z3,w3⟩,Y,FR,FL,Y.binds gI,FR.binds gR,FL.binds gL⟩
end
def rY:Stmt->List Stmt
 | .ClassDef _ _ _ b _ _ _ _ _ _ _=>b
 | _=>[]
def rq(st:Stmt)(j:Nat):Stmt:=(rY st).getD j (.Pass ⟨0,0,0,0⟩)
theorem J5{K:Ip}{H:Hp} : ∀{ds:List D} {ns:List Int} {xs:List V},kX ds=some ns->Reps K H ds xs->xs=(ns.map Mu).map kV
 | [],ns,xs,e,r=>by cases e;exact r.inv_nil
 | d::ds,ns,xs,e,r=>by
  cases d with
  | int i=>
   obtain⟨l,e1,z⟩:=zA e;subst z;obtain⟨x,t,rfl,h1,h2⟩:=r.inv_cons;rw[J5 e1 h2,show x = .int i from h1];rfl
  | _=>cases e
theorem Xu{K:Ip}{H:Hp}{i:Int} : ∀{ks vs:List D} {kk:List Key} {xs:List V},du ks=some kk->kk.length=xs.length->Reps K H vs xs->
 (∀d,Xw ks vs i=some d->∃v,Vj (kk.zip xs) (Mu i)=some v/\Rep K H d v)/\(Xw ks vs i=none->Vj (kk.zip xs) (Mu i)=none)
 | [],vs,kk,xs,e,l,r=>by cases e;exact⟨(λd q=>by cases q),λ_=>rfl⟩
 | k::ks,[],kk,xs,e,l,r=>by rw[r.inv_nil]at l ⊢;rw[List.length_eq_zero_iff.mp l];exact⟨(λd q=>by cases q),λ_=>rfl⟩
 | k::ks,v::vs,kk,xs,e,l,r=>by
  obtain⟨I,e1,e2⟩:=ze e;obtain⟨O,e3,e4⟩:=zA e2;subst e4;obtain⟨x,U,rfl,h1,h2⟩:=r.inv_cons;have Y:=Xu (i:=i) e3 (by simpa using l) h2;have step:I≠Mu i->Vj ((I::O).zip (x::U)) (Mu i)=Vj (O.zip U) (Mu i):=λhn=>by rw[List.zip_cons_cons];simp[Vj,MY,hn]
  cases k with
  | int j=>
   cases e1;by_cases z:j=i
   ·subst z
    refine⟨λd q=>⟨x,?_,?_⟩,λq=>?_⟩
    ·rw[List.zip_cons_cons];exact QL rfl
    ·have:v=d:=by simpa[Xw]using q
     exact this ▸ h1
    ·simp[Xw]at q
   ·have hn:(Mu j:Key)≠Mu i:=λq=>z (Mu.inj q)
    rw[step hn];have e5:Xw (.int j::ks) (v::vs) i=Xw ks vs i:=by simp[Xw,z]
    rw[e5];exact Y
  | str y=>
   cases e1;rw[step (λq=>by cases q)];exact Y
  | _=>cases e1
def Zd(k:CO Bool)(F:CO Fl):Nat->CO Fl
 | 0,_=>none
 | n+1,γ=>(k γ).bind λb=>if b=true then (F γ).bind λz=>match z with
  | .next γ'=>Zd k F n γ'
  | .cont γ'=>Zd k F n γ'
  | .brk γ'=>some (.next γ')
  | .ret r=>some (.ret r)
  else some (.next γ)
def ml(n:Nat)(k:CO Bool)(F:CO Fl):CO Fl:=λγ=>Zd k F n γ
section
variable{X:Cx}{c:Expr}{body:List Stmt}{pos:Pos}{k:CO Bool}{F:CO Fl}
theorem cj(n:Nat)(hp:PassesOwn (model X.prog X.w) X.A X.env X.xe)(hc:PTD X c k)(hb:aQ X body F):PSD X (.While c body [] pos) (ml n k F):=
 ki (hU hp hc hb) λD σ H hZ=>by
  obtain⟨E0,E,H0,γ,U,rs,ef,Y⟩:=hZ;refine⟨λm σ H=>∃H0 γ,RS X.K E0 E H0 H σ γ/\Zd k F m γ=some U,⟨n,H0,γ,rs,ef⟩,λm σ1 H1 w1=>?_⟩;obtain⟨a8,γ1,rs1,e1⟩:=w1;cases m with
  | zero=>cases e1
  | succ m=>
   obtain⟨b,e2,I⟩:=ze (show(k γ1).bind _=some U from e1);refine⟨a8,γ1,b,rs1.rc,e2,λH2 a0 x2=>?_⟩;cases b with
   | true=>
    rw[RY rfl]at I ⊢;obtain⟨f1,e4,O⟩:=ze I;refine⟨λσ' H'=>∃H0 γ',RS X.K E0 E H0 H' σ' γ'/\Zd k F m γ'=some U,λσ' H' z=>⟨m,Mf m,z⟩,E0,E,a0,γ1,f1,rs1.step x2,e4,?_⟩;cases f1 with
    | next γ'=>exact λσ' H' H0' r=>⟨H0',γ',r,O⟩
    | cont γ'=>exact λσ' H' H0' r=>⟨H0',γ',r,O⟩
    | brk γ'=>cases O;exact Y
    | ret r=>
     cases O;cases r<;>exact Y
   | false=>
    rw[EQ IE]at I ⊢;cases I;exact Y σ1 H2 a0<|rs1.step x2
end
def BH(f:CO D)(γ:Ctx):Option (List D):=((f γ).bind asI).bind λn=>if inR n=true/\n.toNat<=lim then some (vc 0 n.toNat)else none
@[simp] def sP:=@BH.eq_1
def CC(ds es fs:List D):List D:=(ds.zip<|es.zip fs).map λp=>D.tup [p.1,p.2.1,p.2.2]
def Hr(f g h:CO D)(γ:Ctx):Option (List D):=((f γ).bind jf).bind λm=>((g γ).bind jf).bind λn=>((h γ).bind jf).map λo=>CC m.2 n.2 o.2
@[simp] def FC:=@Hr.eq_1
def gK(i:Nat)(g:CO (Sk×List D)):CO Fl:=λγ=>(qy γ[i]?).bind λds=>(g γ).bind λa=>match a.1 with
 | .T=>if ds.length+a.2.length<=lim then some (.next<|γ.set i<|.own<|ds++a.2)else none
 | .L=>none
end DL
namespace L2
open PySem PySem.Spec PyProof.Rows
theorem aC(l b:Addr)(z:Array Value)(n:Nat)(I:Array Value)(U:Nat)(o:Obj)(Y : ¬(!z.isEmpty && MP (z.size+I.size))=true)(a0:z.size<=sizeLine)(a1:z.size+I.size<=sizeLine+1) :
 Meets (Builtin.«list.extend» ⟨[.ref l,.ref b],[]⟩) (λ_ R s=>s.heap.get? l=some {cls:= .type "list",dict:=none,data:= .seq z n,slots:=#[]}/\s.heap.get? b=some o/\o.cls = .type "tuple"/\o.data = .seq I U/\R (.ok (.ret Nk)) {s with heap:=s.heap.update l (Obj.mapSeq λx=>x++I)}):=
 .of_wp λprog w A R s h=>by
  obtain⟨O,hb,hc,hd,h⟩:=h;have a3:(z++I).size<=sizeLine+1:=by rw[Array.size_append];exact a1
  refine Iq (m:=PySem.selfAndOne "list.extend" ⟨[.ref l,.ref b],[]⟩) (IA ?_);show wpAny _ _ (Builtin.List.listExtendWith (.ref l) (.ref b) .none) _ _ s;unfold Builtin.List.listExtendWith;refine Iq (m:=typeOf (.ref b)) (Of ⟨o,hb,hc⟩ ?_);have e1:(Builtin.List.listSameRef (.ref l) (.ref b) || ND "tuple" == ND "list" || ND "tuple" == ND "tuple")=true:=by simp
  rw[RY e1];refine Iq (m:=Builtin.List.listItems<|.ref b) ?_;unfold Builtin.List.listItems;refine Iq (m:=seqItems?<|.ref b)<|MI hb hd<|IA ?_;refine Iq ?_;refine Iq (m:=seqItems?<|.ref l)<|MI O rfl<|IA ?_;rw[EQ Y];exact Iq (m:=updateSeq l λx=>x++I)<|wpAny_updateSeq O rfl (hz:=a0) (_hz':=a3)<|IA ⟨_,rfl,h⟩
def Et(K:Ip):V->List V->Hp->VK->Prop:=λx vs H Q=>∃l b xs zs,x = .ref l/\vs=[.ref b]/\H l=some (.lst xs)/\SqT K H b zs/\xs.length+zs.length<=sizeLine/\Q .non (upd H l<|.lst<|xs++zs)
theorem pT{X:Cx}:MtM X "list.extend" (Et X.K):=by
 intro pins s σ H x vs v us Q I rx rv h;obtain⟨l,b,xs,zs,rfl,rfl,Y,hB,hz,q⟩:=h;cases rx;obtain⟨u,rfl,ru⟩:=rv.one;cases ru;obtain⟨z,O,n,r,hl,e⟩:=I.lstM Y;obtain⟨U,r2,⟨o,ho,hc,n2,hd⟩,a8⟩:=I.tuple hB;have HK:=r.length;have HJ:=r2.length;have hsz:O.toArray.size+U.toArray.size<=sizeLine:=by rw[IF,IF];omega
 have a6 : ¬(!O.toArray.isEmpty && MP (O.toArray.size+U.toArray.size))=true:=by rw[VQ hsz,Bool.and_false];exact IE
 refine Ob F.slot_list_extend ⟨_,e,rfl⟩ F.entry_list_extend (F.args_list_extend_2 _ _) (aC l b O.toArray n U.toArray n2 o a6 (by rw[IF];omega) ⋯) ⟨e,ho,hc,hd,?_⟩;exact⟨.non,_,I.lset (its':=O++U) Y e ⋯ (r.append r2) (by rw[LD];omega),rfl,q⟩
end L2
namespace DL
open PySem PySem.Spec PyProof.Rows L2
section
variable{X:Cx}{sc:Scope}{N L:List Str}{k:Nat}{a:Expr}{g:CO (Sk×List D)}{pos:Pos}
theorem gZ(i:Nat){x:Str}{apos cpos np:Pos}(h:SX X sc N L k)(c:Yd sc N i x=true)(ha:PQ X a g)(hs:starEach [a] X.env=[(false,eval a X.env)]:=by rfl)
 (a0:attributeBase (.Name x np) "extend" X.env (eval (.Name x np) X.env)=eval (.Name x np) X.env:=by rfl)
 (a1:((backTo cpos<|starEach [a] X.env).all (λx=> !x.1) && (backToKw cpos<|keywordEach [] X.env).all (λx=>x.1.isSome)
   && decide ([a].length+([]:List Keyword).length+(if ([]:List Keyword).isEmpty then 0 else 1)<30))=true:=by rfl)
 (a2:(apos.endLine==cpos.line)=true:=by rfl) (a3:swapsWith (.Call (.Attribute (.Name x np) "extend" apos) [a] [] cpos) none pos.line X.env=pure false:=by rfl) :
 PSD X (.Expr (.Call (.Attribute (.Name x np) "extend" apos) [a] [] cpos) pos) (gK i g):=
 ki (Xe (ir OE PySem.F.slot_list_extend PySem.F.type_list_extend pT (h.var c) (zX ha qa hs) a0 a1 a2 hs rfl) a3) λD σ H hZ=>by
  obtain⟨E0,E,H0,γ,fl,rs,z,a6⟩:=hZ;obtain⟨ds,e1,z⟩:=ze z;obtain⟨⟨kk,es⟩,e2,z⟩:=ze z;have e1:=xU e1;cases kk with
  | L=>cases z
  | T=>
   have z:(if ds.length+es.length<=lim then some (Fl.next<|γ.set i<|.own<|ds++es)else none)=some fl:=z;by_cases I:ds.length+es.length<=lim
   ·rw[RY I]at z;cases z
    obtain⟨l,xs,h1,h2,O,U⟩:=rs.rc.own i ds e1;refine⟨_,h1,.inl ⟨rfl,_,SqL.of O⟩,H0,γ,.T,es,rs.rc,e2,λb zs H' H0' x g1 g2 Y=>?_⟩;have hl:xs.length+zs.length<=sizeLine:=by
     rw[U.length,Y.length];have:lim<=sizeLine:=by decide
     omega
    refine⟨l,b,xs,zs,rfl,rfl,x.s1 _ _ O,g1,hl,?_⟩;have aa:=rs.step x;exact a6 _ _ _<|aa.rewrite (xs:=xs) e1 h1<|(U.mono x.s0).append Y
   ·rw[EQ I]at z;cases z
end
def Gn(f g:CO D)(γ:Ctx):Option (List D):=((f γ).bind jf).bind λm=>((g γ).bind jf).bind λn=>if m.2.length<=lim then some (Jq m.2 n.2)else none
@[simp] def Cp:=@Gn.eq_1
theorem Kw:typeLookup (.type "list") "keys" = pure none:=by rw[typeLookup_type,builtinLookup_eq_fast];kernel_rfl
theorem JA:entryFor table "list.__getattribute__" = some Builtin.«object.__getattribute__» :=
 entryFor_alias (id':="object.__getattribute__") (by kernel_rfl) (by first | rfl | decide +kernel) ⋯ (by kernel_rfl)
section
variable{prog:Program}{w:World}{A:Around}{E:RQ}{h:Heap}{g:Array GenState}{d:Drawn}{t:Nat}{os:OsState}{a:Addr}{o:Obj}
theorem ZL(hx:h.get? a=some ⟨.type "list",none,.seq vs nk,sl⟩)(O:A.handled=none)
 (U : ∀h' e t',(∀b u,h.get? b=some u->h'.get? b=some u)->(∃I,h'.get? e=some I/\I.cls = .type "AttributeError")->E (.ref e) ⟨h',g,d,t',os⟩) :
 wpAny (model prog w) A (Builtin.«object.__getattribute__» ⟨[.ref a,.str "keys" tk],[]⟩) Q E ⟨h,g,d,t,os⟩:=by
 have Y:(⟨h,g,d,t,os⟩:Shared).TypeIs (.ref a) "list":=⟨_,hx,rfl⟩;have f4:=Kw
 repeat (any_goals (first | assumption | wp_step))
 unfold raiseAttrError;have hm:((LR (toString "'" ++ toString ((Manifest.find? "list").elim "list" λx=>x.tpName)++toString "' object has no attribute '")++LR "keys" ++ LR "'"):Str).length<=sizeLine:=by decide +kernel
 generalize (LR (toString "'" ++ toString ((Manifest.find? "list").elim "list" λx=>x.tpName)++toString "' object has no attribute '")++LR "keys" ++ LR "'")=z at hm ⊢;refine Iq (wpAny_mkStr (hx:=hm) ?_);refine Iq ?_;unfold newExc newTuple;refine Iq (Mj ?_ (by size_fits));refine Iq (m:=firstArgMember _ _) (wpAny_of_eq (a:=Nk) (by first | rfl | (simp only[firstArgMember];rfl)) ?_);refine Mj ?_ (by size_fits);simp only[Ls];have he:((h.push {cls:= .type "tuple",data:= .seq #[.str z t]}).push {cls:= .type "AttributeError",data:= .fields (#[.ref h.objs.size,.none,.none,.none,.bool false,.none]++ownMembersOf (.type "AttributeError") [.str z t])}).get? (h.objs.size+1) =
  some {cls:= .type "AttributeError",data:= .fields (#[.ref h.objs.size,.none,.none,.none,.bool false,.none]++ownMembersOf (.type "AttributeError") [.str z t])}:=by heap_get
 have hk : ∀b u,h.get? b=some u->((h.push {cls:= .type "tuple",data:= .seq #[.str z t]}).push {cls:= .type "AttributeError",data:= .fields (#[.ref h.objs.size,.none,.none,.none,.bool false,.none]++ownMembersOf (.type "AttributeError") [.str z t])}).get? b=some u:=λb u e=>Ir _ (Ir _ e);have hn:h.get? (h.objs.size+1)=none:=Heap.get?_none_of_le (Nat.le_succ _);generalize ((h.push {cls:= .type "tuple",data:= .seq #[.str z t]}).push {cls:= .type "AttributeError",data:= .fields (#[.ref h.objs.size,.none,.none,.none,.bool false,.none]++ownMembersOf (.type "AttributeError") [.str z t])})=h2 at he hk ⊢;refine Iq (wpAny_mkText ?_);unfold noteAttr lacksNameAndObj;have a1:(⟨h2,g,d,t+1+1,os⟩:Shared).TypeIs (.ref (h.objs.size+1)) "AttributeError":=⟨_,he,rfl⟩;have ft:isSubtype (.type "AttributeError") (.type "AttributeError")=pure true:=by rw[isSubtype_type];kernel_rfl
 repeat (any_goals (first | assumption | with_reducible refine wpAny_loadPart_at he ?_ | with_reducible refine wpAny_load he ?_ | wp_step))
 refine wpAny_raiseNew_none O<|U _ _ _ (λb u e=>?_) ⟨_,Heap.get?_update_self _ he<|Obj.isFreed_of_fields<|PN rfl _,Obj.cls_mapFields ..⟩;rw[Heap.get?_update_other _ _ (λq=>by rw[<- q]at e;rw[hn]at e;cases e)];exact hk b u e
theorem Jw(hx:h.get? a=some ⟨.type "list",none,.seq vs nk,sl⟩)(I:A.handled=none)
 (O : ∀h' e t',(∀b u,h.get? b=some u->h'.get? b=some u)->(∃z,h'.get? e=some z/\z.cls = .type "AttributeError")->R (.error (.ref e)) ⟨h',g,d,t',os⟩) :
 codeAny (model prog w) A (.call (.builtin "list.__getattribute__") ⟨[.ref a,.str "keys" tk],[]⟩) R ⟨h,g,d,t,os⟩:=
 codeAny_call_builtin NO.plain JA (NO.check _ _ _ _ _ _ _ _ (show(⟨h,g,d,t,os⟩:Shared).TypeIs (.ref a) "list" from⟨_,hx,rfl⟩) (F.args_list_getattribute_2 _ _) (ZL hx I O))
theorem aj:typeLookup (.type "list") "__getattr__" = pure none:=by rw[typeLookup_type,builtinLookup_eq_fast];kernel_rfl
theorem df(hx:h.get? a=some ⟨.type "list",none,.seq vs nk,sl⟩)(z:A.handled=none)
 (I : ∀h' t',(∀b u,h.get? b=some u->h'.get? b=some u)->Q none ⟨h',g,d,t',os⟩):wpAny (model prog w) A (getAttr? (.ref a) "keys") Q E ⟨h,g,d,t,os⟩:=by
 have Y:(⟨h,g,d,t+1,os⟩:Shared).TypeIs (.ref a) "list":=⟨_,hx,rfl⟩;have f2:=NO.lookup;have f3:=NO.bind (.ref a);have f5:=aj;have ft:isSubtype (.type "AttributeError") (.type "AttributeError")=pure true:=by rw[isSubtype_type];kernel_rfl
 unfold getAttr? getAttrBy? getAttrBy
 repeat (any_goals (first | assumption | wp_step))
 refine Jw (g:=g) (d:=d) (os:=os) hx z λh' e t' hk he=>?_;obtain⟨O,he,U⟩:=he;have a4:(⟨h',g,d,t',os⟩:Shared).TypeIs (.ref e) "AttributeError":=⟨O,he,U⟩;have a5:=I h' t' hk;show wpAny _ _ (getattributeRaised _ _ _ _ _ _ _) _ _ _;unfold getattributeRaised hookOrError attributeErrorLeaves
 repeat (any_goals (first | assumption | wp_step))
end
def yW:List D->Option (List D×List D)
 | []=>some ([],[])
 | d::r=>match d with
  | .tup ds=>match ds with
   | [k,v]=>(yW r).map λp=>(k::p.1,v::p.2)
   | _=>none
  | _=>none
def ud(f:CO (List D))(γ:Ctx):Option D:=(f γ).bind λps=>(yW ps).bind λp=>rP p.1 p.2
@[simp] def Ct:=@ud.eq_1
def gM(fd fk:CO D):CO D:=λγ=>(fd γ).bind λd=>(fk γ).bind λk=>match d with
 | .dic ks vs=>(asI k).bind λi=>Xw ks vs i
 | _=>none
def bN(fk fd:CO D):CO D:=λγ=>(fk γ).bind λk=>(fd γ).bind λd=>match d with
 | .dic ks vs=>(asI k).map λi=> .bl (Xw ks vs i).isSome
 | _=>none
section
variable{X:Cx}{sc:Scope}{N L:List Str}{k:Nat}{a o i:Expr}{f:CO (List D)}{fd fk:CO D}{p pos:Pos}
theorem uF(h:SX X sc N L k)(Y:PV X o fd)(hi:PV X i fk)(hs:CA i:=by intro _ _;rfl):PV X (.Subscript o i pos) (gM fd fk):=
 qe (pw (by have:=h.u64;omega) Y hi hs) λσ H Q hZ=>by
  obtain⟨H0,γ,d,rc,z,q⟩:=hZ;obtain⟨d1,e1,z⟩:=ze z;obtain⟨k1,e2,z⟩:=ze z;cases d1 with
  | dic ks vs=>
   obtain⟨j,e3,e4⟩:=ze z;refine⟨H0,γ,_,rc,e1,λv H1 I x r=>⟨I,γ,_,rc.ext x,e2,λy H2 a5 O r2=>?_⟩⟩;obtain⟨ad,xs,rfl,⟨kk,g1,g2,g3⟩,g4⟩:=(show ∃a xs,v = .ref a/\DRp I a ks xs/\Reps X.K I vs xs from r);rw[qc e3]at r2;have hy:y = .int j:=r2;obtain⟨U,c3,c4⟩:=(Xu (i:=j) g1 g2<|g4.mono O.s0).1 d e4;refine⟨ad,U,rfl,?_,q U H2 a5 (x.trans O) c4⟩;rw[hy,<- c3];exact .inl ⟨_,Mu j,.inl<|O.s1 _ _<|x.sub _ _ g3,rfl,rfl⟩
  | _=>cases z
theorem oO(h:SX X sc N L k)(hi:PV X i fk)(ho:PV X o fd)(hm:behindInMarks .In o=false:=by with_unfolding_all rfl):PTD X (.Compare i [.In] [o] pos) (sB<|bN fk fd):=
 Yn (uM (Ab (by have:=h.u64;omega) hi ho) hm) λσ H Q hZ=>by
  obtain⟨H0,γ,b,rc,z,q⟩:=hZ;obtain⟨db,e0,eb⟩:=ze z;obtain⟨k1,e1,z⟩:=ze e0;obtain⟨d1,e2,z⟩:=ze z;cases d1 with
  | dic ks vs=>
   obtain⟨j,e3,e4⟩:=zA z;subst e4;cases eb;refine⟨H0,γ,_,rc,e1,λy H1 a9 x U=>⟨a9,γ,_,rc.ext x,e2,λv H2 I O r=>?_⟩⟩;obtain⟨ad,xs,rfl,⟨kk,g1,g2,Y⟩,g4⟩:=(show ∃a xs,v = .ref a/\DRp I a ks xs/\Reps X.K I vs xs from r);rw[qc e3]at U;have hy:y = .int j:=U;obtain⟨c1,c2⟩:=Xu (i:=j) g1 g2 g4;cases hv:Xw ks vs j with
   | none=>
    refine⟨ad,none,rfl,?_,_,rfl,?_⟩
    ·rw[hy,<- c2 hv]
     exact .inl ⟨_,Mu j,.inl<|O.sub _ _ Y,rfl,rfl⟩
    ·rw[hv]at q;exact q H2 I<|x.trans O
   | some dv=>
    obtain⟨vv,c3,c4⟩:=c1 dv hv;refine⟨ad,some vv,rfl,?_,_,rfl,?_⟩
    ·rw[hy,<- c3]
     exact .inl ⟨_,Mu j,.inl<|O.sub _ _ Y,rfl,rfl⟩
    ·rw[hv]at q;exact q H2 I<|x.trans O
  | _=>cases z
end
def mX:D->Option (List Int)
 | .tup ds=>kX ds
 | _=>none
def dr:List D->Option (List<|List Int)
 | []=>some []
 | d::ds=>(mX d).bind λk=>(dr ds).map λr=>k::r
def bM(f:CO (List D))(γ:Ctx):Option D:=(f γ).bind λps=>(yW ps).bind λp=>(dr p.1).bind λks=>if ks.Nodup/\ks.length<=lim then some (.dct ks p.2)else none
def aS:List (List Int)->List D->List Int->Option D
 | k::ks,v::vs,i=>if k=i then some v else aS ks vs i
 | _,_,_=>none
def oC(fd fk:CO D)(γ:Ctx):Option D:=(fd γ).bind λd=>(fk γ).bind λk=>match d with
 | .dct ks vs=>(mX k).bind λi=>aS ks vs i
 | _=>none
def rB(d k x:D):Option D:=match d with
 | .dct ks vs=>(mX k).map λi=>(aS ks vs i).getD x
 | _=>none
def gJ(fd fk fx:CO D)(γ:Ctx):Option D:=(fd γ).bind λd=>(fk γ).bind λk=>(fx γ).bind λx=>rB d k x
def Hw(f:CO D)(γ:Ctx):Option (List D):=(f γ).bind λd=>match d with
 | .dct ks _=>some (ks.map λk=> .tup (k.map .int))
 | _=>none
section
variable(γ:Ctx)
@[simp] def Cs:=@bM.eq_1
@[simp] def FW:=@oC.eq_1
@[simp] def FS:=@gJ.eq_1
@[simp] def FO:=@Hw.eq_1
end
theorem J2 : ∀{k:List Int} {us:List Value},Vals (k.map V.int) us->PySem.ItemsAre (intKind P w) k us
 | [],us,h=>by cases h;exact .nil
 | i::k,us,h=>by
  cases h with
  | cons h1 h2=>
   obtain⟨t,rfl⟩:=h1;exact .cons (by show Value.isInt i (.int i t)=true;simp[Value.isInt])<|J2 h2
section
variable{X:Cx}{pins:RW}{σ:St}{H:Hp}{s:Shared}
theorem yN(I:Inv X pins σ H s)(h:SqT X.K H b (k.map V.int)):(tupleKind<|intKind X.prog X.w).is s.heap k b:=by obtain⟨z,O,⟨o,U,Y,n,hd⟩,_⟩:=I.tuple h;exact⟨o,z.toArray,n,U,Y,hd,J2 O⟩
theorem ZT(I:Inv X pins σ H s)(e:H a=some (atO a o))(d:gf o xs)(hk : ∀x∈xs,SqT X.K H x.2.1<|x.1.map V.int):s.heap.DictOfH (tupleKind<|intKind X.prog X.w) a xs:=by obtain⟨z,_⟩:=(show ObjOk X.prog X.w H s.heap a (atO a o)from I.hok a _ e);obtain⟨O,es,U,Y,d3,d4⟩:=d;exact⟨o,es,U,z,O,Y,d3,λx hx=>yN I<|hk x hx,d4⟩
theorem mT{h:Heap}{P:Program}{w:World}{a:Addr}{xs:List (List Int×Addr×Value)}(d:h.DictOfH (tupleKind<|intKind P w) a xs) : ∃o,h.get? a=some o/\gf o xs:=by obtain⟨o,es,z,h1,h2,I,O,_,U⟩:=d;exact⟨o,h1,h2,es,z,I,O,U⟩
end
theorem fJ(e:h.get? a=some o):ObjOk P w H h a (atO a o):=⟨e,⟨o,e⟩,λh1 h2 p q=>q o p⟩
theorem Wl{K:Type} [DecidableEq K]{k:K} : ∀{xs:List (K×Addr×Value)},k∉xs.map (·.1)->atKey xs k=none
 | xs,h=>by unfold atKey;rw[Option.map_eq_none_iff,Ov];intro x hx z;exact h<|La.mpr ⟨x,hx,by simpa using z⟩
section
variable{X:Cx}{pins:RW}{σ:St}{A:Around}{R:Result->Shared->Prop}{H0:Hp}{l it d:Addr}{ks:List (List Int)}{ys xs:List V}
theorem aG(hh:A.handled=none)(hu:A.units+8<cLine)(hx:xs.length=ks.length)(hy:ys.length=ks.length)(nd:ks.Nodup)(hz:ks.length<=sizeLine)
 (hp : ∀(n:Nat) (h1:n<xs.length) (h2:n<ks.length) (h3:n<ys.length),∃p b,xs[n] = .ref p/\SqT X.K H0 p [.ref b,ys[n]]/\SqT X.K H0 b (ks[n].map V.int)) (be:H0 d=none) (bg:l≠d) : ∀(m n:Nat) (s:Shared) (H:Hp) (o:Obj) (es:List (List Int×Addr×Value)) (i:Int) (t:Tok),n+m=ks.length->
 Inv X pins σ H s->Same H0 H->H l=some (.lst xs)->s.heap.IsListIter it l n->Wr X pins H it->H d=some (atO d o)->gf o es->es.map (·.1)=ks.take n->(∀x∈es,SqT X.K H0 x.2.1<|x.1.map V.int)->Vals (ys.take n) (es.map (·.2.2))->
 (∀s' o' Y,gf o' Y->Y.map (·.1)=ks->(∀x∈Y,SqT X.K H0 x.2.1<|x.1.map V.int)->Vals ys (Y.map (·.2.2))->Inv X pins σ (upd H d<|atO d o') s'->R (.ok<|.ret .none) s')->
 codeAny (model X.prog X.w) A (.builtin "dict.update.loop" ⟨[.ref d,.ref it,.int i t,.none],[]⟩) R s:=by
 intro m
 induction m with
 | zero=>
  intro n s H o es i t hn I sub hl st O hd od U a5 a6 hR;obtain⟨z1,a9,c,rv,ll,el⟩:=I.lstM hl;refine codeAny_builtin yb ?_;unfold Builtin.«dict.update.loop»;have il:s.heap.IsList l a9.toArray:=⟨_,el,rfl,_,rfl⟩;refine Iq<|wpAny_pyNext_list_end (s:=s) hh st il (by simp;omega) λh' eb=>?_;refine Iq<|IA ?_;have e0:upd H d (atO d o)=H:=by
   funext c;by_cases q:c=d
   ·rw[q,zJ,hd]
   ·rw[zL q]
  have I':Inv X pins σ H {s with heap:=h'}:=I.turnedL (t':=s.toks) (fp:=[it]) (λb o hb e=>eb b o (by simpa using hb) e) (λb hb=>by rw[NK.mp hb];exact O);have:=hR {s with heap:=h'} o es od (by rw[U,Mq ⋯]) a5 (by rw[Mq ⋯]at a6;exact a6);rw[e0]at this;exact IA<|this I'
 | succ m ih=>
  intro n s H o es i t hn I sub hl st O hd od U a5 a6 hR;obtain⟨z1,a9,c,rv,ll,el⟩:=I.lstM hl;have il:s.heap.IsList l a9.toArray:=⟨_,el,rfl,_,rfl⟩;have ac:n<ks.length:=by omega
  obtain⟨p,b,ep,c1,an⟩:=hp n ⋯ ac ⋯;obtain⟨u,c2,ru⟩:=rv.get (Iv<|show n<xs.length by omega);rw[ep]at ru;have eu:u = .ref p:=ru;subst eu;refine codeAny_builtin yb ?_;unfold Builtin.«dict.update.loop»;refine Iq<|wpAny_pyNext_list_item (s:=s) st il (x:= .ref p) (by simpa using c2) λh' c4 sb=>?_;have I1:=I.turnedL (h':=h') (t':=s.toks) (fp:=[it]) (λb o hb e=>(sb.2 b<|by simpa using hb).trans e) (λb hb=>by rw[NK.mp hb];exact O);obtain⟨ts,rt,⟨o1,eo,co,nn,c7⟩,zt⟩:=I1.tuple<|sameT sub c1;obtain⟨u1,r3,rfl,c8,q2⟩ : ∃u1 r3,ts=u1::r3/\RelV (.ref b) u1/\Vals [ys[n]] r3:=by
   cases rt with
   | cons q1 q2=>exact⟨_,_,rfl,q1,q2⟩
  obtain⟨u2,rfl,ca⟩:=wC q2;have cb:u1 = .ref b:=c8;subst cb;have cd:({s with heap:=h'}:Shared).TypeIs (.ref p) "tuple":=⟨_,eo,co⟩;refine Iq (Os (Iq (wpAny_tryCatch ?_)));unfold Builtin.Dict.pairItems;refine Iq (Of cd ?_);rw[RY ⋯];refine Iq (MI eo c7 (IA ?_));show wpAny _ _ (holding [.ref b,u2] (dictSet d (.ref b) u2)) _ _ _;have dH:=ZT I1 hd od λx hx=>sameT sub (a5 x hx);have cf:=yN I1 (sameT sub an);have d5:es.length=n:=by have:=congrArg Po U;rw[IQ,Nl]at this;omega
  have ch:ks[n]∉es.map (·.1):=by rw[U];intro z;obtain⟨j,hj,e⟩:=Pp z;rw[List.getElem_take]at e;rw[Nl]at hj;exact MS.mp nd j n ⋯ ac ⋯ e
  refine Os (wpAny_dictSet_heap (hsz:=by omega) (show(A.under _).units<cLine from by rw[show(A.under (Code.builtin "dict.update.loop" _)).units=A.units+1 from rfl];omega) cf dH λcl as hs=>?_);rw[storedH_new (Wl ch)]at as;obtain⟨o',ax,cm⟩:=mT as;have I2:=I1.write (x:=d) (e:=d) (o:=atO d o') (t':=s.toks+(tupleKind (intKind X.prog X.w)).draws ks[n]) (h':=cl) (by rw[hd];exact MF) (.inl rfl) (λb q hb z=>(hs.2 b hb).trans z) ⟨_,ax⟩ (fJ ax);have b0:it≠d:=λq=>by have:=O.1;rw[q,hd]at this;cases this
  have tk:ks.take (n+1)=ks.take n++[ks[n]]:=by rw[List.take_succ,Iv ac];rfl
  have ty:ys.take (n+1)=ys.take n++[ys[n]]:=by rw[List.take_succ,Iv ⋯];rfl
  refine IA ⟨k4 _,ih (n+1) _ _ o' _ (i+1) 0 ⋯ I2 (λc o e=>?_) (by rw[zL bg];exact hl) (c4.at λo q=>(hs.2 it b0).trans q) ⟨by rw[zL b0];exact O.1,O.2⟩ zJ cm ?_ ?_ ?_ λs' o3 cs a1 a2 a3 a4 I3=>hR s' o3 cs a1 a2 a3 a4 ?_⟩
  ·rw[zL (λq=>by rw[q,be]at e;cases e)];exact sub _ _ e
  ·rw[Lx,U,tk];rfl
  ·intro x hx
   rcases NL.mp hx with z | z
   ·exact a5 x z
   ·rw[NK.mp z];exact an
  ·rw[Lx,ty]
   exact a6.append<|.cons ca .nil
  ·rw[Zf]at I3;exact I3
theorem aJ(I:Inv X pins σ H s)(hh:X.A.handled=none)(hu:X.A.units+64<cLine)(sub:Same H0 H)(z:H l=some (.lst xs))(hx:xs.length=ks.length)(hy:ys.length=ks.length)(nd:ks.Nodup)
 (hp : ∀(n:Nat) (h1:n<xs.length) (h2:n<ks.length) (h3:n<ys.length),∃p b,xs[n] = .ref p/\SqT X.K H0 p [.ref b,ys[n]]/\SqT X.K H0 b (ks[n].map V.int)) (hz:ks.length<=sizeLine)
 (hQ : ∀s' p o es,H p=none->(p==sysModules)=false->gf o es->es.map (·.1)=ks->(∀x∈es,SqT X.K H0 x.2.1 (x.1.map V.int))->Vals ys (es.map (·.2.2))->Inv X pins σ (upd H p (atO p o)) s'->Q (.ref p) s'):wpAny (model X.prog X.w) X.A (call (.type "dict") [.ref l]) Q X.xe s:=by
 have O:H s.heap.objs.size=none:=I.fresh;have ag:H0 s.heap.objs.size=none:=jP sub O;have a5:l≠s.heap.objs.size:=λq=>by rw[q,O]at z;cases z
 have am:(s.heap.objs.size==sysModules)=false:=beq_eq_false_iff_ne.mpr (MJ I.big);refine callType_codes (Q₁:=λobj s₁=>obj = .ref s.heap.objs.size/\s₁ = {s with heap:=s.heap.push {cls:= .type "dict",data:= .dict #[]}}) F.kt_called_dict (F.kt_typeCall_dict_1 _) F.entry_dict_init (kt_code_dict_new _ ⟨rfl,rfl⟩) ?_;rintro obj s₁ ⟨rfl,rfl⟩;have I1:=I.laid (a:=s.heap.objs.size) (o:=atO s.heap.objs.size {cls:= .type "dict",data:= .dict #[]}) (t':=s.toks) (λ_ _ q=>Ir {cls:= .type "dict",data:= .dict #[]} q) (IC _) (fJ (IR _ rfl));have a7:({s with heap:=s.heap.push {cls:= .type "dict",data:= .dict #[]}}:Shared).TypeIs (.ref s.heap.objs.size) "dict":=⟨_,IR _ rfl,rfl⟩;obtain⟨z1,a8,c,rv,ll,el⟩:=I.lstM z;have U:(s.heap.push {cls:= .type "dict",data:= .dict #[]}).get? l=some {cls:= .type "list",data:= .seq a8.toArray c}:=Ir _ el;refine⟨a7,F.args_dict_init_2 _ _,?_⟩;unfold Builtin.«dict.__init__»;refine Iq ?_;unfold Builtin.Dict.selfAndRest;refine Iq (wpAny_notOrdered_dict a7 ?_);show wpAny _ _ (pure (s.heap.objs.size,[Lq l])) _ _ _;refine IA ?_;show wpAny _ _ (Builtin.Dict.updateFrom "dict.__init__" s.heap.objs.size (.ref l) [] .none) _ _ _;unfold Builtin.Dict.updateFrom;refine Iq (Of (T:="list") ⟨_,U,rfl⟩ ?_);rw[RY ⋯];refine Iq (df (g:=s.gens) (d:=s.drawn) (t:=s.toks) (os:=s.os) U (show X.A.in1.in1.handled=none from hh) λh' t' k=>?_);have Y:Inv X pins σ (upd H s.heap.objs.size (atO s.heap.objs.size {cls:= .type "dict",data:= .dict #[]})) {s with heap:=h',toks:=t'}:=I1.kept k;have ap:=k _ _ U;simp only[Option.isNone_none,if_true];refine Iq (Ox (Iq (Rm (items:=a8.toArray) ⟨_,ap,rfl,_,rfl⟩ ?_)));refine IA ⟨k4 _,?_⟩;have I3:=Y.kept (h':=h'.push {cls:= .type "list_iterator",data:= .fields #[.ref l,.int 0 0]}) (t':=t') λb o e=>Ir _ e;have fp:=Y.fpOk (b:=h'.objs.size) (H':=upd H s.heap.objs.size (atO s.heap.objs.size {cls:= .type "dict",data:= .dict #[]})) (IC _) Y.fresh;refine aG (H0:=H0) (l:=l) (it:=h'.objs.size) (ks:=ks) (ys:=ys) (xs:=xs) (show X.A.in1.handled=none from hh) (by show X.A.in1.units+8<cLine;rw[units_in1];omega) hx hy nd hz hp ag a5 ks.length 0 _ (upd H s.heap.objs.size (atO s.heap.objs.size {cls:= .type "dict",data:= .dict #[]})) {cls:= .type "dict",data:= .dict #[]} [] 0 0 (NH _) I3 (sub.trans (zW O _)) (by rw[zL a5];exact z) ⟨_,IR _ rfl,rfl,rfl⟩ fp zJ ⟨⟨rfl,rfl,rfl⟩,#[],0,rfl,rfl,List.nodup_nil⟩ rfl (λx hx=>nomatch hx) .nil λs' o' as a1 a2 a3 a4 I4=>?_;rw[Zf]at I4;exact⟨rfl,hQ s' _ o' as O am a1 a2 a3 a4 I4⟩
end
theorem wQ{K:Ip}{H:Hp}{d:D}{k:List Int}{v:V}(e:mX d=some k)(r:Rep K H d v) : ∃b,v = .ref b/\SqT K H b (k.map V.int):=by
 cases d with
 | tup ds=>
  obtain⟨b,zs,rfl,z,I⟩:=kY r;have:=J5 e I;refine⟨b,rfl,?_⟩;rw[this]at z;simpa[kV,LA,Pu]using z
 | _=>cases e
theorem JH{K:Ip}{H:Hp} : ∀{ps ks vs:List D} {xs:List V} {ns:List (List Int)},yW ps=some (ks,vs)->Reps K H ps xs->dr ks=some ns->
 ∃ys,Reps K H vs ys/\ys.length=ns.length/\xs.length=ns.length/\∀(n:Nat) (h1:n<xs.length) (h2:n<ns.length) (z:n<ys.length),∃p b,xs[n] = .ref p/\SqT K H p [.ref b,ys[n]]/\SqT K H b (ns[n].map V.int)
 | [],ks,vs,xs,ns,h,r,hi=>by cases h;cases hi;rw[r.inv_nil];exact⟨[],Reps.nil,rfl,rfl,λn h1=>by cases h1⟩
 | d::ps,ks,vs,xs,ns,h,r,hi=>by
  unfold yW at h;split at h
  ·split at h
   ·rename_i k v
    obtain⟨⟨a,b⟩,e1,I⟩:=zA h;cases I;obtain⟨x,xr,rfl,h1,h2⟩:=r.inv_cons;obtain⟨j,O,U⟩:=ze hi;obtain⟨nr,Y,e4⟩:=zA U;subst e4;obtain⟨ys,i1,i2,i3,i4⟩:=JH e1 h2 Y;obtain⟨q,zs,rfl,z,h4⟩:=kY h1;obtain⟨y1,yr,rfl,h5,h6⟩:=h4.inv_cons;obtain⟨y2,ax,rfl,h7,h8⟩:=h6.inv_cons;obtain⟨kb,rfl,ae⟩:=wQ O h5;rw[h8.inv_nil]at z;refine⟨y2::ys,Reps.cons h7 i1,by simp[i2],by simp[i3],λn g1 g2 g3=>?_⟩;cases n with
    | zero=>exact⟨q,kb,rfl,z,ae⟩
    | succ n=>exact i4 n (by simpa using g1) (by simpa using g2) (by simpa using g3)
   ·cases h
  ·cases h
section
variable{X:Cx}{sc:Scope}{N L:List Str}{k:Nat}{a o i:Expr}{f:CO (List D)}{fd fk:CO D}{p pos:Pos}
theorem VB(h:SX X sc N L k)(cd:vM sc "dict" = true)(zd:X.mg "dict" = none)(ha:PO X a f)(hs:starEach [a] X.env=[(false,eval a X.env)]:=by rfl) :
 PV X (.Call (.Name "dict" p) [a] [] pos) (bM f):=by
 intro pins s σ H Q I Y;obtain⟨H0,γ,d,rc,O,q⟩:=Y;obtain⟨ps,e1,O⟩:=ze O;obtain⟨⟨ds,es⟩,e2,O⟩:=ze O;obtain⟨ks,e3,O⟩:=ze O;have hh:X.A.handled=none:=I.ok.hd h.calm;by_cases hc:ks.Nodup/\ks.length<=lim
 ·rw[RY hc]at O
  cases O;refine Call_<|yC I (h.gl cd).1 zd PyProof.Rows.boot_dict (Ma ?_ (by rw[hs];rfl) rfl);rw[hs];show wpAny _ _ (spliced ((false,eval a X.env)::[])) _ _ s;refine Np<|thn (ha pins s σ H (λv H1=>∃l xs z,v = .ref l/\Ext H0 H z H1/\z l=none/\H1 l=some (.lst xs)/\Reps X.K z ps xs) I ⟨H0,γ,ps,rc,e1,λl xs H1 z x1 g1 g2 g3 g4=>⟨l,xs,z,rfl,x1,g2,g3,g4⟩⟩) λv s1 Y=>?_;obtain⟨y,H1,I1,ry,l,xs,z,rfl,x1,g2,g3,g4⟩:=Y;cases ry;refine OH ?_;obtain⟨ys,r1,r2,r3,r4⟩:=JH e2 g4 e3;have:lim<=sizeLine:=by decide
  refine aJ (H0:=z) (ks:=ks) (ys:=ys) (xs:=xs) I1 hh h.u64 x1.sub g3 r3 r2 hc.1 r4 ⋯ λs' p ob zs U ax a1 a2 a3 a4 I3=>?_;have a8:Same z (upd z p<|atO p ob):=zW (jP x1.sub U) _;exact⟨.ref p,_,I3,rfl,q (.ref p) _ _ ((x1.trans<|Ext.hide x1.sub U _).show (ZF x1.s1 U) (jP x1.sub U) zJ rc.sub)
   (show ∃a xs,V.ref p = .ref a/\DRt X.K (upd z p _) a ks xs/\Reps X.K (upd z p _) es xs from⟨p,ys,rfl,⟨ax,ob,zs,zJ,a1,a2,by have:=congrArg Po a2;rw[IQ]at this;omega,λx hx=>sameT a8<|a3 x hx,a4⟩,r1.mono a8⟩)⟩
 ·rw[EQ hc]at O;cases O
end
theorem YQ{K:Ip}{H:Hp}{i:List Int} : ∀{xs:List (List Int×Addr×Value)} {vs:List D} {ys:List V},Reps K H vs ys->Vals ys (xs.map (·.2.2))->
 (∀d,aS (xs.map (·.1)) vs i=some d->∃y p,atKey xs i=some p/\Rep K H d y/\RelV y p.2)/\(aS (xs.map (·.1)) vs i=none->atKey xs i=none)
 | [],vs,ys,r,v=>⟨(λd q=>by cases q),λ_=>rfl⟩
 | x::xs,vs,ys,r,v=>by
  cases v with
  | cons I O=>
   cases vs with
   | nil=>have:=r.inv_nil;cases this
   | cons d vs=>
    obtain⟨y,Y,e,h1,h2⟩:=r.inv_cons;cases e;have U:=YQ (i:=i) h2 O;by_cases hx:x.1=i
    ·have e1:atKey (x::xs) i=some x.2:=by unfold atKey;rw[OV (by simpa using hx)];rfl
     have z:aS ((x::xs).map (·.1)) (d::vs) i=some d:=by show(if x.1=i then _ else _)=_;rw[RY hx]
     rw[e1,z];exact⟨λd' q=>by cases q;exact⟨_,x.2,rfl,h1,I⟩,λq=>by cases q⟩
    ·have e1:atKey (x::xs) i=atKey xs i:=by unfold atKey;rw[OW (by simpa using hx)]
     have z:aS ((x::xs).map (·.1)) (d::vs) i=aS (xs.map (·.1)) vs i:=by show(if x.1=i then _ else _)=_;rw[EQ hx]
     rw[e1,z];exact U
section
variable{X:Cx}{sc:Scope}{N L:List Str}{k:Nat}{a b o i:Expr}{fd fk fx:CO D}{p pos apos cpos:Pos}
theorem bY(h:SX X sc N L k)(ho:PV X o fd)(hi:PV X i fk)(hs:CA i:=by intro _ _;rfl):PV X (.Subscript o i pos) (oC fd fk):=by
 intro pins s σ H Q I Y;obtain⟨H0,γ,d,rc,O,q⟩:=Y;obtain⟨d1,e1,O⟩:=ze O;obtain⟨k1,e2,O⟩:=ze O;cases d1 with
 | dct ks vs=>
  obtain⟨j,e3,e4⟩:=ze O;refine bA PySem.F.slot_dict_getitem.lookup hs<|thn (ho pins s σ H (λv H1=>∃z,Ext H0 H z H1/\Rep X.K z (.dct ks vs) v) I ⟨H0,γ,_,rc,e1,λv H1 z x r=>⟨z,x,r⟩⟩) λu s1 Y=>?_;obtain⟨v,H1,I1,r1,z,x1,rp⟩:=Y;refine thn (hi pins s1 σ H1 (λv H2=>∃U,Ext z H1 U H2/\Rep X.K U k1 v) I1 ⟨z,γ,_,rc.ext x1,e2,λv H2 U x r=>⟨U,x,r⟩⟩) λu2 s2 Y=>?_;obtain⟨v2,H2,I2,r2,U,x2,ag⟩:=Y;obtain⟨ad,ys,rfl,⟨g0,ob,zs,g1,g2,g3,g4,g5,g6⟩,g7⟩:=(show ∃a xs,v = .ref a/\DRt X.K z a ks xs/\Reps X.K z vs xs from rp);subst g3;cases (show u=Lq ad from r1);obtain⟨b,rfl,hb⟩:=wQ e3 ag;cases (show u2=Lq b from r2);have a2:Same z H2:=x2.s0.trans x2.sub;have dH:=ZT I2 (a2 _ _ g1) g2 λx hx=>sameT a2<|g5 x hx;obtain⟨y,p,c1,c2,c3⟩:=(YQ (g7.mono x2.s0) g6).1 d e4;exact⟨dH.typeIs,wpAny_getItem_heap (NV (by have:=h.u64;omega)) (yN I2<|sameT x2.sub hb) dH c1 ⟨y,H2,I2.tok _,c3,q y H2 U (x1.trans x2) c2⟩⟩
 | _=>cases O
theorem Yk(h:SX X sc N L k)(ho:PV X o fd)(ha:PV X a fk)(hb:PV X b fx)(m:M2 X o "get" apos a b cpos:=by exact⟨by rfl,by rfl,by rfl,by rfl⟩):PV X (.Call (.Attribute o "get" apos) [a,b] [] cpos) (gJ fd fk fx):=by
 intro pins s σ H Q I Y;obtain⟨H0,γ,d,rc,O,q⟩:=Y;obtain⟨d1,e1,O⟩:=ze O;obtain⟨k1,e2,O⟩:=ze O;obtain⟨w1,e5,O⟩:=ze O;cases d1 with
 | dct ks vs=>
  obtain⟨j,e3,e4⟩:=zA O;subst e4;refine wpAny_Call_method m.base m.few m.line PySem.F.plainAttrs_dict PySem.F.slot_dict_get PySem.F.type_dict_get<|thn (ho pins s σ H (λv H1=>∃z,Ext H0 H z H1/\Rep X.K z (.dct ks vs) v) I ⟨H0,γ,_,rc,e1,λv H1 z x r=>⟨z,x,r⟩⟩) λu s1 Y=>?_;obtain⟨v,H1,I1,r1,z,x1,rp⟩:=Y;obtain⟨ad,ys,rfl,⟨g0,ob,zs,g1,g2,g3,g4,g5,g6⟩,g7⟩:=(show ∃a xs,v = .ref a/\DRt X.K z a ks xs/\Reps X.K z vs xs from rp);subst g3;cases (show u=Lq ad from r1);have a7:=ZT I1 (x1.sub _ _ g1) g2 λx hx=>sameT x1.sub<|g5 x hx;refine⟨a7.typeIs,dictOfH_noDict a7,?_⟩;rw[m.trees];refine Calls.callWith_builtin rfl<|Calls.evalArgs_plain<|Np<|thn (ha pins s1 σ H1 (λv H2=>∃a0,Ext z H1 a0 H2/\Rep X.K a0 k1 v) I1 ⟨z,γ,_,rc.ext x1,e2,λv H2 a0 x r=>⟨a0,x,r⟩⟩) λu2 s2 Y=>?_;obtain⟨v2,H2,I2,r2,a0,x2,bg⟩:=Y;refine Np<|thn (hb pins s2 σ H2 (λv U=>∃a1,Ext a0 H2 a1 U/\Rep X.K a1 w1 v) I2 ⟨a0,γ,_,(rc.ext x1).ext x2,e5,λv U a1 x r=>⟨a1,x,r⟩⟩) λu3 s3 Y=>OH ?_;obtain⟨v3,U,I3,r3,a1,x3,bl⟩:=Y;obtain⟨kb,rfl,bm⟩:=wQ e3 bg;cases (show u2=Lq kb from r2);have xx:=x2.trans x3;have ac:Same z U:=xx.s0.trans xx.sub;have dH:=ZT I3 (ac _ _ g1) g2 λx hx=>sameT ac<|g5 x hx;refine call_meetsIn PySem.F.slot_dict_get dH.typeIs PySem.F.entry_dict_get (PySem.F.args_dict_get_3 _ _ _) (meetsH_dict_get_default (tupleKind<|intKind X.prog X.w) ad kb g0 u3) ⟨NV (by have:=h.u64;omega),j,zs,yN I3<|sameT (x3.s0.trans x3.sub) bm,dH,?_⟩;obtain⟨c1,c2⟩:=YQ (i:=j) (g7.mono xx.s0) g6;cases hv:aS (zs.map (·.1)) vs j with
  | none=>
   rw[hv]at q;rw[c2 hv];exact⟨v3,U,I3.tok _,r3,q v3 U a1 (x1.trans xx) bl⟩
  | some dv=>
   rw[hv]at q;obtain⟨y,p,f1,f2,f3⟩:=c1 dv hv;rw[f1];exact⟨y,U,I3.tok _,f3,q y U a1 (x1.trans xx) f2⟩
 | _=>cases O
end
def dX:List (List Int)->List Int->List Int->Option Int
 | k::ks,n::ns,i=>if k=i then some n else dX ks ns i
 | _,_,_=>none
def eqT(ks:List (List Int))(ns:List Int)(z:List (List Int))(I:List Int):Bool:=decide (ks.length=z.length) && (ks.zip ns).all λx=>decide<|dX z I x.1=some x.2
def rK(d e:D):Option Bool:=match d with
 | .dct ks vs=>match e with
  | .dct z I=>(kX vs).bind λns=>(kX I).map λO=>eqT ks ns z O
  | _=>none
 | _=>none
@[simp] def Ci(d e:D):Option D:=(rK d e).map D.bl
@[simp] def Im(d e:D):Option D:=(rK d e).map λb=>D.bl<|!b
def IntV:List (List Int×Addr×Value)->List Int->Prop
 | [],[]=>True
 | x::xs,n::ns=>(∃t,x.2.2 = .int n t)/\IntV xs ns
 | _,_=>False
theorem YM{K:Ip}{H:Hp} : ∀{xs:List (List Int×Addr×Value)} {vs:List D} {ys:List V} {ns:List Int},kX vs=some ns->Reps K H vs ys->Vals ys (xs.map (·.2.2))->IntV xs ns
 | [],vs,ys,ns,e,r,v=>by
  cases v;cases vs with
  | nil=>cases e;trivial
  | cons d vs=>obtain⟨_,_,q,_⟩:=r.inv_cons;cases q
 | x::xs,vs,ys,ns,e,r,v=>by
  cases v with
  | cons z I=>
   cases vs with
   | nil=>have:=r.inv_nil;cases this
   | cons d vs=>
    obtain⟨y,Y,q,h1,h2⟩:=r.inv_cons;cases q;cases d with
    | int j=>
     obtain⟨nr,O,U⟩:=zA e;subst U;rw[jW h1]at z;exact⟨z,YM O h2 I⟩
    | _=>cases e
theorem IntV.length : ∀{xs:List (List Int×Addr×Value)} {ns:List Int},IntV xs ns->ns.length=xs.length
 | [],[],_=>rfl
 | x::xs,n::ns,h=>by simp[h.2.length]
theorem IntV.at : ∀{xs:List (List Int×Addr×Value)} {ns:List Int} (h:IntV xs ns) {i:Nat} {x:List Int×Addr×Value},xs[i]? = some x->∃n t,ns[i]? = some n/\x.2.2 = .int n t
 | x::xs,n::ns,h,0,y,e=>by cases e;obtain⟨t,q⟩:=h.1;exact⟨n,t,rfl,q⟩
 | x::xs,n::ns,h,i+1,y,e=>h.2.at (i:=i) (by simpa using e)
theorem IntV.get : ∀{xs:List (List Int×Addr×Value)} {ns:List Int},IntV xs ns->(xs.map (·.1)).Nodup->∀{k:List Int},(∀(j:Nat) (p:Addr×Value),xs[j]? = some (k,p)->∃n t,dX (xs.map (·.1)) ns k=some n/\p.2 = .int n t)/\((∀(j:Nat) (p:Addr×Value),xs[j]? ≠ some (k,p))->dX (xs.map (·.1)) ns k=none)
 | [],[],_,_,k=>⟨λj p e=>by simp at e,λ_=>rfl⟩
 | x::xs,n::ns,h,nd,k=>by
  have z:=MW.mp nd;obtain⟨O,U⟩:=h.2.get z.2 (k:=k);have Y:dX ((x::xs).map (·.1)) (n::ns) k=if x.1=k then some n else dX (xs.map (·.1)) ns k:=rfl;rw[Y];by_cases hx:x.1=k
  ·rw[RY hx]
   refine⟨λj p e=>?_,λq=>absurd (show(x::xs)[0]? = some (k,x.2)by rw[<- hx];rfl)<|q 0 x.2⟩;cases j with
   | zero=>
    have:x=(k,p):=by simpa using e
    obtain⟨t,I⟩:=h.1;exact⟨n,t,rfl,by rw[this]at I;exact I⟩
   | succ j=>
    exfalso;have e':xs[j]? = some (k,p):=by simpa using e
    exact z.1<|La.mpr ⟨(k,p),Mi e',hx.symm⟩
  ·rw[EQ hx]
   refine⟨λj p e=>?_,λq=>U λj p e=>q (j+1) p<|by simpa using e⟩;cases j with
   | zero=>
    have:x=(k,p):=by simpa using e
    exact absurd (by rw[this]) hx
   | succ j=>exact O j p (by simpa using e)
section
variable{prog:Program}{w:World}{A:Around}{E:RQ}{s:Shared}{a b:Addr}{oa ob:Obj}{xs ys:List (List Int×Addr×Value)}{ns ms:List Int}
theorem WN{id:String}{Q:Bool->Shared->Prop}(hu:A.units<cLine)(sa:(a==sysModules)=false)(sb:(b==sysModules)=false)(ha:s.heap.get? a=some oa)(hb:s.heap.get? b=some ob)(da:gf oa xs)(db:gf ob ys)
 (ka : ∀x∈xs,(tupleKind<|intKind prog w).is s.heap x.1 x.2.1) (kb : ∀x∈ys,(tupleKind<|intKind prog w).is s.heap x.1 x.2.1) (va:IntV xs ns) (vb:IntV ys ms) (O:Q (eqT (xs.map (·.1)) ns (ys.map (·.1)) ms) s) :
 wpAny (model prog w) A (Oq id a b) Q E s:=by
 obtain⟨a1,es,ep,U,a3,a4⟩:=da;obtain⟨b1,fs,fp,b2,b3,b4⟩:=db;have a7:es.size=xs.length:=by rw[<- Nd,a3,IQ]
 have a8:fs.size=ys.length:=by rw[<- Nd,b3,IQ]
 unfold Oq Builtin.Dict.showsAll;rw[EQ (by rw[sa];exact IE),EQ (by rw[sb];exact IE)];refine Iq<|IA ?_;refine Iq<|IA ?_;refine Iq<|OX ha U ?_;refine Iq<|OX hb b2 ?_;by_cases Y:xs.length=ys.length
 ·rw[EQ (by rw[a7,a8,Y];simp)]
  refine Iq<|wpAny_dictEpoch ha U ?_;refine Iq ?_;rw[Std.Legacy.Range.forIn_eq_forIn_range'];simp only[Std.Legacy.Range.size,Nat.sub_zero,Nat.add_sub_cancel,Nat.div_one];let ok:List Int×Int->Bool:=λx=>decide<|dX (ys.map (·.1)) ms x.1=some x.2;have c1:((xs.map (·.1)).zip ns).length=xs.length:=by have:=va.length;simp;omega
  have a9:eqT (xs.map (·.1)) ns (ys.map (·.1)) ms=((xs.map (·.1)).zip ns).all ok:=by unfold eqT;rw[decide_eq_true (by simpa using Y),OP]
  refine wpAny_forIn_list _ (λxJ r s'=>s'=s/\r=(none,())/\∃i,xJ=Ng i (es.size - i)/\i<=es.size/\(((xs.map (·.1)).zip ns).take i).all ok=true) _ ?_ ?_ _ _ ⟨rfl,rfl,0,by simp,MN _,rfl⟩
  ·rintro x xJ r s' ⟨rfl,rfl,i,I,hi,hok⟩
   have b0:i<es.size:=by
    rcases IJ i es.size with h | h
    ·exact h
    ·rw[Nat.sub_eq_zero_of_le h]at I;simp at I
   obtain⟨rfl,b9⟩:x=i/\xJ=Ng (i+1) (es.size - (i+1)):=by
    have e:es.size - i=(es.size - (i+1))+1:=by omega
    rw[e,MA]at I;injection I with h1 h2;exact⟨h1,h2⟩
   have a0:x<xs.length:=by omega
   have bb:es[x]? = some ⟨nV xs[x].1,.ref xs[x].2.1,xs[x].2.2⟩:=by rw[<- Array.getElem?_toList,a3,Lo,Iv a0];rfl
   obtain⟨n,t,hn,hv⟩:=va.at<|Iv a0;have hz:((xs.map (·.1)).zip ns)[x]? = some (xs[x].1,n):=List.getElem?_zip_eq_some.mpr ⟨by rw[Lo,Iv a0];rfl,hn⟩;have be:((xs.map (·.1)).zip ns).take (x+1)=((xs.map (·.1)).zip ns).take x++[(xs[x].1,n)]:=by rw[List.take_succ,hz];rfl
   have bg:(xs[x].1,n)∈(xs.map (·.1)).zip ns:=Mi hz;refine Iq<|OX ha U ?_;rw[bb];refine Iq<|Os ?_;obtain⟨g1,g2⟩:=vb.get b4 (k:=xs[x].1);have aa:ok (xs[x].1,n)=false->Q false s':=λz=>by have:((xs.map (·.1)).zip ns).all ok=false:=List.all_eq_false.mpr ⟨_,bg,by rw[z];decide⟩;rw[<- this,<- a9];exact O
   refine Iq<|wpAny_dictFind_heap (knd:=tupleKind<|intKind prog w) hu (ka _<|LU a0) hb b2 b3 kb b4 (λbl=>?_) λj p hj=>?_
   ·refine IA ?_
    show wpAny _ _ (pure<|ForInStep.done (some false,())) _ _ _;refine IA<|IA<|aa ?_;show decide (dX (ys.map (·.1)) ms xs[x].1=some n)=false;rw[g2 bl];rfl
   ·obtain⟨n',t',h1,h2⟩:=g1 j p hj
    have bm:fs[j]? = some ⟨nV xs[x].1,.ref p.1,p.2⟩:=by rw[<- Array.getElem?_toList,b3,Lo,hj];rfl
    refine Iq<|OX hb b2 ?_;rw[bm];refine Os ?_;dsimp only;rw[hv,h2];refine wpAny_eqBool_int ?_;have eo:ok (xs[x].1,n)=(n==n'):=by
     show decide (dX (ys.map (·.1)) ms xs[x].1=some n)=_;rw[h1];by_cases q:n=n'
     ·subst q;simp
     ·simp[q,Ly q]
    by_cases q:(n==n')=true
    ·rw[q]
     refine Iq<|wpAny_dictEpoch ha U ?_;rw[EQ ⋯];refine IA ⟨rfl,rfl,x+1,b9,b0,?_⟩;rw[be,List.all_append,hok];simp[eo,q]
    ·rw[Bool.eq_false_iff.mpr q]
     show wpAny _ _ (pure<|ForInStep.done (some false,())) _ _ _;exact IA (IA<|aa<|by rw[eo];exact Bool.eq_false_iff.mpr q)
  ·rintro r s' ⟨rfl,rfl,i,I,hi,hok⟩
   have c2:i=es.size:=by
    rcases IJ i es.size with h | h
    ·have e:es.size - i=(es.size - (i+1))+1:=by omega
     rw[e,MA]at I;exact nomatch I
    ·exact Nat.le_antisymm hi h
   refine IA ?_;rw[Mq ⋯]at hok;rw[a9,hok]at O;exact O
 ·rw[RY (by rw[a7,a8];simpa using Y)]
  have:eqT (xs.map (·.1)) ns (ys.map (·.1)) ms=false:=by unfold eqT;rw[decide_eq_false (by simpa using Y),OB]
  rw[this]at O;exact Iq<|Ox<|IA O
end
def Gs(K:Ip):R2:=λx y H Q=>∃H0 dx z b,Same H0 H/\Rep K H0 dx x/\Rep K H0 z y/\rK dx z=some b/\Q (.bl b) H
theorem lE(I:Inv X pins σ H s)(sub:Same H0 H)(U:Rep X.K H0 dx x)(r2:Rep X.K H0 dy y)(rx:RelV x v)(Y:RelV y u)(e:rK dx dy=some b) :
 ∃a c,v = .ref a/\u = .ref c/\s.TypeIs (.ref a) "dict"/\s.TypeIs (.ref c) "dict"/\∀{A:Around} {E:RQ} {Q:Bool->Shared->Prop} {id:String},A.units<cLine->Q b s->wpAny (model X.prog X.w) A (Oq id a c) Q E s:=by
 cases dx with
 | dct ks vs=>
  cases dy with
  | dct a0 a1=>
   obtain⟨ns,e1,e2⟩:=ze e;obtain⟨ms,e3,e4⟩:=zA e2;subst e4;obtain⟨a,ys,rfl,⟨g0,oa,zs,g1,g2,g3,g4,g5,g6⟩,g7⟩:=(show ∃a xs,x = .ref a/\DRt X.K H0 a ks xs/\Reps X.K H0 vs xs from U);obtain⟨c,as,rfl,⟨f0,oc,ax,f1,z,f3,f4,f5,f6⟩,f7⟩:=(show ∃a xs,y = .ref a/\DRt X.K H0 a a0 xs/\Reps X.K H0 a1 xs from r2);subst g3 f3;have ha:=(show ObjOk X.prog X.w H s.heap a (atO a oa)from I.hok a _<|sub _ _ g1).1;have O:=(show ObjOk X.prog X.w H s.heap c (atO c oc)from I.hok c _<|sub _ _ f1).1;exact⟨a,c,rx,Y,⟨oa,ha,g2.1.1⟩,⟨oc,O,z.1.1⟩,λhu hQ=>WN hu g0 f0 ha O g2 z (λx hx=>yN I<|sameT sub<|g5 x hx) (λx hx=>yN I<|sameT sub<|f5 x hx) (YM e1 g7 g6) (YM e3 f7 f6) hQ⟩
  | _=>cases e
 | _=>cases e
theorem Ak(hu:X.A.units+64<cLine):OpR X (compareOp .Eq) (Gs X.K):=by intro pins s σ H x y v u Q I rx Y h;obtain⟨H0,dx,dy,b,sub,r1,r2,e,q⟩:=h;obtain⟨a,c,rfl,rfl,O,U,go⟩:=lE I sub r1 r2 rx Y e;show wpAny _ _ (richCompare .Eq (.ref a)<|.ref c) _ _ s;refine wpAny_richCompare_same_room O U F.slot_dict_eq (ME F.slot_dict_eq O F.entry_dict_eq ?_ (F.args_dict_eq_2 _ _)) ⋯;refine Iq<|Iq<|wpAny_notOrdered_dict O<|Iq<|IA<|IA ?_;refine Iq<|Ro U isSubtype_dict_dict ?_;simp only[Oe,LP,if_false];refine Iq<|IA<|Iq<|IA<|Iq<|go (by rw[units_in1];omega) ?_;exact IA ⟨_,rfl,(λz=>by cases z),.bl b,H,I,by cases b<;>rfl,q⟩
theorem oq{K:Ip}:Snd K (Gs K) Ci:=λH0 H x y dx z d Q s rx I O q=>by obtain⟨b,e1,U⟩:=zA O;subst U;exact⟨H0,dx,z,b,s,rx,I,e1,q _ H H0 (Ext.refl s) rfl⟩
section
variable{X:Cx}{sc:Scope}{N T:List Str}{k:Nat}{a b:Expr}{pos:Pos}{fa fb:CO D}
theorem uD(h:SX X sc N T k)(ha:PV X a fa)(hb:PV X b fb):PV X (.Compare a [.Eq] [b] pos) (zH Ci fa fb):=bZ (Ak h.u64) oq ha hb<|JW b
end
def ZO:Cell->Bool
 | .nest _=>true
 | _=>false
theorem Xg{γ:Ctx}(h:γ.any ZO=false) : ∀(i:Nat) rows,γ[i]? ≠ some (.nest rows):=λi rows e=>by have:=OJ.mp h _<|Mi e;exact this rfl
section
variable{K:Ip}{E0 E H0 H:Hp}{σ:St}{γ:Ctx}{p:Addr}{u u':HO}
theorem RS.repl(r:RS K E0 E H0 H σ γ)(hn:γ.any ZO=false)(U:H p=some u)(Y : ∀xs,u ≠ .lst xs)(h0:H0 p=none)(he:E p=none):RS K E0 E H0 (upd H p u') σ γ:=by
 have I:Same H0 (upd H p u'):=λb o e=>by rw[zL (λz=>by rw[z,h0]at e;cases e)];exact r.rc.sub b o e
 have ne : ∀{a:Addr} {xs:List V},H a=some (.lst xs)->a≠p:=λe z=>by rw[z,U]at e;exact Y _<|LH e
 refine⟨⟨I,r.rc.len,r.rc.val,λi ds e=>?_,r.rc.ne,NestOk.nil0<|Xg hn⟩,⟨r.ext.s0,λb o e=>by rw[zL (λz=>by rw[z,he]at e;cases e)];exact r.ext.s1 b o e,I,r.ext.new⟩,r.fresh,λi rows a xs e=>absurd e<|Xg hn i rows⟩;obtain⟨a,xs,h1,h2,O,h4⟩:=r.rc.own i ds e;exact⟨a,xs,h1,h2,by rw[zL (ne O)];exact O,h4⟩
theorem RS.showD(r:RS K E0 E H0 H σ γ)(hn:γ.any ZO=false)(O:H p=some u)(hu : ∀xs,u ≠ .lst xs)(h0:H0 p=none)(he:E p=none):RS K E0 E (upd H0 p u) H σ γ:=by
 have U:Same (upd H0 p u) H:=λb o e=>by
  by_cases z:b=p
  ·subst z;rw[zJ]at e;rw[O];exact e
  ·rw[zL z]at e;exact r.rc.sub b o e
 have ne : ∀{a:Addr} {xs:List V},H a=some (.lst xs)->a≠p:=λe z=>by rw[z,O]at e;exact hu _<|LH e
 have s0:Same H0 (upd H0 p u):=zW h0 _;refine⟨⟨U,r.rc.len,λi d e=>?_,λi ds e=>?_,r.rc.ne,NestOk.nil0<|Xg hn⟩,⟨r.ext.s0.trans s0,r.ext.s1,U,λc q1 I=>?_⟩,r.fresh,λi rows a xs e=>absurd e<|Xg hn i rows⟩
 ·obtain⟨v,h1,h2⟩:=r.rc.val i d e
  exact⟨v,h1,h2.mono s0⟩
 ·obtain⟨a,xs,h1,h2,Y,h4⟩:=r.rc.own i ds e
  exact⟨a,xs,h1,by rw[zL (ne Y)];exact h2,Y,h4.mono s0⟩
 ·rw[zL (λz=>by rw[z,he]at I;exact I rfl)];exact r.ext.new c q1 I
end
theorem fK{p:Addr}{o:Obj} : ∀xs,atO p o ≠ .lst xs:=λxs z=>by cases z
abbrev XR:=Ctx×List (List Int)×List D
abbrev XF:=Ctx->List (List Int)->List D->Option XR
def cc(ks:List (List Int))(k:List Int):List (List Int):=if k∈ks then ks else ks++[k]
def Xb:List (List Int)->List D->List Int->D->List D
 | k'::ks,v'::vs,k,v=>if k'=k then v::vs else v'::Xb ks vs k v
 | _,_,_,v=>[v]
def BM(fk z:CO D):XF:=λγ ks vs=>(z γ).bind λv=>((fk γ).bind mX).bind λk=>if ks.length<lim then some (γ,cc ks k,Xb ks vs k v)else none
def Hv(f:CO D)(γ:Ctx):Option D:=(f γ).bind λd=>match d with
 | .dct ks _=>some (.int ks.length)
 | _=>none
@[simp] def FN:=@Hv.eq_1
structure QS(K:Ip)(i:Nat)(p:Addr)(E0 E H0 H:Hp)(σ:St)(γ:Ctx)(ks:List (List Int))(vs:List D):Prop where
 rs:RS K E0 E H0 H σ γ
 nn:γ.any ZO=false
 sl:σ[i]? = some (some (.ref p))
 h0:H0 p=none
 he:E p=none/\(p==sysModules)=false
 ex : ∃o es ys,H p=some (atO p o)/\gf o es/\es.map (·.1)=ks/\(∀e∈es,SqT K H0 e.2.1<|e.1.map V.int)/\Reps K H0 vs ys/\Vals ys (es.map (·.2.2))
section
variable{K:Ip}{i:Nat}{p:Addr}{E0 E H0 H H0' H':Hp}{σ σ':St}{γ γ':Ctx}{ks:List (List Int)}{vs:List D}
theorem QS.step(x:QS K i p E0 E H0 H σ γ ks vs)(e:Ext H0 H H0' H'):QS K i p E0 E H0' H' σ γ ks vs:=by obtain⟨o,es,ys,h1,h2,I,O,U,Y⟩:=x.ex;exact⟨x.rs.step e,x.nn,x.sl,e.new p x.h0 (by rw[h1];simp),x.he,o,es,ys,e.s1 _ _ h1,h2,I,λz hz=>sameT e.s0<|O z hz,U.mono e.s0,Y⟩
end
def tQX(K:Ip)(i:Nat)(F:XF):TS:=λD σ H=>∃p E0 E H0 γ ks vs r,QS K i p E0 E H0 H σ γ ks vs/\F γ ks vs=some r/\∀σ' H' H0',QS K i p E0 E H0' H' σ' r.1 r.2.1 r.2.2->D.nx σ' H'
theorem WT{xs:List (List Int×Addr×Value)}{k:List Int}{b:Addr}{r:Value}:(storedH xs k b r).map (·.1)=cc (xs.map (·.1)) k:=by
 unfold storedH cc;by_cases h:k∈xs.map (·.1)
 ·have:(atKey xs k).isSome=true:=by
   obtain⟨x,hx,e⟩:=La.mp h;unfold atKey;rw[Option.isSome_map,List.find?_isSome];exact⟨x,hx,by simpa using e⟩
  rw[RY this,RY h,LA];refine IK λx hx=>?_;show(putAt k r x).1=x.1;unfold putAt;split<;>rfl
 ·rw[EQ (by rw[Wl h];decide),EQ h,Lx]
  rfl
theorem WH{xs:List (List Int×Addr×Value)}{k:List Int}{b:Addr}{r:Value}{P:List Int->Addr->Prop}(h : ∀x∈xs,P x.1 x.2.1)(hb:P k b) : ∀x∈storedH xs k b r,P x.1 x.2.1:=by
 intro x hx;unfold storedH at hx;split at hx
 ·obtain⟨y,I,rfl⟩:=La.mp hx
  unfold putAt;split
  ·exact h y I
  ·exact h y I
 ·rcases NL.mp hx with z | z
  ·exact h x z
  ·rw[NK.mp z];exact hb
theorem VD{k:List Int}{r:Value} : ∀{xs:List (List Int×Addr×Value)},k∉xs.map (·.1)->xs.map (putAt k r)=xs
 | [],_=>rfl
 | x::xs,h=>by rw[IS,VD (λz=>h<|IT _ z)];congr 1;unfold putAt;rw[EQ λz=>h (by rw[<- z];exact IY)]
theorem VC{K:Ip}{H:Hp}{k:List Int}{b:Addr}{r:Value}{v:D}{y:V}(z:Rep K H v y)(I:RelV y r) : ∀{xs:List (List Int×Addr×Value)} {vs:List D} {ys:List V},(xs.map (·.1)).Nodup->Reps K H vs ys->Vals ys (xs.map (·.2.2))->
 ∃O,Reps K H (Xb (xs.map (·.1)) vs k v) O/\Vals O ((storedH xs k b r).map (·.2.2))
 | [],vs,ys,_,h1,h2=>by
  cases h2;cases vs with
  | nil=>exact⟨[y],Reps.cons z Reps.nil,.cons I .nil⟩
  | cons d vs=>obtain⟨_,_,q,_⟩:=h1.inv_cons;cases q
 | x::xs,vs,ys,nd,h1,h2=>by
  have Y:=MW.mp nd;cases h2 with
  | cons v1 v2=>
   cases vs with
   | nil=>have:=h1.inv_nil;cases this
   | cons d vs=>
    obtain⟨y0,yr,q,g1,g2⟩:=h1.inv_cons;cases q;by_cases hx:x.1=k
    ·have hk:k∉xs.map (·.1):=by rw[<- hx];exact Y.1
     have e1:Xb ((x::xs).map (·.1)) (d::vs) k v=v::vs:=by show(if x.1=k then _ else _)=_;rw[RY hx]
     have U:storedH (x::xs) k b r=(x.1,x.2.1,r)::xs:=by
      have:(atKey (x::xs) k).isSome=true:=by unfold atKey;rw[OV (by simpa using hx)];rfl
      unfold storedH;rw[RY this,IS,VD hk];unfold putAt;rw[RY hx]
     rw[e1,U];exact⟨_,Reps.cons z g2,.cons I v2⟩
    ·obtain⟨O,i1,i2⟩:=VC (b:=b) z I Y.2 g2 v2
     have e1:Xb ((x::xs).map (·.1)) (d::vs) k v=d::Xb (xs.map (·.1)) vs k v:=by show(if x.1=k then _ else _)=_;rw[EQ hx]
     have U:storedH (x::xs) k b r=x::storedH xs k b r:=by
      have:atKey (x::xs) k=atKey xs k:=by unfold atKey;rw[OW (by simpa using hx)]
      unfold storedH;rw[this];split
      ·rw[IS]
       congr 1;unfold putAt;rw[EQ hx]
      ·rfl
     rw[e1,U];exact⟨_,Reps.cons g1 i1,.cons v1 i2⟩
def tY(K:Ip)(td ty tv:TE):TS:=λD σ H=>tv σ H λv H1=>td σ H1 λx H2=>ty σ H2 λy z=>∃a o es k b,x = .ref a/\z a=some (atO a o)/\gf o es/\(∀e∈es,SqT K z e.2.1<|e.1.map V.int)/\y = .ref b/\SqT K z b (k.map V.int)/\es.length<=sizeLine/\
 ∀o' r,gf o' (storedH es k b r)->RelV v r->D.nx σ (upd z a<|atO a o')
theorem oU{X:Cx}{o i value:Expr}{pos pos':Pos}{td ty tv:TE}(hu:X.A.units+1<cLine)(ho:PE X o td)(hi:PE X i ty)(hv:PE X value tv)(hs:swapsWith value (some (.Subscript o i pos')) pos.line X.env=pure false) :
 PS X (.Assign [.Subscript o i pos'] value pos) (tY X.K td ty tv):=by
 intro pins s σ H D I h;refine wpAny_Assign_Subscript (thn (hv pins s σ H _ I h) λr s1 O=>?_) hs;obtain⟨v,H1,I1,rv,q1⟩:=O;refine thn (ho pins s1 σ H1 _ I1 q1) λu s2 O=>?_;obtain⟨x,H2,I2,rx,q2⟩:=O;refine thn (hi pins s2 σ H2 _ I2 q2) λiv s3 O=>?_;obtain⟨y,H3,U,ry,a,ob,es,k,b,rfl,e1,e2,e3,rfl,e4,e6,q3⟩:=O;cases (show u=Lq a from rx);cases (show iv=Lq b from ry);have dH:=ZT U e1 e2 e3;refine wpAny_setItem_heap (hsz:=e6) (NV hu) (yN U e4) dH λh' ap ar=>?_;obtain⟨o',Y,as⟩:=mT ap;exact⟨σ,_,U.write (x:=a) (e:=a) (o:=atO a o') (t':=_) (h':=h') (by rw[e1];exact MF) (.inl rfl) (λb q hb z=>(ar.2 b hb).trans z) ⟨_,Y⟩<|fJ Y,q3 o' r as rv⟩
section
variable{X:Cx}{i:Nat}{st:Stmt}{xJ:List Stmt}{pos:Pos}
theorem um{fk U:CO D}(h:PS X st (tY X.K (Jk i) (tV X.K fk)<|tV X.K U)):PS X st (tQX X.K i<|BM fk U):=ki h λD σ H hZ=>by
 obtain⟨p,E0,E,H0,γ,ks,vs,r,xs,z,a4⟩:=hZ;obtain⟨v,e1,z⟩:=ze z;obtain⟨k,e2,z⟩:=ze z;obtain⟨kd,e3,e4⟩:=ze e2;split at z
 ·next ap=>
  cases z;refine⟨H0,γ,v,xs.rs.rc,e1,λv1 H1 a9 x1 r1=>⟨.ref p,xs.sl,a9,γ,kd,(xs.step x1).rs.rc,e3,λkv H2 Y I r2=>?_⟩⟩;obtain⟨b,rfl,a0⟩:=wQ e4 r2;have y:=(xs.step x1).step I;obtain⟨o,es,ys,h1,h2,O,h4,h5,h6⟩:=y.ex;have ax:es.length=ks.length:=by rw[<- O,IQ]
  have b0:lim<=sizeLine:=by decide
  have nd:(es.map (·.1)).Nodup:=by obtain⟨_,_,_,_,_,n⟩:=h2;exact n
  refine⟨p,o,es,k,b,rfl,h1,h2,λe he=>sameT y.rs.rc.sub<|h4 e he,rfl,sameT I.sub a0,by omega,λo' r' ag rr=>a4 _ _ Y ?_⟩;obtain⟨an,g1,g2⟩:=VC (k:=k) (b:=b) (r1.mono I.s0) rr nd h5 h6;rw[O]at g1;exact⟨y.rs.repl y.nn h1 fK y.h0 y.he.1,y.nn,y.sl,y.h0,y.he,o',_,an,zJ,ag,by rw[WT,O],WH (P:=λk b=>SqT X.K Y b<|k.map V.int) h4 a0,g1,g2⟩
 ·cases z
end
def HF:XF:=λγ ks vs=>some (γ,ks,vs)
def tQC(K:Ip)(i:Nat)(F:XF)(G:CO Fl):TS:=λD σ H=>∃p E0 E H0 γ ks vs r z,(p==sysModules)=false/\QS K i p E0 E H0 H σ γ ks vs/\F γ ks vs=some r/\r.2.1.length<=lim/\G (r.1.set i<|.val<|.dct r.2.1 r.2.2)=some z/\Sat K E0 E D z
section
variable{X:Cx}{i:Nat}{st:Stmt}{xJ:List Stmt}
theorem uo{G:CO Fl}(h:aQ X xJ G):PSs X xJ (tQC X.K i HF G):=by
 intro pins s σ H D I hZ;refine h pins s σ H D I ?_;obtain⟨p,E0,E,H0,γ,ks,vs,r,fl,a2,xs,ef,hl,eG,a6⟩:=hZ;cases ef;obtain⟨o,es,ys,h1,h2,O,h4,h5,h6⟩:=xs.ex;have ae:lim<=sizeLine:=by decide
 have ag:es.length=ks.length:=by rw[<- O,IQ]
 have r4:=xs.rs.showD xs.nn h1 fK xs.h0 xs.he.1;have U:Same H0 (upd H0 p<|atO p o):=zW xs.h0 _;have Y:=r4.setVal (i:=i) (d:= .dct ks vs) (v:= .ref p) (show ∃a xs,V.ref p = .ref a/\DRt X.K (upd H0 p<|atO p o) a ks xs/\Reps X.K (upd H0 p<|atO p o) vs xs from⟨p,ys,rfl,⟨a2,o,es,zJ,h2,O,by have:ks.length<=lim:=hl;omega,λx hx=>sameT U<|h4 x hx,h6⟩,h5.mono U⟩);have e5:σ.set i (some (.ref p))=σ:=by
  apply OI;intro j;by_cases z:j=i
  ·subst z
   rw[LJ (by have:=IX.mp xs.sl;exact this.1),xs.sl]
  ·rw[IH (Ly z)]
 rw[e5]at Y;exact⟨E0,E,_,_,fl,Y,eG,a6⟩
end
abbrev TT:=List (List (List Int))
def Cd:Cell->Bool
 | .no=>true
 | .val _=>true
 | _=>false
abbrev LF:=CO (D×TT)
inductive Pl where
 | out | tab (k:Nat) | row (k m:Nat)
deriving DecidableEq
def BN(Z:TT):Pl->Prop
 | .out=>True
 | .tab k=>k<Z.length
 | .row k m=>k<Z.length/\m<(Z.getD k []).length
def Bp(Z:TT)(ad:Pl->Addr):Pl->List V
 | .out=>(Io Z.length).map λk=>V.ref<|ad<|.tab k
 | .tab k=>(Io (Z.getD k []).length).map λm=>V.ref<|ad<|.row k m
 | .row k m=>((Z.getD k []).getD m []).map V.int
structure N3(H:Hp)(Z:TT)(ad:Pl->Addr):Prop where
 cont : ∀pl,BN Z pl->H (ad pl)=some (.lst<|Bp Z ad pl)
 inj : ∀pl pl',BN Z pl->BN Z pl'->ad pl=ad pl'->pl=pl'
theorem mK{γ:Ctx}(h:γ.all Cd=true) : ∀(i:Nat) ds,γ[i]? ≠ some (.own ds):=λi ds e=>by have:=LC.mp h _<|Mi e;cases this
theorem pb{γ:Ctx}(h:γ.all Cd=true) : ∀(i:Nat) rows,γ[i]? ≠ some (.nest rows):=λi ds e=>by have:=LC.mp h _<|Mi e;cases this
section
variable{K:Ip}{al:List (Nat×Pl)}{E0 E H0 H H0' H':Hp}{σ σ':St}{γ γ':Ctx}{Z:TT}{ad:Pl->Addr}
theorem RC.pl(sub:Same H0 H)(len:σ.length=γ.length)(val : ∀(i:Nat) d,γ[i]? = some (.val d)->∃v,σ[i]? = some (some v)/\Rep K H0 d v)(pn:γ.all Cd=true):RC K H0 H σ γ:=
 ⟨sub,len,val,λi ds e=>absurd e<|mK pn i ds,λi j a ds es e=>absurd e<|mK pn i ds,NestOk.nil0<|pb pn⟩
open Classical in
end
open Classical in
section
variable{H:Hp}{Z:TT}{ad:Pl->Addr}
end
def He(K:Ip)(E0 E:Hp)(Q:VK)(d:D)(Z:TT):Prop:=∀t v ad H' H0',Ext E0 E H0' H'->Rep K H0' d v->H' t=some (.tup [v,.ref (ad .out)])->N3 H' Z ad->(∀pl,BN Z pl->H0' (ad pl)=none/\E (ad pl)=none)->Q (.ref t) H'
def tL(K:Ip)(G:LF):TS:=λD σ H=>∃E0 E H0 γ r,RS K E0 E H0 H σ γ/\G γ=some r/\He K E0 E D.rt r.1 r.2
def spL(K:Ip)(n:Nat)(F:List D->Option (D×TT)):Sp:=λvs H Q _=>∃H0 ds r,Same H0 H/\Reps K H0 ds vs/\ds.length=n/\F ds=some r/\He K H0 H Q r.1 r.2
def EF:Res->Option (Int×Int)
 | .val d=>match d with
  | .tup ds=>match ds with
   | [x,y]=>(asI x).bind λi=>(asI y).map λj=>(i,j)
   | _=>none
  | _=>none
 | .own _=>none
def dz(F:List D->Option Res):List D->Option (List<|Int×Int)
 | []=>some []
 | d::r=>((F [d]).bind EF).bind λp=>(dz F r).map λl=>p::l
def mn(F:List D->Option Res)(f:CO (Sk×List D)):CO (List D):=λγ=>(f γ).bind λa=>match a.1 with
 | .L=>(dz F a.2).bind λps=>if a.2.length<64 then some ((Yr ps).map λi=>a.2.getD i .non)else none
 | _=>none
section
variable{X:Cx}{sc:Scope}{N L:List Str}{k j n i:Nat}{a b c e:Expr}{es:List Expr}{f:CO D}{g:CO (List D)}{p pos:Pos}{x:Str}{st st3 st4:Stmt}{xJ:List Stmt}{F:List D->Option Res}
open Classical in
def lessA(H:Hp)(p:Addr):Hp:=λc=>if c=p then none else H c
theorem lessA_ne{H:Hp}{p c:Addr}(h:c≠p):lessA H p c=H c:=EQ h
theorem J0{H:Hp}{p:Addr}:lessA H p p=none:=RY rfl
theorem gQ{K:Ip}{G G':Hp}{vs:List D}{ys:List V}(e:(kX vs).isSome=true)(h:Reps K G vs ys):Reps K G' vs ys:=by
 obtain⟨r,z⟩:=Mt.mp e;have I : ∀{vs:List D} {r:List Int} {ys:List V},kX vs=some r->Reps K G vs ys->Reps K G' vs ys:=λ{vs}=>by
  induction vs with
  | nil=>intro r ys _ h;rw[h.inv_nil];exact Reps.nil
  | cons d vs O=>
   intro r ys e h;obtain⟨y,t,e1,h1,h2⟩:=h.inv_cons;subst e1;cases d with
   | int i=>
    obtain⟨r',U,_⟩:=zA e;exact Reps.cons (show y = .int i from h1)<|O U h2
   | _=>cases e
 exact I z h
end
def Eo(fa ga fb gb:CO D):CO D:=λγ=>((fa γ).bind asI).bind λi=>(ga γ).bind λx=>((fb γ).bind asI).bind λj=>(gb γ).bind λy=>if i=j then none else some (.dic [.int i,.int j] [x,y])
mutual
def noX:D->Bool
 | .tup xs=>noXs xs
 | .lst xs=>noXs xs
 | .dic _ _=>false
 | .dct _ _=>false
 | _=>true
def noXs:List D->Bool
 | []=>true
 | x::xs=>noX x && noXs xs
end
def BO:Cell->Bool
 | .no=>true
 | .val d=>noX d
 | _=>false
def Vv(i:Nat)(F:XF)(G:CO Fl):CO Fl:=λγ=>if (γ.set i .no).all BO=true/\i<γ.length then
 match γ[i]? with
 | some (.val<|.dct ks vs)=>if (kX vs).isSome=true then (F (γ.set i .no) ks vs).bind λr=>if r.2.1.length<=lim then G (r.1.set i<|.val<|.dct r.2.1 r.2.2)else none else none
 | _=>none
 else none
theorem Ext.put{H0 H H0' H':Hp}{p:Addr}{o:HO}(x:Ext H0 H H0' H')(z:H p=none)(h0:H0' p=none):Ext H0 H (upd H0' p o) (upd H' p o):=
 ⟨x.s0.trans<|zW h0 o,λb u q=>by rw[zL (λe=>by rw[e,z]at q;cases q)];exact x.s1 b u q,X8 x.sub,λa h1 h2=>by rw[zL (λe=>h2<|by rw[e];exact z)];exact x.new a h1 h2⟩
section
variable{X:Cx}{a b c e:Expr}{fa ga fb gb:CO D}{pos:Pos}
theorem uG(h1:PV X a fa)(h2:PV X b ga)(h3:PV X c fb)(h4:PV X e gb):PV X (.Dict [some a,some c] [b,e] pos) (Eo fa ga fb gb):=
 qe (pq (VI h1 h2<|VI h3 h4 oV) rfl rfl ⋯ ⋯) λσ H Q hZ=>by
  obtain⟨H0,γ,d,rc,I,q⟩:=hZ;obtain⟨i,e1,I⟩:=ze I;obtain⟨d1,e0,e1⟩:=ze e1;obtain⟨dx,e2,I⟩:=ze I;obtain⟨j,e3,I⟩:=ze I;obtain⟨d3,e4,e3⟩:=ze e3;obtain⟨dy,e5,I⟩:=ze I;by_cases a2:i=j
  ·rw[RY a2]at I;cases I
  rw[EQ a2]at I;cases I;intro p hp;have U:=Ext.hide rc.sub hp<|.dK [];refine⟨H0,γ,d1,rc.ext U,e0,λv1 H1 bd x1 r1=>⟨bd,γ,dx,(rc.ext U).ext x1,e2,λY H2 be x2 r2=>⟨be,γ,d3,((rc.ext U).ext x1).ext x2,e4,λv3 H3 bi x3 r3=>⟨bi,γ,dy,(((rc.ext U).ext x1).ext x2).ext x3,e5,λv4 H4 O x4 r4=>?_⟩⟩⟩⟩;have xx:=x1.trans<|x2.trans<|x3.trans x4;rw[qc e1]at r1;rw[qc e3]at r3;have bm:H4 p=some (.dK []):=xx.s1 _ _ zJ;have bn:H0 p=none:=jP rc.sub hp;have ac:O p=none:=xx.new p bn (by rw[zJ];simp);have xa:Ext H0 H O H4:=U.trans xx;refine⟨bm,[(Mu i,Y),(Mu j,v4)],?_,by simp,?_⟩
  ·rw[show v1=V.int i from r1,show v3=V.int j from r3];rfl
  have c0 : ¬((Mu i:Key)=Mu j):=λz=>a2<|Mu.inj z;have em:ZG [] [((Mu i:Key),Y),(Mu j,v4)]=[((Mu i:Key),Y),(Mu j,v4)]:=by simp[ZG,gU,c0]
  rw[em];have ae:Same O (upd O p<|.dK [((Mu i:Key),Y),(Mu j,v4)]):=zW ac _;refine q (.ref p) _ _ (xa.put hp ac) (show ∃a xs,V.ref p = .ref a/\DRp (upd O p _) a [.int i,.int j] xs/\Reps X.K (upd O p _) [dx,dy] xs from⟨p,[Y,v4],rfl,⟨[Mu i,Mu j],rfl,rfl,zJ⟩,?_⟩);exact Reps.cons ((r2.mono<|x3.s0.trans x4.s0).mono ae)<|Reps.cons (r4.mono ae) Reps.nil
end
def EM:Hp:=λ_=>none
theorem Be{H0 H:Hp}(s:Same H0 H):Ext EM EM H0 H:=⟨(λ_ _ q=>by cases q),(λ_ _ q=>by cases q),s,λ_ _ h=>absurd rfl h⟩
theorem RS.em{K:Ip}{H0 H:Hp}{σ:St}{γ:Ctx}(r:RC K H0 H σ γ):RS K EM EM H0 H σ γ:=⟨r,Be r.sub,λ_ _ _ _ _=>rfl,λ_ _ _ _ _ _ _=>⟨rfl,λ_ _=>rfl⟩⟩
def tSZ(K:Ip)(F:CO Fl):TS:=λD σ H=>∃H0 γ z,RC K H0 H σ γ/\F γ=some z/\Sat K EM EM D z
def spT(K:Ip)(n:Nat)(F:List D->Option Res):Sp:=λvs H Q _=>∃H0 ds b,Same H0 H/\Reps K H0 ds vs/\ds.length=n/\F ds=some (.val<|.bl b)/\∀H',Q (.bl b) H'
section
variable{P:Program}{w:World}{K:Ip}{mg:RJ}{base:Heap}
theorem Bc{x:Str}{st:Stmt}{f:Addr}{fd:FuncData}{N ps:List Str}{k:Nat}{F:CO Fl}(Y:L2.Fun K x x st f fd)(hd:YX N ps st=true)
 (a0 : ∀X:Cx,X.prog=P->X.w=w->X.K=K->X.mg=mg->X.base=base->SX X (zT st) N N k->X.xe=(λ_ _=>False)->PSs X (jZ st) (tSZ X.K F)) :
 FnOk P w K mg base CX0 (k+1) f fd ps (spT K ps.length<|z6 N.length F):=by
 have S:=y6 hd;refine Y.ok S (λvs H Q E h=>?_)<|λcdv A outer s H vs Q E hr h=>⟨_,a0 _ rfl rfl rfl rfl rfl ⟨rfl,rfl,S.nd,rfl,hr,λ_ _=> .inl rfl⟩ rfl,?_⟩
 ·obtain⟨H0,es,b,_,I,O,_⟩:=h
  rw[I.length,O]
 obtain⟨H0,es,b,s0,I,O,ef,q⟩:=h;have a4:ps.length<=N.length:=by have:=congrArg Po S.pre;rw[Nl]at this;omega
 obtain⟨U,e1,z⟩:=ze ef;have e3:U = .ret (.val<|.bl b):=by
  cases U with
  | ret r=>cases z;rfl
  | next γ=>cases z
  | brk γ=>cases z
  | cont γ=>cases z
 subst e3;exact⟨H0,_,_,(Vw s0 I ⋯).rc,e1,λv H' H0' _ r=>by rw[show v=V.bl b from r];exact q H'⟩
theorem AJ{F:List D->Option Res}{H:Hp}{a:Addr}{ns:List Int}(z:SqL K H a (ns.map V.int))(I:F [.lst (ns.map D.int)]=some (.val<|.bl true)) :
 spT K 1 F [.ref a] H (λv _=>v = .bl true) λ_ _ _=>False:=by
 refine⟨H,[.lst (ns.map D.int)],true,Same.refl _,Reps.cons (Yi z ?_) Reps.nil,rfl,I,λ_=>rfl⟩;clear I z
 induction ns with
 | nil=>exact Reps.nil
 | cons n ns O=>exact Reps.cons rfl O
end
mutual
theorem Rep.less{K:Ip}{H:Hp}{p:Addr}{φ:Heap->Prop}(I:H p=some (.ext φ)) : ∀{d:D} {v:V},noX d=true->Rep K H d v->Rep K (lessA H p) d v
 | .non,_,_,h=>h
 | .bl _,_,_,h=>h
 | .int _,_,_,h=>h
 | .str _,_,_,h=>h
 | .tup ds,v,n,h=>by
  obtain⟨a,xs,e1,h1,h2⟩:=(show ∃a xs,v = .ref a/\SqT K H a xs/\Reps K H ds xs from h);refine(show ∃a xs,v = .ref a/\SqT K (lessA H p) a xs/\Reps K (lessA H p) ds xs from⟨a,xs,e1,?_,Reps.less I n h2⟩);have z : ∀{u:HO},(∀φ,u ≠ .ext φ)->H a=some u->a≠p:=λO q e=>by rw[e,I]at q;exact O _ (LH q).symm
  rcases h1 with(hq | ⟨o',hq⟩) | hq
  ·exact .inl (.inl<|by rw[lessA_ne (z (λ_=>by simp) hq)];exact hq)
  ·exact .inl<|.inr ⟨o',by rw[lessA_ne (z (λ_=>by simp) hq)];exact hq⟩
  ·exact .inr hq
 | .lst ds,v,n,h=>by
  obtain⟨a,xs,e1,h1,h2⟩:=(show ∃a xs,v = .ref a/\SqL K H a xs/\Reps K H ds xs from h);refine(show ∃a xs,v = .ref a/\SqL K (lessA H p) a xs/\Reps K (lessA H p) ds xs from⟨a,xs,e1,?_,Reps.less I n h2⟩);have z : ∀{u:HO},(∀φ,u ≠ .ext φ)->H a=some u->a≠p:=λO q e=>by rw[e,I]at q;exact O _ (LH q).symm
  rcases h1 with(hq | ⟨o',hq⟩) | hq
  ·exact .inl (.inl<|by rw[lessA_ne (z (λ_=>by simp) hq)];exact hq)
  ·exact .inl<|.inr ⟨o',by rw[lessA_ne (z (λ_=>by simp) hq)];exact hq⟩
  ·exact .inr hq
 | .dic _ _,_,n,_=>nomatch n
 | .dct _ _,_,n,_=>nomatch n
theorem Reps.less{K:Ip}{H:Hp}{p:Addr}{φ:Heap->Prop}(z:H p=some (.ext φ)) : ∀{ds:List D} {xs:List V},noXs ds=true->Reps K H ds xs->Reps K (lessA H p) ds xs
 | [],_,_,h=>h
 | d::ds,xs,n,h=>by obtain⟨x,r,e1,h1,h2⟩:=(show ∃x r,xs=x::r/\Rep K H d x/\Reps K H ds r from h);have n:(noX d && noXs ds)=true:=n;rw[ID]at n;exact(show ∃x r,xs=x::r/\Rep K (lessA H p) d x/\Reps K (lessA H p) ds r from⟨x,r,e1,Rep.less z n.1 h1,Reps.less z n.2 h2⟩)
end
section
variable{X:Cx}{i:Nat}{st:Stmt}{xJ:List Stmt}
theorem xt{F G:CO Fl}(h1:PSD X st F)(h2:PSs X xJ (tSZ X.K G)):PSs X (st::xJ) (tSZ X.K<|zK F G):=cg (wL h1 h2) λD σ H U=>by
 obtain⟨H0,γ,Y,rc,z,I⟩:=U;obtain⟨O,e1,z⟩:=ze z;refine⟨EM,EM,H0,γ,O,RS.em rc,e1,?_⟩;cases O with
 | next γ'=>exact λσ' H' H0' a0=>⟨H0',γ',Y,a0.rc,z,I⟩
 | brk γ'=>cases z;exact I
 | cont γ'=>cases z;exact I
 | ret r=>cases z;cases r<;>exact I
theorem pJ{γ:Ctx}(h:γ.all BO=true):γ.all Cd=true:=by rw[LC]at h ⊢;intro c z;have:=h c z;cases c<;>first | rfl | cases this
theorem cU{γ:Ctx}(h:γ.all BO=true):γ.any ZO=false:=by
 rw[OJ];intro c I;have:=(LC.mp h) c I;cases c with
 | no=>intro z;cases z
 | val d=>intro z;cases z
 | own ds=>cases this
 | nest r=>cases this
theorem sT(i:Nat){F1:XF}{G:CO Fl}(h3:PS X st (tQX X.K i F1))(h5:aQ X xJ G):PSs X (st::xJ) (tSZ X.K<|Vv i F1 G):=by
 intro pins s σ H D I hZ;refine(wL h3<|uo (i:=i) h5) pins s σ H D I ?_;obtain⟨H0,γ,fl,rc,O,a7⟩:=hZ;unfold Vv at O;split at O
 ·next a8=>
  obtain⟨hn,bi⟩:=a8;split at O
  ·next ks vs hg=>
   split at O
   ·next aa=>
    obtain⟨r,e3,O⟩:=ze O;split at O
    ·next hl=>
     obtain⟨v,hv,rp⟩:=rc.val i _ hg;obtain⟨p,xs,ea,⟨a1,o,zs,U,g2,g3,g4,g5,g6⟩,g7⟩:=(show ∃a xs,v = .ref a/\DRt X.K H0 a ks xs/\Reps X.K H0 vs xs from rp);subst ea;have sub:Same (lessA H0 p) H:=λc o q=>by
      by_cases z:c=p
      ·rw[z,J0]at q;cases q
      ·rw[lessA_ne z]at q;exact rc.sub c o q
     have ax:RC X.K (lessA H0 p) H σ (γ.set i .no):=RC.pl sub (by rw[List.length_set];exact rc.len) (λj d e=>by
      rcases zQ e with⟨_,Y,_⟩ | ⟨hm,Y⟩
      ·cases Y
      ·obtain⟨u,b0,b9⟩:=rc.val j d Y
       exact⟨u,b0,b9.less U<|(LC.mp hn) _<|Mi e⟩) (pJ hn)
     refine⟨p,EM,EM,lessA H0 p,γ.set i .no,ks,vs,r,⟨RS.em ax,cU hn,hv,J0,⟨rfl,a1⟩,o,zs,xs,rc.sub _ _ U,g2,g3,λz hz=>?_,gQ aa g7,g6⟩,e3,λσ3 H3 bb q3=>?_⟩
     ·have be:=g5 z hz
      have a2 : ∀{u:HO},(∀φ,u ≠ .ext φ)->H0 z.2.1=some u->z.2.1≠p:=λhu q e=>by rw[e,U]at q;exact hu _ (LH q).symm
      rcases be with(hq | ⟨o',hq⟩) | hq
      ·exact .inl (.inl<|by rw[lessA_ne (a2 (λ_=>by simp) hq)];exact hq)
      ·exact .inl<|.inr ⟨o',by rw[lessA_ne (a2 (λ_=>by simp) hq)];exact hq⟩
      ·exact .inr hq
     ·exact⟨p,EM,EM,bb,_,_,_,r,fl,a1,q3,rfl,hl,O,a7⟩
    ·cases O
   ·cases O
  ·cases O
 ·cases O
end
def nmE(e:Expr):Str:=match e with | .Name x _=>x | _=>""
def tgN(e:Expr):List Str:=match e with | .Tuple es _ _=>es.map nmE | e=>[nmE e]
def frN(N:List Str)(fs:List Nat):List (Str×Nat):=fs.map λi=>(N.getD i "",i)
theorem Xx(N:List Str)(fs:List Nat):(frN N fs).map (·.2)=fs:=by unfold frN;rw[LA];exact List.map_id fs
def ng(e:Expr):Bool:=match e with | .Name _ _=>true | _=>false
theorem W8{e:Expr}(h:ng e=true) : ∃p,e = .Name (nmE e) p:=by
 unfold ng at h;split at h
 ·exact⟨_,rfl⟩
 ·cases h
def Gh(sc:Scope)(N L:List Str)(is:List Nat)(es:List Expr):Bool:=match is with
 | [i,j]=>(match es with | [a,b]=>ng a && (yv sc N L i (nmE a) && (ng b && yv sc N L j (nmE b))) | _=>false)
 | [i,j,l]=>(match es with | [a,b,c]=>ng a && (yv sc N L i (nmE a) && (ng b && (yv sc N L j (nmE b) && (ng c && yv sc N L l (nmE c))))) | _=>false)
 | _=>false
def tgB(sc:Scope)(N L:List Str)(e:Expr)(T:Tg):Bool:=match T with
 | .nm i=>ng e && yv sc N L i (nmE e)
 | .tp is=>(match e with | .Tuple es _ _=>Gh sc N L is es | _=>false)
theorem nW{X:Cx}{sc:Scope}{N L:List Str}{k:Nat}(h:SX X sc N L k){e:Expr}{T:Tg}(c:tgB sc N L e T=true):PG X e (gOf X.K T):=by
 cases T with
 | nm i=>
  have c:=Bool.and_eq_true_iff.mp c;obtain⟨p,q⟩:=W8 c.1;rw[q];exact h.tgt _ c.2
 | tp is=>
  unfold tgB at c;dsimp only at c;split at c
  ·next es j pos=>
   unfold Gh at c;split at c
   ·split at c
    ·simp only[ID]at c
     obtain⟨z,I,b1,b2⟩:=c;obtain⟨p,q⟩:=W8 z;obtain⟨p',O⟩:=W8 b1;rw[q,O];exact h.tgts<|vg (h.tgt _ I)<|vg (h.tgt _ b2) cG
    ·cases c
   ·split at c
    ·simp only[ID]at c
     obtain⟨z,I,b1,b2,U,Y⟩:=c;obtain⟨p,q⟩:=W8 z;obtain⟨p',O⟩:=W8 b1;obtain⟨p2,q2⟩:=W8 U;rw[q,O,q2];exact h.tgts<|vg (h.tgt _ I)<|vg (h.tgt _ b2)<|vg (h.tgt _ Y) cG
    ·cases c
   ·cases c
  ·cases c
def cB(sc scope:Scope)(N:List Str)(tg:Expr)(T:Tg)(n:Nat)(fs:List Nat):Bool:=
 YZ sc scope N (frN N fs) && (Eb (tgN tg) scope (frN N fs) && (decide (∀i∈T.idx,i<(tgN tg).length) && (decide ((tgN tg).length=n) && tgB (kE scope sc) (tgN tg++(frN N fs).map (·.1)) (tgN tg) tg T)))
abbrev cxA(X:Cx)(scope:Scope)(N:List Str)(tg:Expr)(fs:List Nat):=jv X scope (tgN tg++(frN N fs).map (·.1))
abbrev SA(X:Cx)(sc scope:Scope)(N:List Str)(tg:Expr)(fs:List Nat)(k:Nat)(fp:List Addr)(s2:Shared)(H2:Hp):Prop:=SX (cxA X scope N tg fs fp s2 H2) (kE scope sc) (tgN tg++(frN N fs).map (·.1)) (tgN tg) k
section
variable{X:Cx}{sc scope:Scope}{N L:List Str}{k n i:Nat}{fs:List Nat}{T:Tg}{e elt tg iter cnd:Expr}{es:List Expr}{pos p py spos cpos:Pos}{x y:Str}{f g:CO D}{fo:CO (List D)}{src gl:CO (List D)}{kk:CO Bool}
theorem cA(h:SX X sc N L k)(c:cB sc scope N tg T n fs=true):CompOk X scope (frN N fs)/\(∀i∈T.idx,i<(tgN tg).length)/\(tgN tg).length=n/\(∀fp s2 H2,SA X sc scope N tg fs k fp s2 H2)/\∀fp s2 H2,PG (cxA X scope N tg fs fp s2 H2) tg (gOf X.K T):=by unfold cB at c;simp only[ID,decide_eq_true_eq]at c;obtain⟨z,I,O,U,c5⟩:=c;have s : ∀fp s2 H2,SA X sc scope N tg fs k fp s2 H2:=λfp s2 H2=>h.comp I;exact⟨h.compOk z,O,U,s,λfp s2 H2=>nW (s fp s2 H2) c5⟩
theorem kG(h:SX X sc N L k)(hi:PIC X tg iter src)(he : ∀fp s2 H2,SA X sc scope N tg fs k fp s2 H2->PV (cxA X scope N tg fs fp s2 H2) elt f)(c:cB sc scope N tg T n fs=true:=by decide +kernel)(hs : ∀x,foldedSetIterable iter X.env x=pure x:=by intro _;rfl) :
 PO X (.ListComp elt [⟨tg,iter,[],0⟩] scope pos) (zP src T n fs jA f):=by
 obtain⟨a,b,d,s,q⟩:=cA h c;have r:=oY (pos:=pos) h.calm a b hi q (λfp s2 H2=>he fp s2 H2<|s fp s2 H2) hs;rw[d,Xx]at r;exact r
theorem cu(h:SX X sc N L k)(hi:PIC X tg iter src)(hk : ∀fp s2 H2,SA X sc scope N tg fs k fp s2 H2->PTD (cxA X scope N tg fs fp s2 H2) cnd kk)(he : ∀fp s2 H2,SA X sc scope N tg fs k fp s2 H2->PV (cxA X scope N tg fs fp s2 H2) elt f)(c:cB sc scope N tg T n fs=true:=by decide +kernel)(hs : ∀x,foldedSetIterable iter X.env x=pure x:=by intro _;rfl) :
 PO X (.ListComp elt [⟨tg,iter,[cnd],0⟩] scope pos) (zP src T n fs kk f):=by
 obtain⟨a,b,d,s,q⟩:=cA h c;have r:=cv (pos:=pos) h.calm a b hi q (λfp s2 H2=>hk fp s2 H2<|s fp s2 H2) (λfp s2 H2=>he fp s2 H2<|s fp s2 H2) hs;rw[d,Xx]at r;exact r
theorem vW(h:SX X sc N L k)(hi:PIC X tg iter src)(he : ∀fp s2 H2,SA X sc scope N tg fs k fp s2 H2->PV (cxA X scope N tg fs fp s2 H2) elt f)(ct:yv sc N L i y=true:=by decide +kernel)(c:cB sc scope N tg T n fs=true:=by decide +kernel)(hs : ∀x,foldedSetIterable iter X.env x=pure x:=by intro _;rfl) :
 PS X (.Assign [.Name y py] (.ListComp elt [⟨tg,iter,[],0⟩] scope cpos) spos) (WA (tO X.K<|zP src T n fs jA f)<|yx i):=by
 obtain⟨a,b,d,s,q⟩:=cA h c;have r:=psc (cpos:=cpos) (spos:=spos) (py:=py) i h ct h.calm a b hi q (λfp s2 H2=>he fp s2 H2<|s fp s2 H2) hs;rw[d,Xx]at r;exact r
theorem EA(h:SX X sc N L k)(hi:PIC X tg iter src)(hk : ∀fp s2 H2,SA X sc scope N tg fs k fp s2 H2->PTD (cxA X scope N tg fs fp s2 H2) cnd kk)(he : ∀fp s2 H2,SA X sc scope N tg fs k fp s2 H2->PV (cxA X scope N tg fs fp s2 H2) elt f)(ct:yv sc N L i y=true:=by decide +kernel)(c:cB sc scope N tg T n fs=true:=by decide +kernel)(hs : ∀x,foldedSetIterable iter X.env x=pure x:=by intro _;rfl) :
 PS X (.Assign [.Name y py] (.ListComp elt [⟨tg,iter,[cnd],0⟩] scope cpos) spos) (WA (tO X.K<|zP src T n fs kk f)<|yx i):=by
 obtain⟨a,b,d,s,q⟩:=cA h c;have r:=Ey (cpos:=cpos) (spos:=spos) (py:=py) i h ct h.calm a b hi q (λfp s2 H2=>hk fp s2 H2<|s fp s2 H2) (λfp s2 H2=>he fp s2 H2<|s fp s2 H2) hs;rw[d,Xx]at r;exact r
theorem zw(h:SX X sc N L k)(c:Yd sc N i x=true:=by decide +kernel):PV X (.Name x pos) (zf i):=ux i<|h.var c
theorem jh(h:SX X sc N L k)(c:Yd sc N i x=true:=by decide +kernel):PQ X (.Name x pos) (zh i):=uP i<|h.var c
theorem Gi(h:SX X sc N L k)(c:tgB sc N L e T=true:=by decide +kernel):PG X e (gOf X.K T):=nW h c
theorem jH(h:SX X sc N L k)(he:PV X e f)(c:yv sc N L i x=true:=by decide +kernel)(hs:swapsWith e (some (.Name x py)) pos.line X.env=pure false:=by rfl):PSD X (.Assign [.Name x py] e pos) (jo i f):=oQ i<|h.set i c he hs
theorem vf(h:SX X sc N L k)(he:PO X e fo)(c:yv sc N L i x=true:=by decide +kernel)(hs:swapsWith e (some (.Name x py)) pos.line X.env=pure false:=by rfl):PSD X (.Assign [.Name x py] e pos) (ke i fo):=VG i<|h.set i c he hs
theorem kW{body:List Stmt}{F:CO Fl}(hx:X.xe=λ_ _=>False)(h:SX X sc N L k)(hi:PIF X tg iter src)(hb:aQ X body F)(c:tgB sc N L tg T=true:=by decide +kernel)(hs : ∀x,foldedSetIterable iter X.env x=pure x:=by intro _;rfl):PSD X (.For tg iter body [] pos) (Jm src T F):=oS (mP hx) h.calm hi (nW h c) hb hs
variable{j:Nat}{F:List D->Option Res}
theorem jg(z:FnD X.prog X.w X.K X.mg X.base j x n F)(h:SX X sc N L k)(ha:PAn X (e::es) n gl)(I:j<=k:=by decide)(c:vM sc x=true:=by decide +kernel)
 (he:starEach (e::es) X.env=(false,eval e X.env)::starEach es X.env:=by rfl) (O:(backTo pos<|starEach es X.env).any (·.1)=false:=by rfl):PV X (.Call (.Name x p) (e::es) [] pos) (zC F gl):=Ex z I h c ha he O
theorem yw(z:FnD X.prog X.w X.K X.mg X.base j x n F)(h:SX X sc N L k)(ha:PAn X (e::es) n gl)(I:j<=k:=by decide)(c:vM sc x=true:=by decide +kernel)
 (he:starEach (e::es) X.env=(false,eval e X.env)::starEach es X.env:=by rfl) (O:(backTo pos<|starEach es X.env).any (·.1)=false:=by rfl):PO X (.Call (.Name x p) (e::es) [] pos) (jB F gl):=EB z I h c ha he O
end
def QI:=z6 1 (zK (sIf (tZ (kf (sB (sIs .str (zf 0)))) (sB (zH dGe (QV (zf 0)) (zu (.int 6))))) (qv (zu (.bl false))) xc) (qv (sM (jV (zP (tU (zf 0)) (.nm 0) 1 [] jA (Hx (zf 0) (zG (zu (.tup [.str "r",.str "l"])))))))))
def wB:=z6 2<|zK (sIf (tZ (kf<|sB<|zC Ve<|zb (zf 1)<|zb (zu<|.int 2) zE)<|tZ (kf<|sB<|zC vH<|zb (zf 0)<|zb (sIx (zh 1)<|zu<|.int 0) zE)<|kf<|sB<|zC vH<|zb (zf 0)<|zb (sIx (zh 1)<|zu<|.int 1) zE) (qv<|zu<|.bl false) xc)<|qv<|zH dLe (sIx (zh 1)<|zu<|.int 0)<|sIx (zh 1)<|zu<|.int 1
def gd:=z6 2<|vS<|zP (mr<|zf 0) (.tp [0,1]) 2 [1] (sB<|y8 dLe dLe (sIx (zh 1)<|zu<|.int 0) (zf 2)<|sIx (zh 1)<|zu<|.int 1) (zf 0)
def Vf:=z6 3<|zK (jo 2<|qi<|zP (zO<|zh 0) (.nm 0) 1 [1] jA (z4<|jV<|zP (zO<|zh 1) (.nm 0) 1 [0] jA (JM (sB<|zH dEq (zf 1)<|zf 0) (zu<|.int 1)<|zu<|.int 0)))<|qv<|qh<|zb (Zo<|zh 0)<|zb (Zo<|zh 1)<|zb (z4<|zh 2) zE
def zZ:=z6 5<|zK (sIf (gO (sB<|zH dGt (Zo<|zh 0)<|zu<|.int 1)<|sB<|zH dEq (zH yG (sIx (zh 0)<|zu<|.int 0)<|zu<|.int 2)<|zu<|.int 1) (zK (jo 2<|sIx (zh 0)<|zH jF (zu<|.int 1)<|zH yG (zf 1)<|zH Jo (Zo<|zh 0)<|zu<|.int 1)<|zK (Jm (jK<|ub (zu<|.int 60)<|zH aH (zf 1)<|zH Jo (Zo<|zh 0)<|zu<|.int 1) (.nm 3)<|jo 2<|zH aH (zf 2)<|zH rV (zu<|.int 10)<|zu<|.int 9)<|qv<|zH yG (zf 2)<|zH rV (zu<|.int 10)<|zu<|.int 9) xc)<|zK (jo 4<|zf 1)<|zK (sIf (sB<|zH dGt (Zo<|zh 0)<|zu<|.int 0) (jo 4<|sIx (zh 0)<|zH yG (zf 1)<|Zo<|zh 0) xc)<|qv<|zH yG (zH yF (zH yG (zH jF (zH jF (zH jF (zH yF (zH yG (zf 4)<|zH rV (zu<|.int 10)<|zu<|.int 30)<|zu<|.int 48271)<|zH yF (zH yF (zu<|.int 7)<|zf 1)<|zf 1)<|zH yF (zu<|.int 13)<|zf 1)<|zu<|.int 5)<|zu<|.int 2147483647)<|zu<|.int 69621)<|zu<|.int 1000000007
def qI:=z6 5<|zK (jo 3<|qi<|zP (gG (sIx (zh 0)<|zu<|.int 2)<|sIx (zh 2)<|zu<|.int 2) (.tp [0,1]) 2 [] jA (zH jF (zf 0)<|zf 1))<|zK (jo 4<|qi<|zP (zO<|zG<|sIx (zh 1)<|zu<|.int 2) (.nm 0) 1 [0] jA (zH jF (zH yF (qh<|zb (zu<|.int 0) zE)<|sIx (zh 1)<|zu<|.int 1)<|zf 0))<|qv<|qh<|zb (zH jF (sIx (zh 0)<|zu<|.int 0)<|sIx (zh 1)<|zu<|.int 0)<|zb (zH jF (sIx (zh 0)<|zu<|.int 1)<|sIx (zh 1)<|zu<|.int 1)<|zb (z4<|zG<|qi<|Kb (zh 3)<|zh 4) zE
def vF:=z6 2<|qv<|zC qR<|zb (sIx (zh 0)<|zu<|.int 0)<|zb (sIx (zh 1)<|zu<|.int 1) zE
def qk:=z6 2<|qv<|zC qI<|zb (zf 0)<|zb (zf 1)<|zb (zC vF<|zb (zf 0)<|zb (zf 1) zE) zE
def kS:=z6 3<|vS<|jB qL<|zb (zf 0)<|zb (sIx (zh 1)<|zu<|.int 0)<|zb (qi<|zP (zO<|zh 2) (.nm 0) 1 [0,1] jA (zC Vd<|zb (zf 1)<|zb (zf 2)<|zb (zf 0) zE)) zE
def YD:=(BI 4<|ke 4<|mw kS j7<|zb (sIx (zh 0)<|zu<|.int 0)<|zb (sIx (zh 5)<|zu<|.int 0)<|zb (zC qk<|zb (zf 3)<|zb (sIx (zh 5)<|zu<|.int 1) zE)<|zb (zf 4) zE)
def Ws:=z6 6<|zK (jo 3<|zC jC<|zb (sIx (zG<|sIx (zh 0)<|zu<|.int 1)<|zf 1) zE)<|zK (ke 4<|zP (zO<|zG<|sIx (zh 3)<|zu<|.int 2) (.nm 0) 1 [] jA (zH jF (zf 0)<|zf 0))<|zK (Jm (zO<|zG<|QT (sIx (zh 0)<|zu<|.int 2) (sBd<|zf 1)<|sBd<|zf 2) (.nm 5) YD)<|Zn 4
def qu:=z6 2 (zK (sIf (sB (zH dEq (zf 1) (zu (.str "r")))) (qv (qh (zb (zf 0) (zb (zH jF (zf 0) (zu (.int 1))) zE)))) xc) (qv (qh (zb (zH jF (zf 0) (zu (.int 1))) (zb (zf 0) zE)))))
def JN:=(zK (gH (.tp [7,8])<|zC qu<|zb (zf 5)<|zb (zf 6) zE)<|kZ 4<|qh<|zb (zf 6)<|zb (qh<|zb (sIx (zh 2)<|zf 8)<|zb (sIx (zh 2)<|zf 7)<|zb (z4<|jV<|zP (zO<|zG<|sIx (zh 3)<|zf 5) (.nm 0) 1 [] jA (z4<|zh 0)) zE) zE)
def qK:=z6 9<|zK (ke 4<|xX zE)<|zK (Jm (Zp<|zf 1) (.tp [5,6]) JN)<|qv<|qh<|zb (zf 0)<|zb (z4<|zh 2)<|zb (z4<|zh 4) zE
def qS:=z6 4 (zK (jo 2 (zu (.str ""))) (zK (Jm (jK (zH Jo (zf 1) (zu (.int 1)))) (.nm 3) (zK (jo 2 (gN (zf 2) (JL (zu (.str "rl")) (zH yG (zf 0) (zu (.int 2)))))) (jo 0 (zH aH (zf 0) (zu (.int 2)))))) (Zn 2)))
def qT:=z6 8<|zK (ke 5<|xX zE)<|zK (Jm (jK<|zf 3) (.nm 6)<|zK (jo 7<|qi<|zP (jK<|zf 4) (.nm 0) 1 [0,1,4,6] jA (zC zZ<|zb (zf 1)<|zb (zH jF (zH jF (zf 2)<|zH yF (zf 4)<|zf 3)<|zf 0) zE))<|kZ 5<|qi<|zP (zO<|zh 7) (.nm 0) 1 [2] jA (zH yF (zH yG (zH aH (zf 0)<|zu<|.int 4)<|zf 1)<|bJ<|zH dGt (zH yG (zf 0)<|zu<|.int 4)<|zu<|.int 0))<|Zn 5
def aF:=(zK (gH (.tp [9,10])<|zC qu<|zb (zf 7)<|zb (zf 8) zE)<|kZ 6<|qi<|jB qT<|zb (zf 0)<|zb (zH jF (zH jF (zf 1)<|zu<|.int 10)<|zH yF (zu<|.int 20)<|zf 7)<|zb (zf 2)<|zb (sIx (zh 5)<|zf 10)<|zb (sIx (zh 5)<|zf 9) zE)
def qg:=z6 11<|zK (jo 5<|qi<|zP (jK<|zH jF (QV<|zf 3)<|zu<|.int 1) (.nm 0) 1 [0,1,4] jA (zH yG (zC zZ<|zb (zf 1)<|zb (zH jF (zf 2)<|zf 0) zE)<|zH jF (zf 3)<|zu<|.int 1))<|zK (ke 6<|xX zE)<|zK (Jm (Zp<|zf 3) (.tp [7,8]) aF)<|BI 6<|qv<|zC qK<|zb (zf 2)<|zb (zf 3)<|zb (zf 5)<|zb (zf 6) zE
abbrev dsq(k:Sk)(xs:List D):D:=match k with | .T=>D.tup xs | .L=>D.lst xs
@[simp] theorem GG(k xs):jf (dsq k xs)=some (k,xs):=by cases k<;>rfl
theorem QG(k:Sk)(f:Nat->Int)(z:0<p)(hn:n<=lim) :
 xl [.int p,dsq k (zF n f)]=some (.val<|.tup<|zF n λi=>f i%p):=by
 simp[xl,z6,zY,jk,hn,qY];unfold zF;rw[zB (r:=λi=>D.int<|f i%p)]
 ·simp
 ·intro i hi
  refine zD rfl rfl ?_;simp[z]
theorem fZ(f:Nat->Int)(z:0<p)(hn:n<=lim) :
 xl [.int p,.tup (zF n f)]=some (.val<|.tup<|zF n λi=>f i%p):=QG .T f z hn
theorem Jg(f:Nat->Int)(z:0<p)(hn:n<=lim) :
 xl [.int p,.lst (zF n f)]=some (.val<|.tup<|zF n λi=>f i%p):=QG .L f z hn
theorem XS(k:Sk)(f:RK)(g:Nat->Int)(I:0<p)(z:h<=lim)(hw:w<=lim)(O : ∀i j,i<h->j<w->0<=f i j/\f i j<100) :
 Vd [.int p,jn h w f,dsq k (zF w g)]=some (.val<|.tup<|zF h λi=>zc (λj=>f i j*g j) w%p):=by
 simp[Vd,z6,zY,jk,z,qY,jn,Iw];unfold zN;rw[zB (r:=λi=>D.int<|zc (λj=>f i j*g j) w)]
 ·simp
  rw[show(List.map (λi=>D.int<|zc (λj=>f i j*g j) w)<|Io h)=zF h λi=>zc (λj=>f i j*g j) w from rfl,Jg _ I z];rfl
 ·intro i hi
  refine zD rfl rfl ?_;simp[jk,Vg,hw];rw[zB (r:=λj=>D.int<|f i j*g j)]
  ·simp
   rw[show(List.map (λj=>D.int<|f i j*g j)<|Io w)=zF w λj=>f i j*g j from rfl,Zi]
  ·intro j U
   refine zD rfl rfl ?_;have:=O i j (Iu.mp hi)<|Iu.mp U;simp[ZV (f i j) (g j) ⋯ ⋯]
theorem xF(f:RK)(z:h<=lim)(hw:w<=lim):js [jn h w f]=some (.val<|jn w h λi j=>f j i):=by
 simp[js,z6,zY,jk,z,hw,qY,jn,Iw,jj,qG];rw[jE w λi=>(i:Int)];rw[zB (r:=λj=>D.tup<|zF h λi=>f i j)]
 ·simp
  rfl
 ·intro j I
  refine zD rfl rfl ?_;simp[jk,z,qY];unfold zN;rw[zB (r:=λi=>D.int<|f i j)]
  ·simp
   rfl
  ·intro i hi
   refine zD rfl rfl ?_;have h1:=Iu.mp I;simp[h1,qH _ h1]
theorem ko(hn:n<=lim):jC [.int n]=some (.val<|jn n n λi j=>if i=j then 1 else 0):=by
 simp[jC,z6,zY,jj,hn,jk,qY,Iw,qG];rw[jE n λi=>(i:Int)];rw[zB (r:=λi=>D.tup<|zF n λj=>if i=j then 1 else 0)]
 ·simp
  rfl
 ·intro i hi
  refine zD rfl rfl ?_;simp[hn,jk,Iw,qG,qY];rw[jE n λi=>(i:Int)];rw[zB (r:=λj=>D.int<|if i=j then 1 else 0)]
  ·simp
   rfl
  ·intro j z
   refine zD rfl rfl ?_;simp;by_cases e:i=j
   ·simp[e]
   ·rw[EQ ⋯,EQ e]
theorem k3(d:D)(w:Nat):Iw w d=(Io w).map λ_=>d:=by
 induction w with
 | zero=>rfl
 | succ n z=>rw[List.replicate_succ',z,Me,Lx];simp
theorem Y9(z:h<=lim)(hw:w<=lim):qR [.int h,.int w]=some (.val<|jn h w λ_ _=>0):=by simp[qR,z6,zY,jj,yF,z,hw];rw[k3,k3];rfl
def wj(ns:List Int):D:= .lst (ns.map D.int)
mutual
theorem eqD_refl : ∀d:D,eqD d d=true
 | .non=>rfl
 | .bl b=>by simp[eqD]
 | .int i=>by simp[eqD]
 | .str x=>by simp[eqD]
 | .tup xs=>by simp only[eqD];exact eqDs_refl xs
 | .lst xs=>by simp only[eqD];exact eqDs_refl xs
 | .dic a b=>by simp only[eqD];rw[eqDs_refl a,eqDs_refl b];rfl
 | .dct a b=>by simp only[eqD];rw[eqDs_refl b];simp
theorem eqDs_refl : ∀ds:List D,eqDs ds ds=true
 | []=>rfl
 | d::ds=>by simp only[eqDs,eqD_refl d,eqDs_refl ds,Bool.and_self]
end
theorem wV{d:D}(h:okD d=true):dNe d d=some (.bl false):=by unfold dNe;rw[RY ⟨h,h⟩,eqD_refl];rfl
theorem GE(a b c:D):vx [a,b,c] none (some 2)=[a,b]:=by simp[vx,JB]
def wch(b:Bool):Nat:=if b then 108 else 114
def qN(c:Nat):Str:=⟨#[c]⟩
theorem J1 : ∀(l:List Nat),(Rl "" (l.map qN)).cps.toList=l
 | []=>rfl
 | [c]=>rfl
 | c::d::l=>by
  have z:=J1 (d::l);show((qN c++("" : Str))++Rl "" ((d::l).map qN)).cps.toList=_;have e : ∀a b:Str,(a++b).cps.toList=a.cps.toList++b.cps.toList:=λa b=>by show(a.cps++b.cps).toList=_;simp
  rw[e,e,z];rfl
def xN(m:Nat)(w:RX):Str:=Rl "" ((Io m).map λk=>qN (wch (w k)))
theorem x9(m w):(xN m w).cps.toList=(Io m).map λk=>wch (w k):=by have:=J1<|(Io m).map λk=>wch<|w k;rw[LA]at this;exact this
theorem Vh(m w):(xN m w).length=m:=by show(xN m w).cps.size=m;rw[<- Nd,x9];simp
theorem vN{m:Nat}(w)(hm:m<=1000):ji (xN m w)=true:=decide_eq_true (by rw[Vh];exact hm)
theorem Vr{α:Type}(g:α->Str) : ∀l:List α,X4 (l.map λx=>D.str<|g x)=some (l.map g)
 | []=>rfl
 | a::l=>by simp[X4,Vr g l]
def hiW(w:RX)(wd:RZ)(k:Nat):Nat:=if w k then wd k else wd (k+1)
def wiW(w:RX)(wd:RZ)(k:Nat):Nat:=if w k then wd (k+1)else wd k
def xk(w:RX)(wd:RZ)(T:RV)(k:Nat):D:= .tup [.str (qN<|wch<|w k),jn (hiW w wd k) (wiW w wd k) (T k)]
def j1(m:Nat)(w:RX)(wd:RZ)(T:RV):List D:=(Io m).map (xk w wd T)
def jI(p:Int)(m:Nat)(w:RX)(wd:RZ)(T:RV):D:= .tup [.int p,.tup<|zF (m+1) λk=>(wd k:Int),.tup (j1 m w wd T)]
@[simp] theorem fM(m w wd T):(j1 m w wd T).length=m:=by simp[j1]
theorem Al(b:Bool):okD (.str<|qN<|wch b)=true:=by cases b<;>decide +kernel
theorem et(b:Bool):dEq (.str (qN (wch b))) (.str "r")=some (.bl (!b)):=by
 have e : ∀b:Bool,(qN (wch b)==(LR "r")) = !b:=by decide +kernel
 have z:okD (.str (LR "r"))=true:=by decide +kernel
 unfold dEq;rw[RY ⟨Al b,z⟩];show some (D.bl (qN (wch b)==LR "r"))=_;rw[e]
theorem CF:LR "r" = qN (wch false):=by decide +kernel
theorem CG:LR "l" = qN (wch true):=by decide +kernel
theorem JC(b:Bool):kP [.str (qN<|wch b)]=some (.val<|.str<|qN<|wch !b):=by have e1:=CF;have z:=CG;have q:=et b;rw[e1]at q;cases b<;>simp[kP,z6,zY,e1,z]at q ⊢ <;> simp[q]
theorem eZ(f:Nat->D)(h1:i<=j)(h2:j<=n):vx ((Io n).map f) (some (i:Int)) (some (j:Int))=(Io<|j - i).map λk=>f (i+k):=by
 have c : ∀(d k:Nat),k<=n->JB n d (some (k:Int))=k:=λd k hk=>by show(if (k:Int)<0 then ((k:Int)+n).toNat else min (k:Int).toNat n)=k;rw[EQ ⋯];simp only[Mh];omega
 have z:((Io n).map f).length=n:=by simp
 unfold vx;rw[z,c 0 i ⋯,c n j h2];apply Rf
 ·simp;omega
 ·intro k I g2
  simp
section
variable{p:Int}{m:Nat}{w:RX}{wd:RZ}{T:RV}
theorem Bo(h1:i<=j)(h2:j<=m):vx (j1 m w wd T) (some (i:Int)) (some (j:Int))=j1 (j - i) (λk=>w<|i+k) (λk=>wd<|i+k) (λk=>T<|i+k):=by unfold j1;rw[eZ _ h1 h2];apply IK;intro k hk;unfold xk hiW wiW;rfl
end
section
variable{p:Int}
def kl(h w:Nat)(f:RK):List D:=(Io h).map λi=>D.lst<|zF w<|f i
@[simp] theorem Bg(h w f):(kl h w f).length=h:=by simp[kl]
end
theorem zg : ∀{n:Nat},(∀k,k<n->f k=g k)->zc f n=zc g n
 | 0,_=>rfl
 | n+1,h=>by simp only[zc];rw[zg (n:=n) λk hk=>h k ⋯,h n ⋯]
theorem zy(n:Nat):zc (λ_=>0) n=0:=by
 induction n with
 | zero=>rfl
 | succ n z=>simp[zc,z]
theorem zI(hi:i<n)(h : ∀k,k<n->k≠i->f k=0):zc f n=f i:=by
 induction n with
 | zero=>omega
 | succ n z=>
  simp only[zc];by_cases e:i=n
  ·subst e
   rw[zg (g:=λ_=>0) (λk hk=>h k ⋯ ⋯),zy];omega
  ·rw[z ⋯ λk hk=>h k ⋯,h n ⋯ ⋯]
   omega
theorem jt(f g:Nat->Int)(n:Nat):zc (λk=>f k+g k) n=zc f n+zc g n:=by
 induction n with
 | zero=>rfl
 | succ n z=>simp only[zc,z];omega
theorem jx(f:Nat->Int)(c:Int)(n:Nat):zc (λk=>f k*c) n=zc f n*c:=by
 induction n with
 | zero=>simp[zc]
 | succ n z=>simp only[zc,z,On]
theorem zV(f:Nat->Int)(c:Int)(n:Nat):zc (λk=>c*f k) n=c*zc f n:=by
 induction n with
 | zero=>simp[zc]
 | succ n z=>simp only[zc,z,Om]
theorem jw(f:RK)(n m:Nat):zc (λi=>zc (λj=>f i j) m) n=zc (λj=>zc (λi=>f i j) n) m:=by
 induction n with
 | zero=>simp[zc,zy]
 | succ n z=>simp only[zc];rw[z,<- jt]
theorem zx : ∀{n:Nat},(∀k,k<n->f k%p=g k%p)->zc f n%p=zc g n%p
 | 0,_=>rfl
 | n+1,h=>by simp only[zc];rw[IV,zx (n:=n)<|λk hk=>h k ⋯,h n ⋯,<- IV]
theorem cX(p x y:Int):(x%p*y)%p=(x*y)%p:=by rw[IB,Lb,<- IB]
theorem qr(p x y:Int):(x*(y%p))%p=(x*y)%p:=by rw[IB,Lb,<- IB]
abbrev Vc:=Nat->Int
def Pr(p:Int):Prop:=p=2\/p=3\/p=5\/p=7
theorem Pr.pos(h:Pr p):0<p:=by unfold Pr at h;omega
theorem Pr.two(h:Pr p):2<=p:=by unfold Pr at h;omega
theorem Pr.le(h:Pr p):p<=7:=by unfold Pr at h;omega
theorem Pr.one(h:Pr p):(1:Int)%p=1:=Lh ⋯ (by have:=h.two;omega)
inductive Span(p:Int)(n:Nat)(G:Vc->Prop):Vc->Prop where
 | zero {v:Vc}:(∀i,i<n->v i%p=0)->Span p n G v
 | step {v w g:Vc} {c:Int}:G g->Span p n G w->(∀i,i<n->v i%p=(w i+c*g i)%p)->Span p n G v
section
variable{p:Int}{n:Nat}{G G':Vc->Prop}
theorem Span.congr(h:Span p n G v)(e : ∀i,i<n->v' i%p=v i%p):Span p n G v':=by
 cases h with
 | zero h=>exact .zero λi hi=>by rw[e i hi,h i hi]
 | step z hw h=>exact .step z hw λi hi=>by rw[e i hi,h i hi]
theorem Span.gen(h:G g):Span p n G g:= .step (c:=1) h (.zero (v:=λ_=>0) λi _=>by simp) λi _=>by simp
theorem Span.add(I:Span p n G v)(hw:Span p n G w) : ∀c:Int,Span p n G λi=>w i+c*v i:=by
 induction I with
 | zero h=>
  intro c;refine hw.congr λi hi=>?_;rw[IV,IB,h i hi];simp
 | @step v w' g z O Y h U=>
  intro c;refine .step (c:=c*z) O (U c) λi hi=>?_;have e:(c*v i)%p=(c*(w' i+z*g i))%p:=by rw[IB,h i hi,<- IB]
  rw[IV,e,<- IV];congr 1;rw[Om,<- Lw,Int.add_assoc]
theorem Span.smul(z:Span p n G v)(c:Int):Span p n G λi=>c*v i:=
 (z.add (w:=λ_=>0) (.zero λi _=>by simp) c).congr λi _=>by simp
theorem Span.le(h:Span p n G v)(z : ∀g,G g->Span p n G' g):Span p n G' v:=by
 induction h with
 | zero h=>exact .zero h
 | step I hw h O=>exact((z _ I).add O _).congr h
end
structure IsB(p:Int)(n r:Nat)(B:Nat->Vc)(l:RZ):Prop where
 lt : ∀k,k<r->l k<n
 mono : ∀k m,k<m->m<r->l k<l m
 one : ∀k,k<r->B k (l k)=1
 bef : ∀k j,k<r->j<l k->B k j=0
 oth : ∀k m,k<r->m<r->m≠k->B k (l m)=0
 rng : ∀k i,k<r->i<n->0<=B k i/\B k i<p
def Fam(r:Nat)(B:Nat->Vc):Vc->Prop:=λv=>∃k,k<r/\v=B k
section
variable{p:Int}{n r r':Nat}{B B':Nat->Vc}{l l':RZ}
theorem wm(hb:IsB p n r B l)(h:Span p n (Fam r B) v) : ∀i,i<n->v i%p=zc (λk=>v (l k)*B k i) r%p:=by
 induction h with
 | @zero v h=>
  intro i hi;rw[h i hi];have:zc (λk=>v (l k)*B k i) r%p=zc (λ_=>0) r%p:=zx λk hk=>by rw[IB,h _ (hb.lt k hk)];simp
  rw[this,zy];rfl
 | @step v w g c z hw h I=>
  intro i hi;obtain⟨m,hm,rfl⟩:=z;rw[h i hi];have e1:zc (λk=>v (l k)*B k i) r%p=zc (λk=>w (l k)*B k i+c*B m (l k)*B k i) r%p:=zx λk hk=>by rw[IB,h _<|hb.lt k hk,<- IB,On]
  have O:zc (λk=>c*B m (l k)*B k i) r=c*B m i:=by rw[zI (i:=m) hm λk hk U=>by rw[hb.oth m k hm hk U];simp,hb.one m hm];simp
  rw[e1,jt,O,IV,I i hi,<- IV]
theorem YI(hb:IsB p n r B l)(h:Span p n (Fam r B) v)(z:j<n)(h0:v j%p≠0)(hz : ∀i,i<j->v i%p=0) : ∃k,k<r/\l k=j:=by
 apply LS;intro I;apply h0;rw[wm hb h j z];have:zc (λk=>v (l k)*B k j) r%p=zc (λ_=>0) r%p:=zx λk hk=>by
  have O:l k≠j:=λe=>I ⟨k,hk,e⟩;rcases IJ (l k) j with q | q
  ·rw[IB,hz _ q];simp
  ·rw[hb.bef k j hk ⋯];simp
 rw[this,zy];rfl
theorem V1(O : ∀k m,k<m->m<r->l k<l m)(U : ∀k m,k<m->m<r'->l' k<l' m)(s1 : ∀k,k<r->∃m,m<r'/\l' m=l k)(s2 : ∀k,k<r'->∃m,m<r/\l m=l' k) :
 ∀k,k<r->k<r'/\l k=l' k:=by
 intro k
 induction k using Nat.strongRecOn with
 | ind k Y=>
  intro hk;obtain⟨m,hm,em⟩:=s1 k hk;have a1:k<=m:=by
   rcases IJ m k with q | q
   ·have:=(Y m q ⋯).2
    have:=O m k q hk;omega
   ·exact q
  have I:k<r':=by omega
  refine⟨I,?_⟩;obtain⟨q,hq,eq⟩:=s2 k I;have a3:k<=q:=by
   rcases IJ q k with z | z
   ·have:=(Y q z ⋯).2
    have:=U q k z I;omega
   ·exact z
  rcases IJ k m with z | z
  ·have h1:=U k m z hm
   have h2:l k<=l q:=by
    rcases IJ k q with y | y
    ·exact Pf<|O k q y hq
    ·have:k=q:=by omega
     subst this;exact IC _
   omega
  ·have:m=k:=by omega
   subst this;exact em.symm
theorem K4(U:Pr p)(hb:IsB p n r B l)(z:IsB p n r' B' l')(h1 : ∀v,Span p n (Fam r B) v->Span p n (Fam r' B') v)(h2 : ∀v,Span p n (Fam r' B') v->Span p n (Fam r B) v) :
 r=r'/\(∀k,k<r->l k=l' k)/\∀k i,k<r->i<n->B k i=B' k i:=by
 have one:=U.one;have s1 : ∀k,k<r->∃m,m<r'/\l' m=l k:=λk hk=>YI z (h1 _<|.gen ⟨k,hk,rfl⟩) (hb.lt k hk) (by rw[hb.one k hk,one];decide) λi hi=>by rw[hb.bef k i hk hi];simp
 have s2 : ∀k,k<r'->∃m,m<r/\l m=l' k:=λk hk=>YI hb (h2 _<|.gen ⟨k,hk,rfl⟩) (z.lt k hk) (by rw[z.one k hk,one];decide) λi hi=>by rw[z.bef k i hk hi];simp
 have e1:=V1 hb.mono z.mono s1 s2;have Y:=V1 z.mono hb.mono s2 s1;have er:r=r':=by
  rcases Nb r r' with q | q | q
  ·exact absurd (Y r q).1 (Lz _)
  ·exact q
  ·exact absurd (e1 r' q).1 (Lz _)
 subst er;refine⟨rfl,λk hk=>(e1 k hk).2,λk i hk hi=>?_⟩;have c:=wm z (h1 _<|.gen ⟨k,hk,rfl⟩) i hi;rw[zI (i:=k) hk λm hm a0=>by rw[<- (e1 m hm).2,hb.oth k m hk hm a0];simp,<- (e1 k hk).2,hb.one k hk,OU]at c;have I:=hb.rng k i hk hi;have O:=z.rng k i hk hi;rw[Lh I.1 I.2,Lh O.1 O.2]at c;exact c
end
theorem jq(q:α->Bool)(r:α->D) : ∀(l:List α),(∀x∈l,∃γ1,qM T (g x) γ=some γ1/\k γ1=some (q x)/\(q x=true->f γ1=some (r x)))->
 zS T k f γ (l.map g)=some ((l.filter q).map r)
 | [],_=>rfl
 | x::l,h=>by
  obtain⟨γ1,h1,h2,I⟩:=h x IY;have z:=jq q r l λy O=>h y<|IT _ O;simp only[IS,zS,h1,h2,Iz];cases e:q x with
  | true=>simp[I e,z,e]
  | false=>simp[z,e]
theorem AZ(z:Pr p)(h0:0<x)(h1:x<p) : ∃y:Nat,1<=y/\(y:Int)<p/\(y:Int)*x%p=1:=by
 rcases z with rfl | rfl | rfl | rfl
 ·obtain rfl:x=1:=by omega
  exact⟨1,by decide,by decide,by decide⟩
 ·rcases (show x=1\/x=2 by omega)with rfl | rfl
  ·exact⟨1,by decide,by decide,by decide⟩
  ·exact⟨2,by decide,by decide,by decide⟩
 ·rcases (show x=1\/x=2\/x=3\/x=4 by omega)with rfl | rfl | rfl | rfl
  ·exact⟨1,by decide,by decide,by decide⟩
  ·exact⟨3,by decide,by decide,by decide⟩
  ·exact⟨2,by decide,by decide,by decide⟩
  ·exact⟨4,by decide,by decide,by decide⟩
 ·rcases (show x=1\/x=2\/x=3\/x=4\/x=5\/x=6 by omega)with rfl | rfl | rfl | rfl | rfl | rfl
  ·exact⟨1,by decide,by decide,by decide⟩
  ·exact⟨4,by decide,by decide,by decide⟩
  ·exact⟨5,by decide,by decide,by decide⟩
  ·exact⟨2,by decide,by decide,by decide⟩
  ·exact⟨3,by decide,by decide,by decide⟩
  ·exact⟨6,by decide,by decide,by decide⟩
theorem KP{q:RX}{n a:Nat}{xJ:List Nat}(h:(Io n).filter q=a::xJ):a<n/\q a=true/\∀i,i<a->q i=false:=by
 have hm:a∈(Io n).filter q:=by rw[h];exact IY
 refine⟨Iu.mp (IP.mp hm).1,(IP.mp hm).2,λi hi=>?_⟩;apply LS;intro z;have I:q i=true:=by simpa using z
 have O:i∈a::xJ:=by rw[<- h];exact IP.mpr ⟨Iu.mpr (by have:=Iu.mp (IP.mp hm).1;omega),I⟩
 have hs:(a::xJ).Pairwise (· < ·):=by rw[<- h];exact OG _ NR
 rcases IG.mp O with e | e
 ·omega
 ·have:=(List.pairwise_cons.mp hs).1 i e;omega
theorem cT(h:(Io n).filter q=[]) : ∀i,i<n->q i=false:=λi hi=>by apply LS;intro z;have:i∈(Io n).filter q:=IP.mpr ⟨Iu.mpr hi,by simpa using z⟩;rw[h]at this;simp at this
theorem Yb(z:Pr p)(h0:0<x)(h1:x<p) : ∃y,vK [.int p,.int x]=some (.val<|.int y)/\1<=y/\y<p/\x*y%p=1:=by
 rcases z with rfl | rfl | rfl | rfl
 ·have:x=1:=by omega
  subst this;exact⟨1,rfl,by decide,by decide,by decide⟩
 ·have:x=1\/x=2:=by omega
  rcases this with rfl | rfl
  ·exact⟨1,rfl,by decide,by decide,by decide⟩
  ·exact⟨2,rfl,by decide,by decide,by decide⟩
 ·have:x=1\/x=2\/x=3\/x=4:=by omega
  rcases this with rfl | rfl | rfl | rfl
  ·exact⟨1,rfl,by decide,by decide,by decide⟩
  ·exact⟨3,rfl,by decide,by decide,by decide⟩
  ·exact⟨2,rfl,by decide,by decide,by decide⟩
  ·exact⟨4,rfl,by decide,by decide,by decide⟩
 ·have:x=1\/x=2\/x=3\/x=4\/x=5\/x=6:=by omega
  rcases this with rfl | rfl | rfl | rfl | rfl | rfl
  ·exact⟨1,rfl,by decide,by decide,by decide⟩
  ·exact⟨4,rfl,by decide,by decide,by decide⟩
  ·exact⟨5,rfl,by decide,by decide,by decide⟩
  ·exact⟨2,rfl,by decide,by decide,by decide⟩
  ·exact⟨3,rfl,by decide,by decide,by decide⟩
  ·exact⟨6,rfl,by decide,by decide,by decide⟩
theorem yi(I:Pr p)(hn:n<=lim)(z:t<n)(w P:Nat->Int)(hw : ∀i,i<n->0<=w i/\w i<p) :
 jS [.int p,.tup<|zF n w,.tup<|zF n P,.int t]=some (.val<|.tup<|zF n λi=>(w i - w t*P i)%p):=by
 have U:=hw t z;have Y:=I.le;have O : ∀x,XX (w t) x=true:=λx=>ZV _ _ ⋯ ⋯;by_cases h0:w t=0
 ·simp[jS,z6,zY,jj,z,h0]
  apply xS;intro i hi;rw[Lh (hw i hi).1 (hw i hi).2]
 ·simp[jS,z6,zY,jj,z,h0,Vg,hn,jk,qY,Iw]
  rw[zB (r:=λi=>D.int<|w i - w t*P i)]
  ·rw[<- jE]
   simp[Jg _ I.pos hn]
  ·intro i hi
   refine zD rfl rfl ?_;simp[O]
theorem Yy{l:RZ}{r t:Nat}(hm : ∀k m,k<m->m<r->l k<l m)(z : ∀k,k<r->l k<t):r<=t:=by
 have I : ∀k,k<r->k<=l k:=by
  intro k
  induction k with
  | zero=>intro _;exact MN _
  | succ k O=>
   intro hk;have h1:=O ⋯;have h2:=hm k (k+1) ⋯ hk;omega
 cases r with
 | zero=>exact MN _
 | succ r=>
  have h1:=I r ⋯;have h2:=z r ⋯;omega
def wY:=(zK (jo 6<|qi<|zP (zO<|zh 3) (.nm 0) 1 [5] (sB<|zH dNe (sIx (zh 0)<|zf 1)<|zu<|.int 0) (zf 0))<|zK (sIf (kf<|oz<|zh 6) oE xc)<|zK (jo 7<|zC vK<|zb (zf 0)<|zb (sIx (zG<|sIx (zh 6)<|zu<|.int 0)<|zf 5) zE)<|zK (jo 8<|zC xl<|zb (zf 0)<|zb (qi<|zP (zO<|zG<|sIx (zh 6)<|zu<|.int 0) (.nm 0) 1 [7] jA (zH yF (zf 1)<|zf 0)) zE)<|zK (jo 3<|qi<|zP (zO<|zh 3) (.nm 0) 1 [0,5,8] jA (zC jS<|zb (zf 1)<|zb (zf 0)<|zb (zf 3)<|zb (zf 2) zE))<|ke 4<|Kb (jV<|zP (zO<|zh 4) (.nm 0) 1 [0,5,8] jA (zC jS<|zb (zf 1)<|zb (zf 0)<|zb (zf 3)<|zb (zf 2) zE))<|jV<|xX<|zb (zf 8) zE)
def Un(r:Nat)(B:Nat->Vc)(m:Nat)(W:Nat->Vc):Vc->Prop:=λv=>Fam r B v\/Fam m W v
structure BInv(p:Int)(n m:Nat)(W:Nat->Vc)(t r:Nat)(B:Nat->Vc)(l:RZ)(Wt:Nat->Vc):Prop where
 rng : ∀j i,j<m->i<n->0<=Wt j i/\Wt j i<p
 zer : ∀j i,j<m->i<t->Wt j i=0
 isb:IsB p n r B l
 lt : ∀k,k<r->l k<t
 span : ∀v,Span p n (Un r B m Wt) v↔Span p n (Fam m W) v
section
variable{p:Int}{n m:Nat}{W:Nat->Vc}{t r:Nat}{B:Nat->Vc}{l:RZ}{Wt:Nat->Vc}
theorem BInv.skip(h:BInv p n m W t r B l Wt)(hz : ∀j,j<m->Wt j t=0):BInv p n m W (t+1) r B l Wt:=
 ⟨h.rng,λj i z hi=>by
  rcases IJ i t with q | q
  ·exact h.zer j i z q
  ·have:i=t:=by omega
   subst this;exact hz j z,h.isb,λk hk=>LY<|h.lt k hk,h.span⟩
def clr(p:Int)(P:Vc)(t:Nat)(w:Vc):Vc:=λi=>(w i - w t*P i)%p
def W9(p:Int)(P:Vc)(t r:Nat)(B:Nat->Vc):Nat->Vc:=λk=>if k<r then clr p P t (B k)else P
def mU(t r:Nat)(l:RZ):Nat->Nat:=λk=>if k<r then l k else t
theorem wX(z:Span p n G P)(hw:Span p n G w):Span p n G (clr p P t w):=
 (z.add hw (-(w t))).congr λi _=>by unfold clr;rw[Lb];congr 1;rw[Int.neg_mul];omega
theorem Vn(z:Span p n G P)(hw:Span p n G (clr p P t w)):Span p n G w:=
 (z.add hw<|w t).congr λi _=>by unfold clr;rw[IV,Lb,<- IV];congr 1;omega
theorem BInv.next(hp:Pr p)(h:BInv p n m W t r B l Wt)(ht:t<n)(a6:j0<m)(hy:Wt j0 t*y%p=1)(O : ∀i,i<n->P i=y*Wt j0 i%p) :
 BInv p n m W (t+1) (r+1) (W9 p P t r B) (mU t r l) (λj=>clr p P t<|Wt j):=by
 have p0:=hp.pos;have one:=hp.one;have Pt:P t=1:=by rw[O t ht,LK];exact hy
 have Pz : ∀i,i<t->P i=0:=λi hi=>by rw[O i ⋯,h.zer j0 i a6 hi];simp
 have ae : ∀i,i<n->0<=P i/\P i<p:=λi hi=>by rw[O i hi];exact⟨Le _ ⋯,IU _ p0⟩
 have cr : ∀(w:Vc) i,0<=clr p P t w i/\clr p P t w i<p:=λw i=>⟨Le _ ⋯,IU _ p0⟩;have U : ∀(w:Vc) i,i<t->0<=w i->w i<p->clr p P t w i=w i:=λw i hi h1 h2=>by unfold clr;rw[Pz i hi,Oz,Pg];exact Lh h1 h2
 have ct : ∀w:Vc,clr p P t w t=0:=λw=>by unfold clr;rw[Pt,MO,Int.sub_self];simp
 refine⟨λj i I hi=>cr _ _,λj i I hi=>?_,⟨λk hk=>?_,λk q ag hq=>?_,λk hk=>?_,λk j hk I=>?_,λk q hk hq an=>?_,λk i hk hi=>?_⟩,λk hk=>?_,λv=>?_⟩
 ·rcases IJ i t with q | q
  ·have e:=h.zer j i I q
   rw[U _ i q ⋯ ⋯];exact e
  ·have:i=t:=by omega
   subst this;exact ct _
 ·unfold mU;split
  ·rename_i q;exact h.isb.lt k q
  ·exact ht
 ·unfold mU
  have hk:k<r:=by omega
  rw[RY hk];split
  ·rename_i z;exact h.isb.mono k q ag z
  ·exact h.lt k hk
 ·unfold mU W9;split
  ·rename_i q
   have e:=h.isb.one k q;have Y:=h.lt k q;rw[U _ _ Y ⋯ (by have:=hp.two;omega)];exact e
  ·exact Pt
 ·unfold W9;unfold mU at I;split at I
  ·rename_i q
   have e:=h.isb.bef k j q I;have Y:=h.lt k q;rw[RY q,U _ _ ⋯ ⋯ ⋯];exact e
  ·rename_i q
   rw[EQ q];exact Pz j I
 ·unfold W9 mU
  by_cases z1:k<r
  ·rw[RY z1]
   by_cases z2:q<r
   ·rw[RY z2]
    have e:=h.isb.oth k q z1 z2 an;have Y:=h.lt q z2;rw[U _ _ Y ⋯ ⋯];exact e
   ·rw[EQ z2];exact ct _
  ·rw[EQ z1]
   have z2:q<r:=by omega
   rw[RY z2];exact Pz _<|h.lt q z2
 ·unfold W9;split
  ·exact cr _ _
  ·exact ae i hi
 ·unfold mU;split
  ·rename_i q;exact LY<|h.lt k q
  ·exact Mf _
 ·rw[<- h.span v]
  have a2:Span p n (Un r B m Wt) P:=((Span.gen (p:=p) (n:=n) (G:=Un r B m Wt) (g:=Wt j0)<|.inr ⟨j0,a6,rfl⟩).smul y).congr λi hi=>by rw[O i hi,Lb]
  have aa:Span p n (Un (r+1) (W9 p P t r B) m λj=>clr p P t<|Wt j) P:= .gen (.inl ⟨r,Mf r,by unfold W9;rw[EQ (Lz r)]⟩);constructor
  ·refine λhv=>hv.le λg hg=>?_
   rcases hg with⟨k,hk,rfl⟩ | ⟨j,I,rfl⟩
   ·unfold W9;split
    ·rename_i q;exact wX a2<|.gen<|.inl ⟨k,q,rfl⟩
    ·exact a2
   ·exact wX a2<|.gen<|.inr ⟨j,I,rfl⟩
  ·refine λhv=>hv.le λg hg=>?_
   rcases hg with⟨k,hk,rfl⟩ | ⟨j,I,rfl⟩
   ·refine Vn (t:=t) aa (.gen<|.inl ⟨k,LY hk,?_⟩)
    unfold W9;rw[RY hk]
   ·exact Vn (t:=t) aa<|.gen<|.inr ⟨j,I,rfl⟩
theorem BInv.done(h:BInv p n m W n r B l Wt)(v:Vc):Span p n (Fam r B) v↔Span p n (Fam m W) v:=by
 rw[<- h.span v];constructor
 ·exact λI=>I.le λg z=> .gen (.inl z)
 ·refine λI=>I.le λg z=>?_
  rcases z with z | ⟨j,O,rfl⟩
  ·exact .gen z
  ·exact .zero λi hi=>by rw[h.zer j i O hi];simp
theorem eQ(z:True)(P:Vc):zN (r+1) n (W9 p P t r B)=zN r n (λk=>clr p P t<|B k)++[.tup (zF n P)]:=by
 unfold zN;rw[Me,Lx];congr 1
 ·apply IK
  intro k hk;have:=Iu.mp hk;simp[W9,this]
 ·simp[W9]
end
theorem qD{p:Int}(Y:Pr p){n m:Nat}(hn:n<=100)(hm:m<=lim)(kk:Sk)(W:Nat->Vc) :
 ∃r B l,qL [.int p,.int n,dsq kk (zN m n W)]=some (.own<|zN r n B)/\IsB p n r B l/\∀v,Span p n (Fam r B) v↔Span p n (Fam m W) v:=by
 have hl:=jd;have a0:n<=lim:=by omega
 have p0:=Y.pos;have a8:=KM (T:= .nm 5) (F:=wY)
  (λt γ=>∃r B l Wt c5 c6 c7 c8,γ=[.val (.int p),.val<|.int n,.val<|dsq kk<|zN m n W,.val<|.lst<|zN m n Wt,.own<|zN r n B,c5,c6,c7,c8]/\BInv p n m W t r B l Wt)
  ((Io n).map λ(i:Nat)=>D.int i) 0 [.val (.int p),.val<|.int n,.val<|dsq kk<|zN m n W,.val<|.lst<|zN m n λj i=>W j i%p,.own [],.no,.no,.no,.no]
  ⟨0,λ_ _=>0,λ_=>0,λj i=>W j i%p,.no,.no,.no,.no,rfl,λj i _ _=>⟨Le _ ⋯,IU _ p0⟩,λj i _ hi=>absurd hi<|Lc _,
   ⟨λk hk=>absurd hk<|Lc _,λk q _ hk=>absurd hk<|Lc _,λk hk=>absurd hk<|Lc _,λk j hk=>absurd hk<|Lc _,λk q hk=>absurd hk<|Lc _,λk i hk=>absurd hk<|Lc _⟩,
   λk hk=>absurd hk<|Lc _,λv=>⟨λhv=>hv.le λg hg=>by
    rcases hg with⟨k,hk,_⟩ | ⟨j,O,rfl⟩
    ·exact absurd hk<|Lc _
    ·exact(Span.gen (p:=p) (n:=n) (G:=Fam m W) (g:=W j) ⟨j,O,rfl⟩).congr λi _=>Lb _ _,λhv=>hv.le λg hg=>by
    obtain⟨j,O,rfl⟩:=hg;exact(Span.gen (p:=p) (n:=n) (G:=Un 0 (λ_ _=>0) m λj i=>W j i%p) (g:=λi=>W j i%p)<|.inr ⟨j,O,rfl⟩).congr λi _=>(Lb _ _).symm⟩⟩ (by
   rintro t d γ hd ⟨r,B,l,Wt,c5,c6,c7,c8,rfl,I⟩;rw[NH]at I ⊢;have U:t<n:=by have:=(IX.mp hd).1;simpa using this
   have a9:d = .int t:=by simp[U]at hd;exact hd.symm
   subst a9;have a1:zS (.nm 0) (sB<|zH dNe (sIx (zh 0)<|zf 1)<|zu<|.int 0) (zf 0) [Cell.no,Cell.val (.int t)] (zN m n Wt)=some (((Io m).filter λj=> !decide (Wt j t=0)).map λj=>D.tup<|zF n<|Wt j):=by unfold zN;refine jq _ _ _ λj O=>⟨_,rfl,?_,λ_=>rfl⟩;simp[U]
   have hr:r<=t:=Yy I.isb.mono I.lt;have aa:r<=lim:=by omega
   cases hf:(Io m).filter λj=> !decide (Wt j t=0)with
   | nil=>
    have hz : ∀j,j<m->Wt j t=0:=λj O=>by apply LS;intro a5;have:j∈(Io m).filter λj=> !decide (Wt j t=0):=IP.mpr ⟨Iu.mpr O,by simp[a5]⟩;rw[hf]at this;simp at this
    rw[hf]at a1;refine⟨_,.inr ?_,r,B,l,Wt,.val<|.int t,.val<|.lst [],c7,c8,rfl,I.skip hz⟩;simp only[wZ,Iz,Mc,Mb,wY];rw[jj];simp[jj,jk,qY,Iw,a1,hm]
   | cons z xJ=>
    have a6:z∈(Io m).filter λj=> !decide (Wt j t=0):=by rw[hf];exact IY
    have a7:z<m:=Iu.mp (IP.mp a6).1;have a5:Wt z t≠0:=by simpa using (IP.mp a6).2
    have ac:=I.rng z t a7 U;obtain⟨y,ey,y1,y2,yy⟩:=Yb Y (x:=Wt z t) ⋯ ac.2;rw[hf]at a1;have nx:=I.next Y U a7 yy (P:=λi=>y*Wt z i%p) λi _=>rfl;refine⟨_,.inl ?_,r+1,W9 p (λi=>y*Wt z i%p) t r B,mU t r l,λj=>clr p (λi=>y*Wt z i%p) t<|Wt j,.val<|.int t,.val<|.lst<|(z::xJ).map λj=>D.tup<|zF n<|Wt j,.val<|.int y,.val<|.tup<|zF n λi=>y*Wt z i%p,rfl,nx⟩;have bg:=Y.le;have cy : ∀x,XX y x=true:=λx=>ZV _ _ ⋯ ⋯;have an:zS (.nm 0) jA (zH yF (zf 1)<|zf 0) [Cell.no,Cell.val (.int y)] (zF n<|Wt z)=some (zF n λi=>y*Wt z i):=by rw[jE,jE];refine zB _ _ λi hi=>zD rfl rfl ?_;simp[cy]
    have ap:zS (.nm 0) jA (zC jS<|zb (zf 1)<|zb (zf 0)<|zb (zf 3)<|zb (zf 2) zE) [Cell.no,Cell.val<|.int p,Cell.val<|.int t,Cell.val (.tup<|zF n λi=>y*Wt z i%p)] (zN m n Wt)=some (zN m n λj=>clr p (λi=>y*Wt z i%p) t<|Wt j):=by unfold zN;refine zB _ _ λj O=>zD rfl rfl ?_;simp[yi Y a0 U (Wt j) (λi=>y*Wt z i%p) λi hi=>I.rng j i (Iu.mp O) hi];rfl
    have ar:zS (.nm 0) jA (zC jS<|zb (zf 1)<|zb (zf 0)<|zb (zf 3)<|zb (zf 2) zE) [Cell.no,Cell.val<|.int p,Cell.val<|.int t,Cell.val (.tup<|zF n λi=>y*Wt z i%p)] (zN r n B)=some (zN r n λj=>clr p (λi=>y*Wt z i%p) t<|B j):=by unfold zN;refine zB _ _ λj O=>zD rfl rfl ?_;simp[yi Y a0 U (B j) (λi=>y*Wt z i%p) λi hi=>I.isb.rng j i (Iu.mp O) hi];rfl
    have as:r+1<=lim:=by omega
    rw[eQ trivial];simp only[wZ,Iz,Mc,Mb,wY];rw[jj];simp[jj,jk,qY,Iw,a1,hm,a0,U,ey,an,Jg _ p0 a0,ap,ar,aa,as])
 obtain⟨γ',e1,r,B,l,Wt,c5,c6,c7,c8,rfl,I⟩:=a8;simp only[IQ,Mg,NH]at I;refine⟨r,B,l,?_,I.isb,I.done⟩;have ax:zS (.nm 0) jA (zC xl<|zb (zf 1)<|zb (zf 0) zE) [Cell.no,Cell.val (.int p)] (zN m n W)=some (zN m n λj i=>W j i%p):=by unfold zN;refine zB _ _ λj O=>zD rfl rfl ?_;simp[fZ _ p0 a0]
 have e0:qL [.int p,.int n,dsq kk (zN m n W)]=z6 9 (zK (jo 3<|qi<|zP (zO<|zh 2) (.nm 0) 1 [0] jA (zC xl<|zb (zf 1)<|zb (zf 0) zE))<|zK (ke 4<|xX zE)<|zK (Jm (jK<|zf 1) (.nm 5) wY)<|Zn 4) [.int p,.int n,dsq kk (zN m n W)]:=rfl;rw[e0];simp[z6,zY,jj,hm,jk,qY,Iw,ax,a0,qG];rw[jE n λi=>(i:Int),e1];simp
@[simp] def Bw:=@Eh.eq_1
def ZQ{α:Type}(q:Nat)(x:α)(f:Nat->α):Nat->α:=λk=>if k<q then f k else if k=q then x else f (k - 1)
def wJ(l:RZ)(r x:Nat):Nat:=((Io r).filter λk=>decide<|l k<x).length
theorem XE : ∀{r:Nat},(∀k m,k<m->m<r->l k<l m)->(∀k,k<r->l k≠x)->wJ l r x<=r/\(∀k,k<wJ l r x->l k<x)/\∀k,wJ l r x<=k->k<r->x<l k
 | 0,_,_=>⟨IC _,λk hk=>absurd hk (by simp[wJ]),λk _ hk=>absurd hk<|Lc _⟩
 | r+1,hm,hne=>by
  obtain⟨h1,h2,I⟩:=XE (r:=r) (x:=x) (λk m a b=>hm k m a ⋯) λk hk=>hne k ⋯;have e:wJ l (r+1) x=wJ l r x+if l r<x then 1 else 0:=by unfold wJ;rw[Me,Ow,LD];by_cases q:l r<x<;>simp[q]
  by_cases q:l r<x
  ·rw[e,RY q]
   have O:wJ l r x=r:=by
    rcases IJ (wJ l r x) r with z | z
    ·have U:=I (wJ l r x) (IC _) z
     have Y:=hm (wJ l r x) r z<|Mf r;omega
    ·omega
   rw[O];refine⟨IC _,λk hk=>?_,λk a b=>absurd b ⋯⟩;rcases IJ k r with z | z
   ·exact h2 k ⋯
   ·have:k=r:=by omega
    subst this;exact q
  ·rw[e,EQ q,Rc]
   refine⟨by omega,h2,λk a b=>?_⟩;rcases IJ k r with z | z
   ·exact I k a z
   ·have:k=r:=by omega
    subst this;have:=hne k b;omega
section
variable{p:Int}{n r:Nat}{B:Nat->Vc}{l:RZ}{w:Vc}
structure RInv(p:Int)(n r:Nat)(B:Nat->Vc)(l:RZ)(w:Vc)(k:Nat)(R:Vc):Prop where
 rng : ∀i,i<n->0<=R i/\R i<p
 zer : ∀q,q<k->R (l q)=0
 eqv : ∀G,(∀k,k<r->Span p n G (B k))->(Span p n G w↔Span p n G R)
theorem RInv.next(U:Pr p)(hb:IsB p n r B l)(h:RInv p n r B l w k R)(hk:k<r):RInv p n r B l w (k+1) (clr p (B k) (l k) R):=by
 have Y:=U.pos;refine⟨λi _=>⟨Le _ ⋯,IU _ Y⟩,λq hq=>?_,λG I=>?_⟩
 ·unfold clr
  rcases IJ q k with z | z
  ·rw[h.zer q z,hb.oth k q hk ⋯ ⋯];simp
  ·have:q=k:=by omega
   subst this;rw[hb.one q hk];simp
 ·rw[h.eqv G I]
  exact⟨λO=>wX (I k hk) O,λO=>Vn (I k hk) O⟩
theorem KD(O:q<=r)(hk:k<r+1):(k=q/\ZQ q x f k=x)\/∃I,I<r/\ZQ q x f k=f I/\((k<q/\I=k)\/(q<k/\I+1=k)):=by
 unfold ZQ;rcases Nb k q with z | z | z
 ·right;exact⟨k,by omega,by rw[RY z],.inl ⟨z,rfl⟩⟩
 ·left;subst z;exact⟨rfl,by rw[EQ (Lz _),RY rfl]⟩
 ·right;exact⟨k - 1,by omega,by rw[EQ ⋯,EQ ⋯],.inr ⟨z,by omega⟩⟩
theorem ins_at_q:ZQ q x f q=x:=by unfold ZQ;rw[EQ (Lz _),RY rfl]
theorem rh : ∃I,(I<q/\I=k\/q<I/\I=k+1)/\ZQ q x f I=f k:=by
 rcases IJ k q with z | z
 ·exact⟨k,.inl ⟨z,rfl⟩,by unfold ZQ;rw[RY z]⟩
 ·exact⟨k+1,.inr ⟨by omega,rfl⟩,by unfold ZQ;rw[EQ ⋯,EQ ⋯];rfl⟩
theorem rj(hp:Pr p)(hb:IsB p n r B l)(ha:a<n)(h1:R a=1)(hz : ∀i,i<a->R i=0)(hl : ∀k,k<r->R (l k)=0)(hR : ∀i,i<n->0<=R i/\R i<p) :
 IsB p n (r+1) (ZQ (wJ l r a) R λk=>clr p R a<|B k) (ZQ (wJ l r a) a l):=by
 have p0:=hp.pos;have a8 : ∀k,k<r->l k≠a:=λk hk e=>by have:=hl k hk;rw[e,h1]at this;omega
 obtain⟨hq,q1,q2⟩:=XE hb.mono a8;have cr : ∀(w:Vc) i,0<=clr p R a w i/\clr p R a w i<p:=λw i=>⟨Le _ ⋯,IU _ p0⟩;have ca : ∀w:Vc,clr p R a w a=0:=λw=>by unfold clr;rw[h1,MO,Int.sub_self];simp
 have cl : ∀(w:Vc) k,k<r->0<=w (l k)->w (l k)<p->clr p R a w (l k)=w (l k):=λw k hk h1 h2=>by unfold clr;rw[hl k hk,Oz,Pg];exact Lh h1 h2
 have cb : ∀k j,k<r->j<l k->clr p R a (B k) j=0:=λk j hk hj=>by
  unfold clr;rw[hb.bef k j hk hj];rcases IJ a (l k)with z | z
  ·rw[hb.bef k a hk z];simp
  ·rw[hz j ⋯];simp
 have two:=hp.two;have U : ∀k,k<r+1->(k=wJ l r a/\ZQ (wJ l r a) R (λk=>clr p R a<|B k) k=R/\ZQ (wJ l r a) a l k=a)\/
  ∃I,I<r/\ZQ (wJ l r a) R (λk=>clr p R a<|B k) k=clr p R a (B I)/\ZQ (wJ l r a) a l k=l I/\((k<wJ l r a/\I=k)\/(wJ l r a<k/\I+1=k)):=by
  intro k hk;rcases KD (x:=R) (f:=λk=>clr p R a<|B k) hq hk with⟨e1,e2⟩ | ⟨I,O,e1,e2⟩
  ·left;refine⟨e1,e2,?_⟩;subst e1;exact ins_at_q
  ·right
   refine⟨I,O,e1,?_,e2⟩;rcases e2 with⟨z1,z2⟩ | ⟨z1,z2⟩
   ·unfold ZQ;rw[RY z1,z2]
   ·unfold ZQ;rw[EQ ⋯,EQ ⋯];congr 1;omega
 refine⟨λk hk=>?_,λk m an hm=>?_,λk hk=>?_,λk j hk hj=>?_,λk m hk hm ap=>?_,λk i hk hi=>?_⟩
 ·rcases U k hk with⟨_,_,e⟩ | ⟨I,O,_,e,_⟩
  ·rw[e];exact ha
  ·rw[e];exact hb.lt I O
 ·rcases U k ⋯with⟨z,_,e⟩ | ⟨I,O,_,e,z⟩<;>rcases U m hm with⟨z',_,e'⟩ | ⟨m',Y,_,e',z'⟩<;>rw[e,e']
  ·omega
  ·exact q2 m' ⋯ Y
  ·exact q1 I ⋯
  ·exact hb.mono I m' ⋯ Y
 ·rcases U k hk with⟨_,e1,e⟩ | ⟨I,O,e1,e,_⟩<;>rw[e1,e]
  ·exact h1
  ·have o:=hb.one I O
   rw[cl _ I O ⋯ ⋯];exact o
 ·rcases U k hk with⟨_,e1,e⟩ | ⟨I,O,e1,e,_⟩<;>rw[e1]<;>rw[e]at hj
  ·exact hz j hj
  ·exact cb I j O hj
 ·rcases U k hk with⟨z,e1,_⟩ | ⟨I,O,e1,_,z⟩<;>rcases U m hm with⟨z',_,e'⟩ | ⟨m',Y,_,e',z'⟩<;>rw[e1,e']
  ·omega
  ·exact hl m' Y
  ·exact ca _
  ·have o:=hb.oth I m' O Y ⋯
   rw[cl _ m' Y ⋯ ⋯];exact o
 ·rcases U k hk with⟨_,e1,_⟩ | ⟨I,O,e1,_,_⟩<;>rw[e1]
  ·exact hR i hi
  ·exact cr _ _
theorem rl(z:q<=r)(I:Span p n G R)(O : ∀k,k<r->Span p n G (F k)) : ∀g,Fam (r+1) (ZQ q R F) g->Span p n G g:=by
 rintro g ⟨k,hk,rfl⟩;rcases KD (x:=R) (f:=F) z hk with⟨_,e⟩ | ⟨U,Y,e,_⟩<;>rw[e]
 ·exact I
 ·exact O U Y
theorem pU(I:q<=r):Fam (r+1) (ZQ q R F) R/\∀k,k<r->Fam (r+1) (ZQ q R F) (F k):=by refine⟨⟨q,by omega,ins_at_q.symm⟩,λk hk=>?_⟩;obtain⟨z,h,e⟩:=rh (q:=q) (x:=R) (f:=F) (k:=k);exact⟨z,by omega,e.symm⟩
theorem iY(hp:Pr p)(hb:IsB p n r B l)(ha:a<n)(hs : ∀v,Span p n (Fam r B) v↔Span p n (Fam j W) v)(O:RInv p n r B l (W j) r R)(hy:y*R a%p=1)(U : ∀i,i<n->R' i=y*R i%p)(Y:wJ l r a<=r)(v:Vc) :
 Span p n (Fam (r+1)<|ZQ (wJ l r a) R' λk=>clr p R' a<|B k) v↔Span p n (Fam (j+1) W) v:=by
 have up : ∀v,Span p n (Fam j W) v->Span p n (Fam (j+1) W) v:=λv I=>I.le λg ⟨i,hi,e⟩=> .gen ⟨i,by omega,e⟩;have a0 : ∀k,k<r->Span p n (Fam (j+1) W) (B k):=λk hk=>up _<|(hs _).mp (.gen ⟨k,hk,rfl⟩);have a6:Span p n (Fam (j+1) W) R:=(O.eqv _ a0).mp (.gen ⟨j,by omega,rfl⟩);have a1:Span p n (Fam (j+1) W) R':=(a6.smul y).congr λi hi=>by rw[U i hi,Lb]
 obtain⟨m1,m2⟩:=pU (R:=R') (F:=λk=>clr p R' a<|B k) Y;have a2:Span p n (Fam (r+1)<|ZQ (wJ l r a) R' λk=>clr p R' a<|B k) R':= .gen m1;have gB : ∀k,k<r->Span p n (Fam (r+1)<|ZQ (wJ l r a) R' λk=>clr p R' a<|B k) (B k):=λk hk=>Vn (t:=a) a2<|.gen<|m2 k hk;have gR:Span p n (Fam (r+1)<|ZQ (wJ l r a) R' λk=>clr p R' a<|B k) R:=(a2.smul<|R a).congr λi hi=>by rw[U i hi,qr,<- Lw,LK (R a) y,IB,hy,OU,Lb]
 constructor
 ·exact λI=>I.le<|rl Y a1 λk hk=>wX a1<|a0 k hk
 ·refine λI=>I.le ?_
  rintro g ⟨i,hi,rfl⟩;rcases IJ i j with z | z
  ·exact((hs _).mpr (.gen ⟨i,z,rfl⟩)).le λg hZ=>by obtain⟨k,hk,e⟩:=hZ;rw[e];exact gB k hk
  ·have:i=j:=by omega
   subst this;exact(O.eqv _ gB).mpr gR
theorem bI(hs : ∀v,Span p n (Fam r B) v↔Span p n (Fam j W) v)(O:RInv p n r B l (W j) r R)(h0 : ∀i,i<n->R i=0)(v:Vc):Span p n (Fam r B) v↔Span p n (Fam (j+1) W) v:=by
 constructor
 ·exact λI=>((hs v).mp I).le λg ⟨i,hi,e⟩=> .gen ⟨i,by omega,e⟩
 ·refine λI=>I.le ?_
  rintro g ⟨i,hi,rfl⟩;rcases IJ i j with z | z
  ·exact(hs _).mpr (.gen ⟨i,z,rfl⟩)
  ·have:i=j:=by omega
   subst this;exact(O.eqv _ λk hk=> .gen ⟨k,hk,rfl⟩).mpr (.zero λi hi=>by rw[h0 i hi];simp)
end
@[simp] theorem QA(h w f):(kl h w f).length=h:=by simp[kl]
section
variable{p:Int}{n m r:Nat}{G:Vc->Prop}
theorem Span.sum{u:Nat->Vc}(c:Nat->Int) : ∀{m:Nat},(∀k,k<m->Span p n G (u k))->Span p n G λi=>zc (λk=>c k*u k i) m
 | 0,_=> .zero λi _=>by simp[zc]
 | m+1,h=>(((h m ⋯).add (Span.sum c (m:=m) λk hk=>h k ⋯) (c m))).congr λi _=>by simp[zc]
def Rk(p:Int)(n m:Nat)(W:Nat->Vc)(r:Nat):Prop:=∃B l,IsB p n r B l/\∀v,Span p n (Fam r B) v↔Span p n (Fam m W) v
theorem yJ(O:Pr p)(h:Rk p n m W r)(h':Rk p n m W r'):r=r':=by obtain⟨B,l,hb,hs⟩:=h;obtain⟨B',l',U,I⟩:=h';exact(K4 O hb U (λv z=>(I v).mpr ((hs v).mp z))<|λv z=>(hs v).mpr ((I v).mp z)).1
theorem Vx(z:Pr p)(hb:IsB p n r B l)(hw : ∀i,i<n->0<=w i/\w i<p) : ∀k,k<=r->∃R,RInv p n r B l w k R
 | 0,_=>⟨w,hw,λq I=>absurd I<|Lc _,λG _=>Iff.rfl⟩
 | k+1,h=>by obtain⟨R,O⟩:=Vx z hb hw k ⋯;exact⟨_,O.next z hb ⋯⟩
theorem Wc : ∀(n:Nat) (R:Vc),(∀i,i<n->R i=0)\/∃a,a<n/\R a≠0/\∀i,i<a->R i=0
 | 0,R=> .inl λi hi=>absurd hi<|Lc _
 | n+1,R=>by
  rcases Wc n R with h | ⟨a,h1,h2,I⟩
  ·by_cases e:R n=0
   ·exact .inl λi hi=>by rcases IJ i n with z | z;exact h i z;rw[show i=n by omega];exact e
   ·exact .inr ⟨n,by omega,e,h⟩
  ·exact .inr ⟨a,by omega,h2,I⟩
theorem mB(z:Pr p)(W:Nat->Vc)(U : ∀j i,0<=W j i/\W j i<p) : ∀m,∃r,r<=m/\Rk p n m W r
 | 0=>⟨0,IC _,λ_ _=>0,λ_=>0,⟨λk hk=>absurd hk<|Lc _,λk q _ hk=>absurd hk<|Lc _,λk hk=>absurd hk<|Lc _,λk j hk=>absurd hk<|Lc _,λk q hk=>absurd hk<|Lc _,λk i hk=>absurd hk<|Lc _⟩,
  λv=>⟨λO=>O.le λg ⟨k,hk,_⟩=>absurd hk<|Lc _,λO=>O.le λg ⟨k,hk,_⟩=>absurd hk<|Lc _⟩⟩
 | m+1=>by
  obtain⟨r,hr,B,l,hb,hs⟩:=mB z W U m;have p0:=z.pos;obtain⟨R,I⟩:=Vx z hb (w:=W m) (λi _=>U m i) r<|IC _;rcases Wc n R with h0 | ⟨a,ha,a1,a2⟩
  ·exact⟨r,by omega,B,l,hb,bI hs I h0⟩
  ·have a3:=I.rng a ha
   obtain⟨y,_,_,Y⟩:=AZ z (x:=R a) ⋯ a3.2;have a4 : ∀k,k<r->l k≠a:=λk hk e=>by have:=I.zer k hk;rw[e]at this;exact a1 this
   exact⟨r+1,by omega,_,_,rj z hb (R:=λi=>(y:Int)*R i%p) ha Y (λi hi=>by rw[a2 i hi];simp) (λk hk=>by rw[I.zer k hk];simp) λi _=>⟨Le _ ⋯,IU _ p0⟩,
    iY z (R':=λi=>(y:Int)*R i%p) hb ha hs I Y (λi _=>rfl) (XE hb.mono a4).1⟩
theorem bP(z:Pr p)(m:Nat)(W:Nat->Vc) : ∃r,r<=m/\Rk p n m W r:=by
 obtain⟨r,I,B,l,hb,hs⟩:=mB (n:=n) z (λj i=>W j i%p) (λj i=>⟨Le _ (by have:=z.pos;omega),IU _ z.pos⟩) m;refine⟨r,I,B,l,hb,λv=>(hs v).trans ⟨λh=>h.le λg ⟨k,hk,e⟩=>?_,λh=>h.le λg ⟨k,hk,e⟩=>?_⟩⟩
 ·subst e;exact(Span.gen (g:=W k) ⟨k,hk,rfl⟩).congr λi _=>by rw[Lb]
 ·subst e;exact(Span.gen (g:=λi=>W k i%p) ⟨k,hk,rfl⟩).congr λi _=>by rw[Lb]
theorem bQ(z:Pr p)(_:n<=100)(_:m<=8)(W:Nat->Vc) : ∃r,r<=m/\Rk p n m W r:=bP z m W
theorem ug(hp:Pr p)(h:Rk p n m W r)(h':Rk p n m' W' r')(hw : ∀j,j<m->Span p n (Fam m' W') (W j)):r<=r':=by
 obtain⟨B,l,hb,hs⟩:=h;obtain⟨B',l',O,a1⟩:=h';have s1 : ∀k,k<r->∃q,q<r'/\l' q=l k:=λk hk=>YI O ((a1 _).mpr (((hs _).mp (.gen ⟨k,hk,rfl⟩)).le λg ⟨j,hj,e⟩=>e ▸ hw j hj)) (hb.lt k hk) (by rw[hb.one k hk,hp.one];decide) λi hi=>by rw[hb.bef k i hk hi];simp
 have a3 : ∀k,k<r->∀q,q<r'->l' q=l k->k<=q:=by
  intro k
  induction k with
  | zero=>intro _ q _ _;exact MN _
  | succ k ih=>
   intro hk q U e;obtain⟨I,Y,e0⟩:=s1 k ⋯;have h1:=ih ⋯ I Y e0;have h2:=hb.mono k (k+1) ⋯ hk;rcases IJ I q with z | z
   ·omega
   ·rcases IJ q I with y | y
    ·have:=O.mono q I y Y
     omega
    ·have:q=I:=by omega
     subst this;omega
 rcases Nat.eq_zero_or_pos r with z | z
 ·omega
 ·obtain⟨q,U,e⟩:=s1 (r - 1) ⋯
  have:=a3 (r - 1) ⋯ q U e;omega
end
section
variable{p:Int}{n m r h w:Nat}
theorem yj{l:RZ}(h:Nat) : ∀{r:Nat},(∀k m,k<m->m<r->l k<l m)->∃s,s<=r/\(∀k,k<s->l k<h)/\∀k,s<=k->k<r->h<=l k
 | 0,_=>⟨0,IC _,λk hk=>absurd hk<|Lc _,λk _ hk=>absurd hk<|Lc _⟩
 | r+1,hm=>by
  obtain⟨s,h1,h2,I⟩:=yj h (r:=r) λk m hk O=>hm k m hk ⋯;by_cases e:l r<h
  ·refine⟨r+1,IC _,λk hk=>?_,λk h1 h2=>by omega⟩
   rcases IJ k r with z | z
   ·have:=hm k r z ⋯;omega
   ·have:k=r:=by omega
    subst this;exact e
  ·refine⟨s,by omega,h2,λk hk U=>?_⟩
   rcases IJ k r with z | z
   ·exact I k hk z
   ·have:k=r:=by omega
    subst this;omega
theorem YR(hs:s<=r)(h1 : ∀k,k<s->q k=false)(h2 : ∀k,s<=k->k<r->q k=true):(Io r).filter q=(Io<|r - s).map (s + ·):=by
 obtain⟨d,rfl⟩ : ∃d,r=s+d:=⟨r - s,by omega⟩;rw[NY,Ow];have e1:(Io s).filter q=[]:=List.filter_eq_nil_iff.mpr λk hk=>by rw[h1 k (Iu.mp hk)];decide
 have z:((Io d).map (s + ·)).filter q=(Io d).map (s + ·):=List.filter_eq_self.mpr λk hk=>by obtain⟨i,hi,rfl⟩:=La.mp hk;exact h2 _ ⋯ (by have:=Iu.mp hi;omega)
 rw[e1,z,IZ];rfl
def qf(h:Nat)(u v:Vc):Vc:=λi=>if i<h then u i else v (i - h)
def ja(j:Nat):Vc:=λk=>if j=k then 1 else 0
theorem zU(hi:i<h):qf h u v i=u i:=RY hi
theorem z7(i:Nat):qf h u v (h+i)=v i:=by unfold qf;rw[EQ ⋯,IZ]
theorem kO(h w:Nat)(u v:Vc):zF h u++zF w v=zF (h+w) (qf h u v):=by
 unfold zF;rw[NY,Lx];congr 1
 ·exact IK λi hi=>by rw[zU (Iu.mp hi)]
 ·rw[LA]
  exact IK λi _=>by simp only[Function.comp];rw[z7]
theorem eK(h w:Nat)(v:Vc):(zF (h+w) v).take h=zF h v:=by unfold zF;rw[<- List.map_take,List.take_range,Nt (LW h w)]
theorem eM(h w:Nat)(v:Vc):(zF (h+w) v).drop h=zF w λj=>v (h+j):=by unfold zF;rw[NY,Lx,List.drop_append_of_le_length ⋯,List.drop_eq_nil_of_le ⋯,LA];rfl
theorem Wg(h w:Nat)(v:Vc):vx (zF (h+w) v) none (some (h:Int))=zF h v:=by
 have c : ¬((h:Int)<0):=by omega
 have e:min h (h+w)=h:=Nt<|LW h w;simp[vx,JB,c,e,eK]
theorem Wf(h w:Nat)(v:Vc):vx (zF (h+w) v) (some (h:Int)) none=zF w λj=>v (h+j):=by
 have c : ¬((h:Int)<0):=by omega
 have e:min h (h+w)=h:=Nt<|LW h w;have t : ∀g:Vc,(zF w g).take w=zF w g:=λg=>Mq ⋯;simp[vx,JB,c,e,eM,t]
theorem Vp(v:Vc) : ∀n,QP (zF n v)=some ((Io n).map λi=>v i != 0)
 | 0=>rfl
 | n+1=>by
  have z : ∀l:List Nat,QP (l.map λi=>D.int<|v i)=some (l.map λi=>v i != 0):=by
   intro l
   induction l with
   | nil=>rfl
   | cons a l I=>simp[QP,CI,I]
  exact z _
theorem kU(hb:IsB p (h+w) r B l)(I:r<=lim)(hs:s<=r)(h1 : ∀k,k<s->l k<h)(h2 : ∀k,s<=k->k<r->h<=l k) :
 jJ [.int h,.lst (zN r (h+w) B)]=some (.own<|zN (r - s) w λk j=>B (s+k)<|h+j):=by
 have z:zS (.nm 0) (kf<|sB<|sJ<|zG<|QT (zf 0) Jl<|sBd<|zf 1) (QT (zf 0) (sBd<|zf 1) Jl) [Cell.no,Cell.val (.int h)] (zN r (h+w) B)=some (((Io r).filter λk=>decide<|h<=l k).map λk=>D.tup<|zF w λj=>B k<|h+j):=by
  unfold zN;refine jq (λk=>decide<|h<=l k) _ _ λk hk=>⟨_,rfl,?_,λO=>?_⟩
  ·have hk:=Iu.mp hk
   simp[Wg,Vp];by_cases e:h<=l k
   ·simp[e]
    intro i hi;have:=hb.bef k i hk ⋯;simp[this]
   ·simp[e]
    exact⟨l k,by omega,by rw[hb.one k hk];decide⟩
  ·simp[Wf]
 rw[YR hs (λk hk=>decide_eq_false (by have:=h1 k hk;omega)) (λk a b=>decide_eq_true<|h2 k a b)]at z;simp[jJ,z6,zY,I,jk,qY,Iw,z];unfold zN;rfl
def Ker(p:Int)(h w:Nat)(f:RK)(v:Vc):Prop:=∀i,i<h->zc (λj=>f i j*v j) w%p=0
theorem iu{f:RK}{v:Vc}(z:Span p (h+w) (Fam w λj=>qf h (λi=>f i j)<|ja j) v) : ∀i,i<h->v i%p=zc (λj=>f i j*v (h+j)) w%p:=by
 induction z with
 | @zero v hz=>
  intro i hi;rw[hz i ⋯];have:zc (λj=>f i j*v (h+j)) w%p=zc (λ_=>0) w%p:=zx λj I=>by rw[IB,hz (h+j) ⋯];simp
  rw[this,zy];rfl
 | @step v u g c O hu he U=>
  intro i hi;obtain⟨m,hm,rfl⟩:=O;rw[he i ⋯,IV,U i hi,<- IV];have e1:zc (λj=>f i j*v (h+j)) w%p=zc (λj=>f i j*u (h+j)+c*(f i j*ja m j)) w%p:=zx λj I=>by rw[IB,he (h+j) ⋯,<- IB];simp only[z7];rw[Om,Nc]
  rw[e1,jt,zV,zI (f:=λj=>f i j*ja m j) hm λj _ Y=>by simp[ja,Ly Y]];simp[ja,zU hi]
theorem Vm(z:Pr p)(w:Nat):IsB p w w ja id where
 lt:=λk hk=>hk
 mono:=λk m hk _=>hk
 one:=λk _=>RY rfl
 bef:=λk j _ I=>EQ (by simp only[id]at I;omega)
 oth:=λk m _ _ O=>EQ (by simp only[id];omega)
 rng:=λk i _ _=>by have:=z.two;unfold ja;split<;>omega
theorem Span.map(t:RZ)(z : ∀i,i<n'->t i<n)(I : ∀g,G g->Span p n' G' λi=>g<|t i)(O:Span p n G v):Span p n' G' λi=>v (t i):=by
 induction O with
 | @zero v hz=>exact .zero λi hi=>hz _<|z i hi
 | @step v u g c U hu he Y=>exact((I _ U).add Y c).congr λi hi=>he _<|z i hi
theorem xI(Y:Pr p)(hh:h<=20)(hw:w<=8)(f:RK) :
 ∃q K l s,kT [.int p,jn h w f]=some (.own<|zN q w K)/\IsB p w q K l/\(∀v,Span p w (Fam q K) v↔Ker p h w f v)/\Rk p h w (λj i=>f i j) s/\q+s=w:=by
 have hl:=jd;have a7:h<=lim:=by omega
 have a1:w<=lim:=by omega
 have a8:h+w<=lim:=by omega
 obtain⟨r,B,l,e,hb,a0⟩:=qD Y (show h+w<=100 by omega) a1 .L λj=>qf h (λi=>f i j)<|ja j;have a9 : ∀v,Span p (h+w) (Fam r B) v->∀i,i<h->v i%p=zc (λj=>f i j*v (h+j)) w%p:=λv O=>iu<|(a0 v).mp O;have aa:r<=w:=by obtain⟨r',h1,h2⟩:=bQ Y (n:=h+w) ⋯ hw λj=>qf h (λi=>f i j)<|ja j;rw[yJ Y ⟨B,l,hb,a0⟩ h2];exact h1
 have ac:w<=r:=by obtain⟨r',h1,h2⟩:=bQ Y (n:=w) ⋯ (show r<=8 by omega) λk j=>B k<|h+j;refine LG (ug Y (m:=w) (W:=ja) ⟨ja,id,Vm Y w,λv=>Iff.rfl⟩ h2 λj I=>?_) h1;have:=Span.map (n':=w) (G':=Fam r λk j=>B k<|h+j) (λi=>h+i) (λi hi=>by omega) (λg ⟨k,hk,U⟩=> .gen ⟨k,hk,by rw[U]⟩)<|(a0<|qf h (λi=>f i j)<|ja j).mpr (.gen ⟨j,I,rfl⟩);exact this.congr λi _=>by rw[z7]
 have er:r=w:=Nat.le_antisymm aa ac;subst er;obtain⟨s,hs,s1,s2⟩:=yj h hb.mono;have eb:=kU hb a1 hs s1 s2;have ag:IsB p r (r - s) (λk j=>B (s+k)<|h+j) (λk=>l (s+k) - h):={
  lt:=λk hk=>by have:=hb.lt (s+k) ⋯;have:=s2 (s+k) ⋯ ⋯;omega
  mono:=λk m hk hm=>by have:=hb.mono (s+k) (s+m) ⋯ ⋯;have:=s2 (s+k) ⋯ ⋯;omega
  one:=λk hk=>by have:=s2 (s+k) ⋯ ⋯;rw[show h+(l (s+k) - h)=l (s+k)by omega];exact hb.one _ ⋯
  bef:=λk j hk I=>hb.bef _ _ ⋯ ⋯
  oth:=λk m hk hm a2=>by have:=s2 (s+m) ⋯ ⋯;rw[show h+(l (s+m) - h)=l (s+m)by omega];exact hb.oth _ _ ⋯ ⋯ ⋯
  rng:=λk i hk hi=>hb.rng _ _ ⋯ ⋯}
 refine⟨r - s,_,_,s,?_,ag,λv=>⟨λO=>?_,λO=>?_⟩,?_,by omega⟩
 ·have ov:=xF f a7 a1
  have sm:=ko (n:=r) a1;have am:zS (.tp [0,1]) jA (zH jF (zf 0)<|zf 1) [Cell.no,Cell.no] ((Io r).map λj=>D.tup [.tup (zF h λi=>f i j),.tup (zF r λk=>if j=k then 1 else 0)])=some (zN r (h+r) λj=>qf h (λi=>f i j)<|ja j):=by unfold zN;refine zB _ _ λj I=>zD rfl rfl ?_;simp[jF,a8,kO];rfl
  have zp:Jq (zN r h λi j=>f j i) (zN r r λi j=>if i=j then 1 else 0)=(Io r).map λj=>D.tup [.tup (zF h λi=>f i j),.tup (zF r λk=>if j=k then 1 else 0)]:=by unfold Jq zN;rw[Od];simp
  have c1:((h:Int)+(r:Int))=((h+r:Nat):Int):=by omega
  simp only[dsq]at e;rw[<- c1]at e;unfold jn at ov sm ⊢;have nl : ∀T t f γ,zS T t f γ []=some []:=λ_ _ _ _=>rfl;simp[kT,j7,z6,zY,jj,ov,sm,zp,a1,jk,Iw,am,nl,e,eb]
 ·intro i hi
  induction O with
  | @zero v hz=>
   have:zc (λj=>f i j*v j) r%p=zc (λ_=>0) r%p:=zx λj I=>by rw[IB,hz j I];simp
   rw[this,zy];rfl
  | @step v u g c hg hu he ih=>
   obtain⟨k,hk,rfl⟩:=hg;have e1:zc (λj=>f i j*v j) r%p=zc (λj=>f i j*u j+c*(f i j*B (s+k) (h+j))) r%p:=zx λj I=>by rw[IB,he j I,<- IB,Om,Nc]
   have e2:=a9 (B<|s+k) (.gen ⟨s+k,by omega,rfl⟩) i hi;have e3:B (s+k) i=0:=hb.bef _ _ ⋯ (by have:=s2 (s+k) ⋯ ⋯;omega);rw[e3]at e2;rw[e1,jt,zV,IV,ih,IB,<- e2];simp
 ·
  have b0:Span p (h+r) (Fam r B) (qf h (λ_=>0) v):=by
   refine(a0 _).mpr ((Span.sum (u:=λj=>qf h (λi=>f i j)<|ja j) v (m:=r) λj I=> .gen ⟨j,I,rfl⟩).congr λi hi=>?_);rcases IJ i h with z | z
   ·simp only[zU z]
    rw[zg (g:=λj=>f i j*v j) λj _=>LK _ _,O i z];simp
   ·obtain⟨k,rfl⟩ : ∃k,i=h+k:=⟨i - h,by omega⟩
    simp only[z7];rw[zI (f:=λj=>v j*ja j k) (i:=k) ⋯ λj _ a2=>by simp[ja,a2]];simp[ja]
  have co:=wm hb b0;refine(Span.sum (u:=λk j=>B (s+k)<|h+j) (λk=>qf h (λ_=>0) v<|l<|s+k) (m:=r - s) λk hk=> .gen ⟨k,hk,rfl⟩).congr λj I=>?_;have:=co (h+j) ⋯;rw[z7]at this;rw[this];obtain⟨d,rfl⟩ : ∃d,r=s+d:=⟨r - s,by omega⟩;rw[IZ];have sp : ∀(F:Nat->Int) (d:Nat),(∀k,k<s->F k=0)->zc F (s+d)=zc (λk=>F<|s+k) d:=by
   intro F d hF
   induction d with
   | zero=>
    show zc F s=0;rw[zg (g:=λ_=>0) hF,zy]
   | succ d ih=>rw[<- OS];simp only[zc];rw[ih]
  rw[sp _ d λk hk=>by rw[zU (s1 k hk)];simp]
 ·
  refine⟨λk i=>B k i,l,⟨λk hk=>s1 k hk,λk m hk hm=>hb.mono k m hk ⋯,λk hk=>hb.one k ⋯,λk j hk I=>hb.bef k j ⋯ I,λk m hk hm a2=>hb.oth k m ⋯ ⋯ a2,λk i hk hi=>hb.rng k i ⋯ ⋯⟩,λv=>⟨λO=>O.le λg ⟨k,hk,U⟩=>?_,λO=>O.le λg ⟨j,I,U⟩=>?_⟩⟩
  ·subst U
   exact Span.map (n':=h) (G':=Fam r λj i=>f i j) (λi=>i) (λi hi=>by omega) (λg ⟨j,I,U⟩=>(Span.gen (g:=λi=>f i j) ⟨j,I,rfl⟩).congr λi hi=>by rw[U];simp only[zU hi])<|(a0<|B k).mp (.gen ⟨k,by omega,rfl⟩)
  ·subst U
   have:=Span.map (n':=h) (G':=Fam s λk i=>B k i) (λi=>i) (λi hi=>by omega) (λg hZ=>by
    obtain⟨k,hk,U⟩:=hZ;subst U;rcases IJ k s with z | z
    ·exact .gen ⟨k,z,rfl⟩
    ·exact .zero λi hi=>by rw[hb.bef k i hk (by have:=s2 k z hk;omega)];simp) ((a0<|qf h (λi=>f i j)<|ja j).mpr (.gen ⟨j,I,rfl⟩))
   exact this.congr λi hi=>by rw[zU hi]
end
section
variable{p:Int}{h w q r:Nat}
def app(f:RK)(w:Nat)(v:Vc):Vc:=λi=>zc (λj=>f i j*v j) w
theorem Jb(he : ∀j,j<w->v j%p=(u j+c*g j)%p)(i:Nat):app f w v i%p=(app f w u i+c*app f w g i)%p:=by
 unfold app;have e:zc (λj=>f i j*v j) w%p=zc (λj=>f i j*u j+c*(f i j*g j)) w%p:=zx λj z=>by rw[IB,he j z,<- IB,Om,Nc]
 rw[e,jt,zV]
theorem w5(hz : ∀j,j<w->v j%p=0)(i:Nat):app f w v i%p=0:=by
 unfold app;have:zc (λj=>f i j*v j) w%p=zc (λ_=>0) w%p:=zx λj z=>by rw[IB,hz j z];simp
 rw[this,zy];rfl
theorem j3(he : ∀j,j<w->v j%p=u j%p)(i:Nat):app f w v i%p=app f w u i%p:=by unfold app;exact zx λj z=>by rw[IB,he j z,<- IB]
theorem Vb(Y:Pr p)(hh:h<=100)(hw:w<=lim)(hq:q<=lim)(f:RK)(hf : ∀i j,i<h->j<w->0<=f i j/\f i j<100)(K:Nat->Vc) :
 ∃r B l,kS [.int p,jn h w f,.lst (zN q w K)]=some (.own<|zN r h B)/\IsB p h r B l/\∀v,Span p h (Fam r B) v ↔ ∃y,Span p w (Fam q K) y/\∀i,i<h->v i%p=app f w y i%p:=by
 have hl:=jd;obtain⟨r,B,l,e,hb,a4⟩:=qD Y hh hq .L λk i=>app f w (K k) i%p;refine⟨r,B,l,?_,hb,λv=>(a4 v).trans ⟨λz=>?_,λ⟨y,I,z⟩=>?_⟩⟩
 ·have a5:zS (.nm 0) jA (zC Vd<|zb (zf 1)<|zb (zf 2)<|zb (zf 0) zE) [Cell.no,Cell.val<|.int p,Cell.val (jn h w f)] (zN q w K)=some (zN q h λk i=>app f w (K k) i%p):=by
   unfold zN;refine zB _ _ λk hk=>zD rfl rfl ?_;have:=XS (p:=p) .T f (K k) Y.pos (show h<=lim by omega) hw hf;simp only[dsq]at this;simp[this];rfl
  simp only[dsq]at e;have sq:jf (jn h w f)=some (.T,[.int h,.int w,.tup (zN h w f)]):=rfl;simp[kS,z6,zY,hq,jk,qY,Iw,a5,sq,e]
 ·induction z with
  | @zero v hz=>exact⟨λ_=>0,.zero λi _=>by simp,λi hi=>by rw[hz i hi,w5 (p:=p) (λ_ _=>by simp)]⟩
  | @step v u g c O hu he U=>
   obtain⟨y,I,a6⟩:=U;obtain⟨k,hk,rfl⟩:=O;refine⟨λj=>y j+c*K k j,(Span.gen (g:=K k) ⟨k,hk,rfl⟩).add I c,λi hi=>?_⟩;rw[Jb (p:=p) (u:=y) (g:=K k) (c:=c) (λ_ _=>rfl) i,he i hi,IV,a6 i hi,IB,Lb,<- IB,<- IV]
 ·induction I generalizing v with
  | @zero y hz=>exact .zero λi hi=>by rw[z i hi];exact w5 hz i
  | @step y u g c O hu he U=>
   obtain⟨k,hk,rfl⟩:=O;have h1:=U (app f w u) ⟨u,hu,λ_ _=>rfl⟩ λi hi=>rfl;refine((Span.gen (g:=λi=>app f w (K k) i%p) ⟨k,hk,rfl⟩).add h1 c).congr λi hi=>?_;rw[z i hi,Jb (p:=p) he i,IV,IB,<- Lb (app f w (K k) i),<- IB,<- IV,Lb]
theorem JJ(hb:IsB p (h+w) r B l)(hs:s<=r)(s1 : ∀k,k<s->l k<h)(s2 : ∀k,s<=k->k<r->h<=l k) :
 IsB p w (r - s) (λk j=>B (s+k)<|h+j) (λk=>l (s+k) - h)/\∀v,Span p w (Fam (r - s) λk j=>B (s+k)<|h+j) v↔Span p (h+w) (Fam r B) (qf h (λ_=>0) v):=by
 refine⟨{
  lt:=λk hk=>by have:=hb.lt (s+k) ⋯;have:=s2 (s+k) ⋯ ⋯;omega
  mono:=λk m hk hm=>by have:=hb.mono (s+k) (s+m) ⋯ ⋯;have:=s2 (s+k) ⋯ ⋯;omega
  one:=λk hk=>by have:=s2 (s+k) ⋯ ⋯;rw[show h+(l (s+k) - h)=l (s+k)by omega];exact hb.one _ ⋯
  bef:=λk j hk U=>hb.bef _ _ ⋯ ⋯
  oth:=λk m hk hm a1=>by have:=s2 (s+m) ⋯ ⋯;rw[show h+(l (s+m) - h)=l (s+m)by omega];exact hb.oth _ _ ⋯ ⋯ ⋯
  rng:=λk i hk hi=>hb.rng _ _ ⋯ ⋯},λv=>⟨λI=>?_,λI=>?_⟩⟩
 ·induction I with
  | @zero v hz=>
   refine .zero λi hi=>?_;rcases IJ i h with z | z
   ·rw[zU z];simp
   ·obtain⟨k,rfl⟩ : ∃k,i=h+k:=⟨i - h,by omega⟩
    rw[z7];exact hz k ⋯
  | @step v u g c Y hu he O=>
   obtain⟨k,hk,rfl⟩:=Y;refine .step (g:=B<|s+k) (c:=c) ⟨s+k,by omega,rfl⟩ O λi hi=>?_;rcases IJ i h with z | z
   ·rw[zU z,zU z,hb.bef (s+k) i ⋯ (by have:=s2 (s+k) ⋯ ⋯;omega)];simp
   ·obtain⟨j,rfl⟩ : ∃k,i=h+k:=⟨i - h,by omega⟩
    rw[z7,z7];exact he j ⋯
 ·have co:=wm hb I
  refine(Span.sum (u:=λk j=>B (s+k)<|h+j) (λk=>qf h (λ_=>0) v<|l<|s+k) (m:=r - s) λk hk=> .gen ⟨k,hk,rfl⟩).congr λj U=>?_;have:=co (h+j) ⋯;rw[z7]at this;rw[this];obtain⟨d,rfl⟩ : ∃d,r=s+d:=⟨r - s,by omega⟩;rw[IZ];have sp : ∀(F:Nat->Int) (d:Nat),(∀k,k<s->F k=0)->zc F (s+d)=zc (λk=>F<|s+k) d:=by
   intro F d hF
   induction d with
   | zero=>
    show zc F s=0;rw[zg (g:=λ_=>0) hF,zy]
   | succ d O=>rw[<- OS];simp only[zc];rw[O]
  rw[sp _ d λk hk=>by rw[zU (s1 k hk)];simp]
end
section
variable{p:Int}{h w q:Nat}
def qE(h w:Nat)(f:RK)(g:Nat->Vc):Nat->Vc:=λm=>if m<w then qf h (λi=>f i m) (ja m)else qf h (g<|m - w) (λ_=>0)
theorem eP(f:RK)(g:Nat->Vc):zN w (h+w) (λj=>qf h (λi=>f i j)<|ja j)++zN q (h+w) (λk=>qf h (g k) λ_=>0)=zN (w+q) (h+w) (qE h w f g):=by
 unfold zN;rw[NY,Lx,LA];congr 1
 ·refine IK λm hm=>?_
  unfold qE;rw[RY (Iu.mp hm)]
 ·refine IK λm hm=>?_
  simp only[Function.comp];unfold qE;rw[EQ ⋯,IZ]
theorem w6(f:RK)(z:j<w)(i:Nat):app f w (ja j) i=f i j:=by unfold app;rw[zI (f:=λk=>f i k*ja j k) z λk _ I=>by simp[ja,Ly I]];simp[ja]
theorem cK(hz:Span p (h+w) (Fam (w+q)<|qE h w f g) z):Span p h (Fam q g) λi=>z i - app f w (λj=>z<|h+j) i:=by
 induction hz with
 | @zero z hz=>
  refine .zero λi hi=>?_;rw[Mv,hz i ⋯,w5 (p:=p) (λj hj=>hz (h+j) ⋯) i];simp
 | @step z u g' c hg hu he U=>
  obtain⟨m,hm,rfl⟩:=hg;have e2:=λi=>Jb (p:=p) (w:=w) (f:=f) (u:=λj=>u<|h+j) (g:=λj=>qE h w f g m<|h+j) (v:=λj=>z<|h+j) (c:=c) (λj hj=>he (h+j) ⋯) i;have Y : ∀i,i<h->(z i - app f w (λj=>z<|h+j) i)%p=((u i - app f w (λj=>u<|h+j) i)+c*(qE h w f g m i - app f w (λj=>qE h w f g m<|h+j) i))%p:=λi hi=>by rw[Mv,he i ⋯,e2 i,<- Mv];congr 1;rw[Int.mul_sub];omega
  rcases IJ m w with I | I
  ·refine U.congr λi hi=>?_
   rw[Y i hi];have t:app f w (λj=>qE h w f g m<|h+j) i=f i m:=by
    have:(λj=>qE h w f g m<|h+j)=ja m:=by funext j;unfold qE;rw[RY I,z7]
    rw[this,w6 f I]
   have O:qE h w f g m i=f i m:=by unfold qE;rw[RY I,zU hi]
   rw[t,O];simp
  ·refine .step (g:=g<|m - w) (c:=c) ⟨m - w,by omega,rfl⟩ U λi hi=>?_
   rw[Y i hi];have t:app f w (λj=>qE h w f g m<|h+j) i=0:=by
    have:(λj=>qE h w f g m<|h+j)=λ_=>0:=by funext j;unfold qE;rw[EQ ⋯,z7]
    rw[this];unfold app;simp[zy]
   have O:qE h w f g m i=g (m - w) i:=by unfold qE;rw[EQ ⋯,zU hi]
   rw[t,O];simp
theorem rD(I:Span p h (Fam q g) y):Span p (h+w) (Fam (w+q)<|qE h w f g) (qf h y λ_=>0):=by
 induction I with
 | @zero y hz=>
  refine .zero λi hi=>?_;rcases IJ i h with z | z
  ·rw[zU z];exact hz i z
  ·obtain⟨k,rfl⟩ : ∃k,i=h+k:=⟨i - h,by omega⟩
   rw[z7];simp
 | @step y u g' c O Y he U=>
  obtain⟨k,hk,rfl⟩:=O;refine .step (g:=qE h w f g<|w+k) (c:=c) ⟨w+k,by omega,rfl⟩ U λi hi=>?_;have e:qE h w f g (w+k)=qf h (g k) λ_=>0:=by unfold qE;rw[EQ ⋯,IZ]
  rw[e];rcases IJ i h with z | z
  ·rw[zU z,zU z,zU z];exact he i z
  ·obtain⟨j,rfl⟩ : ∃k,i=h+k:=⟨i - h,by omega⟩
   rw[z7,z7,z7];simp
theorem vG(hp:Pr p)(hh:h<=20)(hw:w<=20)(hq:q<=100)(f:RK)(g:Nat->Vc) :
 ∃r B l,j7 [.int p,jn h w f,.lst (zN q h g)]=some (.own<|zN r w B)/\IsB p w r B l/\∀v,Span p w (Fam r B) v↔Span p h (Fam q g) (app f w v):=by
 have hl:=jd;have ac:h<=lim:=by omega
 have I:w<=lim:=by omega
 have O:h+w<=lim:=by omega
 have ae:q<=lim:=by omega
 have U:w+q<=lim:=by omega
 obtain⟨r,B,l,e,hb,a3⟩:=qD hp (show h+w<=100 by omega) U .L<|qE h w f g;have ag:r<=h+w:=Yy hb.mono hb.lt;obtain⟨s,hs,s1,s2⟩:=yj h hb.mono;have eb:=kU hb ⋯ hs s1 s2;obtain⟨a5,tl⟩:=JJ hb hs s1 s2;refine⟨r - s,_,_,?_,a5,λv=>(tl v).trans ((a3 _).trans ⟨λY=>?_,λY=>?_⟩)⟩
 ·have ov:=xF f ac I
  have sm:=ko (n:=w) I;have a6:zS (.tp [0,1]) jA (zH jF (zf 0)<|zf 1) [Cell.no,Cell.no] ((Io w).map λj=>D.tup [.tup (zF h λi=>f i j),.tup (zF w λk=>if j=k then 1 else 0)])=some (zN w (h+w) λj=>qf h (λi=>f i j)<|ja j):=by unfold zN;refine zB _ _ λj hj=>zD rfl rfl ?_;simp[jF,O,kO];rfl
  have zp:Jq (zN w h λi j=>f j i) (zN w w λi j=>if i=j then 1 else 0)=(Io w).map λj=>D.tup [.tup (zF h λi=>f i j),.tup (zF w λk=>if j=k then 1 else 0)]:=by unfold Jq zN;rw[Od];simp
  have a8:inR (w:Int)=true:=Xq I;have zr:yF (.tup [.int 0]) (.int w)=some (.tup<|zF w λ_=>0):=by
   show(if [D.int 0].length*(w:Int).toNat<=lim/\inR (w:Int)=true then some (D.tup (Iw (w:Int).toNat [D.int 0]).flatten)else none)=_;rw[RY ⟨by simpa using I,a8⟩];congr 2;rw[Mh];clear a6 zp sm ov eb a5 tl a3 hb e a8 U O I hw hq s1 s2 hs ag
   induction w with
   | zero=>rfl
   | succ w ih=>rw[List.replicate_succ',List.flatten_append,ih];unfold zF;rw[Me,Lx];rfl
  have fr:zS (.nm 0) jA (zH jF (zf 0)<|zH yF (qh<|zb (zu<|.int 0) zE)<|sIx (zh 1)<|zu<|.int 1) [Cell.no,Cell.val (jn h w f)] (zN q h g)=some (zN q (h+w) λk=>qf h (g k) λ_=>0):=by unfold zN;refine zB _ _ λk hk=>zD rfl rfl ?_;have sq:jf (jn h w f)=some (.T,[.int h,.int w,.tup (zN h w f)]):=rfl;simp[sq,zr,jF,O,kO]
  have c1:((h:Int)+(w:Int))=((h+w:Nat):Int):=by omega
  simp only[dsq]at e;rw[<- c1,<- eP]at e;have sq:jf (jn h w f)=some (.T,[.int h,.int w,.tup (zN h w f)]):=rfl;unfold jn at ov sm fr ⊢;simp[j7,z6,zY,jj,ov,sm,zp,I,ae,U,jk,qY,Iw,a6,fr,e,eb]
 ·have:=cK Y
  refine(this.smul (-1)).congr λi hi=>?_;congr 1;show app f w v i = -1*(qf h (λ_=>0) v i - app f w (λj=>qf h (λ_=>0) v<|h+j) i);rw[zU hi,show(λj=>qf h (λ_=>0) v<|h+j)=v from funext λj=>z7 j];omega
 ·have a:=Span.sum (p:=p) (n:=h+w) (G:=Fam (w+q)<|qE h w f g) (u:=λj=>qE h w f g j) v (m:=w) λj hj=> .gen ⟨j,by omega,rfl⟩
  have b:=rD (w:=w) (f:=f) Y;refine(b.add a (-1)).congr λi hi=>?_;congr 1;rcases IJ i h with z | z
  ·rw[zU z,zU z]
   have:zc (λk=>v k*qE h w f g k i) w=app f w v i:=by unfold app;exact zg λk hk=>by unfold qE;rw[RY hk,zU z,LK]
   rw[this];omega
  ·obtain⟨k,rfl⟩ : ∃k,i=h+k:=⟨i - h,by omega⟩
   rw[z7,z7];have:zc (λj=>v j*qE h w f g j (h+k)) w=v k:=by rw[zI (f:=λj=>v j*qE h w f g j (h+k)) (i:=k) ⋯ λj hj ar=>by unfold qE;rw[RY hj,z7];simp[ja,ar]];unfold qE;rw[RY (show k<w by omega),z7];simp[ja]
   rw[this];simp
end
def dlt(i j:Nat):Int:=if i=j then 1 else 0
def Cy(p:Int)(n:Nat)(f g:RK):Prop:=∀i j,i<n->j<n->zc (λk=>f i k*g k j) n%p=dlt i j%p
theorem xy{p x y X Y:Int}(h1:x%p=X%p)(h2:y%p=Y%p):(x*y)%p=(X*Y)%p:=by rw[IB,h1,h2,<- IB]
@[simp] theorem sN(r):qY (.nest r) = .no:=rfl
@[simp] theorem Av(r):qY (.own r) = .no:=rfl
@[simp] theorem Au(d):qY (.val d) = .val d:=rfl
@[simp] theorem BP:qY .no = .no:=rfl
def jO(w:RX)(k:Nat):Nat:=if w k then k+1 else k
def jT(w:RX)(k:Nat):Nat:=if w k then k else k+1
theorem dO(w:RX)(wd:RZ)(k):hiW w wd k=wd (jT w k):=by unfold hiW jT;split<;>rfl
theorem ma(w:RX)(wd:RZ)(k):wiW w wd k=wd (jO w k):=by unfold wiW jO;split<;>rfl
theorem fG(w:RX)(h:k<m):jO w k<m+1:=by unfold jO;split<;>omega
theorem eH(w:RX)(h:k<m):jT w k<m+1:=by unfold jT;split<;>omega
section
variable{p:Int}{m:Nat}{w:RX}{wd:RZ}{f g T:RV}
theorem J8(m:Nat)(F:Nat->D):xh ((Io m).map F)=(Io m).map λ(k:Nat)=>D.tup [.int k,F k]:=by unfold xh;rw[IQ,Mg];apply IK;intro k hk;have hk:=Iu.mp hk;simp[hk]
end
structure Bar where
 s:Nat
 n:Nat
 v:Nat->Vc
def Bar.has(b:Bar)(r:Nat):Bool:=decide (b.s<=r) && decide (r<b.s+b.n)
theorem has_iff{b:Bar}{r:Nat}:b.has r=true↔b.s<=r/\r<b.s+b.n:=by simp[Bar.has]
def aT:Bar:=⟨0,0,λ_ _=>0⟩
structure BarOk(p:Int)(w:RX)(wd:RZ)(T:RV)(k:Nat)(b:Bar):Prop where
 n1:1<=b.n
 le:b.s+b.n<=k+1
 rng : ∀r i,b.has r=true->i<wd r->0<=b.v r i/\b.v r i<p
 arr : ∀j,j<k->b.has (jO w j)=true->∀i,i<wd (jT w j)->app (T j) (wd<|jO w j) (b.v<|jO w j) i%p=(if b.has (jT w j)=true then b.v (jT w j) i else 0)%p
def Ord(w:RX)(a b:Bar):Prop:=(a.s<b.s->w (b.s - 1)=true)/\(b.s<a.s->w (a.s - 1)=false)
def Ib(bars:List Bar)(r:Nat):Vc->Prop:=λg=>∃b,b∈bars/\b.has r=true/\g=b.v r
def mxV(p:Int)(A:Nat->Bar)(N:Nat)(t:Vc)(r:Nat):Vc:=λc=>zc (λj=>if (A j).has r=true then t j*(A j).v r c else 0) N%p
def mxB(p:Int)(A:Nat->Bar)(N:Nat)(t:Vc)(i:Nat):Bar:=⟨(A i).s,(A i).n,mxV p A N t⟩
section
variable{p:Int}{w:RX}{wd:RZ}{T:RV}{k N:Nat}{A:Nat->Bar}
theorem yd(f:RK)(h:Nat)(t:Vc)(u:Nat->Vc)(n:Nat)(i:Nat):app f h (λc=>zc (λj=>t j*u j c) n) i=zc (λj=>t j*app f h (u j) i) n:=by
 unfold app;have e:zc (λj=>f i j*zc (λk=>t k*u k j) n) h=zc (λj=>zc (λk=>t k*(f i j*u k j)) n) h:=zg λj _=>by rw[<- zV];exact zg λk _=>by rw[<- Lw,<- Lw,LK (f i j)]
 rw[e,jw];exact zg λj _=>zV ..
theorem rf(c:Prop) [Decidable c](x y:Int):(if c then x*y else 0)=x*(if c then y else 0):=by split<;>simp
theorem fN(f:RK)(h r:Nat)(t:Vc)(i:Nat):app f h (mxV p A N t r) i%p=zc (λj=>t j*(if (A j).has r=true then app f h ((A j).v r) i else 0)) N%p:=by
 have e:app f h (mxV p A N t r) i%p=app f h (λc=>zc (λj=>t j*(if (A j).has r=true then (A j).v r c else 0)) N) i%p:=j3 (λc _=>by unfold mxV;rw[Lb];congr 1;exact zg λj _=>rf ..) i
 rw[e,yd];congr 1;refine zg λj _=>?_;congr 1;by_cases z:(A j).has r=true
 ·simp only[RY z]
 ·simp only[EQ z]
  unfold app;simp[zy]
theorem AB(p0:0<p)(hA : ∀j,j<N->BarOk p w wd T k (A j))(hk : ∀j,j<N->(A j).has k=true){t:Vc}{i:Nat}(hi:i<N)(hO : ∀c,i<c->c<N->Ord w (A i) (A c))(tz : ∀c,c<i->t c=0) :
 BarOk p w wd T k (mxB p A N t i):=by
 refine⟨(hA i hi).n1,(hA i hi).le,λr c _ _=>⟨Le _ ⋯,IU _ p0⟩,λj hj hb c hc=>?_⟩;have hb:(A i).has (jO w j)=true:=hb;show app (T j) (wd<|jO w j) (mxV p A N t<|jO w j) c%p=(if (A i).has (jT w j)=true then mxV p A N t (jT w j) c else 0)%p;rw[fN];have a8 : ∀I,I<N->t I≠0->((A i).has (jT w j)=true->(A I).has (jT w j)=true->(A I).has (jO w j)=true)/\((A i).has (jT w j)=false->(A I).has (jO w j)=true->(A I).has (jT w j)=false):=λI O ht=>by
  have h1:=has_iff.mp<|hk i hi;have h2:=has_iff.mp<|hk I O;have U:i<=I:=Nat.not_lt.mp λz=>ht<|tz I z;rcases Nat.lt_or_eq_of_le U with U | U
  ·obtain⟨o1,o2⟩:=hO I U O
   have hb:=has_iff.mp hb;cases hw:w j with
   | false=>
    have Y:jO w j=j:=by unfold jO;rw[hw];rfl
    have ee:jT w j=j+1:=by unfold jT;rw[hw];rfl
    rw[Y]at hb;rw[Y,ee];refine⟨λ_ q=>has_iff.mpr ?_,λq _=>?_⟩
    ·have q:=has_iff.mp q
     refine⟨Nat.not_lt.mp λz=>?_,by omega⟩;have es:(A I).s=j+1:=by omega
     have:=o1 ⋯;rw[es]at this;simp[hw]at this
    ·exfalso
     have:(A i).has (j+1)=true:=has_iff.mpr ⋯;rw[this]at q;cases q
   | true=>
    have Y:jO w j=j+1:=by unfold jO;rw[hw];rfl
    have ee:jT w j=j:=by unfold jT;rw[hw];rfl
    rw[Y]at hb;rw[Y,ee];refine⟨λ_ q=>has_iff.mpr ?_,λq _=>?_⟩
    ·have q:=has_iff.mp q
     omega
    ·cases hx:(A I).has j with
     | false=>rfl
     | true=>
      exfalso;have hx:=has_iff.mp hx;have es:(A i).s=j+1:=by
       have : ¬((A i).s<=j):=λz=>by have:(A i).has j=true:=has_iff.mpr ⋯;rw[this]at q;cases q
       omega
      have:=o2 ⋯;rw[es]at this;simp[hw]at this
  ·subst U
   exact⟨λ_ _=>hb,λq _=>q⟩
 have e1:zc (λI=>t I*(if (A I).has (jO w j)=true then app (T j) (wd<|jO w j) ((A I).v (jO w j)) c else 0)) N%p
  = zc (λI=>if (A i).has (jT w j)=true then (if (A I).has (jT w j)=true then t I*(A I).v (jT w j) c else 0)else 0) N%p:=zx λI O=>by
  by_cases ht:t I=0
  ·simp[ht]
  obtain⟨k1,k2⟩:=a8 I O ht;cases hx:(A i).has (jT w j)with
  | false=>
   cases hy:(A I).has (jO w j)with
   | false=>simp
   | true=>
    have q:=(hA I O).arr j hj hy c hc;rw[k2 hx hy]at q;simp only[if_true];rw[IB,q];simp
  | true=>
   cases hy:(A I).has (jO w j)with
   | false=>
    cases hz:(A I).has (jT w j)with
    | false=>simp
    | true=>rw[k1 hx hz]at hy;cases hy
   | true=>
    have q:=(hA I O).arr j hj hy c hc;simp only[if_true];rw[IB,q,<- IB];congr 1;cases hz:(A I).has (jT w j)<;>simp
 rw[e1];cases hx:(A i).has (jT w j)with
 | false=>simp[zy]
 | true=>
  simp only[if_true];unfold mxV;rw[Lb]
theorem iF{G':Vc->Prop}{r n:Nat}{A':Nat->Bar}(t:Nat->Vc)(a0 : ∀i,i<N->t i i=1)(hz : ∀i c,i<N->c<i->t i c=0)
 (a1 : ∀i,i<N->(A i).has r=true->Span p n G' ((A' i).v r)) (he : ∀i,i<N->(A i).has r=true->∀c,c<n->(A' i).v r c%p=mxV p A N (t i) r c%p) :
 ∀i,i<N->(A i).has r=true->Span p n G' ((A i).v r):=by
 have a2 : ∀d i,N - i<=d->i<N->(A i).has r=true->Span p n G' ((A i).v r):=by
  intro d
  induction d with
  | zero=>intro i h1 h2;omega
  | succ d ih=>
   intro i h1 h2 O;have hs:Span p n G' λc=>zc (λj=>(if j=i then 0 else if (A j).has r=true then t i j else 0)*(A j).v r c) N:=by
    have gen : ∀M,M<=N->Span p n G' λc=>zc (λj=>(if j=i then 0 else if (A j).has r=true then t i j else 0)*(A j).v r c) M:=by
     intro M
     induction M with
     | zero=>intro _;exact .zero λc _=>by simp[zc]
     | succ M a4=>
      intro hM;have q:=a4 ⋯;by_cases I:M=i\/¬((A M).has r=true)\/M<i
      ·refine q.congr λc _=>?_
       show(zc _ M+_)%p=_;rcases I with I | I | I
       ·simp[I]
       ·simp[I]
       ·have z:=hz i M h2 I;simp only[z];simp
      ·have a5:M≠i/\(A M).has r=true/\¬M<i:=by
        refine⟨λz=>I<|.inl z,?_,λz=>I<|.inr<|.inr z⟩;cases hx:(A M).has r with
        | true=>rfl
        | false=>exact absurd (.inr<|.inl<|by rw[hx];decide) I
       exact((ih M ⋯ ⋯ a5.2.1).add q (if M=i then 0 else if (A M).has r=true then t i M else 0)).congr λc _=>rfl
    exact gen N<|IC _
   have h0:=hs.add (a1 i h2 O) (-1);refine h0.congr λc I=>?_;have e1:zc (λj=>if (A j).has r=true then t i j*(A j).v r c else 0) N=(A i).v r c+zc (λj=>(if j=i then 0 else if (A j).has r=true then t i j else 0)*(A j).v r c) N:=by
    have e2:(A i).v r c=zc (λj=>if j=i then (A i).v r c else 0) N:=by rw[zI h2 λk _ hk=>by simp[hk]];simp
    rw[e2,<- jt];refine zg λj hj=>?_;by_cases Y:j=i
    ·subst Y;simp[O,a0 j h2]
    ·simp only[EQ Y]
     by_cases hx:(A j).has r=true
     ·simp[hx]
     ·simp[hx]
   have U:=he i h2 O c I;unfold mxV at U;rw[Lb,e1]at U;rw[IV,U,<- IV];congr 1;omega
 exact λi h1 h2=>a2 N i ⋯ h1 h2
end
section
variable{p:Int}{n m N h r r2 q:Nat}{B B2 K:Nat->Vc}{l l2 lK:RZ}{M f:RK}
theorem kc(z:Span p n (Fam m U) v) : ∃t:Vc,∀i,i<n->v i%p=zc (λj=>t j*U j i) m%p:=by
 induction z with
 | zero h=>exact⟨λ_=>0,λi hi=>by rw[h i hi];simp[zy]⟩
 | @step v w g c I hw he O=>
  obtain⟨t,Y⟩:=O;obtain⟨k,hk,rfl⟩:=I;refine⟨λj=>t j+if j=k then c else 0,λi hi=>?_⟩;rw[he i hi,IV,Y i hi,<- IV];congr 1;have e:zc (λj=>(t j+if j=k then c else 0)*U j i) m=zc (λj=>t j*U j i) m+zc (λj=>(if j=k then c else 0)*U j i) m:=by rw[<- jt];exact zg λj _=>On ..
  rw[e,zI (f:=λj=>(if j=k then c else 0)*U j i) hk λj _ hj=>by simp[hj]];simp
theorem qB(a b:Nat->Int)(n:Nat):zc (λj=>a j*b j) n=zc (λj=>b j*a j) n:=zg λj _=>LK ..
theorem col_span:Span p h (Fam N λj i=>M i j) u ↔ ∃x:Vc,∀i,i<h->u i%p=app M N x i%p:=by
 constructor
 ·intro q
  obtain⟨t,z⟩:=kc q;exact⟨t,λi hi=>by rw[z i hi];unfold app;rw[qB]⟩
 ·rintro⟨x,hx⟩
  refine(Span.sum (u:=λj i=>M i j) x (m:=N) λj I=> .gen ⟨j,I,rfl⟩).congr λi hi=>?_;rw[hx i hi];unfold app;rw[qB]
theorem KI(n:Nat)(v:Vc):Span p n (Fam n ja) v:=by refine(Span.sum (u:=ja) v (m:=n) λj z=> .gen ⟨j,z,rfl⟩).congr λi hi=>?_;rw[zI (f:=λk=>v k*ja k i) hi λk _ hk=>by simp[ja,hk]];simp[ja]
theorem yP(z:Pr p)(I:N<=8)(hs : ∀v:Vc,∃t,∀i,i<N->v i%p=app f N t i%p)(O : ∀i,i<N->app f N t i%p=0) : ∀j,j<N->t j%p=0:=by
 obtain⟨q,K,l,s,_,hb,hk,U,a2⟩:=xI z (h:=N) ⋯ I f;have Y:Rk p N N (λj i=>f i j) N:=⟨ja,id,Vm z N,λv=>⟨λ_=>col_span.mpr<|hs v,λ_=>KI N v⟩⟩;have:=yJ z U Y;have hq:q=0:=by omega
 subst hq;have:=(hk t).mpr λi hi=>by have:=O i hi;unfold app at this;exact this
 cases this with
 | zero h=>exact h
 | step hg _ _=>obtain⟨k,hk,_⟩:=hg;omega
def Jx(r:Nat)(B:Nat->Vc)(l:RZ)(t:Vc):Vc:=λi=>t i - zc (λj=>t (l j)*B j i) r
theorem JZ(hb:IsB p N r B l)(t:Vc)(z:j<r):Jx r B l t (l j)=0:=by unfold Jx;rw[zI (f:=λI=>t (l I)*B I (l j)) z λk hk O=>by rw[hb.oth k j hk z (Ly O)];simp];rw[hb.one j z];omega
theorem V0(t:Vc):Span p N (Fam r B) λi=>zc (λj=>t (l j)*B j i) r:=Span.sum (u:=B) (λj=>t<|l j) λj z=> .gen ⟨j,z,rfl⟩
theorem ro(hb:IsB p N r B l)(h:Span p N (Fam r B) t)(hz : ∀j,j<r->t (l j)%p=0) : ∀i,i<N->t i%p=0:=λi hi=>by
 rw[wm hb h i hi];have e:zc (λk=>t (l k)*B k i) r%p=zc (λ_=>0) r%p:=zx λk hk=>by rw[IB,hz k hk];simp
 rw[e,zy];simp
theorem Vl(z:Pr p)(hb:IsB p N r B l)(hi:i<N)(hn : ∀j,j<r->l j≠i) : ¬Span p N (Fam r B) (ja i):=λh=>by have:=ro hb h (λj I=>by unfold ja;rw[EQ (Ly<|hn j I)];simp) i hi;unfold ja at this;rw[RY rfl,z.one]at this;omega
theorem ZZ(g:RK)(w:Nat)(u v:Vc)(i:Nat):app g w (λj=>u j - v j) i=app g w u i - app g w v i:=by
 have e:app g w u i=app g w (λj=>u j - v j) i+app g w v i:=by unfold app;rw[<- jt];exact zg λj _=>by dsimp only;rw[<- Om];congr 1;omega
 omega
def Yp(M f:RK)(N:Nat):Nat->Nat->Int:=λi j=>zc (λk=>M i k*f k j) N
theorem w9(t:Vc)(i:Nat):app (Yp M f N) N t i=app M N (app f N t) i:=by
 unfold app Yp;have e:zc (λj=>zc (λk=>M i k*f k j) N*t j) N=zc (λj=>zc (λk=>M i k*(f k j*t j)) N) N:=zg λj _=>by rw[<- jx];exact zg λk _=>Lw ..
 rw[e,jw];exact zg λk _=>zV ..
theorem tF(hp:Pr p)(hN:N<=8)(hh:h<=8)(hs : ∀v:Vc,∃t,∀i,i<N->v i%p=app f N t i%p)(hb:IsB p N r B l)(Y : ∀t,Span p N (Fam r B) t↔Ker p h N M (app f N t))
 (a5:IsB p h r2 B2 l2) (hI : ∀v,Span p h (Fam r2 B2) v↔Span p h (Fam N λj i=>M i j) v) :
 (∀j,j<r->∀i,i<h->app M N (app f N<|B j) i%p=0)/\(∀c,c<N->(∀j,j<r->l j≠c)->∃i,i<h/\app M N (λa=>f a c) i%p≠0)/\r+r2=N/\
   ∀U:Vc->Prop,(∀c,c<N->(∀j,j<r->l j≠c)->Span p h U (app M N λa=>f a c))->(∀c,c<h->(∀j,j<r2->l2 j≠c)->Span p h U (ja c))->∀v,Span p h U v:=by
 have a3 : ∀t:Vc,Ker p h N M (app f N t) ↔ ∀i,i<h->app M N (app f N t) i%p=0:=λt=>Iff.rfl;have a9 : ∀(c:Nat),c<N->∀i,app M N (λa=>f a c) i%p=app M N (app f N<|ja c) i%p:=λc I i=>j3 (λa _=>by rw[w6 f I]) i;refine⟨λj O=>(a3 _).mp ((Y<|B j).mp (.gen ⟨j,O,rfl⟩)),λc I hn=>?_,?_,λU h1 h2 v=>?_⟩
 ·refine LS λz=>Vl hp hb I hn ((Y _).mpr ((a3 _).mpr λi hi=>?_))
  rw[<- a9 c I i];exact LS λy=>z ⟨i,hi,y⟩
 ·obtain⟨q',K',l',s',_,ac,a7,ae,b9⟩:=xI hp (h:=h) (w:=N) ⋯ hN (Yp M f N)
  have e1:q'=r:=(K4 hp ac hb (λv hv=>(Y v).mpr λi hi=>by
   have:=(a7 v).mp hv i hi;rw[show zc (λj=>Yp M f N i j*v j) N=app (Yp M f N) N v i from rfl,w9]at this;exact this) λv hv=>(a7 v).mpr λi hi=>by
   have:=(Y v).mp hv i hi;rw[show zc (λj=>Yp M f N i j*v j) N=app (Yp M f N) N v i from rfl,w9];exact this).1
  have e2:s'=r2:=by
   refine yJ hp ae ⟨B2,l2,a5,λv=>(hI v).trans ⟨λz=>?_,λz=>?_⟩⟩
   ·obtain⟨x,hx⟩:=col_span.mp z
    obtain⟨t,ht⟩:=hs x;refine col_span.mpr ⟨t,λi hi=>?_⟩;rw[hx i hi,w9];exact j3 ht i
   ·obtain⟨t,ht⟩:=col_span.mp z
    exact col_span.mpr ⟨app f N t,λi hi=>by rw[ht i hi,w9]⟩
  omega
 ·
  have im : ∀t:Vc,Span p h U (app M N<|app f N t):=λt=>by
   have hz:=(a3 _).mp ((Y _).mp (V0 (p:=p) (N:=N) (B:=B) (r:=r) (l:=l) t));have e : ∀i,i<h->app M N (app f N t) i%p=app M N (app f N<|Jx r B l t) i%p:=λi hi=>by
    have e0:app M N (app f N<|Jx r B l t) i=app M N (app f N t) i - app M N (app f N λi=>zc (λj=>t (l j)*B j i) r) i:=by rw[<- ZZ];congr 1;funext a;exact ZZ ..
    rw[e0,Mv,hz i hi];simp
   refine Span.congr ?_ e;have e3 : ∀i,app M N (app f N<|Jx r B l t) i=zc (λc=>Jx r B l t c*app M N (λa=>f a c) i) N:=λi=>by rw[<- yd];congr 1;funext a;unfold app;exact qB ..
   have s1 : ∀K,K<=N->Span p h U λi=>zc (λc=>Jx r B l t c*app M N (λa=>f a c) i) K:=by
    intro K
    induction K with
    | zero=>intro _;exact .zero λi _=>by simp[zc]
    | succ K ih=>
     intro hK;by_cases I : ∃j,j<r/\l j=K
     ·obtain⟨j,O,rfl⟩:=I
      refine(ih ⋯).congr λi _=>?_;show(zc _ (l j)+_)%p=_;have z:=JZ hb t O;simp only[z];simp
     ·exact((h1 K ⋯ λj O z=>I ⟨j,O,z⟩).add (ih ⋯) _).congr λi _=>rfl
   exact(s1 N<|IC _).congr λi _=>by rw[e3]
  have ar : ∀u,Span p h (Fam r2 B2) u->Span p h U u:=λu hu=>by obtain⟨x,hx⟩:=col_span.mp<|(hI u).mp hu;obtain⟨t,ht⟩:=hs x;exact(im t).congr λi hi=>by rw[hx i hi];exact j3 ht i
  have s2 : ∀K,K<=h->Span p h U λi=>zc (λc=>Jx r2 B2 l2 v c*ja c i) K:=by
   intro K
   induction K with
   | zero=>intro _;exact .zero λi _=>by simp[zc]
   | succ K ih=>
    intro hK;by_cases I : ∃j,j<r2/\l2 j=K
    ·obtain⟨j,O,rfl⟩:=I
     refine(ih ⋯).congr λi _=>?_;show(zc _ (l2 j)+_)%p=_;have z:=JZ a5 v O;simp only[z];simp
    ·exact((h2 K ⋯ λj O z=>I ⟨j,O,z⟩).add (ih ⋯) _).congr λi _=>rfl
  refine((ar _<|V0 (B:=B2) (r:=r2) (l:=l2) v).add (s2 h<|IC _) 1).congr λi hi=>?_;congr 1;rw[zI (f:=λc=>Jx r2 B2 l2 v c*ja c i) hi λc _ I=>by simp[ja,I]];simp only[ja,if_true,Jx];omega
theorem tG(O:Pr p)(hN:N<=8)(hh:h<=8)(hs : ∀v:Vc,∃t,∀i,i<N->v i%p=app f N t i%p)(hb:IsB p N r B l)(hW : ∀t,Span p N (Fam r B) t↔Span p N (Fam h λj i=>M i j) (app f N t))
 (hk : ∀v,Span p h (Fam q K) v↔Ker p N h M v) (hr:Rk p N h (λj i=>M i j) s) (bl:q+s=h) :
 (∀j,j<r->∃y:Vc,∀i,i<N->app M h y i%p=app f N (B j) i%p)/\(∀c,c<N->(∀j,j<r->l j≠c)->¬∃y:Vc,∀i,i<N->app M h y i%p=f i c%p)/\r+q=h/\
   ∀(Gx:Vc->Prop) (x:Nat->Vc),(∀j,j<r->Span p h Gx (x j)/\∀i,i<N->app M h (x j) i%p=app f N (B j) i%p)->(∀j,j<q->Span p h Gx (K j))->∀v,Span p h Gx v:=by
 have a6 : ∀t,Span p N (Fam r B) t ↔ ∃y:Vc,∀i,i<N->app f N t i%p=app M h y i%p:=λt=>(hW t).trans col_span;have inj : ∀{t:Vc},(∀i,i<N->app f N t i%p=0)->∀j,j<N->t j%p=0:=λY=>yP O hN hs Y;refine⟨λj I=>?_,λc hc hn z=>?_,?_,λGx x h1 h2 v=>?_⟩
 ·obtain⟨y,hy⟩:=(a6<|B j).mp (.gen ⟨j,I,rfl⟩)
  exact⟨y,λi hi=>(hy i hi).symm⟩
 ·obtain⟨y,hy⟩:=z
  exact Vl O hb hc hn<|(a6 _).mpr ⟨y,λi hi=>by rw[w6 f hc,hy i hi]⟩
 ·have ag:s<=8/\r<=8:=by
   obtain⟨s',bm,ar⟩:=bQ O (n:=N) (m:=h) ⋯ hh λj i=>M i j;refine⟨by rw[yJ O hr ar];omega,?_⟩;have : ∀r',r'<=r->r'<=N:=by
    intro r';have mono : ∀k,k<r->k<=l k:=by
     intro k
     induction k with
     | zero=>intro _;omega
     | succ k ih=>intro hk;have:=ih ⋯;have:=hb.mono k (k+1) ⋯ hk;omega
    intro bn;cases r' with
    | zero=>omega
    | succ am=>have:=mono am ⋯;have:=hb.lt am ⋯;omega
   have:=this r<|IC _;omega
  have bv:s<=r:=by
   obtain⟨s',a1,a2⟩:=bQ O (n:=N) (m:=r) ⋯ ag.2 λj=>app f N<|B j;have e:s=s':=by
    obtain⟨C,lC,hC,a7⟩:=hr;refine yJ O (m:=h) (W:=λj i=>M i j) ⟨C,lC,hC,a7⟩ ?_;obtain⟨C',b9,bb,bd⟩:=a2;refine⟨C',b9,bb,λv=>(bd v).trans ⟨λz=>?_,λz=>?_⟩⟩
    ·exact z.le λg U=>by obtain⟨j,I,rfl⟩:=U;exact(hW<|B j).mp (.gen ⟨j,I,rfl⟩)
    ·obtain⟨y,hy⟩:=col_span.mp z
     obtain⟨t,Y⟩:=hs v;have ac:Span p N (Fam r B) t:=(a6 t).mpr ⟨y,λi hi=>by rw[<- Y i hi,hy i hi]⟩;refine(Span.sum (u:=λj=>app f N<|B j) (λj=>t<|l j) (m:=r) λj I=> .gen ⟨j,I,rfl⟩).congr λi hi=>?_;rw[Y i hi,<- yd];exact j3 (λj I=>wm hb ac j I) i
   omega
  have c0:r<=s:=by
   obtain⟨C,lC,hC,a7⟩:=hr;have ex : ∀j,∃t:Vc,∀i,i<N->C j i%p=app f N t i%p:=λj=>hs<|C j;have g:Nat->Vc:=λj=>Classical.choose<|ex j;have U : ∃g:Nat->Vc,∀j i,i<N->C j i%p=app f N (g j) i%p:=⟨λj=>Classical.choose<|ex j,λj=>Classical.choose_spec<|ex j⟩;obtain⟨g,U⟩:=U;obtain⟨s',a1,a2⟩:=bQ O (n:=N) (m:=s) ⋯ ag.1 g;have e:r=s':=by
    refine yJ O (m:=s) (W:=g) ⟨B,l,hb,λv=>⟨λz=>?_,λz=>?_⟩⟩ a2
    ·have hv:=(a7 _).mpr ((hW v).mp z)
     refine(Span.sum (u:=g) (λj=>app f N v<|lC j) (m:=s) λj I=> .gen ⟨j,I,rfl⟩).congr λi hi=>?_;have z0 : ∀a,a<N->app f N (λi=>v i - zc (λj=>app f N v (lC j)*g j i) s) a%p=0:=λa ha=>by
      rw[ZZ,yd,Mv,wm hC hv a ha];have e:zc (λk=>app f N v (lC k)*C k a) s%p=zc (λk=>app f N v (lC k)*app f N (g k) a) s%p:=zx λk _=>by rw[IB,U k a ha,<- IB]
      rw[e];simp
     have:=inj z0 i hi;have q2:=Int.emod_emod_of_dvd;exact(Int.emod_emod_of_dvd _<|Int.dvd_refl p).symm.trans (by
      rw[Lb];have:(v i - zc (λj=>app f N v (lC j)*g j i) s)%p=0:=this;exact Mo.mpr this)
    ·refine z.le λu hu=>?_
     obtain⟨j,I,rfl⟩:=hu;refine(hW _).mpr (((a7<|C j).mp (.gen ⟨j,I,rfl⟩)).congr λi hi=>(U j i hi).symm)
   omega
  omega
 ·obtain⟨t,Y⟩:=hs (app M h v)
  have ac:Span p N (Fam r B) t:=(a6 t).mpr ⟨v,λi hi=>(Y i hi).symm⟩;have hx:Span p h Gx λc=>zc (λj=>t (l j)*x j c) r:=Span.sum (u:=x) (λj=>t<|l j) λj I=>(h1 j I).1;have hd:Span p h Gx λc=>v c - zc (λj=>t (l j)*x j c) r:=by
   refine((hk _).mpr λi hi=>?_).le λg U=>by obtain⟨j,I,rfl⟩:=U;exact h2 j I
   show app M h (λc=>v c - zc (λj=>t (l j)*x j c) r) i%p=0;rw[ZZ,yd,Mv];have e:zc (λj=>t (l j)*app M h (x j) i) r%p=app M h v i%p:=by rw[Y i hi,j3 (λj I=>wm hb ac j I) i,yd];exact zx λj I=>by rw[IB,(h1 j I).2 i hi,<- IB]
   rw[e];simp
  refine(hx.add hd 1).congr λc _=>?_;congr 1;omega
end
structure BrInv(p:Int)(w:RX)(wd:RZ)(T:RV)(k:Nat)(bars:List Bar):Prop where
 ok : ∀b,b∈bars->BarOk p w wd T k b
 sp : ∀r,r<=k->∀v,Span p (wd r) (Ib bars r) v
 ct : ∀r,r<=k->bars.countP (λb=>b.has r)=wd r
 od:(bars.filter λb=>b.has k).Pairwise (Ord w)
def ldx(r:Nat)(l:RZ)(i:Nat):Option Nat:=(Io r).find? λj=>l j==i
theorem qQ(h:ldx r l i=some j):j<r/\l j=i:=by have h1:=List.find?_some h;have h2:=List.mem_of_find?_eq_some h;exact⟨Iu.mp h2,by simpa using h1⟩
theorem wO(h:ldx r l i=none) : ∀j,j<r->l j≠i:=λj z=>by have:=Ov.mp h j<|Iu.mpr z;simpa using this
def stB(p:Int)(A:Nat->Bar)(N r:Nat)(B:Nat->Vc)(l:RZ)(i:Nat):Bar:=match ldx r l i with
 | some j=>mxB p A N (B j) i
 | none=>A i
def exB(k:Nat)(b:Bar):Option Vc->Bar
 | none=>b
 | some y=>⟨b.s,b.n+1,λr=>if r=k+1 then y else b.v r⟩
def nuB(k:Nat)(y:Vc):Bar:=⟨k+1,1,λ_=>y⟩
def tco(r:Nat)(B:Nat->Vc)(l:RZ)(i:Nat):Vc:=match ldx r l i with
 | some j=>B j
 | none=>ja i
theorem bB(p A N r B l i):(stB p A N r B l i).s=(A i).s:=by unfold stB;split<;>rfl
theorem tH(p A N r B l i):(stB p A N r B l i).n=(A i).n:=by unfold stB;split<;>rfl
theorem Yf(p A N r B l i rm):(stB p A N r B l i).has rm=(A i).has rm:=by unfold Bar.has;rw[bB,tH]
theorem vZ:(nuB k y).has r=decide (r=k+1):=by
 unfold nuB Bar.has;by_cases h:r=k+1
 ·simp[h]
 ·simp[h];intro;omega
section
variable{p:Int}{w:RX}{wd:RZ}{T:RV}{k N r:Nat}{A:Nat->Bar}{B:Nat->Vc}{l:RZ}
theorem md(hb:IsB p N r B l)(hi:i<N):tco r B l i i=1/\∀c,c<i->tco r B l i c=0:=by
 unfold tco;cases hj:ldx r l i with
 | some j=>
  obtain⟨h1,h2⟩:=qQ hj;subst h2;exact⟨hb.one j h1,λc z=>hb.bef j c h1 z⟩
 | none=>exact⟨by simp[ja],λc z=>by simp only[ja];rw[EQ ⋯]⟩
theorem nZ(hi:i<N)(I:(A i).has rm=true):(stB p A N r B l i).v rm c%p=mxV p A N (tco r B l i) rm c%p:=by
 unfold stB tco;cases z:ldx r l i with
 | some j=>rfl
 | none=>
  show(A i).v rm c%p=_;unfold mxV;rw[Lb];congr 1;rw[zI (f:=λj=>if (A j).has rm=true then ja i j*(A j).v rm c else 0) hi λj _ z=>by unfold ja;rw[EQ (Ly z)];simp];simp[ja,I]
theorem mh(I:0<p)(hb:IsB p N r B l)(z : ∀j,j<N->BarOk p w wd T k (A j))(hk : ∀j,j<N->(A j).has k=true)(O : ∀i c,i<c->c<N->Ord w (A i) (A c))(hi:i<N):BarOk p w wd T k (stB p A N r B l i):=by
 unfold stB;split
 ·next j U=>
  obtain⟨h1,h2⟩:=qQ U;subst h2;exact AB I z hk hi (λc h1 h2=>O _ c h1 h2) λc Y=>hb.bef j c h1 Y
 ·exact z i hi
theorem J6(z:rm<=k)(he:b.s+b.n=k+1):(exB k b o).has rm=b.has rm/\(exB k b o).v rm=b.v rm:=by
 cases o with
 | none=>exact⟨rfl,rfl⟩
 | some y=>
  refine⟨?_,by simp only[exB];rw[EQ ⋯]⟩;unfold exB Bar.has;simp only;congr 1;exact decide_eq_decide.mpr ⋯
theorem YS(he:b.s+b.n=k+1):(exB k b o).has (k+1)=o.isSome:=by
 cases o with
 | none=>unfold exB Bar.has;simp;omega
 | some y=>unfold exB Bar.has;simp;omega
theorem rH(k b o):(exB k b o).s=b.s:=by cases o<;>rfl
theorem Bd(p0:0<p)(he:b.s+b.n=k+1)(hb:BarOk p w wd T k b)(hr : ∀y,o=some y->∀c,c<wd (k+1)->0<=y c/\y c<p)
 (h0:o=none->w k=false->∀c,c<wd (k+1)->app (T k) (wd k) (b.v k) c%p=0) (h1 : ∀y,o=some y->w k=false->∀c,c<wd (k+1)->app (T k) (wd k) (b.v k) c%p=y c%p)
 (h2 : ∀y,o=some y->w k=true->∀c,c<wd k->app (T k) (wd<|k+1) y c%p=b.v k c%p):BarOk p w wd T (k+1) (exB k b o):=by
 have ae:=hb.n1;refine⟨?_,?_,λO c hh z=>?_,λj hj Y c z=>?_⟩
 ·cases o with
  | none=>exact hb.n1
  | some y=>show 1<=b.n+1;omega
 ·cases o with
  | none=>show b.s+b.n<=k+1+1;omega
  | some y=>show b.s+(b.n+1)<=k+1+1;omega
 ·by_cases a6:O<=k
  ·obtain⟨e1,I⟩:=J6 (o:=o) a6 he
   rw[e1]at hh;rw[I];exact hb.rng O c hh z
  ·have a3:=has_iff.mp hh
   cases o with
   | none=>exact absurd a3.2 (by show ¬(O<b.s+b.n);omega)
   | some y=>
    have:O=k+1:=by have:O<b.s+(b.n+1):=a3.2;omega
    subst this;have e:(exB k b<|some y).v (k+1)=y:=by simp[exB]
    rw[e];exact hr y rfl c z
 ·by_cases a2:j<k
  ·have g1:jO w j<=k:=by unfold jO;split<;>omega
   have g2:jT w j<=k:=by unfold jT;split<;>omega
   obtain⟨e1,I⟩:=J6 (o:=o) g1 he;obtain⟨e3,e4⟩:=J6 (o:=o) g2 he;rw[e1]at Y;rw[I,e3,e4];exact hb.arr j a2 Y c z
  ·have a2:j=k:=by omega
   subst a2;obtain⟨e1,I⟩:=J6 (o:=o) (IC j) he;have e5:=YS (k:=j) (o:=o) he;have aa:b.has j=true:=has_iff.mpr ⋯;cases hw:w j with
   | false=>
    have eb:jO w j=j:=by unfold jO;rw[hw];rfl
    have U:jT w j=j+1:=by unfold jT;rw[hw];rfl
    rw[U]at z;rw[eb,U,I,e5];cases o with
    | none=>rw[h0 rfl hw c z];simp
    | some y=>rw[h1 y rfl hw c z];simp[exB]
   | true=>
    have eb:jO w j=j+1:=by unfold jO;rw[hw];rfl
    have U:jT w j=j:=by unfold jT;rw[hw];rfl
    rw[U]at z;rw[eb,e5]at Y;rw[eb,U,e1,I,aa];cases o with
    | none=>cases Y
    | some y=>
     have e:(exB j b<|some y).v (j+1)=y:=by simp[exB]
     rw[e,h2 y rfl hw c z];simp
theorem Ay(hr : ∀c,c<wd (k+1)->0<=y c/\y c<p)(h2:w k=true->∀c,c<wd k->app (T k) (wd<|k+1) y c%p=0):BarOk p w wd T (k+1) (nuB k y):=by
 refine⟨IC _,by show k+1+1<=k+1+1;omega,λrm c O z=>?_,λj hj I c z=>?_⟩
 ·rw[vZ]at O
  have:=of_decide_eq_true O;subst this;exact hr c z
 ·rw[vZ]at I
  have I:=of_decide_eq_true I;cases hw:w j with
  | false=>
   have U:jO w j=j:=by unfold jO;rw[hw];rfl
   omega
  | true=>
   have U:jO w j=j+1:=by unfold jO;rw[hw];rfl
   have Y:jT w j=j:=by unfold jT;rw[hw];rfl
   have a1:j=k:=by omega
   subst a1;rw[Y]at z;have e0:(nuB j y).has (jT w j)=false:=by rw[vZ,Y];simp
   rw[e0,U];show app (T j) (wd<|j+1) y c%p=_;rw[h2 hw c z];simp
def yE(p:Int)(k:Nat)(w:RX)(bars:List Bar)(A:Nat->Bar)(N r:Nat)(B:Nat->Vc)(l:RZ)(nx:Nat->Option Vc)(z:List Vc):List Bar:=
 (bars.filter λb=> !b.has k)++(if w k then (Io N).map (λi=>exB k (stB p A N r B l i)<|nx i)++z.map (nuB k)else z.map (nuB k)++(Io N).map λi=>exB k (stB p A N r B l i)<|nx i)
theorem dS(p0:0<p)(I:BrInv p w wd T k bars)(hN:(bars.filter λb=>b.has k).length=N)(U : ∀j,A j=(bars.filter λb=>b.has k).getD j aT)(hb:IsB p N r B l)
 (c1 : ∀i y,i<N->nx i=some y->∀c,c<wd (k+1)->0<=y c/\y c<p) (c2 : ∀y,y∈news->∀c,c<wd (k+1)->0<=y c/\y c<p)
   (d0 : ∀i,i<N->nx i=none->w k=false->∀c,c<wd (k+1)->app (T k) (wd k) ((stB p A N r B l i).v k) c%p=0)
   (d1 : ∀i y,i<N->nx i=some y->w k=false->∀c,c<wd (k+1)->app (T k) (wd k) ((stB p A N r B l i).v k) c%p=y c%p)
   (d2 : ∀i y,i<N->nx i=some y->w k=true->∀c,c<wd k->app (T k) (wd<|k+1) y c%p=(stB p A N r B l i).v k c%p)
   (d3 : ∀y,y∈news->w k=true->∀c,c<wd k->app (T k) (wd<|k+1) y c%p=0)
   (s1 : ∀v,Span p (wd<|k+1) (λg=>(∃i,i<N/\nx i=some g)\/g∈news) v) (n1:(Io N).countP (λi=>(nx i).isSome)+news.length=wd (k+1)) :
   BrInv p w wd T (k+1) (yE p k w bars A N r B l nx news):=by
  have mA : ∀j,j<N->A j∈bars/\(A j).has k=true:=λj Y=>by
   have:A j∈bars.filter λb=>b.has k:=by rw[U j,Iy,Iv ⋯];exact LU _
   have:=IP.mp this;exact⟨this.1,by simpa using this.2⟩
  have a9 : ∀j,j<N->BarOk p w wd T k (A j):=λj Y=>I.ok _ (mA j Y).1;have hO : ∀i c,i<c->c<N->Ord w (A i) (A c):=λi c h1 h2=>by have:=MS.mp I.od i c ⋯ ⋯ h1;rw[U i,U c,Iy,Iv ⋯,Iy,Iv ⋯];exact this
  have okS : ∀i,i<N->BarOk p w wd T k (stB p A N r B l i):=λi hi=>mh p0 hb a9 (λj Y=>(mA j Y).2) hO hi;have a0 : ∀i,i<N->(stB p A N r B l i).s+(stB p A N r B l i).n=k+1:=λi hi=>by rw[bB,tH];have h1:=has_iff.mp (mA i hi).2;have h2:=(a9 i hi).le;omega
  have a3 : ∀b,b∈bars->b.has k=false->b.s+b.n<=k:=λb hb hk=>by have h1:=(I.ok b hb).le;have h2:=(I.ok b hb).n1;refine Nat.not_lt.mp λz=>?_;have:b.has k=true:=has_iff.mpr ⋯;rw[this]at hk;cases hk
  have mem : ∀b,b∈yE p k w bars A N r B l nx news↔(b∈bars/\b.has k=false)\/(∃i,i<N/\b=exB k (stB p A N r B l i) (nx i))\/∃y,y∈news/\b=nuB k y:=λb=>by
   unfold yE;rw[NL,IP];refine or_congr ⋯ ?_;cases w k<;>simp only[LP,if_false,if_true,NL,La,Iu]
   ·constructor
    ·rintro(⟨y,h1,h2⟩ | ⟨i,h1,h2⟩)
     ·exact .inr ⟨y,h1,h2.symm⟩
     ·exact .inl ⟨i,h1,h2.symm⟩
    ·rintro(⟨i,h1,h2⟩ | ⟨y,h1,h2⟩)
     ·exact .inr ⟨i,h1,h2.symm⟩
     ·exact .inl ⟨y,h1,h2.symm⟩
   ·constructor
    ·rintro(⟨i,h1,h2⟩ | ⟨y,h1,h2⟩)
     ·exact .inl ⟨i,h1,h2.symm⟩
     ·exact .inr ⟨y,h1,h2.symm⟩
    ·rintro(⟨i,h1,h2⟩ | ⟨y,h1,h2⟩)
     ·exact .inl ⟨i,h1,h2.symm⟩
     ·exact .inr ⟨y,h1,h2.symm⟩
  have cnt : ∀P:Bar->Bool,(yE p k w bars A N r B l nx news).countP P=(bars.filter λb=> !b.has k).countP P+(Io N).countP (λi=>P<|exB k (stB p A N r B l i)<|nx i)+(news.map<|nuB k).countP P:=λP=>by
   unfold yE;rw[List.countP_append];cases w k<;>simp only[LP,if_false,if_true,List.countP_append,Oi (f:=λi=>exB k (stB p A N r B l i)<|nx i)]
   ·rw[OS,Nat.add_comm (List.countP P<|List.map (nuB k) news)];rfl
   ·rw[OS];rfl
  refine⟨λb be=>?_,λO hr v=>?_,λO hr=>?_,?_⟩
  ·rcases (mem b).mp be with⟨h1,h2⟩ | ⟨i,hi,rfl⟩ | ⟨y,hy,rfl⟩
   ·have hk:=a3 b h1 h2
    have ob:=I.ok b h1;refine⟨ob.n1,by omega,ob.rng,λj Y ae c hc=>?_⟩;have bn:=has_iff.mp ae;refine ob.arr j ?_ ae c hc;have:jO w j>=j:=by unfold jO;split<;>omega
    omega
   ·exact Bd p0 (a0 i hi) (okS i hi) (λy e=>c1 i y hi e) (λe=>d0 i hi e) (λy e=>d1 i y hi e) λy e=>d2 i y hi e
   ·exact Ay (c2 y hy)<|d3 y hy
  ·by_cases a1:O<=k
   ·refine(I.sp O a1 v).le λg hg=>?_
    obtain⟨b,h1,h2,rfl⟩:=hg;cases hbk:b.has k with
    | false=>exact .gen ⟨b,(mem b).mpr (.inl ⟨h1,hbk⟩),h2,rfl⟩
    | true=>
     have bi:b∈bars.filter λb=>b.has k:=IP.mpr ⟨h1,by simpa using hbk⟩;obtain⟨i,hi,e⟩:=Pp bi;have ei:A i=b:=by rw[U i,Iy,Iv hi];exact e
     rw[<- ei]at h2 ⊢;refine iF (A:=A) (A':=λi=>stB p A N r B l i) (t:=λi=>tco r B l i) (λi hi=>(md hb hi).1) (λi c hi hc=>(md hb hi).2 c hc) (λi hi hh=>?_) (λi hi hh c _=>nZ hi hh) i ⋯ h2;obtain⟨x1,x2⟩:=J6 (o:=nx i) a1<|a0 i hi;exact .gen ⟨_,(mem _).mpr (.inr<|.inl ⟨i,hi,rfl⟩),by rw[x1,Yf];exact hh,by rw[x2]⟩
   ·have:O=k+1:=by omega
    subst this;refine(s1 v).le λg hg=>?_;rcases hg with⟨i,hi,e⟩ | hg
    ·refine .gen ⟨_,(mem _).mpr (.inr<|.inl ⟨i,hi,rfl⟩),?_,?_⟩
     ·rw[YS (a0 i hi),e];rfl
     ·rw[e];simp[exB]
    ·exact .gen ⟨_,(mem _).mpr (.inr<|.inr ⟨g,hg,rfl⟩),by rw[vZ];simp,rfl⟩
  ·rw[cnt]
   by_cases a1:O<=k
   ·have e1:(news.map<|nuB k).countP (λb=>b.has O)=0:=Ni.mpr λb hb=>by
     obtain⟨y,_,rfl⟩:=La.mp hb;rw[vZ];simp;omega
    have e2:(Io N).countP (λi=>(exB k (stB p A N r B l i)<|nx i).has O)=(bars.filter λb=>b.has k).countP λb=>b.has O:=by
     have:(bars.filter λb=>b.has k)=(Io N).map A:=by rw[<- jL aT (bars.filter λb=>b.has k),hN];exact IK λj _=>(U j).symm
     rw[this,Oi];refine MK λi hi=>?_;have hi:=Iu.mp hi;rw[(J6 (o:=nx i) a1<|a0 i hi).1,Yf];rfl
    rw[e1,e2,<- I.ct O a1,List.countP_eq_countP_filter_add bars (λb=>b.has O) λb=>b.has k];omega
   ·have:O=k+1:=by omega
    subst this;have e0:(bars.filter λb=> !b.has k).countP (λb=>b.has<|k+1)=0:=Ni.mpr λb hb=>by obtain⟨h1,h2⟩:=IP.mp hb;have:=a3 b h1 (by simpa using h2);intro z;have:=has_iff.mp z;omega
    have e1:(news.map<|nuB k).countP (λb=>b.has<|k+1)=news.length:=by rw[List.countP_eq_length.mpr λb hb=>?_,IQ];obtain⟨y,_,rfl⟩:=La.mp hb;rw[vZ];simp
    have e2:(Io N).countP (λi=>(exB k (stB p A N r B l i)<|nx i).has (k+1))=(Io N).countP λi=>(nx i).isSome:=MK λi hi=>by rw[YS (a0 i<|Iu.mp hi)]
    rw[e0,e1,e2];omega
  ·have e0:((bars.filter λb=> !b.has k).filter λb=>b.has<|k+1)=[]:=List.filter_eq_nil_iff.mpr λb hb=>by
    obtain⟨h1,h2⟩:=IP.mp hb;have:=a3 b h1 (by simpa using h2);intro z;have:=has_iff.mp z;omega
   have pO:((Io N).map λi=>exB k (stB p A N r B l i)<|nx i).Pairwise (Ord w):=by rw[NS];refine Oc (λ{a b} ha hb h=>?_)<|NR (n:=N);have:=hO a b h<|Iu.mp hb;unfold Ord;rw[rH,rH,bB,bB];exact this
   have pN:(news.map<|nuB k).Pairwise (Ord w):=by
    rw[NS];refine MS.mpr λ_ _ _ _ _=>⟨λz=>?_,λz=>?_⟩
    ·exact absurd z<|Lz<|k+1
    ·exact absurd z<|Lz<|k+1
   have so : ∀b,b∈(Io N).map (λi=>exB k (stB p A N r B l i)<|nx i)->b.s<=k:=λb hb=>by obtain⟨i,hi,rfl⟩:=La.mp hb;have hi:=Iu.mp hi;rw[rH,bB];exact(has_iff.mp (mA i hi).2).1
   have sn : ∀b,b∈news.map (nuB k)->b.s=k+1:=λb hb=>by obtain⟨y,_,rfl⟩:=La.mp hb;rfl
   unfold yE;rw[Ow,e0,List.nil_append];refine OG _ ?_;cases hw:w k with
   | false=>
    simp only[LP,if_false];refine List.pairwise_append.mpr ⟨pN,pO,λa ha b hb=>?_⟩;have h1:=sn a ha;have h2:=so b hb;exact⟨λz=>by omega,λ_=>by rw[h1];exact hw⟩
   | true=>
    simp only[if_true];refine List.pairwise_append.mpr ⟨pO,pN,λa ha b hb=>?_⟩;have h1:=sn b hb;have h2:=so a ha;exact⟨λ_=>by rw[h1];exact hw,λz=>by omega⟩
end
def qU:=z6 1<|sIf (sB<|zH dGt (sH<|zh 0)<|zu<|.int 30) wu xc
def qC:=z6 1<|qv<|qh<|zb (sIx (zh 0)<|zu<|.int 0)<|zb (zH Jo (zH jF (sIx (zh 0)<|zu<|.int 0)<|Zo<|zG<|sIx (zh 0)<|zu<|.int 1)<|zu<|.int 1) zE
def jR:=z6 2<|qv<|y8 dLe dLt (sIx (zh 0)<|zu<|.int 0) (zf 1)<|zH jF (sIx (zh 0)<|zu<|.int 0)<|Zo<|zG<|sIx (zh 0)<|zu<|.int 1
def ku:=z6 2<|vS<|zP (zO<|zh 0) (.nm 0) 1 [1] (sB<|zC jR<|zb (zf 0)<|zb (zf 1) zE) (sIx (zG<|sIx (zh 0)<|zu<|.int 1)<|zH Jo (zf 1)<|sIx (zh 0)<|zu<|.int 0)
def kz:=z6 2<|qv<|zC js<|zb (qh<|zb (Zo<|zh 1)<|zb (zf 0)<|zb (z4<|zh 1) zE) zE
def yh:=z6 5<|zK (jo 4<|qi<|zP (gG (zf 2)<|zf 1) (.tp [0,1]) 2 [3] (sB<|zC jR<|zb (zf 1)<|zb (zf 2) zE) (zf 0))<|qv<|zC Vd<|zb (sIx (zh 0)<|zu<|.int 0)<|zb (zC kz<|zb (sIx (zG<|sIx (zh 0)<|zu<|.int 1)<|zf 3)<|zb (qi<|jB ku<|zb (zf 1)<|zb (zf 3) zE) zE)<|zb (zf 4) zE
def Va:=z6 5<|zK (jo 3<|sIx (zh 1)<|zC jD<|zb (zf 2) zE)<|zK (jo 4<|qi<|zP (jK<|Zo<|zG<|sIx (zh 3)<|zu<|.int 1) (.nm 0) 1 [0,1,2,3] jA (zC yh<|zb (zf 1)<|zb (zf 2)<|zb (zf 3)<|zb (zH jF (sIx (zh 4)<|zu<|.int 0)<|zf 0) zE))<|qv<|qh<|zb (sIx (zh 3)<|zu<|.int 0)<|zb (z4<|zh 4) zE
def sd1:=(jo 3<|sIx (zG<|sIx (zG<|sIx (zh 0)<|zu<|.int 2)<|zf 1)<|zu<|.int 0)
def sd2:=(jo 4<|sIx (zG<|sIx (zG<|sIx (zh 0)<|zu<|.int 2)<|zf 1)<|zu<|.int 1)
def sd3:=(jo 5 (JM (sB (zH dEq (zf 3) (zu (.str "r")))) (qi (jB kT (zb (sIx (zh 0) (zu (.int 0))) (zb (zf 4) zE)))) (qi (jB yU (zb (sIx (zh 0) (zu (.int 0))) (zb (zf 4) zE))))))
def sd4:=(jo 6<|qi<|jB j7<|zb (sIx (zh 0)<|zu<|.int 0)<|zb (zC kz<|zb (sIx (zG<|sIx (zh 0)<|zu<|.int 1)<|zf 1)<|zb (qi<|jB ku<|zb (zf 2)<|zb (zf 1) zE) zE)<|zb (zf 5) zE)
def sd5:=(jo 7<|ud<|zP (zO<|zh 6) (.nm 0) 1 [] jA (qh<|zb (zC jD<|zb (zf 0) zE)<|zb (zf 0) zE))
def sd6:=(vS<|zP (mr<|zf 2) (.tp [0,1]) 2 [0,2,7] jA (JM (sB<|bN (zf 0)<|zf 4) (zC Va<|zb (zf 2)<|zb (zf 3)<|zb (gM (zf 4)<|zf 0) zE)<|zf 1))
def Jf:=z6 8<|zK sd1<|zK sd2<|zK sd3<|zK sd4<|zK sd5 sd6
def nl1:=(sIf (sB (zH dEq (sIx (zh 1) (zu (.int 0))) (zu (.str "l")))) (qv (zC vE (zb (zf 0) (zb (sIx (zh 1) (zu (.int 1))) (zb (zf 2) zE))))) xc)
def nl2:=(jo 3<|zC Vd<|zb (zf 0)<|zb (sIx (zh 1)<|zu<|.int 1)<|zb (zf 2) zE)
def nl3:=(qv<|JM (sB<|sJ<|zh 3) (zf 3)<|zu .non)
def xH:=z6 4<|zK nl1<|zK nl2 nl3
def tk1:=(jo 3<|zC xH<|zb (zf 0)<|zb (zf 1)<|zb (sIx (zG<|sIx (zh 2)<|zu<|.int 1)<|ua<|zu<|.int 1) zE)
def tk2:=(qv<|JM (sB<|zH Ft (zf 3)<|zu .non) (zf 2)<|qh<|zb (sIx (zh 2)<|zu<|.int 0)<|zb (zH jF (sIx (zh 2)<|zu<|.int 1)<|qh<|zb (zf 3) zE) zE)
def yt:=z6 4<|zK tk1 tk2
def nw1:=(sIf (sB (zH dEq (sIx (zh 1) (zu (.int 0))) (zu (.str "l")))) (vS (jB kT (zb (zf 0) (zb (sIx (zh 1) (zu (.int 1))) zE)))) xc)
def nw2:=(jo 2<|qi<|zP (zO<|jV<|jB yU<|zb (zf 0)<|zb (sIx (zh 1)<|zu<|.int 1) zE) (.nm 0) 1 [] jA (zC jD<|zb (zf 0) zE))
def nw3:=(vS<|zP (WO<|sIx (zG<|zC jC<|zb (sIx (zG<|sIx (zh 1)<|zu<|.int 1)<|zu<|.int 0) zE)<|zu<|.int 2) (.tp [0,1]) 2 [2] (sB<|vT (zf 0)<|zh 2) (zf 1))
def yT:=z6 3<|zK nw1<|zK nw2 nw3
def gr1:=(jo 3<|sIx (zh 0)<|zu<|.int 0)
def gr2:=(jo 4<|sIx (zG<|sIx (zh 0)<|zu<|.int 2)<|zf 1)
def gr3:=(jo 5<|qi<|zP (zO<|zh 2) (.nm 0) 1 [1] (kf<|sB<|zC jR<|zb (zf 0)<|zb (zf 1) zE) (zf 0))
def gr4:=(jo 6<|qi<|jB Jf<|zb (zf 0)<|zb (zf 1)<|zb (qi<|zP (zO<|zh 2) (.nm 0) 1 [1] (sB<|zC jR<|zb (zf 0)<|zb (zf 1) zE) (zf 0)) zE)
def gr5:=(jo 7<|qi<|zP (zO<|zh 6) (.nm 0) 1 [3,4] jA (zC yt<|zb (zf 1)<|zb (zf 2)<|zb (zf 0) zE))
def gr6:=(jo 8<|qi<|zP (zO<|jV<|jB yT<|zb (zf 3)<|zb (zf 4) zE) (.nm 0) 1 [1] jA (qh<|zb (zH jF (zf 1)<|zu<|.int 1)<|zb (qh<|zb (zf 0) zE) zE))
def gr7:=(qv (qi (Kb (zh 5) (zG (JM (sB (zH dEq (sIx (zh 4) (zu (.int 0))) (zu (.str "r")))) (qi (Kb (zh 8) (zh 7))) (qi (Kb (zh 7) (zh 8))))))))
def XT:=z6 9<|zK gr1<|zK gr2<|zK gr3<|zK gr4<|zK gr5<|zK gr6 gr7
def ag1:=(jo 1<|qi<|zP (zO<|zG<|sIx (zG<|zC jC<|zb (sIx (zG<|sIx (zh 0)<|zu<|.int 1)<|zu<|.int 0) zE)<|zu<|.int 2) (.nm 0) 1 [] jA (qh<|zb (zu<|.int 0)<|zb (qh<|zb (zf 0) zE) zE))
def ag2:=(Jm (jK<|Zo<|zG<|sIx (zh 0)<|zu<|.int 2) (.nm 2)<|jo 1<|zC XT<|zb (zf 0)<|zb (zf 2)<|zb (zf 1) zE)
def ag3:=(vS<|mn qC<|zh 1)
def Jj:=z6 3<|zK ag1<|zK ag2 ag3
theorem zv(h:F γ=some (.next γ'))(g:G γ'=r):zK F G γ=r:=by rw[jj,h];exact g
theorem jG(h:F (zY n ds)=some (.ret r)):z6 n F ds=some r:=by show(F<|zY n ds).bind _=_;rw[h];rfl
theorem KJ{T:Tg}{F:CO Fl}(P:Nat->Ctx->Prop)(n:Nat){γ:Ctx}(h0:P 0 γ)(step : ∀s,s<n->∀γ,P s γ->∃γ1 z,qM T (.int (s:Int)) γ=some γ1/\F γ1=some (.next z)/\P (s+1) z) :
 ∃γ',qo T F ((Io n).map λ(i:Nat)=>D.int (i:Int)) γ=some (.next γ')/\P n γ':=by
 have O : ∀(k s:Nat) (γ:Ctx),s+k=n->P s γ->∃γ',qo T F ((Ng s k).map λ(i:Nat)=>D.int (i:Int)) γ=some (.next γ')/\P n γ':=by
  intro k
  induction k with
  | zero=>
   intro s γ e I;obtain rfl:s=n:=by omega
   exact⟨γ,rfl,I⟩
  | succ k U=>
   intro s γ e I;obtain⟨γ1,z,e1,Y,e3⟩:=step s ⋯ γ I;obtain⟨γ',q1,q2⟩:=U (s+1) z ⋯ e3;refine⟨γ',?_,q2⟩;rw[MA,IS,jm,e1];simp only[Iz,Y];exact q1
 have:=O n 0 γ ⋯ h0;rw[<- LZ]at this;exact this
theorem ah(P:Nat->Ctx->Prop)(n:Nat)(hn:n<=lim)(I:f γ=some (.int (n:Int)))(h0:P 0 γ)(step : ∀s,s<n->∀γ,P s γ->∃γ1 z,qM T (.int (s:Int)) γ=some γ1/\F γ1=some (.next z)/\P (s+1) z) :
 ∃γ',Jm (jK f) T F γ=some (.next γ')/\P n γ':=by
 obtain⟨γ',e,O⟩:=KJ P n h0 step;refine⟨γ',?_,O⟩;have U:=jd;have r:inR (n:Int)=true:=dM ⋯ ⋯;rw[Jd,Jc,I];simp only[Iz,xj,r,if_true,Mh,qG];rw[jE n λi=>(i:Int)];exact e
@[simp] def FJ:=@ub.eq_1
def Ge(m m':Nat)(w w':RX):Prop:=m=m'/\∀k,k<m->w k=w' k
instance (m m':Nat) (w w':RX):Decidable (Ge m m' w w'):=inferInstanceAs (Decidable (m=m'/\∀k,k<m->w k=w' k))
section
variable{p p':Int}{m m':Nat}{w w':RX}{wd wd':RZ}{T T':RV}
theorem oF:jf (jI p m w wd T)=some (.T,[.int p,.tup<|zF (m+1) λk=>(wd k:Int),.tup (j1 m w wd T)]):=rfl
theorem sv(k):jf (xk w wd T k)=some (.T,[.str (qN<|wch<|w k),jn (hiW w wd k) (wiW w wd k) (T k)]):=rfl
theorem aY:zS (.nm 0) jA (sIx (zh 0)<|zu<|.int 0) [Cell.no] (j1 m w wd T)=some ((Io m).map λk=>D.str<|qN<|wch<|w k):=by unfold j1;refine zB _ _ λk hk=>zD rfl rfl ?_;simp[sv]
theorem yf(hm:m<=900):xE [jI p m w wd T]=some (.val<|.str<|xN m w):=by
 have O:=jd;have z:m<=lim:=by omega
 have st:X4 ((Io m).map λk=>D.str<|qN<|wch<|w k)=some ((Io m).map λk=>qN<|wch<|w k):=Vr _ _;have I:((Io m).map λk=>qN<|wch<|w k).all ji=true:=by simp only[LC];intro x hx;obtain⟨k,_,rfl⟩:=La.mp hx;unfold wch;split<;>decide
 have s0:ji "" = true:=by decide +kernel
 simp only[xE,z6,zY];simp only[fT,sA,vC,fQ,yS,yq,vB,XO,xC,IS,Pa,Lj,Mz,Iw,Na,II,jN,oF,Iz,Lm,xj,ix2,IM,Wm,Nat.sub_self,NH];rw[fM,RY z,show jk 1 [] [Cell.val (jI p m w wd T)]=[Cell.no]from rfl,aY];simp only[Lm,Iz,st];rw[RY ⟨by simpa using z,I,s0⟩];rfl
end
theorem fu(xs:List D)(n:Nat)(hn:xs.length=n)(a7 : ∀i (h:i<n),∃z,xs[i]'(hn ▸ h) = .int z)(bm:n<=63)(k:Int)(hk:0<=k)(bn:k<100000) :
 ∃m,zZ [.lst xs,.int k]=some (.val<|.int m)/\0<=m/\m<1000000007:=by
 have O : ∀x:Int,XX x 48271=true:=λx=>Wj _ _ ⋯ ⋯;have U : ∀x:Int,XX 7 x=true:=λx=>ZV _ _ ⋯ ⋯;have Y : ∀x:Int,XX 13 x=true:=λx=>ZV _ _ ⋯ ⋯;have c4 : ∀x:Int,XX x 69621=true:=λx=>Wj _ _ ⋯ ⋯;have c5:XX (7*k) k=true:=Wj _ _ ⋯ ⋯;have I:Bq 10 9=true:=by decide
 have a1:Bq 10 30=true:=by decide
 have hl:lim=2500:=rfl;by_cases am:n=0
 ·subst am
  have e0:xs=[]:=Lu hn;subst e0;simp[zZ,z6,zY,jj,O,U,Y,c4,c5,I,a1];omega
 ·have hp:0<n:=by omega
  obtain⟨i,hi⟩:=Nj (Le k<|show(n:Int)≠0 by omega);have a8:i<n:=by have:=IU k (show(0:Int)<n by omega);omega
  obtain⟨zi,ei⟩:=a7 i a8;have ii:ixD n (i:Int)=some i:=by rw[jM,RY a8]
  by_cases h1:n=1
  ·subst h1
   have i0:i=0:=by omega
   subst i0;have k1:k%1=0:=by omega
   simp[zZ,z6,zY,jj,O,U,Y,c4,c5,I,a1,hn,ei];omega
  ·obtain⟨z0,e0⟩:=a7 0 hp
   have i0:ixD n 0=some 0:=by have:=jM n 0;rw[RY hp]at this;exact this
   have q1:(0:Int)<(n:Int) - 1:=by omega
   have q2:(1:Int)<(n:Int):=by omega
   have ag:1<n:=by omega
   have q3:(n:Int) - 1<1073741824:=by omega
   have q4:(0:Int)<(n:Int):=by omega
   obtain⟨j,hj⟩:=Nj (Le k<|show(n:Int) - 1≠0 by omega);have a9:1+j<n:=by have:=IU k q1;omega
   obtain⟨zj,ej⟩:=a7 (1+j) a9;have ij:ixD n (1+(j:Int))=some (1+j):=by have:=jM n<|1+j;rw[RY a9]at this;rw[<- this];congr 1
   have hd:0<=k/((n:Int) - 1)/\k/((n:Int) - 1)<=k:=⟨Int.ediv_nonneg hk ⋯,Int.ediv_le_self _ hk⟩;obtain⟨t,ht⟩:=Nj hd.1;by_cases ha:z0%2=1
   ·obtain⟨t',be,c7⟩ : ∃t':Nat,(if (t:Int)<60 then (t:Int)else 60)=t'/\t'<=60:=by
     split
     ·exact⟨t,rfl,by omega⟩
     ·exact⟨60,rfl,by omega⟩
    have bg:inR (t':Int)=true:=dM ⋯ ⋯;simp[zZ,z6,zY,jj,O,U,Y,c4,c5,hn,hp,a9,q2,ag,e0,i0,q1,q3,ha,hj,ij,ej,ht,I,a1];rw[be,RY bg];simp only[Iz,qG,Mh];rw[jE t' λi=>(i:Int)];have bi : ∀(m s:Nat) (v:Int) (c:Cell),∃v' c',qo (.nm 3) (jo 2<|zH aH (zf 2)<|zH rV (zu<|D.int 10)<|zu<|D.int 9) ((Ng s m).map λ(i:Nat)=>D.int i) [.val (.lst xs),.val<|.int k,.val<|.int v,c,.no] =
     some (.next [.val (.lst xs),.val<|.int k,.val<|.int v',c',.no]):=by
     intro m
     induction m with
     | zero=>intro s v c;exact⟨v,c,rfl⟩
     | succ m ih=>
      intro s v c;rw[MA,IS,jm];obtain⟨v',c',h⟩:=ih (s+1) (v/10 ^ 9)<|.val<|.int s;refine⟨v',c',?_⟩;rw[<- h];simp[I]
    obtain⟨v',c',h⟩:=bi t' 0 zj .no;rw[<- LZ]at h;rw[h];simp[I];omega
   ·simp[zZ,z6,zY,jj,O,U,Y,c4,c5,hn,q2,ag,q4,hp,e0,i0,ha,hi,ei,a8,ii,I,a1]
    omega
theorem rZ(ns:List Int)(hn:ns.length<=63)(k:Int)(hk:0<=k)(z:k<100000) : ∃m,zZ [wj ns,.int k]=some (.val<|.int m)/\0<=m/\m<1000000007:=
 fu (ns.map D.int) ns.length ⋯ (λi hi=>⟨ns[i],by simp⟩) hn k hk z
def xY(ns:List Int)(k:Int):Int:=match zZ [wj ns,.int k]with
 | some (.val<|.int m)=>m
 | _=>0
theorem XI(hn:ns.length<=63)(hk:0<=k)(z:k<100000):zZ [wj ns,.int k]=some (.val<|.int<|xY ns k)/\0<=xY ns k/\xY ns k<1000000007:=by
 obtain⟨m,h,h1,h2⟩:=rZ ns hn k hk z;have e:xY ns k=m:=by unfold xY;rw[h]
 rw[e];exact⟨h,h1,h2⟩
def aK(bs:List (Int×Int)):List D:=bs.map λb=>D.tup [.int b.1,.int b.2]
@[simp] theorem Bt(bs):(aK bs).length=bs.length:=by simp[aK]
def og(bs:List (Int×Int)):List (Int×Int):=(Yr bs).map λi=>bs.getD i (0,0)
@[simp] def Cm:=@tW.eq_1
section ap
variable(γ:Ctx)
@[simp] def Ck:=@tU.eq_1
@[simp] def Cq:=@Zp.eq_1
@[simp] def Cr:=@mr.eq_1
@[simp] def GT:=@Hx.eq_1
end ap
def HR(b:Int×Int)(r:Int):Bool:=decide (b.1<=r) && decide (r<=b.2)
def mJ(bs:List (Int×Int))(r:Int):List Nat:=(Io bs.length).filter λi=>HR (bs.getD i (0,0)) r
def EN(l:List Nat):List D:=l.map λ(i:Nat)=>D.int i
@[simp] theorem BQ(l):(EN l).length=l.length:=by simp[EN]
theorem wt(z:Pr p)(I:h<=100)(hw:w<=lim)(f:RK) :
 ∃r B l,yU [.int p,jn h w f]=some (.own<|zN r h B)/\IsB p h r B l/\∀v,Span p h (Fam r B) v↔Span p h (Fam w λj i=>f i j) v:=by
 obtain⟨r,B,l,e,hb,hs⟩:=qD z I hw .T λj i=>f i j;have O:=jd;refine⟨r,B,l,?_,hb,hs⟩;simp only[dsq]at e;have o:=xF f (show h<=lim by omega) hw;unfold jn at o ⊢;simp[yU,z6,zY,o,e]
theorem KL(P:Nat->Ctx->Prop) : ∀(ds es:List D) (k:Nat) (γ:Ctx),P k γ->(∀i d γ,ds[i]? = some d->P (k+i) γ->∃γ',(qM T d γ).bind F=some (.next γ')/\P (k+i+1) γ')->
 ∃γ',P (k+ds.length) γ'/\qo T F (ds++es) γ=qo T F es γ'
 | [],es,k,γ,h,_=>⟨γ,h,rfl⟩
 | d::ds,es,k,γ,h,step=>by
  obtain⟨γ1,e,h1⟩:=step 0 d γ rfl h;obtain⟨γ',h2,z⟩:=KL P ds es (k+1) γ1 (by simpa using h1) (λi d' I hd O=>by have:=step (i+1) d' I (by simpa using hd) (by rw[show k+(i+1)=k+1+i by omega];exact O);rw[show k+(i+1)+1=k+1+i+1 by omega]at this;exact this)
  refine⟨γ',by rw[show k+(d::ds).length=k+1+ds.length by simp;omega];exact h2,?_⟩;rw[Rg,jm];cases eb:qM T d γ with
  | none=>rw[eb]at e;simp at e
  | some U=>
   rw[eb]at e;simp only[Iz]at e ⊢;rw[e];exact z
theorem lr(n:Nat)(v:Vc):xh (zF n v)=(Io n).map λ(i:Nat)=>D.tup [.int i,.int (v i)]:=by unfold xh;rw[kN];refine IK λi hi=>?_;have:=Iu.mp hi;simp[zF,this]
theorem kx(hn:n<=lim)(v:Vc)(ha:a<n)(h0 : ∀i,i<a->v i=0)(h1:v a≠0):jD [.tup (zF n v)]=some (.val<|.int a):=by
 have I:zS (.tp [0,1]) (sB<|zH dNe (zf 1)<|zu<|.int 0) (zf 0) [Cell.no,Cell.no] ((Io n).map λ(i:Nat)=>D.tup [.int i,.int (v i)])=some (((Io n).filter λi=> !decide (v i=0)).map λ(i:Nat)=>D.int i):=by refine jq _ _ _ λi hi=>⟨_,rfl,?_,λ_=>rfl⟩;simp
 cases hf:(Io n).filter λi=> !decide (v i=0)with
 | nil=>exact absurd (by have:=cT hf a ha;simpa using this) h1
 | cons b xJ=>
  obtain⟨hb,O,U⟩:=KP hf;have e:b=a:=by
   rcases Nb a b with z | z | z
   ·exact absurd (by have:=U a z;simpa using this) h1
   ·exact z.symm
   ·exact absurd (h0 b z) (by simpa using O)
  subst e;rw[hf]at I;simp[jD,z6,zY,lr,hn,jk,Iw,I]
theorem aE(ha:a<n)(v z:Vc)(x:Int)(h1:z a=x)(h2 : ∀i,i<n->i≠a->z i=v i):(zF n v).set a (.int x)=zF n z:=by
 apply OI;intro i;rw[List.getElem?_set];by_cases hi:i<n
 ·by_cases e:a=i
  ·subst e;simp[ha,zF,h1]
  ·have:=h2 i hi (Ly e)
   simp[e,zF,hi,this]
 ·have I:(zF n v)[i]? = none:=by simp[zF];omega
  have l2:(zF n z)[i]? = none:=by simp[zF];omega
  rw[I,l2,EQ ⋯]
def Y6(w:Nat)(B:Nat->Vc)(l:RZ)(r:Nat):Vc:=λj=>zc (λk=>if l k=j then B k w else 0) r
def kn:=(zK (jo 6<|zC jD<|zb (zf 5) zE)<|zK (sIf (sB<|zH dEq (zf 6)<|zf 3) (qv<|zu .non) xc)<|mq 4 (zf 6)<|sIx (zh 5)<|zf 3)
section
variable{p:Int}{h w r:Nat}
theorem VT{l:RZ}(hm : ∀k m,k<m->m<r->l k<l m){k m:Nat}(hk:k<r)(I:m<r)(e:l k=l m):k=m:=by
 rcases Nb k m with z | z | z
 ·have:=hm k m z I;omega
 ·exact z
 ·have:=hm m k z hk;omega
def aug(w:Nat)(f:RK)(b:Vc):Nat->Vc:=λi j=>if j<w then f i j else b i
theorem WJ(a3:w+1<=lim)(hb:IsB p (w+1) r B l)(hs:s<=r)(h1 : ∀k,k<s->l k<w)(es:List D)(a0 z I:Cell) :
 ∃c5 c6,qo (.nm 5) kn (zN s (w+1) B++es) [a0,z,I,.val<|.int w,.own<|zF w λ_=>0,.no,.no]=qo (.nm 5) kn es [a0,z,I,.val<|.int w,.own<|zF w<|Y6 w B l s,c5,c6]:=by
 obtain⟨γ',⟨c5,c6,rfl⟩,e⟩:=KL (T:= .nm 5) (F:=kn) (λt γ=>∃c5 c6,γ=[a0,z,I,.val<|.int w,.own<|zF w<|Y6 w B l t,c5,c6]) (zN s (w+1) B) es 0 [a0,z,I,.val<|.int w,.own<|zF w λ_=>0,.no,.no]
  ⟨.no,.no,by rw[xS (f:=Y6 w B l 0) (g:=λ_=>0) λi _=>rfl]⟩ (by
   rintro k d γ hd ⟨c5,c6,rfl⟩;rw[NH];have hk:k<s:=by have:=(IX.mp hd).1;simpa using this
   have a4:d = .tup (zF (w+1)<|B k):=by simp[hk]at hd;exact hd.symm
   subst a4;have O:k<r:=by omega
   have Y:=h1 k hk;have le:=kx a3 (B k) (show l k<w+1 by omega) (λi hi=>hb.bef k i O hi) (by rw[hb.one k O];decide);refine⟨_,?_,.val<|.tup<|zF (w+1)<|B k,.val<|.int<|l k,rfl⟩;have U : ¬((l k:Int)=(w:Int)):=by omega
   have a5 : ¬l k=w:=by omega
   have hx:w<w+1:=by omega
   have ev:=aE Y (Y6 w B l k) (Y6 w B l<|k+1) (B k w) (by
    unfold Y6;simp only[zc,if_true];rw[zg (g:=λ_=>0) λm hm=>by rw[EQ λe=>by have:=hb.mono m k hm O;omega],zy]
    omega) (λi hi U=>by
    unfold Y6;simp only[zc];rw[EQ (Ly U)];omega)
   simp[kn,jj,le,U,a5,Y,hx,ev])
 rw[wU]at e;refine⟨c5,c6,?_⟩;rw[e];rw[NH]
theorem sj(w:Nat)(f:RK)(b:Vc)(i:Nat):zF w (f i)++[.int (b i)]=zF (w+1) (aug w f b i):=by
 unfold zF;rw[Me,Lx];congr 1
 ·exact IK λj z=>by simp[aug,Iu.mp z]
 ·simp[aug]
theorem Je(U:Pr p)(hh:h<=90)(hw:w<=90)(f:RK)(b:Vc) :
 ∃r B l s,IsB p (w+1) r B l/\(∀v,Span p (w+1) (Fam r B) v↔Span p (w+1) (Fam h<|aug w f b) v)/\s<=r/\(∀k,k<s->l k<w)/\(∀k,s<=k->k<r->w<=l k)/\
  vE [.int p,jn h w f,.tup (zF h b)]=some (.val<|if s<r then .non else .tup (zF w<|Y6 w B l s)):=by
 have hl:=jd;have O:h<=lim:=by omega
 have Y:w<=lim:=by omega
 have I:w+1<=lim:=by omega
 obtain⟨r,B,l,e,hb,a0⟩:=qD U (show w+1<=100 by omega) O .L<|aug w f b;obtain⟨s,hs,s1,s2⟩:=yj w hb.mono;refine⟨r,B,l,s,hb,a0,hs,s1,s2,?_⟩;have rows:zS (.tp [0,1]) jA (zH jF (zf 0)<|qh<|zb (zf 1) zE) [Cell.no,Cell.no] ((Io h).map λi=>D.tup [.tup (zF w<|f i),.int (b i)])=some (zN h (w+1)<|aug w f b):=by unfold zN;refine zB _ _ λi hi=>zD rfl rfl ?_;simp[jF,I,sj]
 have zp:Jq (zN h w f) (zF h b)=(Io h).map λi=>D.tup [.tup (zF w<|f i),.int (b i)]:=by unfold Jq zN zF;rw[Od];simp
 have a2:Iw w (D.int 0)=zF w λ_=>0:=by rw[k3];rfl
 have c1:((w+1:Nat):Int)=(w:Int)+1:=by omega
 simp only[dsq]at e;rw[c1]at e;obtain⟨d,hd⟩ : ∃d,r=s+d:=⟨r - s,by omega⟩;have sp:zN r (w+1) B=zN s (w+1) B++zN d (w+1) λk=>B (s+k):=by unfold zN;rw[hd,NY,Lx,LA];rfl
 obtain⟨c5,c6,lp⟩:=WJ I hb hs s1 (zN d (w+1) λk=>B<|s+k) (.val<|.int p) (.val<|jn h w f)<|.val<|.tup<|zF h b;have x0:jf (jn h w f)=some (.T,[.int h,.int w,.tup (zN h w f)]):=rfl;have e0:vE=z6 7 (zK (jo 3<|sIx (zh 1)<|zu<|.int 1)<|zK (ke 4<|oA (jV<|xX<|zb (zu<|.int 0) zE)<|zf 3)<|zK (Jm (zO<|zG<|qi<|jB qL<|zb (zf 0)<|zb (zH jF (zf 3)<|zu<|.int 1)<|zb (qi<|zP (gG (sIx (zh 1)<|zu<|.int 2)<|zf 2) (.tp [0,1]) 2 [] jA (zH jF (zf 0)<|qh<|zb (zf 1) zE)) zE) (.nm 5) kn)<|qv<|z4<|zh 4):=rfl;rw[e0];simp[z6,zY,jj,x0,Y,zp,O,jk,Iw,rows,e];rw[a2,sp,lp];by_cases z:s<r
 ·
  have a7:d=1:=by
   rcases IJ 1 d with q | q
   ·have h1:=hb.mono s (s+1) ⋯ ⋯
    have h2:=s2 s (IC _) z;have h3:=hb.lt (s+1) ⋯;omega
   ·omega
  subst a7;have a8:l s=w:=by have:=s2 s (IC _) z;have:=hb.lt s z;omega
  have le:=kx I (B s) (show w<w+1 by omega) (λi hi=>hb.bef s i z ⋯) (by have:=hb.one s z;rw[a8]at this;rw[this];decide);have one:zN 1 (w+1) (λk=>B<|s+k)=[.tup (zF (w+1)<|B s)]:=rfl;rw[one,jm];simp[kn,jj,le,z]
 ·have a9:d=0:=by omega
  subst a9;have zero:zN 0 (w+1) (λk=>B<|s+k)=[]:=rfl;rw[zero];simp[qo,z]
end
def ZX(h w:Nat)(f g:RK)(i:Nat):Vc:=if i<h then qf w (f i) (λ_=>0)else qf w (λ_=>0) (g<|i - h)
theorem Wd(h h' w:Nat)(f g F:RK)(h1 : ∀i j,i<h->j<w->F i j=f i j)(h2 : ∀i j,i<h'->j<w->F (h+i) j=g i j):zN h w f++zN h' w g=zN (h+h') w F:=by
 unfold zN;rw[NY,Lx,LA];congr 1
 ·exact IK λi hi=>by rw[xS λj z=>(h1 i j (Iu.mp hi) z).symm]
 ·exact IK λi hi=>by simp only[Function.comp];rw[xS λj z=>(h2 i j (Iu.mp hi) z).symm]
theorem pH(n:Nat):(Iw n [D.int 0]).flatten=zF n λ_=>0:=by
 induction n with
 | zero=>rfl
 | succ n z=>
  rw[MG,MX,z];unfold zF;rw[<- k3,<- k3];rfl
theorem lQ(f g:RK):zN h (w+w') (λi=>qf w (f i) λ_=>0)++zN h' (w+w') (λi=>qf w (λ_=>0)<|g i)=zN (h+h') (w+w') (ZX h w f g):=
 Wd h h' _ _ _ _ (λi j hi _=>by unfold ZX;rw[RY hi]) λi j hi _=>by unfold ZX;rw[EQ ⋯,IZ]
theorem yA(f g:RK)(hh:h<=400)(hw:w<=400)(a8:h'<=400)(a9:w'<=400) :
 qk [jn h w f,jn h' w' g]=some (.val<|jn (h+h') (w+w')<|ZX h w f g):=by
 have hl:=jd;have I:h<=lim:=by omega
 have l2:w<=lim:=by omega
 have Y:h'<=lim:=by omega
 have l4:w'<=lim:=by omega
 have U:w+w'<=lim:=by omega
 have l6:h+h'<=lim:=by omega
 have O : ∀(h w:Nat) (f:RK),jf (jn h w f)=some (.T,[.int h,.int w,.tup (zN h w f)]):=λ_ _ _=>rfl;have n2:yF (.tup [.int 0]) (.int w)=some (.tup<|zF w λ_=>0):=by show(if ([D.int 0]).length*(w:Int).toNat<=lim/\inR (w:Int)=true then _ else _)=_;rw[RY ⟨by simpa using l2,Xq l2⟩,Mh,pH]
 have g1:zS (.tp [0,1]) jA (zH jF (zf 0)<|zf 1) [Cell.no,Cell.no] (Jq (zN h w f)<|zN h w' λ_ _=>0)=some (zN h (w+w') λi=>qf w (f i) λ_=>0):=by
  have z:Jq (zN h w f) (zN h w' λ_ _=>0)=(Io h).map λi=>D.tup [.tup (zF w<|f i),.tup (zF w' λ_=>0)]:=by unfold Jq zN;rw[Od];simp
  rw[z];unfold zN;refine zB _ _ λi hi=>zD rfl rfl ?_;have e:jF (.tup<|zF w<|f i) (.tup<|zF w' λ_=>0)=some (.tup<|zF (w+w')<|qf w (f i) λ_=>0):=by show(if (zF w<|f i).length+(zF w' λ_=>0).length<=lim then _ else _)=_;rw[RY (by simpa using U),kO]
  show zH _ _ _ [Cell.val (.tup<|zF w<|f i),Cell.val (.tup<|zF w' λ_=>0)]=_;simp[e]
 have g2:zS (.nm 0) jA (zH jF (zH yF (qh<|zb (zu<|.int 0) zE)<|sIx (zh 1)<|zu<|.int 1)<|zf 0) [Cell.no,Cell.val (jn h w f)] (zN h' w' g)=some (zN h' (w+w') λi=>qf w (λ_=>0)<|g i):=by
  unfold zN;refine zB _ _ λi hi=>zD rfl rfl ?_;have e:jF (.tup<|zF w λ_=>0) (.tup<|zF w'<|g i)=some (.tup<|zF (w+w')<|qf w (λ_=>0)<|g i):=by show(if (zF w λ_=>0).length+(zF w'<|g i).length<=lim then _ else _)=_;rw[RY (by simpa using U),kO]
  simp[O,n2,e]
 have zl:(Jq (zN h w f)<|zN h w' λ_ _=>0).length<=lim:=by unfold Jq zN;simp;exact I
 have nj:vF [jn h w f,jn h' w' g]=some (.val<|jn h w' λ_ _=>0):=by simp[vF,z6,zY,O,Y9 I l4]
 have tj:qI [jn h w f,jn h' w' g,jn h w' λ_ _=>0]=some (.val<|jn (h+h') (w+w')<|ZX h w f g):=by simp[qI,z6,zY,jj,O,I,Y,l6,zl,jk,qY,Iw,g1,g2];rw[lQ];simp[jn]
 simp[qk,z6,zY,nj,tj]
@[simp] def Wp:=@mw.eq_1
section
variable{p:Int}{m:Nat}{w:RX}{wd:RZ}{T:RV}{a:Nat}
def Stp(p:Int)(w:RX)(wd:RZ)(T:RV)(k:Nat)(u v:Vc):Prop:=
 if w k then ∀x,x<wd k->u x%p=app (T k) (wd<|k+1) v x%p else ∀x,x<wd (k+1)->v x%p=app (T k) (wd k) u x%p
def Wq(p:Int)(w:RX)(wd:RZ)(T:RV)(i a:Nat):Nat->Vc->Prop
 | 0,z=>∀x,x<a->z x%p=z (a+x)%p
 | t+1,z=>∃u:Vc,Wq p w wd T i a t (qf a z u)/\Stp p w wd T (i+t) u λx=>z<|a+x
theorem yX(F:Nat->Int)(s:Nat) : ∀d,zc F (s+d)=zc F s+zc (λk=>F<|s+k) d
 | 0=>by simp[zc]
 | d+1=>by rw[<- OS];simp only[zc];rw[yX F s d];omega
theorem Ja(y:Vc)(x:Nat):app (ZX a a (λi j=>if i=j then 1 else 0) f) (a+c) y x=if x<a then y x else app f c (λj=>y<|a+j) (x - a):=by
 unfold app;rw[yX];by_cases h:x<a
 ·rw[RY h]
  have e1:zc (λj=>ZX a a (λi j=>if i=j then 1 else 0) f x j*y j) a=y x:=by
   rw[zI (f:=λj=>ZX a a (λi j=>if i=j then 1 else 0) f x j*y j) (i:=x) h λj z O=>by unfold ZX;rw[RY h,zU z];simp[Ly O]]
   unfold ZX;rw[RY h,zU h];simp
  have I:zc (λk=>ZX a a (λi j=>if i=j then 1 else 0) f x (a+k)*y (a+k)) c=0:=by rw[zg (g:=λ_=>0) λj _=>by unfold ZX;rw[RY h,z7];simp,zy]
  rw[e1,I];simp
 ·rw[EQ h]
  have e1:zc (λj=>ZX a a (λi j=>if i=j then 1 else 0) f x j*y j) a=0:=by rw[zg (g:=λ_=>0) λj z=>by unfold ZX;rw[EQ h,zU z];simp,zy]
  have I:zc (λk=>ZX a a (λi j=>if i=j then 1 else 0) f x (a+k)*y (a+k)) c=zc (λj=>f (x - a) j*y (a+j)) c:=
   zg λj _=>by unfold ZX;rw[EQ h,z7]
  rw[e1,I];simp
theorem Ac(hw:w (i+t)=false)(I : ∀z,Span p (a+wd (i+t)) (Fam q B) z↔Wq p w wd T i a t z)
 (U : ∀v,Span p (a+wd (i+t+1)) (Fam q' B') v ↔ ∃y,Span p (a+wd (i+t)) (Fam q B) y/\∀x,x<a+wd (i+t+1)->v x%p=app (ZX a a (λi j=>if i=j then 1 else 0)<|T<|i+t) (a+wd (i+t)) y x%p) (v:Vc) :
 Span p (a+wd (i+t+1)) (Fam q' B') v↔Wq p w wd T i a (t+1) v:=by
 rw[U v];constructor
 ·rintro⟨y,Y,O⟩
  refine⟨λx=>y<|a+x,(I _).mp (Y.congr λx hx=>?_),?_⟩
  ·rcases IJ x a with z | z
   ·rw[zU z]
    have:=O x ⋯;rw[Ja,RY z]at this;exact this
   ·obtain⟨k,rfl⟩ : ∃k,x=a+k:=⟨x - a,by omega⟩
    rw[z7]
  ·unfold Stp
   rw[hw,EQ IE];intro x hx;have:=O (a+x) ⋯;rw[Ja,EQ ⋯,IZ]at this;exact this
 ·rintro⟨u,h1,h2⟩
  unfold Stp at h2;rw[hw,EQ IE]at h2;refine⟨qf a v u,(I _).mpr h1,λx hx=>?_⟩;rw[Ja];rcases IJ x a with z | z
  ·rw[RY z,zU z]
  ·rw[EQ ⋯]
   obtain⟨k,rfl⟩ : ∃k,x=a+k:=⟨x - a,by omega⟩;rw[IZ,show(λj=>qf a v u<|a+j)=u from funext λj=>z7 j];exact h2 k ⋯
theorem Ad(hw:w (i+t)=true)(I : ∀z,Span p (a+wd (i+t)) (Fam q B) z↔Wq p w wd T i a t z)
 (O : ∀v,Span p (a+wd (i+t+1)) (Fam q' B') v↔Span p (a+wd (i+t)) (Fam q B) (app (ZX a a (λi j=>if i=j then 1 else 0)<|T<|i+t) (a+wd (i+t+1)) v)) (v:Vc) :
 Span p (a+wd (i+t+1)) (Fam q' B') v↔Wq p w wd T i a (t+1) v:=by
 rw[O v];constructor
 ·intro U
  refine⟨λx=>app (T<|i+t) (wd<|i+t+1) (λj=>v<|a+j) x,(I _).mp (U.congr λx hx=>?_),?_⟩
  ·rw[Ja]
   rcases IJ x a with z | z
   ·rw[zU z,RY z]
   ·obtain⟨k,rfl⟩ : ∃k,x=a+k:=⟨x - a,by omega⟩
    rw[z7,EQ ⋯,IZ]
  ·unfold Stp
   rw[hw,RY rfl];exact λx _=>rfl
 ·rintro⟨u,h1,h2⟩
  unfold Stp at h2;rw[hw,RY rfl]at h2;refine((I _).mpr h1).congr λx hx=>?_;rw[Ja];rcases IJ x a with z | z
  ·rw[zU z,RY z]
  ·obtain⟨k,rfl⟩ : ∃k,x=a+k:=⟨x - a,by omega⟩
   rw[z7,EQ ⋯,IZ];exact(h2 k ⋯).symm
theorem iJ:Ws=z6 6 (zK (jo 3<|zC jC<|zb (sIx (zG<|sIx (zh 0)<|zu<|.int 1)<|zf 1) zE)<|zK (ke 4<|zP (zO<|zG<|sIx (zh 3)<|zu<|.int 2) (.nm 0) 1 [] jA (zH jF (zf 0)<|zf 0))<|zK (Jm (zO<|zG<|QT (sIx (zh 0)<|zu<|.int 2) (sBd<|zf 1)<|sBd<|zf 2) (.nm 5) YD)<|Zn 4):=rfl
theorem oneS_r:(qN (wch b)=("r" : Str))↔b=false:=by cases b<;>decide
abbrev lk(p:Int)(m:Nat)(w:RX)(wd:RZ)(T:RV)(i j:Int)(a:Nat)(ds:List D)(c:Cell):Ctx:=[.val (jI p m w wd T),.val (.int i),.val (.int j),.val (jn a a λi j=>if i=j then 1 else 0),.own ds,c]
theorem dg(U:Pr p)(a0 : ∀k,wd k<=7)(ha:a<=7)(hT : ∀k x y,0<=T k x y/\T k x y<p)(i' j':Int)(hq:q<=20)(hB : ∀z,Span p (a+wd (i+t)) (Fam q B) z↔Wq p w wd T i a t z) :
 ∃I B' l',YD (lk p m w wd T i' j' a (zN q (a+wd (i+t)) B)<|.val<|xk w wd T<|i+t)=some (.next<|lk p m w wd T i' j' a (zN I (a+wd (i+t+1)) B')<|.val<|xk w wd T<|i+t)/\IsB p (a+wd (i+t+1)) I B' l'/\
  ∀z,Span p (a+wd (i+t+1)) (Fam I B') z↔Wq p w wd T i a (t+1) z:=by
 have hl:=jd;have a8:=U.le;have h1:=a0<|i+t;have h2:=a0<|i+t+1;have tb:=yA (h:=a) (w:=a) (h':=hiW w wd<|i+t) (w':=wiW w wd<|i+t) (λi j=>if i=j then 1 else 0) (T<|i+t) ⋯ ⋯ (by unfold hiW;split<;>omega) (by unfold wiW;split<;>omega);have rs:jf (jI p m w wd T)=some (.T,[.int p,.tup<|zF (m+1) λk=>(wd k:Int),.tup (j1 m w wd T)]):=rfl;have O:jf (xk w wd T<|i+t)=some (.T,[.str (qN<|wch<|w<|i+t),jn (hiW w wd<|i+t) (wiW w wd<|i+t) (T<|i+t)]):=rfl;have bd : ∀x y,0<=ZX a a (λi j=>if i=j then 1 else 0) (T<|i+t) x y/\ZX a a (λi j=>if i=j then 1 else 0) (T<|i+t) x y<100:=λx y=>by
  have:=hT (i+t) (x - a)<|y - a;unfold ZX qf;split
  ·dsimp only
   split
   ·split<;>omega
   ·omega
  ·dsimp only
   split
   ·omega
   ·omega
 cases hw:w (i+t)with
 | false=>
  have hi:hiW w wd (i+t)=wd (i+t+1):=by unfold hiW;rw[hw];rfl
  have wi:wiW w wd (i+t)=wd (i+t):=by unfold wiW;rw[hw];rfl
  rw[hi,wi]at tb O;obtain⟨I,B',l',e,hb,Y⟩:=Vb U (h:=a+wd (i+t+1)) (w:=a+wd (i+t)) (q:=q) ⋯ ⋯ ⋯ (ZX a a (λi j=>if i=j then 1 else 0) (T (i+t))) (λx y _ _=>bd x y) B;refine⟨I,B',l',?_,hb,Ac hw hB Y⟩;have z:qN (wch (w (i+t)))=("r" : Str):=oneS_r.mpr hw;unfold YD;simp only[lk,nB,Y4,Wp,ye,wA,XO,xC,xD,vC,wq,II,IM,xB,Mc,Mb,z9,jN,rs,O,Iz,Lm,xj,Lj,Mz,ix0,ix1,tb,y9,z,if_true,e,QW]
 | true=>
  have hi:hiW w wd (i+t)=wd (i+t):=by unfold hiW;rw[hw];rfl
  have wi:wiW w wd (i+t)=wd (i+t+1):=by unfold wiW;rw[hw];rfl
  rw[hi,wi]at tb O;obtain⟨I,B',l',e,hb,Y⟩:=vG U (h:=a+wd (i+t)) (w:=a+wd (i+t+1)) (q:=q) ⋯ ⋯ ⋯ (ZX a a (λi j=>if i=j then 1 else 0) (T (i+t))) B;refine⟨I,B',l',?_,hb,Ad hw hB Y⟩;have z : ¬(qN (wch (w (i+t)))=("r" : Str)):=λq=>by have:=oneS_r.mp q;rw[hw]at this;cases this
  unfold YD;simp only[lk,nB,Y4,Wp,ye,wA,XO,xC,xD,vC,wq,II,IM,xB,Mc,Mb,z9,jN,rs,O,Iz,Lm,xj,Lj,Mz,ix0,ix1,tb,y9,z,if_false,e,QW]
end
section
variable{p:Int}{m:Nat}{w:RX}{wd:RZ}{T:RV}
theorem gu(z:Pr p)(a:Nat):IsB p (a+a) a (λx=>qf a (ja x)<|ja x) id where
 lt:=λk hk=>by simp only[id];omega
 mono:=λk m hk _=>hk
 one:=λk hk=>by simp only[id];rw[zU hk];exact RY rfl
 bef:=λk j hk I=>by simp only[id]at I;rw[zU ⋯];exact EQ ⋯
 oth:=λk m hk hm O=>by simp only[id];rw[zU hm];exact EQ ⋯
 rng:=λk i _ _=>by have:=z.two;unfold qf ja;split<;>split<;>omega
theorem bq(hp:Pr p)(i:Nat)(z:Vc):Span p (wd i+wd i) (Fam (wd i) λx=>qf (wd i) (ja x)<|ja x) z↔Wq p w wd T i (wd i) 0 z:=by
 constructor
 ·intro hz
  induction hz with
  | @zero z hz=>intro x hx;rw[hz x ⋯,hz (wd i+x) ⋯]
  | @step z u g c I hu he O=>
   obtain⟨k,hk,rfl⟩:=I;intro x hx;dsimp only at he;rw[he x ⋯,he (wd i+x) ⋯,zU hx,z7,IV,O x hx,<- IV]
 ·intro hz
  refine(Span.sum (u:=λx=>qf (wd i) (ja x)<|ja x) z (m:=wd i) λk hk=> .gen ⟨k,hk,rfl⟩).congr λx hx=>?_;have one : ∀y,y<wd i->zc (λk=>z k*ja k y) (wd i)=z y:=λy U=>by rw[zI (f:=λk=>z k*ja k y) U λj _ Y=>by simp[ja,Y]];simp[ja]
  rcases IJ x (wd i)with q | q
  ·have:zc (λk=>z k*qf (wd i) (ja k) (ja k) x) (wd i)=z x:=by
    rw[<- one x q];exact zg λk _=>by rw[zU q]
   rw[this]
  ·obtain⟨k,rfl⟩ : ∃k,x=wd i+k:=⟨x - wd i,by omega⟩
   have:zc (λj=>z j*qf (wd i) (ja j) (ja j) (wd i+k)) (wd i)=z k:=by rw[<- one k ⋯];exact zg λj _=>by rw[z7]
   rw[this];exact(hz k ⋯).symm
theorem gc(O:Pr p)(U : ∀k,wd k<=7)(hT : ∀k x y,0<=T k x y/\T k x y<p)(a2:i<=j)(hj:j<=m) :
 ∃q B l,Ws [jI p m w wd T,.int i,.int j]=some (.own<|zN q (wd i+wd j) B)/\IsB p (wd i+wd j) q B l/\∀z,Span p (wd i+wd j) (Fam q B) z↔Wq p w wd T i (wd i) (j - i) z:=by
 have hl:=jd;have ha:=U i;have a0:wd i<=lim:=by omega
 have a4:wd i+wd i<=lim:=by omega
 have a5 : ∀(k t:Nat) (q:Nat) (B:Nat->Vc) (l:RZ) (c:Cell),t+k=j - i->IsB p (wd i+wd (i+t)) q B l->(∀z,Span p (wd i+wd (i+t)) (Fam q B) z↔Wq p w wd T i (wd i) t z)->
  ∃I B' l' Y,qo (.nm 5) YD ((Ng t k).map λk=>xk w wd T<|i+k) (lk p m w wd T i j (wd i) (zN q (wd i+wd (i+t)) B) c)=some (.next<|lk p m w wd T i j (wd i) (zN I (wd i+wd j) B') Y)/\IsB p (wd i+wd j) I B' l'/\
   ∀z,Span p (wd i+wd j) (Fam I B') z↔Wq p w wd T i (wd i) (j - i) z:=by
  intro k
  induction k with
  | zero=>
   intro t q B l c h hb hs;have e1:t=j - i:=by omega
   have e2:i+t=j:=by omega
   rw[e2]at hb hs ⊢;rw[<- e1];exact⟨q,B,l,c,rfl,hb,hs⟩
  | succ k ih=>
   intro t q B l c h hb hs;have hq:q<=wd i+wd (i+t):=Yy hb.mono hb.lt;have:=U<|i+t;obtain⟨q1,B1,l1,e,ac,ae⟩:=dg (m:=m) O U ha hT i j ⋯ hs;obtain⟨I,B',l',Y,e',am,an⟩:=ih (t+1) q1 B1 l1 (.val<|xk w wd T<|i+t) ⋯ ac ae;refine⟨I,B',l',Y,?_,am,an⟩;rw[MA,IS,jm];show((YD<|lk p m w wd T i j (wd i) (zN q (wd i+wd (i+t)) B)<|.val<|xk w wd T<|i+t).bind _)=_;rw[e];exact e'
 obtain⟨q,B,l,c,e,hb,hs⟩:=a5 (j - i) 0 (wd i) (λx=>qf (wd i) (ja x)<|ja x) id .no ⋯ (gu O<|wd i)<|bq O i;refine⟨q,B,l,?_,hb,hs⟩;have sm:=ko (n:=wd i) a0;have wi:i<m+1:=by omega
 have tw:zS (.nm 0) jA (zH jF (zf 0)<|zf 0) [Cell.no] (zN (wd i) (wd i) λi j=>if i=j then 1 else 0)=some (zN (wd i) (wd i+wd i) λx=>qf (wd i) (ja x)<|ja x):=by unfold zN;refine zB _ _ λx hx=>zD rfl rfl ?_;simp[jF,a4,kO];rfl
 have rs:jf (jI p m w wd T)=some (.T,[.int p,.tup<|zF (m+1) λk=>(wd k:Int),.tup (j1 m w wd T)]):=rfl;have dq:jf (jn (wd i) (wd i) λi j=>if i=j then 1 else 0)=some (.T,[.int (wd i),.int<|wd i,.tup (zN (wd i) (wd i) λi j=>if i=j then 1 else 0)]):=rfl;have ix:ixD (m+1) (i:Int)=some i:=by rw[jM,RY wi]
 have wx:(zF (m+1) λk=>(wd k:Int))[i]? = some (.int<|wd i):=qH _ wi;have ca:vx (j1 m w wd T) (some (i:Int)) (some (j:Int))=(Io<|j - i).map λk=>xk w wd T (i+k):=by rw[Bo a2 hj];rfl
 rw[<- LZ]at e;rw[iJ];unfold z6;have e0:zY 6 [jI p m w wd T,.int i,.int j]=[.val (jI p m w wd T),.val<|.int i,.val<|.int j,.no,.no,.no]:=rfl;have s1:(jo 3<|zC jC<|zb (sIx (zG<|sIx (zh 0)<|zu<|.int 1)<|zf 1) zE) [.val (jI p m w wd T),.val<|.int i,.val<|.int j,.no,.no,.no]=some (.next [.val (jI p m w wd T),.val<|.int i,.val<|.int j,.val<|jn (wd i) (wd i) λi j=>if i=j then 1 else 0,.no,.no]):=by simp only[K6,wq,ye,wA,XO,vB,xC,xD,vC,II,IM,z9,jN,rs,Wm,Iz,Lm,xj,Lj,Mz,ix1,kN,ix,wx,sm,y9];rfl
 have s2:(ke 4<|zP (zO<|zG<|sIx (zh 3)<|zu<|.int 2) (.nm 0) 1 [] jA (zH jF (zf 0)<|zf 0)) [.val (jI p m w wd T),.val<|.int i,.val<|.int j,.val<|jn (wd i) (wd i) λi j=>if i=j then 1 else 0,.no,.no]=some (.next<|lk p m w wd T i j (wd i) (zN (wd i) (wd i+wd i) λx=>qf (wd i) (ja x)<|ja x) .no):=by simp only[Y4,yS,yq,vB,XO,xC,vC,II,IM,jN,dq,Wm,Iz,Lm,xj,Lj,Mz,ix2,wU,a0,if_true];rw[show jk 1 [] [Cell.val (jI p m w wd T),Cell.val<|D.int (i:Int),Cell.val<|D.int (j:Int),Cell.val<|jn (wd i) (wd i) λi j=>if i=j then 1 else 0,Cell.no,Cell.no]=[Cell.no]from rfl,tw];rfl
 rw[e0,jj,s1,kB,jj,s2,kB,jj,Jd];simp only[lk,yq,vB,Bx,XO,xC,xD,vC,Gb,II,IM,jN,z9,rs,Wm,Iz,Lm,xj,Lj,Mz,ix2,ca];simp only[lk,Rc]at e;rw[e];simp
end
@[simp] def BB:=@bK.eq_1
section
variable{p:Int}{m:Nat}{w:RX}{wd:RZ}{T:RV}
theorem jU:jf (jI p m w wd T)=some (.T,[.int p,.tup<|zF (m+1) λk=>(wd k:Int),.tup (j1 m w wd T)]):=rfl
end
@[simp] theorem K7(γ:Ctx)(f):Zp f γ=(f γ).bind λd=>match d with
 | .str z=>if ji z=true then some (xh<|xP z)else none
 | _=>none:=rfl
@[simp] theorem lV(γ:Ctx)(f g):gN f g γ=(f γ).bind λd=>(g γ).bind λe=>match d,e with
 | .str x,.str y=>if ji x=true/\ji y=true then some (.str<|x++y)else none
 | _,_=>none:=rfl
theorem J7(m:Nat)(w:RX):xh (xP<|xN m w)=(Io m).map λ(k:Nat)=>D.tup [.int k,.str (qN<|wch<|w k)]:=by
 have e:xP (xN m w)=(Io m).map λk=>D.str (qN<|wch<|w k):=by unfold xP;rw[x9,LA];rfl
 unfold xh;rw[e];simp only[IQ,Mg];refine IK λk hk=>?_;simp[Iu.mp hk]
theorem eE(w:RX)(k:Nat):qu [.int k,.str (qN<|wch<|w k)]=some (.val<|.tup [.int ((jO w k:Nat):Int),.int ((jT w k:Nat):Int)]):=by have q:=et<|w k;cases h:w k<;>rw[h]at q<;>simp[qu,z6,zY,jj,q,jO,jT,h]
theorem aZ(s:Nat)(w:RX):xN s w++qN (wch<|w s)=xN (s+1) w:=by
 have h:(xN s w++qN (wch<|w s)).cps.toList=(xN (s+1) w).cps.toList:=by show((xN s w).cps++(qN<|wch<|w s).cps).toList=_;rw[Array.toList_append,x9,x9,Me,Lx];rfl
 have h2:=Array.toList_inj.mp h;generalize xN s w++qN (wch<|w s)=a at h2;generalize xN (s+1) w=b at h2;cases a;cases b;exact congrArg Str.mk h2
theorem sW{c:Int}(hc:0<=c){m:Nat}(hm:m<=5) : ∃w,qS [.int c,.int (1+(m:Int))]=some (.val<|.str<|xN m w):=by
 have hl:=jd;have U:m<=lim:=by omega
 refine⟨λk=>decide (c/2 ^ k%2=1),?_⟩;generalize hw:(λk:Nat=>decide (c/2 ^ k%2=1))=w;have Y : ∀(k s:Nat) (z:Cell),s+k=m->∃I O,qo (.nm 3) (zK (jo 2 (gN (zf 2) (JL (zu (.str "rl")) (zH yG (zf 0) (zu (.int 2)))))) (jo 0 (zH aH (zf 0) (zu (.int 2))))) ((Ng s k).map λ(i:Nat)=>D.int i) [.val (.int (c/2 ^ s)),.val (.int (1+(m:Int))),.val (.str (xN s w)),z] =
  some (.next [I,.val<|.int<|1+(m:Int),.val<|.str<|xN m w,O]):=by
  intro k
  induction k with
  | zero=>
   intro s z h;obtain rfl:s=m:=by omega
   exact⟨_,z,rfl⟩
  | succ k ih=>
   intro s z h;obtain⟨I,O,e⟩:=ih (s+1) (.val (.int s)) ⋯;refine⟨I,O,?_⟩;rw[MA,IS,jm];have sx:JL (zu (.str "rl")) (zH yG (zf 0) (zu (.int 2))) [.val (.int (c/2 ^ s)),.val (.int (1+(m:Int))),.val (.str (xN s w)),.val (.int s)]=some (.str (qN (wch (w s)))):=by
    have ev:zH yG (zf 0) (zu<|.int 2) [.val (.int<|c/2 ^ s),.val<|.int<|1+(m:Int),.val<|.str<|xN s w,.val (.int s)]=some (.int<|c/2 ^ s%2):=by simp
    rw[lU,ev];have q:c/2 ^ s%2=0\/c/2 ^ s%2=1:=by omega
    have ws:w s=decide (c/2 ^ s%2=1):=by rw[<- hw]
    rw[ws];rcases q with q | q
    ·rw[q];rfl
    ·rw[q];rfl
   have s1:=vN w (show s<=1000 by omega);have s2:ji (qN<|wch<|w s)=true:=rfl;have dv:c/2 ^ s/2=c/2 ^ (s+1):=by rw[Int.pow_succ,Int.ediv_ediv_of_nonneg (Int.pow_nonneg ⋯)]
   simp only[wZ,Iz,Mc,Mb];rw[jj];simp only[K6,lV,xD,II,IM,z9,Iz,sx,s1,s2,and_self,if_true,aZ,Lm,Mc,Mb];simp only[fU,xD,vC,II,z9,Iz,lH];rw[RY ⟨by omega,by omega⟩,dv];exact e
 obtain⟨c0,z,e⟩:=Y m 0 .no ⋯;rw[<- LZ]at e;have c1:c/2 ^ 0=c:=by simp
 have e1:(1:Int)+(m:Int) - 1=(m:Int):=by omega
 have w0:xN 0 w=("" : Str):=rfl;rw[c1,w0]at e;simp[qS,z6,zY,jj,e1,U,qG,Iw];rw[jE m λi=>(i:Int),e];simp
def Yc(ns:List Int)(p:Int)(n:Int):Int:=xY ns n/4%p*(if decide (0<xY ns n%4)=true then 1 else 0)
theorem sg{ns:List Int}{p n:Int}(z:0<p):0<=Yc ns p n/\Yc ns p n<p:=by unfold Yc;have h1:=Le (xY ns n/4) (show p≠0 by omega);have h2:=IU (xY ns n/4) z;split<;>omega
theorem ue{ns:List Int}(a2:ns.length<=63){p:Int}(hp:Pr p){at_:Int}(ae:0<=at_)(ha:at_<=1000){h w:Nat}(hh:h<=4)(hw:w<=4) :
 qT [wj ns,.int at_,.int p,.int h,.int w]=some (.own<|kl h w λx y=>Yc ns p<|at_+(x:Int)*(w:Int)+(y:Int)):=by
 have hl:=jd;have p0:=hp.pos;have an:=hp.le;have a4:h<=lim:=by omega
 have I:w<=lim:=by omega
 have a5 : ∀(k s:Nat) (c6 c7:Cell),s+k=h->∃O U,qo (.nm 6) (zK (jo 7<|qi<|zP (jK<|zf 4) (.nm 0) 1 [0,1,4,6] jA (zC zZ<|zb (zf 1)<|zb (zH jF (zH jF (zf 2)<|zH yF (zf 4)<|zf 3)<|zf 0) zE))<|kZ 5<|qi<|zP (zO<|zh 7) (.nm 0) 1 [2] jA (zH yF (zH yG (zH aH (zf 0)<|zu<|.int 4)<|zf 1)<|bJ<|zH dGt (zH yG (zf 0)<|zu<|.int 4)<|zu<|.int 0)) ((Ng s k).map λ(i:Nat)=>D.int i)
  [.val (wj ns),.val<|.int at_,.val<|.int p,.val<|.int h,.val<|.int w,.own<|kl s w λx y=>Yc ns p<|at_+(x:Int)*(w:Int)+(y:Int),c6,c7]=some (.next [.val (wj ns),.val<|.int at_,.val<|.int p,.val<|.int h,.val<|.int w,.own<|kl h w λx y=>Yc ns p<|at_+(x:Int)*(w:Int)+(y:Int),O,U]):=by
  intro k
  induction k with
  | zero=>
   intro s c6 c7 hs;obtain rfl:s=h:=by omega
   exact⟨c6,c7,rfl⟩
  | succ k ih=>
   intro s c6 c7 hs;have xw:(s:Int)*(w:Int)<=16:=by have:s*w<=4*4:=Nat.mul_le_mul ⋯ hw;rw[<- Int.natCast_mul];omega
   have ar:(0:Int)<=(s:Int)*(w:Int):=Int.mul_nonneg ⋯ ⋯;have k1:zS (.nm 0) jA (zC zZ<|zb (zf 1)<|zb (zH jF (zH jF (zf 2)<|zH yF (zf 4)<|zf 3)<|zf 0) zE) [Cell.no,Cell.val<|wj ns,Cell.val<|.int at_,Cell.val<|.int w,Cell.val (.int s)] (zF w λi=>(i:Int))=some (zF w λy=>xY ns<|at_+(s:Int)*(w:Int)+(y:Int)):=by rw[jE w,jE w];refine zB _ _ λy Y=>zD rfl rfl ?_;have Y:=Iu.mp Y;have cm:XX (s:Int) (w:Int)=true:=ZV _ _ ⋯ ⋯;have ce:=(XI a2 (k:=at_+(s:Int)*(w:Int)+(y:Int)) ⋯ ⋯).1;simp[cm,ce]
   have k2:zS (.nm 0) jA (zH yF (zH yG (zH aH (zf 0)<|zu<|.int 4)<|zf 1)<|bJ<|zH dGt (zH yG (zf 0)<|zu<|.int 4)<|zu<|.int 0) [Cell.no,Cell.val (.int p)] (zF w λy=>xY ns<|at_+(s:Int)*(w:Int)+(y:Int))=some (zF w λy=>Yc ns p<|at_+(s:Int)*(w:Int)+(y:Int)):=by rw[jE w,jE w];refine zB _ _ λy Y=>zD rfl rfl ?_;have cm : ∀z:Int,XX z (if 0<xY ns (at_+(s:Int)*(w:Int)+(y:Int))%4 then 1 else 0)=true:=λz=>Wj _ _ (by split<;>omega) (by split<;>omega);simp[p0,cm,Yc]
   obtain⟨O,U,e⟩:=ih (s+1) (.val<|.int s) (.val<|.lst<|zF w λy=>xY ns<|at_+(s:Int)*(w:Int)+(y:Int)) ⋯;refine⟨O,U,?_⟩;rw[MA,IS,jm];have sl:(kl s w λx y=>Yc ns p<|at_+(x:Int)*(w:Int)+(y:Int)).length<lim:=by rw[QA];omega
   simp only[wZ,Iz,Mc,Mb];rw[jj];simp only[K6,Wo,yS,Jc,xD,II,IM,z9,Iz,xj,Xq I,if_true,Mh,qG,kN,I];rw[show jk 1 [0,1,4,6] [Cell.val (wj ns),Cell.val<|D.int at_,Cell.val<|D.int p,Cell.val<|D.int (h:Int),Cell.val<|D.int (w:Int),Cell.own<|kl s w λx y=>Yc ns p<|at_+(x:Int)*(w:Int)+(y:Int),Cell.val<|D.int (s:Int),c7]=[Cell.no,Cell.val<|wj ns,Cell.val<|.int at_,Cell.val<|.int w,Cell.val (.int s)]from rfl,k1];simp only[Lm,Iz,Mc,Mb];simp only[vD,Wo,yS,yq,xC,II,IM,xB,jN,Wn,Iz,Lm,kN,I,if_true];rw[show jk 1 [2] [Cell.val (wj ns),Cell.val<|D.int at_,Cell.val<|D.int p,Cell.val<|D.int (h:Int),Cell.val<|D.int (w:Int),Cell.own<|kl s w λx y=>Yc ns p<|at_+(x:Int)*(w:Int)+(y:Int),Cell.val<|D.int (s:Int),Cell.val (D.lst<|zF w λy=>xY ns<|at_+(s:Int)*(w:Int)+(y:Int))]=[Cell.no,Cell.val (.int p)]from rfl,k2];simp only[Lm,Iz,sl,if_true,Mc,Mb];have ea:(kl s w λx y=>Yc ns p<|at_+(x:Int)*(w:Int)+(y:Int))++[D.lst (zF w λy=>Yc ns p<|at_+(s:Int)*(w:Int)+(y:Int))]=kl (s+1) w λx y=>Yc ns p (at_+(x:Int)*(w:Int)+(y:Int)):=by unfold kl;rw[Me,Lx];rfl
   rw[ea];exact e
 obtain⟨c6,c7,e⟩:=a5 h 0 .no .no ⋯;rw[<- LZ]at e;simp[qT,z6,zY,jj,Iw,a4,qG];rw[jE h λi=>(i:Int)];have e0:(kl 0 w λx y=>Yc ns p<|at_+(x:Int)*(w:Int)+(y:Int))=[]:=rfl;rw[e0]at e;rw[e];simp
def pr(a b:Nat):D:= .tup [.int a,.int b]
@[simp] theorem Gv(a b):jf (pr a b)=some (.T,[.int (a:Int),.int (b:Int)]):=rfl
def mk(lo:Nat)(ch:List Int)(r:Nat):Int:=if lo<=r then ch.getD (r - lo) 0 else 0
def ER(h w:Nat)(f:RK):List D:=(Io h).map λi=>D.lst<|zF w<|f i
@[simp] theorem BS(h w f):(ER h w f).length=h:=by simp[ER]
def CJ(m:Nat)(w:RX)(wd:RZ)(T:RV):List D:=(Io m).map λk=>D.lst<|ER (hiW w wd k) (wiW w wd k)<|T k
def iw(m:Nat)(w:RX)(wd:RZ)(T:RV):D:= .tup [.lst (zF (m+1) λk=>(wd k:Int)),.lst (CJ m w wd T)]
def AV(m:Nat)(w:RX)(wd wd':RZ)(J:RV):List D:=(Io m).map λk=>jn (hiW w wd k) (wiW w wd' k)<|J k
def xZ:=z6 3<|zK (ke 1<|xX zE)<|zK (Jm (jK<|zf 0) (.nm 2)<|bK 1<|zP (QU (zf 2)<|zf 0) (.nm 0) 1 [2] jA (qh<|zb (zf 1)<|zb (zf 0) zE))<|Zn 1
def qz:=z6 2<|vS<|zP (zO<|zG<|qh<|zb (zH Jo (zf 1)<|zu<|.int 1)<|zb (zf 1) zE) (.nm 0) 1 [0] (sB<|y8 dLe dLt (zu<|.int 0) (zf 0)<|QV<|zf 1) (zf 0)
def vJ:=z6 2<|qv<|sM<|jV<|zP (zO<|jV<|jB qz<|zb (zf 0)<|zb (zf 1) zE) (.nm 0) 1 [0,1] jA (zH dEq (zC XU<|zb (zf 0)<|zb (JL (zf 1)<|zf 0) zE)<|zf 2)
def yI:=z6 2<|qv<|sM<|jV<|zP (zO<|jV<|jB qz<|zb (zf 0)<|zb (zf 1) zE) (.nm 0) 1 [0,1] jA (zH dEq (zC x6<|zb (zf 0)<|zb (JL (zf 1)<|zf 0) zE)<|zf 2)
def yu:=z6 2<|zK (sIf (kf<|sB<|zC vH<|zb (zH jF (QV<|zf 0)<|zu<|.int 1)<|zb (zf 1) zE) wu xc)<|sIf (gO (kf<|sB<|zC vJ<|zb (zf 0)<|zb (zf 1) zE)<|kf<|sB<|zC yI<|zb (zf 0)<|zb (zf 1) zE) wu xc
def Ya:=z6 4 (zK (sIf (kf (sB (y8 dLe dLe (zu (.int 0)) (zf 1) (QV (zf 0))))) (qv (zu (.str "room"))) xc) (zK (jo 2 (tX (tX (zf 0) Jl (sBd (zf 1))) (sBd (ua (zu (.int 1)))) Jl)) (zK (jo 3 (tX (tX (zf 0) (sBd (zf 1)) Jl) Jl (sBd (zu (.int 1))))) (zK (sIf (gO (sB (zH dEq (zf 2) (zf 3))) (sB (zH dNe (zf 2) (zu (.str ""))))) (qv (zu (.str "turn"))) xc) (qv (zu (.str "told")))))))
def wl(l:List Bool):Str:=⟨⟨l.map wch⟩⟩
theorem Ze(m w):xN m w=wl ((Io m).map w):=by have h:=x9 m w;rw[show(Io m).map (λk=>wch<|w k)=((Io m).map w).map wch by rw[LA];rfl]at h;unfold wl;generalize xN m w=a at h;obtain⟨⟨l⟩⟩:=a;exact congrArg (λx=>Str.mk ⟨x⟩) h
theorem VX{α β:Type}{f g:α->β}{xs:List α}(h:xs.map f=xs.map g){a:α}(ha:a∈xs):f a=g a:=List.map_inj_left.mp h a ha
theorem Aq(l:List Bool):okD (.str<|wl l)=true:=by
 have h:(wl l).cps.all (· < 0x110000)=true:=by rw[<- Array.all_toList];show(l.map wch).all _=true;rw[List.all_map];exact LC.mpr λb _=>by cases b<;>rfl
 have d:deep (.str<|wl l)<=20:=by simp[deep]
 unfold okD;rw[decide_eq_true d];exact h
def aX:Nat->List (List Bool)
 | 0=>[[]]
 | n+1=>(aX n).flatMap λl=>[false::l,true::l]
def words:List (List Bool):=(Io 6).flatMap aX
theorem JX : ∀l:List Bool,l∈aX l.length
 | []=>NK.mpr rfl
 | b::l=>OT.mpr ⟨l,JX l,by cases b<;>simp⟩
theorem cZ{l:List Bool}(h:l.length<=5):l∈words:=OT.mpr ⟨l.length,Iu.mpr ⋯,JX l⟩
def wrooms:List (List Bool×Nat):=words.flatMap λl=>(Io<|l.length+1).map λk=>(l,k)
theorem kj{l:List Bool}{k:Nat}(h:l.length<=5)(hk:k<=l.length):(l,k)∈wrooms:=
 OT.mpr ⟨l,cZ h,La.mpr ⟨k,Iu.mpr ⋯,rfl⟩⟩
def vO(l:List Bool)(k:Nat):Bool:=k==0 || k==l.length || l[k - 1]? != l[k]?
def wtold:List (List Bool×Nat):=wrooms.filter λa=>vO a.1 a.2
theorem Kv{l:List Bool}{k:Nat}(h:l.length<=5)(hk:k<=l.length)(z:vO l k=true):(l,k)∈wtold:=
 IP.mpr ⟨kj h hk,z⟩
def Ax(l:List Bool):Nat->Nat->Nat
 | 0,k=>k
 | n+1,k=>if vO l k then k else Ax l n ((k+1)%(l.length+1))
def JI(l:List Bool)(k:Nat):Nat:=Ax l 7 k
theorem Wz:wrooms.all (λa=>vO a.1 (JI a.1 a.2) && decide (JI a.1 a.2<=a.1.length))=true:=by kernel_rfl
theorem bu{l:List Bool}{k:Nat}(h:l.length<=5)(hk:k<=l.length):vO l (JI l k)=true/\JI l k<=l.length:=by have:=LC.mp Wz _<|kj h hk;simpa using this
def Xz(l:List Bool)(k:Nat):List Bool:=l.mapIdx λi b=>if i+1=k\/i=k then !b else b
theorem K5:wtold.map (λa=>yu [.str (wl a.1),.int (a.2:Int)])=wtold.map λ_=>some (.val .non):=by kernel_rfl
theorem Y2{l:List Bool}{k:Nat}(h:l.length<=5)(hk:k<=l.length)(z:vO l k=true):yu [.str (wl l),.int (k:Int)]=some (.val .non):=by have q:=VX K5<|Kv h hk z;dsimp only at q;exact q
theorem lq:wtold.all (λa=>vO (Xz a.1 a.2) a.2 && Xz (Xz a.1 a.2) a.2==a.1)=true:=by kernel_rfl
theorem rF{l:List Bool}{k:Nat}(h:l.length<=5)(hk:k<=l.length)(z:vO l k=true):vO (Xz l k) k=true/\Xz (Xz l k) k=l:=by have:=LC.mp lq _<|Kv h hk z;simpa using this
def EL(n k:Nat)(u:Nat->Int):Int:=if 0<k then (if k+1<n then u (k - 1)+(u (k+1)+0)else u (k - 1)+0)else if k+1<n then u (k+1)+0 else 0
def mv(n k:Nat)(u:Nat->Int)(i:Nat):Int:=if i=k then EL n k u - u k else u i
theorem sC(γ:Ctx)(i g):gK i g γ=(qy γ[i]?).bind λds=>(g γ).bind λa=>match a.1 with
 | .T=>if ds.length+a.2.length<=lim then some (.next<|γ.set i<|.own<|ds++a.2)else none
 | .L=>none:=rfl
def tbL(n:Nat)(hs z:RZ)(T:RV):List D:=(Io n).map λk=>jn (hs k) (z k)<|T k
theorem sD(h : ∀k,k<r->l k≠j):Y6 w B l r j=0:=by unfold Y6;rw[zg (g:=λ_=>0) λk hk=>EQ<|h k hk,zy]
theorem BC{p:Int}{w n r:Nat}{B:Nat->Vc}{l:RZ}(hb:IsB p n r B l){k:Nat}(hk:k<r):Y6 w B l r (l k)=B k w:=by unfold Y6;rw[zI hk λm hm z=>EQ λe=>z<|VT hb.mono hm hk e,RY rfl]
theorem gC{p:Int}{h w:Nat}{f:RK}{b y:Vc}(O : ∀i,i<h->zc (λj=>f i j*y j) w%p=b i%p){v:Vc}(U:Span p (w+1) (Fam h<|aug w f b) v):(v w - zc (λj=>v j*y j) w)%p=0:=by
 induction U with
 | @zero v h0=>
  have e:zc (λj=>v j*y j) w%p=zc (λ_=>0) w%p:=zx λj I=>by rw[IB,h0 j ⋯];simp
  rw[Mv,e,h0 w ⋯,zy];simp
 | @step v z g c Y a4 h1 ih=>
  obtain⟨i,hi,rfl⟩:=Y;have e1:zc (λj=>v j*y j) w%p=(zc (λj=>z j*y j) w+c*zc (λj=>f i j*y j) w)%p:=by
   rw[<- zV,<- jt];refine zx λj I=>?_;rw[IB,h1 j ⋯,<- IB];have:aug w f b i j=f i j:=by simp[aug,I]
   rw[this,On,Lw]
  have e2:v w%p=(z w+c*b i)%p:=by
   rw[h1 w ⋯];have:aug w f b i w=b i:=by simp[aug]
   rw[this]
  have e3:(c*zc (λj=>f i j*y j) w)%p=(c*b i)%p:=by rw[IB,O i hi,<- IB]
  rw[Mv,e1,e2,<- Mv];have e4:(z w+c*b i - (zc (λj=>z j*y j) w+c*zc (λj=>f i j*y j) w))=(z w - zc (λj=>z j*y j) w)+(c*b i - c*zc (λj=>f i j*y j) w):=by omega
  rw[e4,IV,ih,Mv,e3];simp
theorem gD(O:Pr p)(hh:h<=90)(hw:w<=90)(f:RK)(b y:Vc)(I : ∀i,i<h->0<=b i/\b i<p)(hy : ∀i,i<h->zc (λj=>f i j*y j) w%p=b i) :
 ∃x:Vc,vE [.int p,jn h w f,.tup (zF h b)]=some (.val<|.tup<|zF w x)/\(∀j,0<=x j/\x j<p)/\∀i,i<h->zc (λj=>f i j*x j) w%p=b i:=by
 have p0:=O.pos;obtain⟨r,B,l,s,hb,U,hs,s1,s2,Y⟩:=Je O hh hw f b;have a3 : ¬s<r:=λz=>by
  have a8:=hb.lt s z;have a9:=s2 s (IC _) z;have el:l s=w:=by omega
  have sp:=(U<|B s).mp (.gen ⟨s,z,rfl⟩);have q:=gC (y:=y) (λi hi=>by rw[hy i hi,Lh (I i hi).1 (I i hi).2]) sp;have h1:=hb.one s z;rw[el]at h1;have h2:zc (λj=>B s j*y j) w=0:=by rw[zg (g:=λ_=>0) λj hj=>by rw[hb.bef s j z ⋯];simp];exact zy _
  rw[h1,h2,Pg,O.one]at q;omega
 rw[EQ a3]at Y;have er:s=r:=by omega
 subst er;refine⟨_,Y,λj=>?_,λi hi=>?_⟩
 ·by_cases e : ∃k,k<s/\l k=j
  ·obtain⟨k,hk,rfl⟩:=e
   rw[BC hb hk];exact hb.rng k w hk ⋯
  ·rw[sD λk hk e'=>e ⟨k,hk,e'⟩];exact⟨Int.le_refl _,p0⟩
 ·have co:=wm hb ((U<|aug w f b i).mpr (.gen ⟨i,hi,rfl⟩)) w ⋯
  have a6:aug w f b i w=b i:=by simp[aug]
  rw[a6,Lh (I i hi).1 (I i hi).2]at co;rw[co];congr 1;unfold Y6;rw[zg (g:=λj=>zc (λk=>f i j*(if l k=j then B k w else 0)) s) λj _=>(zV _ _ _).symm,jw];refine zg λk hk=>?_;rw[zI (i:=l k) (s1 k hk) λj hj a7=>by rw[EQ (Ly a7)];simp,RY rfl];simp only[aug,RY (s1 k hk)]
def xR(wd:RZ)(b:Bar):List D:=(Io b.n).map λi=>D.tup<|zF (wd<|b.s+i)<|b.v<|b.s+i
def qb(wd:RZ)(b:Bar):D:= .tup [.int b.s,.tup (xR wd b)]
@[simp] theorem ai(wd b):(xR wd b).length=b.n:=by simp[xR]
theorem VY(h:i<b.n):(xR wd b)[i]? = some (.tup<|zF (wd<|b.s+i)<|b.v<|b.s+i):=by simp[xR,h]
@[simp] theorem FB(wd b):jf (qb wd b)=some (.T,[.int b.s,.tup (xR wd b)]):=rfl
section
variable{wd:RZ}{b:Bar}{bars:List Bar}
theorem WG(h1:1<=b.n)(hn:b.s+b.n<=100):qC [qb wd b]=some (.val<|.tup [.int b.s,.int ((b.s+b.n - 1:Nat):Int)]):=by
 have e:((b.s:Int)+(b.n:Int) - 1)=((b.s+b.n - 1:Nat):Int):=by omega
 simp[qC,z6,zY,qb,Iw];omega
theorem kM(hn:b.s+b.n<=100)(r:Nat):jR [qb wd b,.int r]=some (.val<|.bl<|b.has r):=by
 by_cases h:b.s<=r
 ·by_cases h2:r<b.s+b.n
  ·have:(r:Int)<(b.s:Int)+b.n:=by omega
   simp[jR,z6,zY,qb,Iw,Bar.has,h,h2,this]
  ·have : ¬((r:Int)<(b.s:Int)+b.n):=by omega
   simp[jR,z6,zY,qb,Iw,Bar.has,h,h2,this]
 ·simp[jR,z6,zY,qb,Iw,Bar.has,h]
theorem ZK{N:Nat}{A:Nat->Bar}(hb : ∀j,j<N->(A j).s+(A j).n<=100)(z:N<=lim)(r:Nat) :
 ku [.lst ((Io N).map λj=>qb wd<|A j),.int r]=some (.own<|((Io N).filter λj=>(A j).has r).map λj=>D.tup<|zF (wd r)<|(A j).v r):=by
 simp only[ku,z6,zY,fS,yS,yq,xC,IS,Pa,Lj,Mz,Iw,Na,Rg,List.nil_append,II,yR,jf,Lm,Iz,IQ,Mg,z,if_true];rw[jq (λj=>(A j).has r) (λj=>D.tup<|zF (wd r)<|(A j).v r) (Io N) λj I=>⟨_,rfl,?_,λU=>?_⟩]
 ·rfl
 ·have e:=kM (wd:=wd) (hb j<|Iu.mp I) r
  simp[jk,e]
 ·obtain⟨h1,h2⟩:=has_iff.mp U
  obtain⟨i,rfl⟩:=Nat.exists_eq_add_of_le h1;have hi:i<(A j).n:=by omega
  have e1:(((A j).s+i:Nat):Int) - ((A j).s:Int)=(i:Int):=by omega
  have O:=VY (wd:=wd) hi;have z:=jd;have Y:=hb j<|Iu.mp I;simp[jk,qb,hi,O];rw[show((A j).s:Int)+(i:Int) - ((A j).s:Int)=(i:Int)by omega,jM,RY hi];exact O
theorem wo(g:Nat->Vc)(z:q<=lim)(I:h<=lim):kz [.int h,.lst (zN q h g)]=some (.val<|jn h q λi j=>g j i):=by have e:=xF (h:=q) (w:=h) g z I;unfold jn at e;simp[kz,z6,zY,Iw,z,e];rfl
theorem iH(h:Nat)(u:Nat->Vc)(L:List Nat):(L.map λj=>D.tup<|zF h<|u j)=zN L.length h λi=>u (L.getD i 0):=by
 unfold zN
 conv=>lhs;rw[<- jL 0 L]
 rw[LA];rfl
theorem VW(u:Nat->Int)(L:List Nat):(L.map λj=>D.int<|u j)=zF L.length λi=>u (L.getD i 0):=by
 unfold zF
 conv=>lhs;rw[<- jL 0 L]
 rw[LA];rfl
theorem qA(P:RX)(g:Nat->Int) : ∀N,zc (λi=>g<|((Io N).filter P).getD i 0) ((Io N).filter P).length=zc (λj=>if P j=true then g j else 0) N
 | 0=>rfl
 | N+1=>by
  have z:=qA P g N;rw[Me,Ow];show _=zc _ N+_;rw[<- z];cases hP:P N with
  | false=>simp[hP]
  | true=>
   have e:([N].filter P)=[N]:=by simp[hP]
   rw[e,LD,NZ];show zc _ _+_=_;simp only[if_true];congr 1
   ·refine zg λi hi=>?_
    simp[Iy,LX hi]
   ·simp[Iy,hP]
end
section
variable{wd:RZ}{N m:Nat}{A:Nat->Bar}{p:Int}{w:RX}{T:RV}{t:Vc}
theorem gj:Jq (zF N t) ((Io N).map λj=>qb wd<|A j)=(Io N).map λj=>D.tup [.int (t j),qb wd (A j)]:=by
 unfold Jq zF;rw[List.zip_map,LA];have e:(Io N).zip (Io N)=(Io N).map λi=>(i,i):=by rw[List.zip_eq_zipWith,List.zipWith_self]
 rw[e,LA];rfl
theorem Xk(U:Pr p)(hb : ∀j,j<N->(A j).s+(A j).n<=100)(hN:N<=60)(hm:m<=5)(Y : ∀k,wd k<=60)(hr:r<=m)(hv : ∀j i,j<N->(A j).has r=true->i<wd r->0<=(A j).v r i/\(A j).v r i<p) :
 yh [jI p m w wd T,.lst<|(Io N).map λj=>qb wd<|A j,.tup<|zF N t,.int r]=some (.val<|.tup<|zF (wd r)<|mxV p A N t r):=by
 have hl:=jd;have p7:=U.le;have ac:=Y r;have e1:=ZK (wd:=wd) hb (show N<=lim by omega) r;rw[iH (wd r) (λj=>(A j).v r)]at e1;have hq:((Io N).filter λj=>(A j).has r).length<=N:=by have:=List.length_filter_le (λj=>(A j).has r)<|Io N;simpa using this
 have e2:=wo (q:=((Io N).filter λj=>(A j).has r).length) (h:=wd r) (λi=>(A<|((Io N).filter λj=>(A j).has r).getD i 0).v r) ⋯ ⋯;have I:=XS (p:=p) (h:=wd r) (w:=((Io N).filter λj=>(A j).has r).length) .L (λi j=>(A<|((Io N).filter λj=>(A j).has r).getD j 0).v r i) (λi=>t<|((Io N).filter λj=>(A j).has r).getD i 0) U.pos ⋯ ⋯ (λi j hi O=>by
  have a2:((Io N).filter λj=>(A j).has r).getD j 0∈(Io N).filter λj=>(A j).has r:=by rw[Iy,Iv O];exact LU _
  obtain⟨h1,h2⟩:=IP.mp a2;have:=hv _ i (Iu.mp h1) (by simpa using h2) hi;omega)
 have e4:(zF (wd r) λi=>zc (λj=>(A<|((Io N).filter λj=>(A j).has r).getD j 0).v r i*t (((Io N).filter λj=>(A j).has r).getD j 0)) ((Io N).filter λj=>(A j).has r).length%p)=zF (wd r) (mxV p A N t r):=xS λi _=>by unfold mxV;rw[qA (λj=>(A j).has r) (λj=>(A j).v r i*t j) N];congr 1;refine zg λj _=>?_;rw[LK]
 rw[e4]at I;have e5:zS (.tp [0,1]) (sB<|zC jR<|zb (zf 1)<|zb (zf 2) zE) (zf 0) [.no,.no,.val (.int r)] ((Io N).map λj=>D.tup [.int (t j),qb wd (A j)])=some (zF ((Io N).filter λj=>(A j).has r).length λi=>t<|((Io N).filter λj=>(A j).has r).getD i 0):=by rw[<- VW];refine jq (λj=>(A j).has r) (λj=>D.int<|t j) _ λj O=>⟨_,rfl,?_,λ_=>rfl⟩;have e:=kM (wd:=wd) (hb j<|Iu.mp O) r;simp[e]
 have a5:r<m+1:=by omega
 have z:=gj (N:=N) (wd:=wd) (t:=t) (A:=A);simp only[dsq]at I;have a6:N<=lim:=by omega
 refine jG<|zv (γ':=[.val (jI p m w wd T),.val<|.lst<|(Io N).map λj=>qb wd<|A j,.val<|.tup<|zF N t,.val<|.int r,.val (.lst<|zF ((Io N).filter λj=>(A j).has r).length λi=>t<|((Io N).filter λj=>(A j).has r).getD i 0)]) ?_ ?_
 ·simp[-Iy,zY,jk,Iw,z,e5,a6]
 ·simp[-Iy,jI,e1,e2,I,a5]
theorem iE(O:Pr p)(hb : ∀j,j<N->(A j).s+(A j).n<=m+1)(U:N<=60)(hm:m<=5)(Y : ∀k,wd k<=60)(hv : ∀j r i,j<N->(A j).has r=true->i<wd r->0<=(A j).v r i/\(A j).v r i<p)(ha:a<N)(t0 : ∀i,i<a->t i=0)(t1:t a≠0) :
 Va [jI p m w wd T,.lst<|(Io N).map λj=>qb wd<|A j,.tup (zF N t)]=some (.val<|qb wd<|mxB p A N t a):=by
 have hl:=jd;have a3:N<=lim:=by omega
 have e0:=kx a3 t ha t0 t1;have ac:=hb a ha;have e1:zS (.nm 0) jA (zC yh<|zb (zf 1)<|zb (zf 2)<|zb (zf 3)<|zb (zH jF (sIx (zh 4)<|zu<|.int 0)<|zf 0) zE) [.no,.val<|jI p m w wd T,.val<|.lst<|(Io N).map λj=>qb wd<|A j,.val<|.tup<|zF N t,.val (qb wd<|A a)] ((Io (A a).n).map λ(i:Nat)=>D.int i)=some (xR wd<|mxB p A N t a):=by
  unfold xR;refine zB _ _ λi hi=>zD rfl rfl ?_;have hi:=Iu.mp hi;have e:=Xk (T:=T) (w:=w) (t:=t) O (λj z=>by have:=hb j z;omega) U hm Y (r:=(A a).s+i) (by have:i<(A a).n:=hi;omega) λj c z hh hc=>hv j _ c z hh hc;have e2:(((A a).s+i:Nat):Int)=((A a).s:Int)+(i:Int):=by omega
  rw[e2]at e;have i0:inR (((A a).s:Int)+(i:Int))=true:=decide_eq_true (by have:i<(A a).n:=hi;omega);simp[e];rfl
 have hn:(A a).n<=lim:=by omega
 have i1:inR ((A a).n:Int)=true:=decide_eq_true ⋯;refine jG<|zv (γ':=[.val (jI p m w wd T),.val<|.lst<|(Io N).map λj=>qb wd<|A j,.val<|.tup<|zF N t,.val<|qb wd<|A a,.no]) ?_ (zv (γ':=[.val (jI p m w wd T),.val<|.lst<|(Io N).map λj=>qb wd<|A j,.val<|.tup<|zF N t,.val<|qb wd<|A a,.val (.lst<|xR wd<|mxB p A N t a)]) ?_ ?_)
 ·simp[zY,Iw,e0,ha]
 ·have I:=e1
  rw[show((Io (A a).n).map λ(i:Nat)=>D.int i)=zF (A a).n λi=>(i:Int)from rfl]at I;simp[jk,qG,i1,hn,I]
 ·have a9:(mxB p A N t a).n<=lim:=hn
  simp[ai,a9];rfl
end
def b1:=(sIf (kf<|sB<|zC QI<|zb (zf 1) zE) wu xc)
def b2:=(jo 3<|zH jF (QV<|zf 1)<|zu<|.int 1)
def b3:=(sIf (kf<|sB<|sM<|jV<|zP (zO<|zh 2) (.nm 0) 1 [3] jA (zC wB<|zb (zf 1)<|zb (zf 0) zE)) wu xc)
def b4:=(jo 4<|qi<|tW<|zh 2)
def b5:=(jo 5<|qi<|zP (jK<|zf 3) (.nm 0) 1 [4] jA (qi<|jB gd<|zb (zf 1)<|zb (zf 0) zE))
def b6:=(jo 6<|z4<|jV<|zP (zO<|zh 5) (.nm 0) 1 [] jA (Zo<|zh 0))
def b7:=(sIf (sB<|zH dGt (sH<|zh 6)<|zu<|.int 30) wu xc)
def b8:=(jo 7<|qi<|zP (Zp<|zf 1) (.tp [0,1]) 2 [5] jA (qh<|zb (zf 1)<|zb (zC Vf<|zb (sIx (zh 2)<|zC XU<|zb (zf 0)<|zb (zf 1) zE)<|zb (sIx (zh 2)<|zC x6<|zb (zf 0)<|zb (zf 1) zE) zE) zE))
def x1:CO Xn:=(xIf (kf (sB (zC QI (zb (zf 1) zE)))) (CD "NoRow") xNo)
def x3:CO Xn:=(xIf (kf (sB (sM (jV (zP (zO (zh 2)) (.nm 0) 1 [3] jA (zC wB (zb (zf 1) (zb (zf 0) zE)))))))) (CD "NoRow") xNo)
def x7:CO Xn:=(xIf (sB (zH dGt (sH (zh 6)) (zu (.int 30)))) (CD "TooMany") xNo)
def uf(m:Nat)(bs:List (Int×Int)):List D:=(Io<|m+1).map λ(r:Nat)=>D.lst<|EN<|mJ bs r
def nF(m:Nat)(bs:List (Int×Int)):List D:=zF (m+1) λr=>((mJ bs r).length:Int)
section
variable{p:Int}{m:Nat}{w:RX}{bs:List (Int×Int)}
abbrev g0(p:Int)(z:Str)(bs:List (Int×Int)):Ctx:=[.val (.int p),.val (.str z),.val (.lst (aK bs)),.no,.no,.no,.no,.no]
abbrev g2(p:Int)(z:Str)(m:Nat)(bs:List (Int×Int)):Ctx:=[.val (.int p),.val (.str z),.val (.lst (aK bs)),.val (.int ((m+1:Nat):Int)),.no,.no,.no,.no]
abbrev g6(p:Int)(z:Str)(m:Nat)(bs:List (Int×Int)):Ctx:=[.val (.int p),.val (.str z),.val (.lst (aK bs)),.val (.int ((m+1:Nat):Int)),.val (.lst (aK (og bs))),.val (.lst (uf m (og bs))),.val (.tup (nF m (og bs))),.no]
end
def rnd(n:Nat)(ks:List Nat)(u:Nat->Int):Nat->Int:=ks.foldl (λu k=>mv n k u) u
def sw(k i:Nat):Nat:=if i=k then k+1 else if i=k+1 then k else i
def itr(n:Nat)(ks:List Nat)(u:Nat->Int):Nat->Nat->Int
 | 0=>u
 | j+1=>rnd n ks<|itr n ks u j
def acc(n:Nat)(ks:List Nat)(u:Nat->Int):Nat->Nat->Int
 | 0=>λ_=>0
 | j+1=>λi=>acc n ks u j i+itr n ks u j i
theorem XB(b:Bool):dEq (.str (qN (wch b))) (.str "r")=some (.bl (!b)):=by cases b<;>kernel_rfl
section
variable{wd:RZ}{N m k r:Nat}{A:Nat->Bar}{p:Int}{w:RX}{T:RV}{B:Nat->Vc}{l:RZ}
theorem V8(l:RZ)(g:Nat->D)(i:Nat) : ∀(L:List Nat),Xw (L.map λj=>D.int ((l j:Nat):Int)) (L.map g) (i:Int)=(L.find? λj=>l j==i).map g
 | []=>rfl
 | j::L=>by
  have z:=V8 l g i L;simp only[IS,Xw,MY];by_cases h:l j=i
  ·simp[h]
  ·have h2 : ¬((l j:Nat):Int)=(i:Int):=by omega
   rw[EQ h2,z];have:(l j==i)=false:=by simpa using h
   rw[this]
theorem KC(l:RZ) : ∀L:List Nat,kX (L.map λj=>D.int ((l j:Nat):Int))=some (L.map λj=>((l j:Nat):Int))
 | []=>rfl
 | j::L=>by simp[kX,KC l L]
theorem ak(hb:IsB p N r B l)(z:r<=lim):rP ((Io r).map λj=>D.int ((l j:Nat):Int)) ((Io r).map λj=>D.tup<|zF N<|B j)=some (.dic ((Io r).map λj=>D.int ((l j:Nat):Int))<|(Io r).map λj=>D.tup<|zF N<|B j):=by unfold rP;rw[KC];dsimp only;rw[RY];refine⟨by simp,?_,by simpa using z⟩;rw[List.nodup_iff_pairwise_ne,NS];refine Oc (λ{a b} ha I h=>?_)<|NR (n:=r);have:=hb.mono a b h<|Iu.mp I;omega
theorem XZ(f g:Nat->D) : ∀L:List Nat,yW (L.map λj=>D.tup [f j,g j])=some (L.map f,L.map g)
 | []=>rfl
 | j::L=>by simp[yW,XZ f g L]
theorem lT(h:k<m):(j1 m w wd T)[k]? = some (xk w wd T k):=by simp[j1,h]
theorem vA(h:k<(j1 m w wd T).length):(j1 m w wd T)[k]=xk w wd T k:=by simp[j1]
theorem xn(w wd T k):jf (xk w wd T k)=some (.T,[.str (qN<|wch<|w k),jn (hiW w wd k) (wiW w wd k) (T k)]):=rfl
theorem YT:xh ((Io N).map λj=>qb wd<|A j)=(Io N).map λ(i:Nat)=>D.tup [.int i,qb wd (A i)]:=by unfold xh;simp only[IQ,Mg];refine IK λi hi=>?_;have hi:=Iu.mp hi;simp[hi]
def sF(p:Int)(w:RX)(wd:RZ)(T:RV)(k:Nat)(u:Vc):Prop:=if w k=true then Span p (wd k) (Fam (wd<|k+1) λj i=>T k i j) u else Ker p (wd<|k+1) (wd k) (T k) u
theorem WI(I:Pr p)(O : ∀k,wd k<=8)(w)(T)(k:Nat) : ∃q g,q<=100/\(∀u,Span p (wd k) (Fam q g) u↔sF p w wd T k u)/\
 (if w k=true then yU [.int p,jn (hiW w wd k) (wiW w wd k) (T k)]=some (.own<|zN q (wd k) g)else kT [.int p,jn (hiW w wd k) (wiW w wd k) (T k)]=some (.own<|zN q (wd k) g)):=by
 have hl:=jd;have hk:=O k;have a2:=O<|k+1;have U : ∀{r n:Nat} {B:Nat->Vc} {l:RZ},IsB p n r B l->r<=n:=λ{r n B l} hb=>by
  have mono : ∀k,k<r->k<=l k:=by
   intro k
   induction k with
   | zero=>intro _;omega
   | succ k ih=>intro hk;have:=ih ⋯;have:=hb.mono k (k+1) ⋯ hk;omega
  cases r with
  | zero=>omega
  | succ Y=>have:=mono Y ⋯;have:=hb.lt Y ⋯;omega
 cases hw:w k with
 | true=>
  have e1:hiW w wd k=wd k:=by unfold hiW;rw[hw];rfl
  have z:wiW w wd k=wd (k+1):=by unfold wiW;rw[hw];rfl
  obtain⟨r,B,l,e,hb,hs⟩:=wt I (h:=wd k) (w:=wd<|k+1) ⋯ ⋯<|T k;refine⟨r,B,by have:=U hb;omega,λu=>by unfold sF;rw[hw,RY rfl];exact hs u,?_⟩;rw[RY rfl,e1,z];exact e
 | false=>
  have e1:hiW w wd k=wd (k+1):=by unfold hiW;rw[hw];rfl
  have z:wiW w wd k=wd k:=by unfold wiW;rw[hw];rfl
  obtain⟨q,K,l,s,e,hb,hs,_⟩:=xI I (h:=wd<|k+1) (w:=wd k) ⋯ ⋯<|T k;refine⟨q,K,by have:=U hb;omega,λu=>by unfold sF;rw[hw,EQ ⋯];exact hs u,?_⟩;rw[EQ ⋯,e1,z];exact e
theorem Yh:Jf=z6 8 (zK sd1<|zK sd2<|zK sd3<|zK sd4<|zK sd5 sd6):=rfl
theorem WL(hp:Pr p)(hb : ∀j,j<N->(A j).s+(A j).n<=m+1)(hk : ∀j,j<N->(A j).has k=true)(a3:k<m)(hN:N<=8)(hm:m<=5)(a1 : ∀k,wd k<=8)(hv : ∀j r i,j<N->(A j).has r=true->i<wd r->0<=(A j).v r i/\(A j).v r i<p) :
 ∃r B l,IsB p N r B l/\(∀t,Span p N (Fam r B) t↔sF p w wd T k (app (λi j=>(A j).v k i) N t))/\
  Jf [jI p m w wd T,.int k,.lst ((Io N).map λj=>qb wd<|A j)]=some (.own<|(Io N).map λi=>qb wd<|stB p A N r B l i):=by
 have hl:=jd;obtain⟨q,g,hq,a9,U⟩:=WI hp a1 w T k;have bb:=a1 k;obtain⟨r,B,l,e1,z,hs⟩:=vG hp (h:=wd k) (w:=N) (q:=q) ⋯ ⋯ hq (λi j=>(A j).v k i) g;refine⟨r,B,l,z,λt=>(hs t).trans (a9 _),?_⟩;have Y:N<=lim:=by omega
 have aa:k<m+1:=by omega
 have rN:r<=N:=by
  have mono : ∀k,k<r->k<=l k:=by
   intro k
   induction k with
   | zero=>intro _;omega
   | succ k ih=>intro hk;have:=ih ⋯;have:=z.mono k (k+1) ⋯ hk;omega
  cases r with
  | zero=>omega
  | succ a4=>have:=mono a4 ⋯;have:=z.lt a4 ⋯;omega
 have a5:r<=lim:=by omega
 have e2:=ZK (wd:=wd) (A:=A) (N:=N) (λj I=>by have:=hb j I;omega) Y k;have ef:((Io N).filter λj=>(A j).has k)=Io N:=List.filter_eq_self.mpr λj I=>hk j<|Iu.mp I;rw[ef]at e2;have e3:=wo (q:=N) (h:=wd k) (λj=>(A j).v k) Y ⋯;have am:ku [.lst ((Io N).map λj=>qb wd<|A j),.int k]=some (.own<|zN N (wd k) λj=>(A j).v k):=e2;have e4:zS (.nm 0) jA (qh<|zb (zC jD<|zb (zf 0) zE)<|zb (zf 0) zE) [.no] (zN r N B)=some ((Io r).map λj=>D.tup [.int ((l j:Nat):Int),.tup (zF N<|B j)]):=by unfold zN;refine zB _ _ λj I=>zD rfl rfl ?_;have I:=Iu.mp I;have e:=kx Y (B j) (z.lt j I) (λi hi=>z.bef j i I hi) (by rw[z.one j I];decide);simp[e]
 have e5:=ak z a5;have e6:=XZ (λj=>D.int ((l j:Nat):Int)) (λj=>D.tup<|zF N<|B j)<|Io r;let ds:D:= .dic ((Io r).map λj=>D.int ((l j:Nat):Int)) ((Io r).map λj=>D.tup<|zF N<|B j);let L:D:= .lst ((Io N).map λj=>qb wd<|A j);have e7:zS (.tp [0,1]) jA (JM (sB<|bN (zf 0)<|zf 4) (zC Va<|zb (zf 2)<|zb (zf 3)<|zb (gM (zf 4)<|zf 0) zE)<|zf 1) [.no,.no,.val<|jI p m w wd T,.val L,.val ds] ((Io N).map λ(i:Nat)=>D.tup [.int i,qb wd (A i)])=some ((Io N).map λi=>qb wd<|stB p A N r B l i):=by
  refine zB _ _ λi hi=>zD rfl rfl ?_;have hi:=Iu.mp hi;have O:=V8 l (λj=>D.tup<|zF N<|B j) i<|Io r;have ax:(Io r).find? (λj=>l j==i)=ldx r l i:=rfl;rw[ax]at O;unfold stB;cases hx:ldx r l i with
  | none=>
   rw[hx]at O;simp[ds,bN,O]
  | some j=>
   rw[hx]at O;obtain⟨h1,h2⟩:=qQ hx;have e:=iE (T:=T) (w:=w) (t:=B j) hp hb ⋯ hm (λk=>by have:=a1 k;omega) hv (a:=i) hi (λc hc=>z.bef j c h1 ⋯) (by rw[<- h2,z.one j h1];decide);simp[ds,bN,gM,O,L,e]
 rw[Yh];refine jG (zv (γ':=[.val (jI p m w wd T),.val<|.int k,.val L,.val<|.str<|qN<|wch<|w k,.no,.no,.no,.no]) ?_
  (zv (γ':=[.val (jI p m w wd T),.val<|.int k,.val L,.val<|.str<|qN<|wch<|w k,.val<|jn (hiW w wd k) (wiW w wd k)<|T k,.no,.no,.no]) ?_
  (zv (γ':=[.val (jI p m w wd T),.val<|.int k,.val L,.val<|.str<|qN<|wch<|w k,.val<|jn (hiW w wd k) (wiW w wd k)<|T k,.val<|.lst<|zN q (wd k) g,.no,.no]) ?_
  (zv (γ':=[.val (jI p m w wd T),.val<|.int k,.val L,.val<|.str<|qN<|wch<|w k,.val<|jn (hiW w wd k) (wiW w wd k)<|T k,.val<|.lst<|zN q (wd k) g,.val<|.lst<|zN r N B,.no]) ?_
  (zv (γ':=[.val (jI p m w wd T),.val<|.int k,.val L,.val<|.str<|qN<|wch<|w k,.val<|jn (hiW w wd k) (wiW w wd k)<|T k,.val<|.lst<|zN q (wd k) g,.val<|.lst<|zN r N B,.val ds]) ?_ ?_)))))
 ·simp[sd1,zY,Iw,jU,xn,vA,a3];rfl
 ·simp[sd2,jU,xn,vA,a3]
 ·cases hw:w k with
  | true=>
   rw[hw,RY rfl]at U;have eq:=XB true;simp[sd3,jU,eq,U]
  | false=>
   rw[hw,EQ ⋯]at U;have eq:=XB false;simp[sd3,jU,eq,U]
 ·simp[sd4,jU,aa,L,am,e3,e1]
 ·simp[sd5,jk,e4,a5,e6,e5];rfl
 ·simp[sd6,jk,L,YT,Y,e7]
end
def oD(n:Nat):Option Vc->D
 | none=> .non
 | some y=> .tup (zF n y)
theorem WK(U:Pr p)(Y:h<=90)(hw:w<=90)(f:RK)(b:Vc)(O : ∀i,i<h->0<=b i/\b i<p) :
 ∃o:Option Vc,vE [.int p,jn h w f,.tup (zF h b)]=some (.val<|oD w o)/\(∀x,o=some x->(∀j,0<=x j/\x j<p)/\∀i,i<h->app f w x i%p=b i%p)/\(o=none->¬∃y:Vc,∀i,i<h->app f w y i%p=b i%p):=by
 have bm : ∀i,i<h->b i%p=b i:=λi hi=>Lh (O i hi).1 (O i hi).2;by_cases I : ∃y:Vc,∀i,i<h->app f w y i%p=b i%p
 ·obtain⟨y,I⟩:=I
  obtain⟨x,e,h1,h2⟩:=gD U Y hw f b y O λi hi=>by rw[<- bm i hi,<- I i hi];rfl
  refine⟨some x,e,λx' e'=>?_,λz=>by cases z⟩;cases e';exact⟨h1,λi hi=>by rw[bm i hi];exact h2 i hi⟩
 ·obtain⟨r,B,l,s,hb,a4,hs,s1,s2,a1⟩:=Je U Y hw f b
  have a2:s<r:=by
   refine LS λa2=>I ?_;have er:s=r:=by omega
   subst er;refine⟨Y6 w B l s,λi hi=>?_⟩;have co:=wm hb ((a4<|aug w f b i).mpr (.gen ⟨i,hi,rfl⟩)) w ⋯;have a5:aug w f b i w=b i:=by simp[aug]
   rw[a5]at co;rw[co];congr 1;unfold app Y6;rw[zg (g:=λj=>zc (λk=>f i j*(if l k=j then B k w else 0)) s) λj _=>(zV _ _ _).symm,jw];refine zg λk hk=>?_;rw[zI (i:=l k) (s1 k hk) λj hj a6=>by rw[EQ (Ly a6)];simp,RY rfl];simp only[aug,RY (s1 k hk)]
  rw[RY a2]at a1;exact⟨none,a1,nofun,λ_=>I⟩
section
variable{wd:RZ}{m k:Nat}{p:Int}{w:RX}{T:RV}
theorem iD:xH=z6 4 (zK nl1<|zK nl2 nl3):=rfl
theorem XC(b:Bool):dEq (.str (qN (wch b))) (.str "l")=some (.bl b):=by cases b<;>kernel_rfl
theorem Kr(I:Pr p)(a3 : ∀k,wd k<=8)(hT : ∀i j,i<hiW w wd k->j<wiW w wd k->0<=T k i j/\T k i j<p)(u:Vc)(hu : ∀i,i<wd k->0<=u i/\u i<p) :
 ∃o:Option Vc,xH [.int p,xk w wd T k,.tup (zF (wd k) u)]=some (.val<|oD (wd<|k+1) o)/\(∀y,o=some y->∀c,c<wd (k+1)->0<=y c/\y c<p)/\
  (w k=false->(o=none->∀c,c<wd (k+1)->app (T k) (wd k) u c%p=0)/\∀y,o=some y->(∀c,c<wd (k+1)->app (T k) (wd k) u c%p=y c%p)/\∃c,c<wd (k+1)/\y c%p≠0)/\
  (w k=true->(o=none->¬∃y:Vc,∀c,c<wd k->app (T k) (wd<|k+1) y c%p=u c%p)/\∀y,o=some y->∀c,c<wd k->app (T k) (wd<|k+1) y c%p=u c%p):=by
 have hl:=jd;have p7:=I.le;have hk:=a3 k;have aa:=a3<|k+1;rw[iD];cases hw:w k with
 | true=>
  have e1:hiW w wd k=wd k:=by unfold hiW;rw[hw];rfl
  have O:wiW w wd k=wd (k+1):=by unfold wiW;rw[hw];rfl
  obtain⟨o,eo,h1,h2⟩:=WK I (h:=wd k) (w:=wd<|k+1) ⋯ ⋯ (T k) u hu;refine⟨o,?_,λy e c _=>(h1 y e).1 c,nofun,λ_=>⟨h2,λy e=>(h1 y e).2⟩⟩;refine jG ?_;have U:=XC true;have es:nl1 (zY 4 [.int p,xk w wd T k,.tup (zF (wd k) u)])=some (.ret<|.val<|oD (wd<|k+1) o):=by simp[nl1,zY,Iw,xn,hw,U,e1,O,eo]
  rw[jj,es];rfl
 | false=>
  have e1:hiW w wd k=wd (k+1):=by unfold hiW;rw[hw];rfl
  have O:wiW w wd k=wd k:=by unfold wiW;rw[hw];rfl
  rw[e1,O]at hT;have Y:=XS (p:=p) (h:=wd<|k+1) (w:=wd k) .T (T k) u I.pos ⋯ ⋯ λi j hi hj=>by have:=hT i j hi hj;omega
  simp only[dsq]at Y;have U:=XC false;have tv:=Vp (λi=>zc (λj=>T k i j*u j) (wd k)%p)<|wd<|k+1;by_cases hz : ∃c,c<wd (k+1)/\zc (λj=>T k c j*u j) (wd k)%p≠0
  ·refine⟨some λi=>zc (λj=>T k i j*u j) (wd k)%p,?_,(λy e c _=>by cases e;exact⟨Le _ (by have:=I.pos;omega),IU _ I.pos⟩),λ_=>⟨nofun,(λy e=>by cases e;exact⟨(λc _=>by rw[Lb];rfl),(by obtain⟨c,h1,h2⟩:=hz;exact⟨c,h1,(by rw[Lb];exact h2)⟩)⟩)⟩,nofun⟩
   refine jG<|zv (γ':=[.val (.int p),.val<|xk w wd T k,.val<|.tup<|zF (wd k) u,.no]) ?_ (zv (γ':=[.val (.int p),.val<|xk w wd T k,.val<|.tup<|zF (wd k) u,.val (.tup<|zF (wd<|k+1) λi=>zc (λj=>T k i j*u j) (wd k)%p)]) ?_ ?_)
   ·simp[nl1,zY,Iw,xn,hw,U]
   ·simp[nl2,xn,e1,O,Y]
   ·have a0:(Io<|wd<|k+1).any (λi=>(zc (λj=>T k i j*u j) (wd k)%p) != 0)=true:=by
     obtain⟨c,h1,h2⟩:=hz;exact List.any_eq_true.mpr ⟨c,Iu.mpr h1,by simpa using h2⟩
    have ea:sJ (zh 3) [.val (.int p),.val<|xk w wd T k,.val<|.tup<|zF (wd k) u,.val (.tup<|zF (wd<|k+1) λi=>zc (λj=>T k i j*u j) (wd k)%p)]=some (.bl true):=by show((QP _).map λs=>D.bl<|s.any id)=_;rw[tv];show some (D.bl<|((Io<|wd<|k+1).map λi=>(zc (λj=>T k i j*u j) (wd k)%p) != 0).any id)=_;rw[List.any_map];rw[show(id∘λi=>(zc (λj=>T k i j*u j) (wd k)%p) != 0)=λi=>(zc (λj=>T k i j*u j) (wd k)%p) != 0 from rfl,a0]
    unfold nl3;simp only[fT,nA,Hb,ea];rfl
  ·refine⟨none,?_,nofun,λ_=>⟨λ_ c hc=>LS λz=>hz ⟨c,hc,z⟩,nofun⟩,nofun⟩
   refine jG<|zv (γ':=[.val (.int p),.val<|xk w wd T k,.val<|.tup<|zF (wd k) u,.no]) ?_ (zv (γ':=[.val (.int p),.val<|xk w wd T k,.val<|.tup<|zF (wd k) u,.val (.tup<|zF (wd<|k+1) λi=>zc (λj=>T k i j*u j) (wd k)%p)]) ?_ ?_)
   ·simp[nl1,zY,Iw,xn,hw,U]
   ·simp[nl2,xn,e1,O,Y]
   ·have a0:(Io<|wd<|k+1).any (λi=>(zc (λj=>T k i j*u j) (wd k)%p) != 0)=false:=OJ.mpr λc hc z=>hz ⟨c,Iu.mp hc,by simpa using z⟩
    have ea:sJ (zh 3) [.val (.int p),.val<|xk w wd T k,.val<|.tup<|zF (wd k) u,.val (.tup<|zF (wd<|k+1) λi=>zc (λj=>T k i j*u j) (wd k)%p)]=some (.bl false):=by show((QP _).map λs=>D.bl<|s.any id)=_;rw[tv];show some (D.bl<|((Io<|wd<|k+1).map λi=>(zc (λj=>T k i j*u j) (wd k)%p) != 0).any id)=_;rw[List.any_map];rw[show(id∘λi=>(zc (λj=>T k i j*u j) (wd k)%p) != 0)=λi=>(zc (λj=>T k i j*u j) (wd k)%p) != 0 from rfl,a0]
    unfold nl3;simp only[fT,nA,Hb,ea];rfl
end
section
variable{wd:RZ}{m k:Nat}{p:Int}{w:RX}{T:RV}
theorem iV(h:1<=n):ixD n (-1)=some (n - 1):=by unfold ixD;rw[EQ ⋯,RY ⋯];congr 1;omega
theorem de(he:b.s+b.n=k+1)(y:Vc):xR wd (exB k b<|some y)=xR wd b++[D.tup (zF (wd<|k+1) y)]:=by
 unfold xR exB;dsimp only;rw[Me,Lx];congr 1
 ·refine IK λi hi=>?_
  have hi:=Iu.mp hi;rw[EQ ⋯]
 ·simp[he]
theorem bw:yt=z6 4 (zK tk1 tk2):=rfl
theorem gx(h1:1<=b.n)(he:b.s+b.n=k+1)(Y:k<=20)(e:xH [.int p,xk w wd T k,.tup (zF (wd k)<|b.v k)]=some (.val<|oD (wd<|k+1) o)) :
 yt [.int p,xk w wd T k,qb wd b]=some (.val<|qb wd<|exB k b o):=by
 have hl:=jd;have I:=iV h1;have z:=VY (wd:=wd) (b:=b) (i:=b.n - 1) ⋯;rw[show b.s+(b.n - 1)=k by omega]at z;have a2:b.n - 1<b.n:=by omega
 rw[bw];refine jG<|zv (γ':=[.val (.int p),.val<|xk w wd T k,.val<|qb wd b,.val (oD (wd<|k+1) o)]) ?_ ?_
 ·unfold tk1
  have es:sIx (zG<|sIx (zh 2)<|zu<|.int 1) (ua<|zu<|.int 1) (zY 4 [.int p,xk w wd T k,qb wd b])=some (.tup<|zF (wd k)<|b.v k):=by have O : ∀γ:Ctx,ua (zu<|.int 1) γ=some (.int (-1)):=λ_=>rfl;simp[zY,Iw,I,O];exact z
  simp only[K6,wq,ye,wA,es];simp[zY,Iw,e]
 ·cases o with
  | none=>simp[tk2,oD,Ft,exB]
  | some y=>
   have hn:b.n+1<=lim:=by omega
   have U:=de (wd:=wd) he y;simp[tk2,oD,Ft,hn,jF];unfold qb;rw[U];rfl
def fX(p:Int)(w:RX)(wd:RZ)(T:RV)(k:Nat)(L:List Vc):Prop:=
 if w k=true then ∃q K l s,L=(Io q).map K/\IsB p (wd<|k+1) q K l/\(∀v,Span p (wd<|k+1) (Fam q K) v↔Ker p (wd k) (wd<|k+1) (T k) v)/\Rk p (wd k) (wd<|k+1) (λj i=>T k i j) s/\q+s=wd (k+1)
 else ∃r B l,IsB p (wd<|k+1) r B l/\(∀v,Span p (wd<|k+1) (Fam r B) v↔Span p (wd<|k+1) (Fam (wd k) λj i=>T k i j) v)/\L=((Io<|wd<|k+1).filter λ(c:Nat)=> !decide ((c:Int)∈(Io r).map λj=>((l j:Nat):Int))).map ja
theorem pK:yT=z6 3 (zK nw1<|zK nw2 nw3):=rfl
theorem v9(l:RZ) : ∀L:List Nat,Jy (L.map λj=>D.int ((l j:Nat):Int))=some (L.map λj=>((l j:Nat):Int))
 | []=>rfl
 | j::L=>by simp[Jy,v9 l L]
theorem yK(hb:IsB p n r B l):r<=n:=by
 have mono : ∀k,k<r->k<=l k:=by
  intro k
  induction k with
  | zero=>intro _;omega
  | succ k I=>intro hk;have:=I ⋯;have:=hb.mono k (k+1) ⋯ hk;omega
 cases r with
 | zero=>omega
 | succ z=>have:=mono z ⋯;have:=hb.lt z ⋯;omega
theorem eB(n:Nat):xh (zN n n λi j=>if i=j then 1 else 0)=(Io n).map λ(i:Nat)=>D.tup [.int i,.tup (zF n<|ja i)]:=by unfold xh zN;simp only[IQ,Mg];refine IK λi hi=>?_;have hi:=Iu.mp hi;simp[hi];rfl
theorem Ks(Y:Pr p)(a0 : ∀k,wd k<=8) : ∃L:List Vc,fX p w wd T k L/\yT [.int p,xk w wd T k]=some (.own<|L.map λy=>D.tup<|zF (wd<|k+1) y):=by
 have hl:=jd;have hk:=a0 k;have am:=a0<|k+1;rw[pK];unfold fX;cases hw:w k with
 | true=>
  have e1:hiW w wd k=wd k:=by unfold hiW;rw[hw];rfl
  have I:wiW w wd k=wd (k+1):=by unfold wiW;rw[hw];rfl
  obtain⟨q,K,l,s,e,hb,hs,hr,a5⟩:=xI Y (h:=wd k) (w:=wd<|k+1) ⋯ ⋯<|T k;refine⟨(Io q).map K,by rw[RY rfl];exact⟨q,K,l,s,rfl,hb,hs,hr,a5⟩,jG ?_⟩;have O:=XC true;have es:nw1 (zY 3 [.int p,xk w wd T k])=some (.ret<|.own<|zN q (wd<|k+1) K):=by simp[nw1,zY,Iw,xn,hw,O,e1,I,e]
  rw[jj,es,LA];rfl
 | false=>
  have e1:hiW w wd k=wd (k+1):=by unfold hiW;rw[hw];rfl
  have I:wiW w wd k=wd k:=by unfold wiW;rw[hw];rfl
  obtain⟨r,B,l,e,hb,hs⟩:=wt Y (h:=wd<|k+1) (w:=wd k) ⋯ ⋯<|T k;have rn:=yK hb;have a6:r<=lim:=by omega
  have U:wd (k+1)<=lim:=by omega
  refine⟨_,by rw[EQ ⋯];exact⟨r,B,l,hb,hs,rfl⟩,?_⟩;have O:=XC false;have e4:zS (.nm 0) jA (zC jD<|zb (zf 0) zE) [.no] (zN r (wd<|k+1) B)=some ((Io r).map λj=>D.int ((l j:Nat):Int)):=by unfold zN;refine zB _ _ λj z=>zD rfl rfl ?_;have z:=Iu.mp z;have e:=kx U (B j) (hb.lt j z) (λi hi=>hb.bef j i z hi) (by rw[hb.one j z];decide);simp[e]
  have e5:zS (.tp [0,1]) (sB<|vT (zf 0)<|zh 2) (zf 1) [.no,.no,.val (.lst<|(Io r).map λj=>D.int ((l j:Nat):Int))] ((Io<|wd<|k+1).map λ(i:Nat)=>D.tup [.int i,.tup (zF (wd<|k+1)<|ja i)]) =
   some (((Io<|wd<|k+1).filter λ(c:Nat)=> !decide ((c:Int)∈(Io r).map λj=>((l j:Nat):Int))).map λ(i:Nat)=>D.tup<|zF (wd<|k+1)<|ja i):=by
   refine jq (λ(c:Nat)=> !decide ((c:Int)∈(Io r).map λj=>((l j:Nat):Int))) (λ(i:Nat)=>D.tup<|zF (wd<|k+1)<|ja i) _ λi hi=>⟨_,rfl,?_,λ_=>rfl⟩;have im:=v9 l<|Io r;show(vT (zf 0) (zh 2) [.val (.int i),_,.val (.lst<|(Io r).map λj=>D.int ((l j:Nat):Int))]).bind asB=_;show((Jy<|(Io r).map λj=>D.int ((l j:Nat):Int)).map λl=>D.bl<|!decide ((i:Int)∈l)).bind asB=_;rw[im];rfl
  have es:=ko (n:=wd<|k+1) U;refine jG<|zv (γ':=[.val (.int p),.val<|xk w wd T k,.no]) ?_ (zv (γ':=[.val (.int p),.val<|xk w wd T k,.val (.lst<|(Io r).map λj=>D.int ((l j:Nat):Int))]) ?_ ?_)
  ·simp[nw1,zY,Iw,xn,hw,O]
  ·simp[nw2,jk,xn,e1,I,e,a6,e4]
  ·have a1:jf (jn (hiW w wd k) (wiW w wd k)<|T k)=some (.T,[.int (wd (k+1):Nat),.int (wd k:Nat),.tup (zN (wd<|k+1) (wd k)<|T k)]):=by rw[e1,I];rfl
   have a2:jf (jn (wd<|k+1) (wd<|k+1) λi j=>if i=j then 1 else 0)=some (.T,[.int (wd (k+1):Nat),.int (wd (k+1):Nat),.tup (zN (wd<|k+1) (wd<|k+1) λi j=>if i=j then 1 else 0)]):=rfl;have a3:=eB<|wd<|k+1;simp[nw3,jk,xn,a1,es,a2,a3,U];rw[e5];exact congrArg some (congrArg (List.map _)<|MZ λc _=>by simp)
end
section
variable{wd:RZ}{m k r N:Nat}{p:Int}{w:RX}{T:RV}{B:Nat->Vc}{l:RZ}{A:Nat->Bar}
theorem mW(hb:IsB p N r B l){j:Nat}(z:j<r):ldx r l (l j)=some j:=by
 cases h:ldx r l (l j)with
 | none=>exact absurd rfl<|wO h j z
 | some i=>
  obtain⟨h1,h2⟩:=qQ h;rw[VT hb.mono h1 z h2]
theorem YG{a b:List Nat}(ha:a.Nodup)(hb:b.Nodup)(h : ∀x,x∈a↔x∈b):a.length=b.length:=((List.perm_ext_iff_of_nodup ha hb).mpr h).length_eq
theorem XG(hb:IsB p N r B l):(Io N).countP (λi=>(ldx r l i).isSome)=r:=by
 rw[Lf];have e:((Io N).filter λi=>(ldx r l i).isSome).length=((Io r).map l).length:=by
  refine YG (NB.sublist Nh) ?_ λx=>?_
  ·rw[List.nodup_iff_pairwise_ne,NS]
   refine Oc (λ{a b} ha z h=>?_)<|NR (n:=r);have:=hb.mono a b h<|Iu.mp z;omega
  ·rw[IP,La]
   constructor
   ·rintro⟨h1,h2⟩
    obtain⟨j,I⟩:=Mt.mp h2;obtain⟨O,U⟩:=qQ I;exact⟨j,Iu.mpr O,U⟩
   ·rintro⟨j,h1,h2⟩
    have h1:=Iu.mp h1;subst h2;exact⟨Iu.mpr<|hb.lt j h1,by rw[mW hb h1];rfl⟩
 rw[e];simp
theorem fg(q:RX)(N:Nat):(Io N).countP q+(Io N).countP (λi=> !q i)=N:=by
 have:=PP q (l:=Io N);rw[Mg]at this;rw[this];congr 1
 ·rw[<- this]
 ·rw[<- this]
  exact MK λi _=>by simp
theorem EO(hk : ∀j,j<N->(A j).has k=true)(t:Vc)(c:Nat):mxV p A N t k c%p=app (λi j=>(A j).v k i) N t c%p:=by unfold mxV app;rw[Lb];congr 1;exact zg λj z=>by rw[RY (hk j z),LK]
theorem vP(hk : ∀j,j<N->(A j).has k=true)(h:ldx r l i=some j)(c:Nat):(stB p A N r B l i).v k c%p=app (λi j=>(A j).v k i) N (B j) c%p:=by unfold stB;rw[h];exact EO hk (B j) c
theorem QQ(h:ldx r l i=none):stB p A N r B l i=A i:=by unfold stB;rw[h]
theorem aw(hp:Pr p)(a3 : ∀k,wd k<=8)(hk : ∀j,j<wd k->(A j).has k=true)(hs : ∀v:Vc,∃t,∀i,i<wd k->v i%p=app (λi j=>(A j).v k i) (wd k) t i%p)
 (hb:IsB p (wd k) r B l) (hW : ∀t,Span p (wd k) (Fam r B) t↔sF p w wd T k (app (λi j=>(A j).v k i) (wd k) t)) {a0:List Vc} (hn:fX p w wd T k a0) {nx:Nat->Option Vc}
 (hr : ∀i,i<wd k->w k=false->(nx i=none->∀c,c<wd (k+1)->app (T k) (wd k) ((stB p A (wd k) r B l i).v k) c%p=0)/\∀y,nx i=some y->(∀c,c<wd (k+1)->app (T k) (wd k) ((stB p A (wd k) r B l i).v k) c%p=y c%p)/\∃c,c<wd (k+1)/\y c%p≠0)
 (hl : ∀i,i<wd k->w k=true->(nx i=none->¬∃y:Vc,∀c,c<wd k->app (T k) (wd<|k+1) y c%p=(stB p A (wd k) r B l i).v k c%p)/\∀y,nx i=some y->∀c,c<wd k->app (T k) (wd<|k+1) y c%p=(stB p A (wd k) r B l i).v k c%p) :
 (∀y,y∈a0->∀c,c<wd (k+1)->0<=y c/\y c<p)/\(∀y,y∈a0->w k=true->∀c,c<wd k->app (T k) (wd<|k+1) y c%p=0)/\
   (∀v,Span p (wd<|k+1) (λg=>(∃i,i<wd k/\nx i=some g)\/g∈a0) v)/\(Io<|wd k).countP (λi=>(nx i).isSome)+a0.length=wd (k+1):=by
 have two:=hp.two;cases hw:w k with
 | false=>
  have a7 : ∀t,Span p (wd k) (Fam r B) t↔Ker p (wd<|k+1) (wd k) (T k) (app (λi j=>(A j).v k i) (wd k) t):=λt=>by have:=hW t;unfold sF at this;rw[hw,EQ ⋯]at this;exact this
  unfold fX at hn;rw[hw,EQ ⋯]at hn;obtain⟨r2,B2,l2,ag,hI,U⟩:=hn;obtain⟨g1,g2,g3,g4⟩:=tF hp (a3 k) (a3<|k+1) hs hb a7 ag hI;have as : ∀c,c<wd (k+1)->(∀j,j<r2->l2 j≠c)->ja c∈a0:=λc O hn=>by rw[U];refine La.mpr ⟨c,IP.mpr ⟨Iu.mpr O,?_⟩,rfl⟩;simp only[MM,decide_eq_false_iff_not,La,Iu];rintro⟨j,h1,h2⟩;exact hn j h1 ⋯
  have on : ∀i,i<wd k->(nx i).isSome=(ldx r l i).isNone:=λi hi=>by
   cases hx:ldx r l i with
   | none=>
    obtain⟨c,h1,h2⟩:=g2 i hi<|wO hx;cases I:nx i with
    | some y=>rfl
    | none=>
     have:=(hr i hi hw).1 I c h1;rw[QQ hx]at this;exact absurd this h2
   | some j=>
    obtain⟨h1,h2⟩:=qQ hx;cases I:nx i with
    | none=>rfl
    | some y=>
     obtain⟨e,c,h3,h4⟩:=(hr i hi hw).2 y I;have z:=g1 j h1 c h3;rw[<- j3 (λa _=>vP (B:=B) (r:=r) (l:=l) hk hx a) c,e c h3]at z;exact absurd z h4
  refine⟨λy I c O=>?_,(λy I z=>by cases z),λv=>g4 _ (λc O aa=>?_) (λc O aa=> .gen (.inr<|as c O aa)) v,?_⟩
  ·rw[U]at I
   obtain⟨i,_,rfl⟩:=La.mp I;unfold ja;split<;>omega
  ·have hx:ldx r l c=none:=by
    cases hx:ldx r l c with
    | none=>rfl
    | some j=>exact absurd (qQ hx).2 (aa j (qQ hx).1)
   have a2:=on c O;rw[hx]at a2;obtain⟨y,I⟩:=Mt.mp a2;refine(Span.gen<|.inl ⟨c,O,I⟩).congr λi hi=>?_;have:=((hr c O hw).2 y I).1 i hi;rw[QQ hx]at this;exact this
  ·have e1:(Io<|wd k).countP (λi=>(nx i).isSome)=(Io<|wd k).countP λi=> !(ldx r l i).isSome:=MK λi hi=>by
    rw[on i (Iu.mp hi)];cases ldx r l i<;>simp
   have e2:=fg (λi=>(ldx r l i).isSome)<|wd k;rw[XG hb]at e2;have e3:=fg (λi=>(ldx r2 l2 i).isSome)<|wd<|k+1;rw[XG ag]at e3;have e4:a0.length=(Io<|wd<|k+1).countP λi=> !(ldx r2 l2 i).isSome:=by
    rw[U,IQ,<- Lf];refine MK λi hi=>?_;cases hx:ldx r2 l2 i with
    | none=>
     have:=wO hx;simp only[MM,decide_eq_false_iff_not,La,Iu];constructor
     ·intro _;rfl
     ·rintro _ ⟨j,h1,h2⟩
      exact this j h1 ⋯
    | some j=>
     obtain⟨h1,h2⟩:=qQ hx;simp only[MM,decide_eq_false_iff_not,La,Iu];constructor
     ·intro z;exact absurd ⟨j,h1,by rw[h2]⟩ z
     ·intro z;cases z
   rw[e1,e4];omega
 | true=>
  have a7 : ∀t,Span p (wd k) (Fam r B) t↔Span p (wd k) (Fam (wd<|k+1) λj i=>T k i j) (app (λi j=>(A j).v k i) (wd k) t):=λt=>by have:=hW t;unfold sF at this;rw[hw,RY rfl]at this;exact this
  unfold fX at hn;rw[hw,RY rfl]at hn;obtain⟨q,K,lK,s,U,bd,an,be,bg⟩:=hn;obtain⟨g1,g2,g3,g4⟩:=tG hp (a3 k) (a3<|k+1) hs hb a7 an be bg;have on : ∀i,i<wd k->(nx i).isSome=(ldx r l i).isSome:=λi hi=>by
   cases hx:ldx r l i with
   | none=>
    cases I:nx i with
    | none=>rfl
    | some y=>
     have:=(hl i hi hw).2 y I;rw[QQ hx]at this;exact absurd ⟨y,this⟩<|g2 i hi<|wO hx
   | some j=>
    obtain⟨h1,h2⟩:=qQ hx;cases I:nx i with
    | some y=>rfl
    | none=>
     obtain⟨y,bi⟩:=g1 j h1;exact absurd ⟨y,λc O=>by rw[bi c O,vP hk hx c]⟩<|(hl i hi hw).1 I
  refine⟨λy I c O=>?_,λy I _ c O=>?_,λv=>g4 _ (λj=>(nx<|l j).getD λ_=>0) (λj Y=>?_) (λj Y=>?_) v,?_⟩
  ·rw[U]at I
   obtain⟨j,Y,rfl⟩:=La.mp I;exact bd.rng j c (Iu.mp Y) O
  ·rw[U]at I
   obtain⟨j,Y,rfl⟩:=La.mp I;exact(an<|K j).mp (.gen ⟨j,Iu.mp Y,rfl⟩) c O
  ·have hx:=mW hb Y
   have ac:=hb.lt j Y;have a2:=on (l j) ac;rw[hx]at a2;obtain⟨y,I⟩:=Mt.mp a2;rw[I];refine⟨.gen<|.inl ⟨l j,ac,I⟩,λc O=>?_⟩;have:=(hl (l j) ac hw).2 y I c O;rw[vP hk hx c]at this;exact this
  ·refine .gen (.inr ?_)
   rw[U];exact La.mpr ⟨j,Iu.mpr Y,rfl⟩
  ·have e1:(Io<|wd k).countP (λi=>(nx i).isSome)=(Io<|wd k).countP λi=>(ldx r l i).isSome:=MK λi hi=>by
    rw[on i (Iu.mp hi)]
   rw[e1,XG hb,U,IQ,Mg];omega
end
section
variable{wd:RZ}{m k:Nat}{p:Int}{w:RX}{T:RV}
theorem dU:XT=z6 9 (zK gr1<|zK gr2<|zK gr3<|zK gr4<|zK gr5<|zK gr6 gr7):=rfl
theorem EK(y:Vc):qb wd (nuB k y) = .tup [.int ((k:Int)+1),.tup [.tup (zF (wd<|k+1) y)]]:=by unfold qb nuB xR;simp
theorem lh(hp:Pr p)(O : ∀k,wd k<=8)(hm:m<=5)(ac:k<m)(hT : ∀i j,i<hiW w wd k->j<wiW w wd k->0<=T k i j/\T k i j<p){bars:List Bar}(I:BrInv p w wd T k bars)(as:bars.length<=100) :
 ∃a6,BrInv p w wd T (k+1) a6/\a6.length<=bars.length+8/\XT [jI p m w wd T,.int k,.lst (bars.map<|qb wd)]=some (.val<|.lst<|a6.map<|qb wd):=by
 have hl:=jd;have p0:=hp.pos;have ag:bars.length<=lim:=by omega
 have a7:(bars.filter λb=>b.has k).length=wd k:=by rw[<- Lf];exact I.ct k<|IC _
 let A:Nat->Bar:=λj=>(bars.filter λb=>b.has k).getD j aT;have eA:(bars.filter λb=>b.has k)=(Io<|wd k).map A:=by rw[<- a7];exact(jL aT _).symm
 have mA : ∀j,j<wd k->A j∈bars/\(A j).has k=true:=λj U=>by
  have:A j∈bars.filter λb=>b.has k:=by show(bars.filter λb=>b.has k).getD j aT∈_;rw[Iy,Iv ⋯];exact LU _
  have:=IP.mp this;exact⟨this.1,by simpa using this.2⟩
 have a8 : ∀j,j<wd k->BarOk p w wd T k (A j):=λj U=>I.ok _ (mA j U).1;have hO : ∀i c,i<c->c<wd k->Ord w (A i) (A c):=λi c h1 h2=>by have:=MS.mp I.od i c ⋯ ⋯ h1;show Ord w ((bars.filter λb=>b.has k).getD i aT) ((bars.filter λb=>b.has k).getD c aT);rw[Iy,Iv ⋯,Iy,Iv ⋯];exact this
 have a5 : ∀j,j<wd k->(A j).has k=true:=λj U=>(mA j U).2;obtain⟨r,B,l,hB,hW,eS⟩:=WL (T:=T) (w:=w) (A:=A) (N:=wd k) (k:=k) hp (λj U=>by have:=(a8 j U).le;omega) a5 ac (O k) hm O λj rm i U hh hi=>(a8 j U).rng rm i hh hi;have okS : ∀i,i<wd k->BarOk p w wd T k (stB p A (wd k) r B l i):=λi hi=>mh p0 hB a8 a5 hO hi;have an : ∀i,i<wd k->(stB p A (wd k) r B l i).has k=true:=λi hi=>by rw[Yf];exact a5 i hi
 have ex : ∀i,∃o:Option Vc,i<wd k->(xH [.int p,xk w wd T k,.tup (zF (wd k)<|(stB p A (wd k) r B l i).v k)]=some (.val<|oD (wd<|k+1) o)/\(∀y,o=some y->∀c,c<wd (k+1)->0<=y c/\y c<p)/\
  (w k=false->(o=none->∀c,c<wd (k+1)->app (T k) (wd k) ((stB p A (wd k) r B l i).v k) c%p=0)/\∀y,o=some y->(∀c,c<wd (k+1)->app (T k) (wd k) ((stB p A (wd k) r B l i).v k) c%p=y c%p)/\∃c,c<wd (k+1)/\y c%p≠0)/\
  (w k=true->(o=none->¬∃y:Vc,∀c,c<wd k->app (T k) (wd<|k+1) y c%p=(stB p A (wd k) r B l i).v k c%p)/\∀y,o=some y->∀c,c<wd k->app (T k) (wd<|k+1) y c%p=(stB p A (wd k) r B l i).v k c%p)):=λi=>by
  by_cases hi:i<wd k
  ·obtain⟨o,h⟩:=Kr (T:=T) (w:=w) (k:=k) hp O hT ((stB p A (wd k) r B l i).v k) λc hc=>(okS i hi).rng k c (an i hi) hc
   exact⟨o,λ_=>h⟩
  ·exact⟨none,λz=>absurd z hi⟩
 obtain⟨nx,a0⟩:=NC ex;obtain⟨Y,hN,eN⟩:=Ks (T:=T) (w:=w) (k:=k) hp O;have hs : ∀v:Vc,∃t,∀i,i<wd k->v i%p=app (λi j=>(A j).v k i) (wd k) t i%p:=λv=>by
  have hv:Span p (wd k) (Fam (wd k) λj=>(A j).v k) v:=(I.sp k (IC _) v).le λg hg=>by obtain⟨b,h1,h2,rfl⟩:=hg;have ap:b∈bars.filter λb=>b.has k:=IP.mpr ⟨h1,by simpa using h2⟩;rw[eA]at ap;obtain⟨j,U,rfl⟩:=La.mp ap;exact .gen ⟨j,Iu.mp U,rfl⟩
  obtain⟨t,ht⟩:=kc hv;exact⟨t,λi hi=>by rw[ht i hi];unfold app;rw[qB]⟩
 obtain⟨f1,f2,f3,f4⟩:=aw (T:=T) (w:=w) (A:=A) hp O a5 hs hB hW hN (nx:=nx) (λi hi=>(a0 i hi).2.2.1) λi hi=>(a0 i hi).2.2.2;refine⟨yE p k w bars A (wd k) r B l nx Y,dS p0 I a7 (λ_=>rfl) hB (λi y hi e=>(a0 i hi).2.1 y e) f1 (λi hi e hw=>((a0 i hi).2.2.1 hw).1 e) (λi y hi e hw=>(((a0 i hi).2.2.1 hw).2 y e).1) (λi y hi e hw=>((a0 i hi).2.2.2 hw).2 y e) f2 f3 f4,?_,?_⟩
 ·have h1:(bars.filter λb=> !b.has k).length+wd k=bars.length:=by
   have:=PP (λb:Bar=>b.has k) (l:=bars);rw[<- a7,<- Lf,<- Lf,this];have e:bars.countP (λb=> !b.has k)=bars.countP λb=>decide (¬b.has k=true):=MK λb _=>by simp
   rw[e];omega
  have h2:=O<|k+1;unfold yE;rw[LD];cases w k<;>simp<;>omega
 ·
  let L:D:= .lst (bars.map<|qb wd);have e3:zS (.nm 0) (kf<|sB<|zC jR<|zb (zf 0)<|zb (zf 1) zE) (zf 0) [.no,.val (.int k)] (bars.map<|qb wd)=some ((bars.filter λb=> !b.has k).map (qb wd)):=by refine jq (g:=qb wd) (λb=> !b.has k) (qb wd) bars λb hb=>⟨[.val (qb wd b),.val (.int k)],rfl,?_,λ_=>by rfl⟩;have e:=kM (wd:=wd) (b:=b) (by have:=(I.ok b hb).le;omega) k;simp[e]
  have e4:zS (.nm 0) (sB<|zC jR<|zb (zf 0)<|zb (zf 1) zE) (zf 0) [.no,.val (.int k)] (bars.map<|qb wd)=some ((Io<|wd k).map λj=>qb wd<|A j):=by
   have:((bars.filter λb=>b.has k).map (qb wd))=(Io<|wd k).map λj=>qb wd (A j):=by rw[eA,LA];rfl
   rw[<- this];refine jq (g:=qb wd) (λb=>b.has k) (qb wd) bars λb hb=>⟨[.val (qb wd b),.val (.int k)],rfl,?_,λ_=>by rfl⟩;have e:=kM (wd:=wd) (b:=b) (by have:=(I.ok b hb).le;omega) k;simp[e]
  have e5:zS (.nm 0) jA (zC yt<|zb (zf 1)<|zb (zf 2)<|zb (zf 0) zE) [.no,.val<|.int p,.val (xk w wd T k)] ((Io<|wd k).map λi=>qb wd<|stB p A (wd k) r B l i)=some ((Io<|wd k).map λi=>qb wd<|exB k (stB p A (wd k) r B l i)<|nx i):=by refine zB _ _ λi hi=>zD rfl rfl ?_;have hi:=Iu.mp hi;have h1:=has_iff.mp<|an i hi;have e:=gx (p:=p) (okS i hi).n1 (by have:=(okS i hi).le;omega) (show k<=20 by omega) (a0 i hi).1;simp[e]
  have e6:zS (.nm 0) jA (qh<|zb (zH jF (zf 1)<|zu<|.int 1)<|zb (qh<|zb (zf 0) zE) zE) [.no,.val (.int k)] (Y.map λy=>D.tup<|zF (wd<|k+1) y)=some ((Y.map<|nuB k).map (qb wd)):=by rw[LA];refine zB _ _ λy hy=>zD rfl rfl ?_;show _=some (qb wd<|nuB k y);rw[EK];rfl
  have c6:Y.length<=lim:=by have:=O<|k+1;omega
  have c7:wd k<=lim:=by have:=O k;omega
  let En:D:= .lst ((bars.filter λb=> !b.has k).map (qb wd));let Se:D:= .lst ((Io<|wd k).map λi=>qb wd<|stB p A (wd k) r B l i);let Ol:D:= .lst ((Io<|wd k).map λi=>qb wd<|exB k (stB p A (wd k) r B l i)<|nx i);let Ne:D:= .lst ((Y.map<|nuB k).map (qb wd));rw[dU];refine jG (zv (γ':=[.val (jI p m w wd T),.val<|.int k,.val L,.val<|.int p,.no,.no,.no,.no,.no]) ?_
   (zv (γ':=[.val (jI p m w wd T),.val<|.int k,.val L,.val<|.int p,.val<|xk w wd T k,.no,.no,.no,.no]) ?_
   (zv (γ':=[.val (jI p m w wd T),.val<|.int k,.val L,.val<|.int p,.val<|xk w wd T k,.val En,.no,.no,.no]) ?_
   (zv (γ':=[.val (jI p m w wd T),.val<|.int k,.val L,.val<|.int p,.val<|xk w wd T k,.val En,.val Se,.no,.no]) ?_
   (zv (γ':=[.val (jI p m w wd T),.val<|.int k,.val L,.val<|.int p,.val<|xk w wd T k,.val En,.val Se,.val Ol,.no]) ?_
   (zv (γ':=[.val (jI p m w wd T),.val<|.int k,.val L,.val<|.int p,.val<|xk w wd T k,.val En,.val Se,.val Ol,.val Ne]) ?_ ?_))))))
  ·simp[gr1,zY,Iw,jU,L]
  ·simp[gr2,jU,vA,ac]
  ·simp[gr3,jk,L,ag,e3,En]
  ·simp[gr4,jk,L,ag,e4,eS,Se]
  ·simp[gr5,jk,Se,c7,e5,Ol]
  ·simp[gr6,jk,eN,c6]
   rw[e6];simp[Ne]
  ·have ca:(bars.filter λb=> !b.has k).length<=100:=LG (List.length_filter_le _ _) as
   have q1:=O k;have q2:=O<|k+1;cases hw:w k with
   | false=>
    have eq:=XB false;have h1:Y.length+wd k<=lim:=by omega
    have h2:(bars.filter λb=> !b.has k).length+(Y.length+wd k)<=lim:=by omega
    simp[gr7,xn,hw,eq,En,Ol,Ne,yE,h1,h2]
   | true=>
    have eq:=XB true;have h1:wd k+Y.length<=lim:=by omega
    have h2:(bars.filter λb=> !b.has k).length+(wd k+Y.length)<=lim:=by omega
    simp[gr7,xn,hw,eq,En,Ol,Ne,yE,h1,h2]
end
section
variable{wd:RZ}{m k:Nat}{p:Int}{w:RX}{T:RV}
def gh(c:Nat):Bar:=⟨0,1,λ_=>ja c⟩
theorem rC(U:Pr p):BrInv p w wd T 0 ((Io<|wd 0).map gh):=by
 have two:=U.two;have mem : ∀b,b∈(Io<|wd 0).map gh ↔ ∃c,c<wd 0/\b=gh c:=λb=>by rw[La];exact⟨λ⟨c,h1,h2⟩=>⟨c,Iu.mp h1,h2.symm⟩,λ⟨c,h1,h2⟩=>⟨c,Iu.mpr h1,h2.symm⟩⟩
 have O : ∀c,(gh c).has 0=true:=λc=>has_iff.mpr ⟨IC _,by show 0<0+1;omega⟩;refine⟨λb hb=>?_,λr Y v=>?_,λr Y=>?_,?_⟩
 ·obtain⟨c,I,rfl⟩:=(mem b).mp hb
  exact⟨IC _,by show 0+1<=0+1;omega,λr i _ _=>by show 0<=ja c i/\ja c i<p;unfold ja;split<;>omega,λj hj=>by omega⟩
 ·have:r=0:=by omega
  subst this;refine(KI (wd 0) v).le λg hg=>?_;obtain⟨c,I,rfl⟩:=hg;exact .gen ⟨gh c,(mem _).mpr ⟨c,I,rfl⟩,O c,rfl⟩
 ·have:r=0:=by omega
  subst this;rw[List.countP_eq_length.mpr λb hb=>?_]
  ·simp
  ·obtain⟨c,I,rfl⟩:=(mem b).mp hb
   exact O c
 ·refine OG _ ?_
  rw[NS];exact MS.mpr λ_ _ _ _ _=>⟨λz=>absurd z<|Lz 0,λz=>absurd z<|Lz 0⟩
theorem XQ:Jj=z6 3 (zK ag1<|zK ag2 ag3):=rfl
def EU(b:Bar):Int×Int:=((b.s:Int),((b.s+b.n - 1:Nat):Int))
theorem dn : ∀bars:List Bar,(∀b,b∈bars->1<=b.n/\b.s+b.n<=100)->dz qC (bars.map<|qb wd)=some (bars.map EU)
 | [],_=>rfl
 | b::bars,h=>by have h1:=h b IY;have e:=WG (wd:=wd) h1.1 h1.2;have z:=dn bars λb hb=>h b<|IT _ hb;simp only[IS,dz,e,z,Iz];rfl
def Yg(bars:List Bar):List Bar:=(Yr<|bars.map EU).map λi=>bars.getD i aT
theorem K8(z:Pr p)(O : ∀k,wd k<=8)(hm:m<=5)(hT : ∀k i j,k<m->i<hiW w wd k->j<wiW w wd k->0<=T k i j/\T k i j<p) :
 ∃bars,BrInv p w wd T m bars/\bars.length<=48/\Jj [jI p m w wd T]=some (.own<|(Yg bars).map (qb wd)):=by
 have hl:=jd;have h0:=O 0;have U:wd 0<=lim:=by omega
 have es:=ko (n:=wd 0) U;have a2:jf (jn (wd 0) (wd 0) λi j=>if i=j then 1 else 0)=some (.T,[.int (wd 0:Nat),.int (wd 0:Nat),.tup (zN (wd 0) (wd 0) λi j=>if i=j then 1 else 0)]):=rfl;have e1:zS (.nm 0) jA (qh<|zb (zu<|.int 0)<|zb (qh<|zb (zf 0) zE) zE) [.no] (zN (wd 0) (wd 0) λi j=>if i=j then 1 else 0)=some (((Io<|wd 0).map gh).map (qb wd)):=by rw[LA];unfold zN;refine zB _ _ λi hi=>zD rfl rfl ?_;show some _=some (qb wd<|gh i);unfold qb gh xR;simp;rfl
 have x1:ag1 (zY 3 [jI p m w wd T])=some (.next [.val (jI p m w wd T),.val<|.lst<|((Io<|wd 0).map gh).map (qb wd),.no]):=by simp[ag1,zY,Iw,jU,es,a2,jk,U];rw[e1];simp
 obtain⟨γ',x2,bars,c,I,a4,rfl⟩:=ah (T:= .nm 2) (F:=jo 1<|zC XT<|zb (zf 0)<|zb (zf 2)<|zb (zf 1) zE) (f:=Zo<|zG<|sIx (zh 0)<|zu<|.int 2)
  (λj γ=>∃bars c,BrInv p w wd T j bars/\bars.length<=8*(j+1)/\γ=[.val (jI p m w wd T),.val<|.lst<|bars.map<|qb wd,c]) m ⋯ (γ:=[.val (jI p m w wd T),.val<|.lst<|((Io<|wd 0).map gh).map (qb wd),.no])
  (by simp[jU]) ⟨_,_,rC z,by simp;omega,rfl⟩ λs hs γ hγ=>by obtain⟨bars,c,I,a4,rfl⟩:=hγ;obtain⟨Y,I',h',e⟩:=lh (T:=T) (w:=w) (k:=s) z O hm hs (hT s · · hs) I ⋯;refine⟨_,[.val (jI p m w wd T),.val<|.lst<|Y.map<|qb wd,.val (.int s)],rfl,?_,Y,_,I',by omega,rfl⟩;simp[e]
 refine⟨bars,I,by omega,?_⟩;have ek:=dn (wd:=wd) bars λb hb=>⟨(I.ok b hb).n1,by have:=(I.ok b hb).le;omega⟩;rw[XQ];refine jG<|zv x1<|zv (show ag2 _=_ from x2) ?_;have a8:bars.length<64:=by omega
 unfold ag3;have e3:mn qC (zh 1) [.val (jI p m w wd T),.val<|.lst<|bars.map<|qb wd,c]=some ((Yg bars).map (qb wd)):=by show((dz qC<|bars.map<|qb wd).bind λps=>if (bars.map<|qb wd).length<64 then some ((Yr ps).map λi=>(bars.map<|qb wd).getD i .non)else none)=_;rw[ek];simp only[Iz,IQ,a8,if_true];congr 1;unfold Yg;rw[LA];refine IK λi hi=>?_;have h:=W0<|bars.map EU;have hi:=Iu.mp<|h.mem_iff.mp hi;rw[IQ]at hi;simp[hi]
 rw[fS,e3];rfl
end
abbrev TB:=Nat×Nat×(Nat->Nat->Int)
section
variable{wd:RZ}{m k N:Nat}{p:Int}{w:RX}{T:RV}{A:Nat->Bar}
def ixs(A:Nat->Bar)(N r:Nat):List Nat:=(Io N).filter λj=>(A j).has r
def qZ(A:Nat->Bar)(N r:Nat):Nat->Nat->Int:=λi j=>(A<|(ixs A N r).getD j 0).v r i
theorem dD{r j:Nat}(h:j<(ixs A N r).length):(ixs A N r).getD j 0<N/\(A<|(ixs A N r).getD j 0).has r=true:=by
 have hm:(ixs A N r).getD j 0∈ixs A N r:=by rw[Iy,Iv h];exact LU _
 obtain⟨h1,h2⟩:=IP.mp hm;exact⟨Iu.mp h1,by simpa using h2⟩
theorem X0(I:Pr p)(hn:n<=8)(hs : ∀v:Vc,∃t,∀i,i<n->v i%p=app f n t i%p) : ∃g:RK,Cy p n f g/\Cy p n g f/\∀i j,0<=g i j/\g i j<p:=by
 have Y:=I.pos;obtain⟨t,O⟩:=NC λj=>hs<|ja j;refine⟨λi j=>t j i%p,?_,?_,λi j=>⟨Le _ ⋯,IU _ Y⟩⟩
 ·intro i j hi U
  have e:zc (λk=>f i k*(t j k%p)) n%p=app f n (t j) i%p:=zx λk _=>qr p _ _;rw[e,<- O j i hi];unfold ja dlt;simp only[eq_comm]
 ·intro i j hi U
  have z : ∀a,a<n->app f n (λb=>zc (λk=>(t k b%p)*f k j) n - ja j b) a%p=0:=λa ha=>by
   rw[ZZ,w6 f U,Mv];have e:app f n (λb=>zc (λk=>(t k b%p)*f k j) n) a%p=f a j%p:=by
    have e1:app f n (λb=>zc (λk=>(t k b%p)*f k j) n) a=zc (λk=>f k j*app f n (λb=>t k b%p) a) n:=by rw[<- yd];congr 1;funext b;exact qB ..
    rw[e1];have e2:zc (λk=>f k j*app f n (λb=>t k b%p) a) n%p=zc (λk=>f k j*ja k a) n%p:=zx λk _=>by rw[IB,j3 (u:=t k) (λb _=>Lb _ _) a,<- O k a ha,<- IB]
    rw[e2,zI (f:=λk=>f k j*ja k a) ha λk _ hk=>by simp[ja,hk]];simp[ja]
   rw[e];simp
  have:=yP I hn hs z i hi;have e3:(zc (λk=>(t k i%p)*f k j) n)%p=ja j i%p:=Mo.mpr this;show zc (λk=>(t k i%p)*f k j) n%p=dlt i j%p;rw[e3];unfold ja dlt;simp only[eq_comm]
end
section
variable{wd:RZ}{m k N:Nat}{p:Int}{w:RX}{T:RV}{A:Nat->Bar}{g:RV}
theorem vm(A N r):(ixs A N r).Nodup:=NB.sublist Nh
theorem v7{L:List Nat}(h:L.Nodup){a b:Nat}(ha:a<L.length)(hb:b<L.length)(e:L.getD a 0=L.getD b 0):a=b:=by rw[Iy,Iy,Iv ha,Iv hb]at e;exact(List.getElem_inj h).mp e
end
structure Decp(p:Int)(w:RX)(wd:RZ)(T:RV)(m N:Nat)(A:Nat->Bar):Prop where
 ok : ∀j,j<N->BarOk p w wd T m (A j)
 sp : ∀r,r<=m->∀v:Vc,∃t:Vc,∀i,i<wd r->v i%p=zc (λj=>if (A j).has r=true then t j*(A j).v r i else 0) N%p
 inj : ∀r,r<=m->∀t:Vc,(∀i,i<wd r->zc (λj=>if (A j).has r=true then t j*(A j).v r i else 0) N%p=0)->∀j,j<N->(A j).has r=true->t j%p=0
 cnt : ∀r,r<=m->(ixs A N r).length=wd r
def Lk(p:Int)(w:RX)(wd:RZ)(T:RV)(k:Nat)(y z:Vc):Prop:=
 if w k=true then ∀i,i<wd k->y i%p=app (T k) (wd<|k+1) z i%p else ∀i,i<wd (k+1)->z i%p=app (T k) (wd k) y i%p
def Wk(p:Int)(w:RX)(wd:RZ)(T:RV)(d:Nat):Nat->Vc->Vc->Prop
 | 0,u,z=>∀i,i<wd d->u i%p=z i%p
 | n+1,u,z=>∃y,Wk p w wd T d n u y/\Lk p w wd T (d+n) y z
section
variable{p:Int}{w:RX}{wd:RZ}{T:RV}{m N N':Nat}{A A':Nat->Bar}{d:Nat}
theorem Yz(h1:a%p=b%p)(h2:a'%p=b'%p):(a+c*a')%p=(b+c*b')%p:=by rw[IV,h1,IB,h2,<- IB,<- IV]
theorem BE(c:Int)(h:Lk p w wd T k y z)(h':Lk p w wd T k y' z'):Lk p w wd T k (λi=>y i+c*y' i) λi=>z i+c*z' i:=by
 unfold Lk at *;split
 ·next hw=>
  rw[RY hw]at h h';intro i hi;rw[Yz (h i hi) (h' i hi)];exact(Jb (λ_ _=>rfl) i).symm
 ·next hw=>
  rw[EQ hw]at h h';intro i hi;rw[Yz (h i hi) (h' i hi)];exact(Jb (λ_ _=>rfl) i).symm
theorem nD : ∀(n:Nat) {u z u' I:Vc} (c:Int),Wk p w wd T d n u z->Wk p w wd T d n u' I->Wk p w wd T d n (λi=>u i+c*u' i) λi=>z i+c*I i
 | 0,u,z,u',I,c,h,h'=>λi hi=>Yz (h i hi)<|h' i hi
 | n+1,u,z,u',I,c,⟨y,h1,h2⟩,⟨y',h1',h2'⟩=>⟨_,nD n c h1 h1',BE c h2 h2'⟩
theorem fY(k:Nat):Lk p w wd T k (λ_=>0) λ_=>0:=by unfold Lk;split<;>exact λi _=>by rw[w5 (λ_ _=>by simp) i];simp
theorem Y7 : ∀n,Wk p w wd T d n (λ_=>0) λ_=>0
 | 0=>λ_ _=>rfl
 | n+1=>⟨_,Y7 n,fY _⟩
theorem lY(h:Lk p w wd T k y z)(hz : ∀i,i<wd (k+1)->z' i%p=z i%p):Lk p w wd T k y z':=by
 unfold Lk at *;split
 ·next hw=>rw[RY hw]at h;intro i hi;rw[h i hi];exact(j3 hz i).symm
 ·next hw=>rw[EQ hw]at h;intro i hi;rw[hz i hi,h i hi]
theorem Gd : ∀{n:Nat} {u z I:Vc},Wk p w wd T d n u z->(∀i,i<wd (d+n)->I i%p=z i%p)->Wk p w wd T d n u I
 | 0,u,z,I,h,hz=>λi hi=>by rw[h i hi,hz i hi]
 | n+1,u,z,I,⟨y,h1,h2⟩,hz=>⟨y,h1,lY h2 hz⟩
theorem K9 : ∀{n:Nat} {u u' z:Vc},Wk p w wd T d n u z->(∀i,i<wd d->u' i%p=u i%p)->Wk p w wd T d n u' z
 | 0,u,u',z,h,hu=>λi hi=>by rw[hu i hi,h i hi]
 | n+1,u,u',z,⟨y,h1,h2⟩,hu=>⟨y,K9 h1 hu,h2⟩
theorem nC(t:Vc)(u z:Nat->Vc) : ∀K,(∀j,j<K->Wk p w wd T d n (u j) (z j))->Wk p w wd T d n (λi=>zc (λj=>t j*u j i) K) λi=>zc (λj=>t j*z j i) K
 | 0,_=>Y7 n
 | K+1,h=>nD n (t K) (nC t u z K λj I=>h j ⋯)<|h K ⋯
theorem lS(hb:BarOk p w wd T m b)(hk:k<m)(h1:b.has k=true)(h2:b.has (k+1)=true):Lk p w wd T k (b.v k) (b.v<|k+1):=by
 unfold Lk;cases hw:w k with
 | true=>
  have z:jO w k=k+1:=by unfold jO;rw[hw];rfl
  have I:jT w k=k:=by unfold jT;rw[hw];rfl
  rw[RY rfl];intro i hi;have:=hb.arr k hk (by rw[z];exact h2) i (by rw[I];exact hi);rw[z,I,h1,RY rfl]at this;exact this.symm
 | false=>
  have z:jO w k=k:=by unfold jO;rw[hw];rfl
  have I:jT w k=k+1:=by unfold jT;rw[hw];rfl
  rw[EQ ⋯];intro i hi;have:=hb.arr k hk (by rw[z];exact h1) i (by rw[I];exact hi);rw[z,I,h2,RY rfl]at this;exact this.symm
theorem XN(hb:BarOk p w wd T m b)(h1:b.has d=true) : ∀n,d+n<=m->b.has (d+n)=true->Wk p w wd T d n (b.v d) (b.v<|d+n)
 | 0,_,_=>λ_ _=>rfl
 | n+1,hn,h2=>by have z:b.has (d+n)=true:=has_iff.mpr (by have:=has_iff.mp h1;have:=has_iff.mp h2;omega);exact⟨_,XN hb h1 n ⋯ z,lS hb ⋯ z h2⟩
theorem fH(hb:BarOk p w wd T m b)(h1:b.has d=true)(hw:w (b.s+b.n - 1)=false) : ∀n,d+n<=m->b.has (d+n)=false->Wk p w wd T d n (b.v d) λ_=>0
 | 0,_,h2=>by rw[Rc,h1]at h2;cases h2
 | n+1,hn,h2=>by
  cases h3:b.has (d+n)with
  | false=>exact⟨_,fH hb h1 hw n ⋯ h3,fY _⟩
  | true=>
   refine⟨_,XN hb h1 n ⋯ h3,?_⟩;have Y:=has_iff.mp h3;have q2 : ¬(d+n+1<b.s+b.n):=λz=>by have:b.has (d+(n+1))=true:=has_iff.mpr ⋯;rw[this]at h2;cases h2
   have I:b.s+b.n - 1=d+n:=by omega
   rw[I]at hw;have O:jO w (d+n)=d+n:=by unfold jO;rw[hw];rfl
   have U:jT w (d+n)=d+n+1:=by unfold jT;rw[hw];rfl
   have:=hb.arr (d+n) ⋯;rw[O,U]at this;unfold Lk;rw[hw,EQ ⋯];intro i hi;rw[this h3 i hi,show b.has (d+n+1)=false from h2];simp
theorem JG(D:Decp p w wd T m N A) : ∀n,d+n<=m->∀{u z:Vc},Wk p w wd T d n u z->∀{a b:Vc},(∀i,i<wd d->u i%p=zc (λj=>if (A j).has d=true then a j*(A j).v d i else 0) N%p)->(∀i,i<wd (d+n)->z i%p=zc (λj=>if (A j).has (d+n)=true then b j*(A j).v (d+n) i else 0) N%p)->
 ∀j,j<N->(A j).has d=true->((A j).has (d+n)=true->a j%p=b j%p)/\((A j).has (d+n)=false->w ((A j).s+(A j).n - 1)=true->a j%p=0):=by
 have a1 : ∀r,r<=m->∀{v:Vc} {a b:Vc},(∀i,i<wd r->v i%p=zc (λj=>if (A j).has r=true then a j*(A j).v r i else 0) N%p)->(∀i,i<wd r->v i%p=zc (λj=>if (A j).has r=true then b j*(A j).v r i else 0) N%p)->∀j,j<N->(A j).has r=true->a j%p=b j%p:=λr hr v a b h1 h2 j O U=>by
  have:=D.inj r hr (λj=>a j - b j) (λi hi=>by
   have e:zc (λj=>if (A j).has r=true then (a j - b j)*(A j).v r i else 0) N=zc (λj=>if (A j).has r=true then a j*(A j).v r i else 0) N+zc (λj=>(if (A j).has r=true then b j*(A j).v r i else 0)*(-1)) N:=by
    rw[<- jt];refine zg λj _=>?_;split
    ·rw[Int.sub_mul];omega
    ·simp
   rw[e,jx,IV,<- h1 i hi,IB,<- h2 i hi,<- IB,<- IV,show v i+v i * -1=0 by omega];simp) j O U
  exact Mo.mpr this
 have a7 : ∀k,k<m->∀(c:Vc) (r r':Nat),r=jO w k->r'=jT w k->∀i,i<wd r'->app (T k) (wd r) (mxV p A N c r) i%p=zc (λj=>if (A j).has r'=true then (if (A j).has r=true then c j else 0)*(A j).v r' i else 0) N%p:=λk hk c r r' e1 e2 i hi=>by
  rw[fN];refine zx λj O=>?_;cases hx:(A j).has r with
  | false=>simp
  | true=>
   have q:=(D.ok j O).arr k hk (by rw[<- e1];exact hx) i (by rw[<- e2];exact hi);rw[<- e1,<- e2]at q;simp only[if_true];rw[IB,q,<- IB];cases hy:(A j).has r'<;>simp
 intro n
 induction n with
 | zero=>
  intro hn u z a2 a b ha hb j O U;refine⟨λ_=>a1 d ⋯ ha (λi hi=>by rw[a2 i hi];exact hb i hi) j O U,λh=>?_⟩;rw[Rc,U]at h;cases h
 | succ n ih=>
  intro hn u z a2 a b ha hb j O U;obtain⟨y,h1,h2⟩:=a2;obtain⟨c,hc⟩:=D.sp (d+n) ⋯ y;obtain⟨i1,i2⟩:=ih ⋯ h1 ha hc j O U;have ae : ∀i,i<wd (d+n)->y i%p=mxV p A N c (d+n) i%p:=λi hi=>by rw[hc i hi];unfold mxV;rw[Lb]
  have ag : ∀i,i<wd (d+n+1)->z i%p=mxV p A N b (d+n+1) i%p:=λi hi=>by rw[hb i hi];unfold mxV;rw[Lb];rfl
  have qd:=has_iff.mp U;cases hw:w (d+n)with
  | false=>
   have eb:jO w (d+n)=d+n:=by unfold jO;rw[hw];rfl
   have ee:jT w (d+n)=d+n+1:=by unfold jT;rw[hw];rfl
   unfold Lk at h2;rw[hw,EQ ⋯]at h2;have a0:=a1 (d+n+1) ⋯ (v:=z) hb (b:=λj=>if (A j).has (d+n)=true then c j else 0) λi hi=>by rw[h2 i hi,j3 ae i];exact a7 (d+n) ⋯ c (d+n) (d+n+1) eb.symm ee.symm i hi
   refine⟨λh=>?_,λh Y=>?_⟩
   ·have I:(A j).has (d+n)=true:=has_iff.mpr (by have:=has_iff.mp h;omega)
    have:=a0 j O h;rw[I,RY rfl]at this;rw[i1 I,this]
   ·cases I:(A j).has (d+n)with
    | false=>exact i2 I Y
    | true=>
     have q3:=has_iff.mp I;have q2 : ¬(d+n+1<(A j).s+(A j).n):=λz=>by have:(A j).has (d+(n+1))=true:=has_iff.mpr ⋯;rw[this]at h;cases h
     rw[show(A j).s+(A j).n - 1=d+n by omega,hw]at Y;cases Y
  | true=>
   have eb:jO w (d+n)=d+n+1:=by unfold jO;rw[hw];rfl
   have ee:jT w (d+n)=d+n:=by unfold jT;rw[hw];rfl
   unfold Lk at h2;rw[hw,RY rfl]at h2;have a0:=a1 (d+n) ⋯ (v:=y) hc (b:=λj=>if (A j).has (d+n+1)=true then b j else 0) λi hi=>by rw[h2 i hi,j3 ag i];exact a7 (d+n) ⋯ b (d+n+1) (d+n) eb.symm ee.symm i hi
   refine⟨λh=>?_,λh Y=>?_⟩
   ·have I:(A j).has (d+n)=true:=has_iff.mpr (by have:=has_iff.mp h;omega)
    have:=a0 j O I;rw[show(A j).has (d+n+1)=true from h,RY rfl]at this;rw[i1 I,this]
   ·cases I:(A j).has (d+n)with
    | false=>exact i2 I Y
    | true=>
     have:=a0 j O I;rw[show(A j).has (d+n+1)=false from h,EQ ⋯]at this;rw[i1 I,this];simp
end
section
variable{p:Int}{n:Nat}
theorem nq{l:RZ} : ∀{r:Nat},(∀k m,k<m->m<r->l k<l m)->∃j,j<=r/\∀k,k<r->l k≠j
 | 0,_=>⟨0,IC _,λk hk=>absurd hk<|Lc _⟩
 | r+1,h=>by
  obtain⟨j,h1,h2⟩:=nq (r:=r) λk m a b=>h k m a ⋯;by_cases e:l r=j
  ·refine⟨r+1,IC _,λk hk=>?_⟩
   rcases IJ k r with z | z
   ·have:=h k r z ⋯;omega
   ·rw[show k=r by omega];omega
  ·refine⟨j,by omega,λk hk=>?_⟩
   rcases IJ k r with z | z
   ·exact h2 k z
   ·rw[show k=r by omega];exact e
theorem dG(hp:Pr p){h N:Nat}{f:RK}(inj : ∀t:Vc,(∀i,i<h->app f N t i%p=0)->∀j,j<N->t j%p=0):N<=h:=by
 rcases IJ h N with a8 | a6
 ·exfalso
  obtain⟨r,hr,B,l,hb,hs⟩:=bP (n:=N) hp h f;obtain⟨O,aa,a2⟩:=nq hb.mono;have a3:O<N:=by omega
  let t:Vc:=λj=>if j=O then 1 else zc (λk=>if l k=j then B k O*(-1)else 0) r;have t0:t O=1:=RY rfl;have tl : ∀k,k<r->t (l k)=B k O*(-1):=λk hk=>by
   show(if l k=O then _ else _)=_;rw[EQ (a2 k hk),zI (f:=λI=>if l I=l k then B I O*(-1)else 0) hk λI U Y=>by
    rw[EQ λe=>Y (by
     rcases Nb I k with z | z | z
     ·have:=hb.mono I k z hk;omega
     ·exact z
     ·have:=hb.mono k I z U;omega)]]
   rw[RY rfl]
  have a7 : ∀k,k<r->zc (λj=>B k j*t j) N=0:=λk hk=>by
   have e:zc (λj=>B k j*t j) N=zc (λj=>(if j=O then B k O else 0)+zc (λI=>if l I=j then B k (l I)*(B I O*(-1))else 0) r) N:=zg λj hj=>by
    by_cases z:j=O
    ·subst z
     rw[t0,RY rfl,zg (g:=λ_=>0) λI U=>EQ<|a2 I U,zy];simp
    ·show B k j*(if j=O then _ else _)=_
     rw[EQ z,EQ z,Int.zero_add,LK,<- jx];refine zg λI U=>?_;by_cases e:l I=j
     ·rw[RY e,RY e,<- e,LK]
     ·rw[EQ e,EQ e];simp
   rw[e,jt,zI (f:=λj=>if j=O then B k O else 0) a3<|λj _ Y=>EQ Y,RY rfl,jw];have e2:zc (λI=>zc (λj=>if l I=j then B k (l I)*(B I O*(-1))else 0) N) r=zc (λI=>B k (l I)*(B I O*(-1))) r:=zg λI U=>by rw[zI (f:=λj=>if l I=j then B k (l I)*(B I O*(-1))else 0) (hb.lt I U) λj _ Y=>EQ<|Ly Y,RY rfl]
   rw[e2,zI (f:=λI=>B k (l I)*(B I O*(-1))) hk λI U Y=>by rw[hb.oth k I hk U Y];simp];rw[hb.one k hk];omega
  have:=inj t (λi hi=>by
   have c:=wm hb<|(hs<|f i).mpr (.gen ⟨i,hi,rfl⟩);unfold app;have e:zc (λj=>f i j*t j) N%p=zc (λj=>zc (λk=>f i (l k)*B k j) r*t j) N%p:=zx λj hj=>by rw[IB,c j hj,<- IB]
   rw[e];have e2:zc (λj=>zc (λk=>f i (l k)*B k j) r*t j) N=zc (λk=>f i (l k)*zc (λj=>B k j*t j) N) r:=by rw[zg (g:=λj=>zc (λk=>f i (l k)*B k j*t j) r) λj _=>(jx _ _ _).symm,jw];refine zg λk _=>?_;rw[<- zV];exact zg λj _=>Lw _ _ _
   rw[e2,zg (g:=λ_=>0) λk hk=>by rw[a7 k hk,Oz],zy];simp) O a3
  rw[t0,hp.one]at this;cases this
 ·exact a6
theorem kA(W:Nat->Vc)(t:Vc):Span p n (Fam m W) λi=>zc (λj=>t j*W j i) m:=Span.sum (u:=W) t λj z=> .gen ⟨j,z,rfl⟩
theorem Bi(z:Pr p)(hb:IsB p n s B l)(sp : ∀v,Span p n (Fam s B) v↔Span p n (Fam m W) v)(I : ∀t:Vc,(∀i,i<n->zc (λj=>t j*W j i) m%p=0)->∀j,j<m->t j%p=0):m=s:=by
 have h1:s<=m:=by obtain⟨r,Y,O⟩:=bP (n:=n) z m W;have:=yJ z (m:=m) (W:=W) ⟨B,l,hb,sp⟩ O;omega
 have hs:s<=n:=yK hb;have h2:m<=s:=dG z (f:=λi j=>W j<|l i) λt U=>I t λi hi=>by
  have c:=wm hb ((sp _).mpr (kA (n:=n) W t)) i hi;rw[c];have:zc (λk=>zc (λj=>t j*W j (l k)) m*B k i) s%p=zc (λ_=>0) s%p:=zx λk hk=>by have:=U k hk;unfold app at this;rw[qB]at this;rw[IB,this];simp
  rw[this,zy];simp
 omega
theorem lD(hp:Pr p){s q c:Nat}{B B2 V:Nat->Vc}{l l2:RZ}(hX:IsB p n s B l)(O:IsB p n q B2 l2)(a4 : ∀j,j<c->Span p n (Fam s B) (V j))(KX : ∀v,Span p n (Fam q B2) v->Span p n (Fam s B) v)
 (spX : ∀v,Span p n (Fam s B) v->∃t:Vc,Span p n (Fam q B2) λi=>v i - zc (λj=>t j*V j i) c) (a6 : ∀t:Vc,Span p n (Fam q B2) (λi=>zc (λj=>t j*V j i) c)->∀j,j<c->t j%p=0):q+c=s:=by
 let W:Nat->Vc:=λj=>if j<q then B2 j else V (j - q);have w1 : ∀j,j<q->W j=B2 j:=λj I=>RY I;have w2 : ∀j,W (q+j)=V j:=λj=>by show(if q+j<q then _ else _)=_;rw[EQ ⋯,IZ]
 have sm : ∀t:Vc,∀i,zc (λj=>t j*W j i) (q+c)=zc (λj=>t j*B2 j i) q+zc (λj=>t (q+j)*V j i) c:=λt i=>by
  rw[yX];congr 1
  ·exact zg λj I=>by rw[w1 j I]
  ·exact zg λj I=>by rw[w2 j]
 refine Bi hp hX (W:=W) (λv=>⟨λU=>?_,λU=>U.le λg Y=>?_⟩) λt ht=>?_
 ·obtain⟨t,h⟩:=spX v U
  have h1:Span p n (Fam (q+c) W) λi=>v i - zc (λj=>t j*V j i) c:=h.le λg Y=>by obtain⟨k,hk,rfl⟩:=Y;rw[<- w1 k hk];exact .gen ⟨k,by omega,rfl⟩
  have h2:Span p n (Fam (q+c) W) λi=>zc (λj=>t j*V j i) c:=Span.sum t λj I=>by rw[<- w2 j];exact .gen ⟨q+j,by omega,rfl⟩
  exact(h2.add h1 1).congr λi _=>by rw[OU,Int.sub_add_cancel]
 ·obtain⟨k,hk,rfl⟩:=Y
  rcases IJ k q with z | z
  ·rw[w1 k z];exact KX _<|.gen ⟨k,z,rfl⟩
  ·obtain⟨j,rfl⟩ : ∃j,k=q+j:=⟨k - q,by omega⟩
   rw[w2 j];exact a4 j ⋯
 ·have hz : ∀j,j<c->t (q+j)%p=0:=a6 (λj=>t<|q+j) ((kA (n:=n) B2 λj=> -1*t j).congr λi hi=>by
   have:=ht i hi;rw[sm]at this;have e:zc (λj=> -1*t j*B2 j i) q=zc (λj=>t j*B2 j i) q * -1:=by rw[<- jx];exact zg λj _=>by rw[LK (-1),Lw,LK (-1),Lw]
   rw[e];refine Mo.mpr ?_;rw[<- this];congr 1;omega)
  intro j I;rcases IJ j q with z | z
  ·have h0 : ∀i,i<n->zc (λj=>t j*B2 j i) q%p=0:=λi hi=>by
    have:=ht i hi;rw[sm,IV]at this;have e:zc (λj=>t (q+j)*V j i) c%p=zc (λ_=>0) c%p:=zx λj I=>by rw[IB,hz j I];simp
    rw[e,zy]at this;simpa using this
   have h1:=h0 (l2 j)<|O.lt j z;rw[zI (f:=λk=>t k*B2 k (l2 j)) z λk hk a7=>by rw[O.oth k j hk z (Ly a7)];simp]at h1;rw[O.one j z,MO]at h1;exact h1
  ·obtain⟨k,rfl⟩ : ∃k,j=q+k:=⟨j - q,by omega⟩
   exact hz k ⋯
end
def cvL(A:Nat->Bar)(N d e:Nat):List Nat:=(Io N).filter λj=>(A j).has d && (A j).has e
section
variable{p:Int}{w:RX}{wd:RZ}{T:RV}{m N n:Nat}{A:Nat->Bar}{d:Nat}
theorem eX(hk:k<(cvL A N d e).length):(cvL A N d e).getD k 0<N/\(A<|(cvL A N d e).getD k 0).has d=true/\(A<|(cvL A N d e).getD k 0).has e=true:=by
 have hm:(cvL A N d e).getD k 0∈cvL A N d e:=by rw[Iy,Iv hk];exact LU _
 obtain⟨h1,h2⟩:=IP.mp hm;simp only[ID]at h2;exact⟨Iu.mp h1,h2.1,h2.2⟩
theorem Bn(D:Decp p w wd T m N A)(hd:d<=m)(e:Nat):(cvL A N d e).length<=wd d:=by rw[<- D.cnt d hd];unfold cvL ixs;rw[<- Lf,<- Lf];exact List.countP_mono_left λj _ h=>by simp only[ID]at h;exact h.1
theorem lJ(d e:Nat)(t:Vc) : ∃a:Vc,∀k,k<(cvL A N d e).length->a ((cvL A N d e).getD k 0)=t k:=by refine⟨λj=>t<|(cvL A N d e).idxOf j,λk hk=>?_⟩;have nd:(cvL A N d e).Nodup:=NB.sublist Nh;show t _=_;rw[Iy,Iv hk,Nf,nd.idxOf_getElem _ hk]
theorem eW(d e:Nat)(a:Vc)(i:Nat):zc (λk=>a ((cvL A N d e).getD k 0)*(A<|(cvL A N d e).getD k 0).v d i) (cvL A N d e).length=zc (λj=>if (A j).has d=true then (if (A j).has e=true then a j else 0)*(A j).v d i else 0) N:=by have:=qA (λj=>(A j).has d && (A j).has e) (λj=>a j*(A j).v d i) N;refine this.trans<|zg λj _=>?_;cases (A j).has d<;>cases (A j).has e<;>simp
theorem iS(hp:Pr p)(D:Decp p w wd T m N A)(hd:d+n<=m){s q:Nat}{B B2:Nat->Vc}{l l2:RZ}(hX:IsB p (wd d) s B l)(O : ∀u,Span p (wd d) (Fam s B) u ↔ ∃z,Wk p w wd T d n u z)
 (hK:IsB p (wd d) q B2 l2) (U : ∀u,Span p (wd d) (Fam q B2) u↔Wk p w wd T d n u λ_=>0):q+(cvL A N d<|d+n).length=s:=by
 have hc:=Bn D (show d<=m by omega)<|d+n;have hq:=yK hK;refine lD hp hX hK (V:=λk=>(A<|(cvL A N d<|d+n).getD k 0).v d) (λk hk=>?_) (λv Y=>(O v).mpr ⟨_,(U v).mp Y⟩) (λv Y=>?_) λt ht=>?_
 ·obtain⟨h1,h2,I⟩:=eX hk
  exact(O _).mpr ⟨_,XN (D.ok _ h1) h2 n hd I⟩
 ·obtain⟨z,hz⟩:=(O v).mp Y
  obtain⟨a,ha⟩:=D.sp d ⋯ v;obtain⟨b,hb⟩:=D.sp (d+n) hd z;have a0:=JG D n hd hz ha hb;refine⟨λk=>a<|(cvL A N d<|d+n).getD k 0,(U _).mpr ?_⟩;let u:Nat->Vc:=λj=>if (A j).has d=true/\(A j).has (d+n)=false/\w ((A j).s+(A j).n - 1)=false then (A j).v d else λ_=>0;have hu : ∀j,j<N->Wk p w wd T d n (u j) λ_=>0:=λj hj=>by
   show Wk p w wd T d n (if _ then _ else _) _;split
   ·next h=>exact fH (D.ok j hj) h.1 h.2.2 n hd h.2.1
   ·exact Y7 n
  have hs:=nC a u (λ_ _=>0) N hu;refine Gd (K9 hs λi hi=>?_) λi _=>by simp[zy]
  rw[eW d (d+n) a i];rw[Mv,ha i hi,<- Mv];have e:zc (λj=>if (A j).has d=true then a j*(A j).v d i else 0) N - zc (λj=>if (A j).has d=true then (if (A j).has (d+n)=true then a j else 0)*(A j).v d i else 0) N=zc (λj=>(if (A j).has d=true then a j*(A j).v d i else 0)+(if (A j).has d=true then (if (A j).has (d+n)=true then a j else 0)*(A j).v d i else 0) * -1) N:=by rw[jt,jx];omega
  rw[e];refine zx λj hj=>?_;show _=a j*(if _ then (A j).v d else λ_=>0) i%p;cases h1:(A j).has d with
  | false=>simp
  | true=>
   cases h2:(A j).has (d+n)with
   | true=>
    have e0:a j*(A j).v d i+a j*(A j).v d i * -1=0:=by omega
    simp only[if_true,e0,Bool.true_eq_false,false_and,and_false,if_false,Oz]
   | false=>
    cases I:w ((A j).s+(A j).n - 1)with
    | false=>simp
    | true=>
     have:=(a0 j hj h1).2 h2 I;simp only[if_true,LP,if_false,Int.zero_mul,Int.add_zero,Oz,Bool.true_eq_false,and_false];rw[IB,this];simp
 ·obtain⟨a,ha⟩:=lJ (A:=A) (N:=N) d (d+n) t
  have hz:=(U _).mp ht;have a0:=JG D n hd hz (a:=λj=>if (A j).has (d+n)=true then a j else 0) (b:=λ_=>0) (λi hi=>by
   rw[<- eW d (d+n) a i];congr 1;exact zg λk hk=>by rw[ha k hk]) (λi _=>by
   have:zc (λj=>if (A j).has (d+n)=true then 0*(A j).v (d+n) i else 0) N=zc (λ_=>0) N:=zg λj _=>by simp
   rw[this,zy])
  intro k hk;obtain⟨h1,h2,I⟩:=eX hk;have:=(a0 _ h1 h2).1 I;rw[I,RY rfl,ha k hk]at this;simpa using this
theorem Xf : ∀(t:Nat) (z:Vc),Wq p w wd T d (wd d) t z↔Wk p w wd T d t z λx=>z (wd d+x)
 | 0,z=>Iff.rfl
 | t+1,z=>by
  have e : ∀u:Vc,Wq p w wd T d (wd d) t (qf (wd d) z u)↔Wk p w wd T d t z u:=λu=>by rw[Xf t];have e1:(λx=>qf (wd d) z u<|wd d+x)=u:=funext λx=>z7 x;rw[e1];exact⟨λh=>K9 h λi hi=>by rw[zU hi],λh=>K9 h λi hi=>by rw[zU hi]⟩
  show(∃u:Vc,Wq p w wd T d (wd d) t (qf (wd d) z u)/\Stp p w wd T (d+t) u λx=>z<|wd d+x) ↔ ∃y,Wk p w wd T d t z y/\Lk p w wd T (d+t) y λx=>z<|wd d+x;exact exists_congr λu=>and_congr (e u) Iff.rfl
end
section
variable{p:Int}{w:RX}{wd:RZ}{T:RV}{m N:Nat}{A:Nat->Bar}
theorem iU(r:Nat)(t:Vc) : ∃a:Vc,∀k,k<(ixs A N r).length->a ((ixs A N r).getD k 0)=t k:=by refine⟨λj=>t<|(ixs A N r).idxOf j,λk hk=>?_⟩;show t _=_;rw[Iy,Iv hk,Nf,(vm A N r).idxOf_getElem _ hk]
theorem YK(r:Nat)(a:Vc)(i:Nat):zc (λj=>if (A j).has r=true then a j*(A j).v r i else 0) N=app (qZ A N r) (ixs A N r).length (λk=>a<|(ixs A N r).getD k 0) i:=by have:=qA (λj=>(A j).has r) (λj=>a j*(A j).v r i) N;rw[<- this];unfold app;rw[qB];rfl
theorem Ky(z:j<N)(I:(A j).has r=true) : ∃k,k<(ixs A N r).length/\(ixs A N r).getD k 0=j:=by have O:j∈ixs A N r:=IP.mpr ⟨Iu.mpr z,by simpa using I⟩;obtain⟨i,hi,e⟩:=Pp O;exact⟨i,hi,by rw[Iy,Iv hi];simpa using e⟩
theorem eT(U:Pr p)(Y : ∀k,wd k<=8)(ok : ∀j,j<N->BarOk p w wd T m (A j))(cnt : ∀r,r<=m->(ixs A N r).length=wd r)(O : ∀r,r<=m->∀v:Vc,∃t,∀i,i<wd r->v i%p=app (qZ A N r) (wd r) t i%p):Decp p w wd T m N A where
 ok:=ok
 cnt:=cnt
 sp:=λr z v=>by obtain⟨t,I⟩:=O r z v;obtain⟨a,ha⟩:=iU (A:=A) (N:=N) r t;refine⟨a,λi hi=>?_⟩;rw[I i hi,YK,cnt r z];unfold app;congr 1;exact zg λk hk=>by show _=_*a _;rw[ha k (by rw[cnt r z];exact hk)]
 inj:=λr z t I j hj hh=>by
  obtain⟨k,hk,e⟩:=Ky hj hh;have:=yP U (Y r) (O r z) (t:=λk=>t<|(ixs A N r).getD k 0) (λi hi=>by have:=I i hi;rw[YK,cnt r z]at this;exact this) k (by rw[<- cnt r z];exact hk)
  rw[e]at this;exact this
theorem lF(Y:Pr p)(a0 : ∀k,wd k<=8){bars:List Bar}(I:BrInv p w wd T m bars):Decp p w wd T m bars.length λj=>bars.getD j aT:=by
 let A:Nat->Bar:=λj=>bars.getD j aT;have U:bars=(Io bars.length).map A:=(jL aT _).symm;have cnt : ∀r,r<=m->(ixs A bars.length r).length=wd r:=λr z=>by have:=I.ct r z;rw[U,Oi,Lf]at this;exact this
 refine eT Y a0 (λj O=>I.ok _ ?_) cnt λr z v=>?_
 ·rw[Iy,Iv O];exact LU _
 ·have hv:Span p (wd r) (Fam (wd r) λj i=>qZ A bars.length r i j) v:=(I.sp r z v).le λgg hg=>by
   obtain⟨b,h1,h2,rfl⟩:=hg;rw[U]at h1;obtain⟨j,O,rfl⟩:=La.mp h1;obtain⟨k,hk,e⟩:=Ky (A:=A) (Iu.mp O) h2;refine .gen ⟨k,by rw[<- cnt r z];exact hk,?_⟩;funext c;show(A j).v r c=(A<|(ixs A bars.length r).getD k 0).v r c;rw[e]
  exact col_span.mp hv
end
section
variable{p:Int}{m:Nat}{w:RX}{wd wd':RZ}{T T' X J:RV}
abbrev fx(p:Int)(m:Nat)(w:RX)(wd wd':RZ)(T T' X J:RV)(c6 c7 c8 c9 c10 c11 c12 c13 c14:Cell):Ctx:=
 [.val (.int p),.val<|.str<|xN m w,.val<|iw m w wd T,.val<|iw m w wd' T',.val<|.lst<|AV m w wd wd' J,.val<|.lst<|tbL (m+1) wd wd' X,c6,c7,c8,c9,c10,c11,c12,c13,c14]
end
theorem X1(f:Nat->Int)(a:Nat) : ∀b,zc f (a+b)=zc f a+zc (λx=>f<|a+x) b
 | 0=>by show zc f a=zc f a+0;omega
 | b+1=>by show zc f (a+b)+f (a+b)=zc f a+(zc (λx=>f<|a+x) b+f (a+b));rw[X1 f a b];omega
structure WB(n r:Nat)(B:Nat->Vc)(l:RZ):Prop where
 lt : ∀k,k<r->l k<n
 one : ∀k,k<r->B k (l k)=1
 oth : ∀k m,k<r->m<r->m≠k->B k (l m)=0
theorem IsB.wb{p:Int}{n r:Nat}{B:Nat->Vc}{l:RZ}(h:IsB p n r B l):WB n r B l:=⟨h.lt,h.one,h.oth⟩
section
variable{p:Int}{n r:Nat}{B:Nat->Vc}{l:RZ}
theorem fe(hb:WB n r B l){v:Vc}(h:Span p n (Fam r B) v) : ∀i,i<n->v i%p=zc (λk=>v (l k)*B k i) r%p:=by
 obtain⟨t,z⟩:=kc h;intro i hi;rw[z i hi];refine zx λk hk=>?_;have e:v (l k)%p=t k%p:=by rw[z _ (hb.lt k hk),zI (i:=k) hk λj I O=>by rw[hb.oth j k I hk (Ly O)];simp,hb.one k hk,MO]
 exact(xy e rfl).symm
theorem rO(Y:Pr p){s m:Nat}{B:Nat->Vc}{l:RZ}(hb:WB n s B l){W:Nat->Vc}(sp : ∀v,Span p n (Fam s B) v↔Span p n (Fam m W) v)(a0 : ∀t:Vc,(∀i,i<n->zc (λj=>t j*W j i) m%p=0)->∀j,j<m->t j%p=0):m=s:=by
 have h1:s<=m:=by
  have ex : ∀j,∃c:Vc,j<s->∀i,i<n->B j i%p=zc (λe=>c e*W e i) m%p:=λj=>by
   by_cases I:j<s
   ·obtain⟨t,O⟩:=kc ((sp _).mp (.gen ⟨j,I,rfl⟩))
    exact⟨t,λ_=>O⟩
   ·exact⟨λ_=>0,λz=>absurd z I⟩
  obtain⟨C,hC⟩:=NC ex;refine dG Y (f:=λe j=>C j e) λt O j I=>?_;have e1:t j%p=zc (λc=>t c*B c (l j)) s%p:=by rw[zI (i:=j) I λc U a2=>by rw[hb.oth c j U I (Ly a2)];simp,hb.one j I,MO]
  have e2:zc (λc=>t c*B c (l j)) s%p=zc (λc=>t c*zc (λe=>C c e*W e (l j)) m) s%p:=zx λc U=>xy rfl<|hC c U _<|hb.lt j I;have e3:zc (λc=>t c*zc (λe=>C c e*W e (l j)) m) s=zc (λe=>zc (λc=>C c e*t c) s*W e (l j)) m:=by
   rw[zg (g:=λc=>zc (λe=>C c e*t c*W e (l j)) m) λc _=>by rw[<- zV];exact zg λe _=>by rw[<- Lw,LK (t c)],jw]
   exact zg λe _=>jx _ _ _
  rw[e1,e2,e3,zx (g:=λ_=>0) λe he=>by have:=O e he;unfold app at this;rw[IB,this];simp,zy]
  simp
 have h2:m<=s:=dG Y (f:=λi j=>W j<|l i) λt O=>a0 t λi hi=>by
  have c:=fe hb ((sp _).mpr (kA (n:=n) W t)) i hi;rw[c];have:zc (λk=>zc (λj=>t j*W j (l k)) m*B k i) s%p=zc (λ_=>0) s%p:=zx λk hk=>by have:=O k hk;unfold app at this;rw[qB]at this;rw[IB,this];simp
  rw[this,zy];simp
 omega
end
structure Loc(p:Int)(wl wr wk N:Nat)(la ra hk:RX)(x y u:Nat->Vc)(Tl Tr:RK):Prop where
 spL : ∀z:Vc,∃a:Vc,∀i,i<wl->z i%p=zc (λj=>if la j=true then a j*x j i else 0) N%p
 spR : ∀z:Vc,∃a:Vc,∀i,i<wr->z i%p=zc (λj=>if ra j=true then a j*y j i else 0) N%p
 inL : ∀t:Vc,(∀i,i<wl->zc (λj=>if la j=true then t j*x j i else 0) N%p=0)->∀j,j<N->la j=true->t j%p=0
 inR : ∀t:Vc,(∀i,i<wr->zc (λj=>if ra j=true then t j*y j i else 0) N%p=0)->∀j,j<N->ra j=true->t j%p=0
 inK : ∀t:Vc,(∀i,i<wk->zc (λj=>if hk j=true then t j*u j i else 0) N%p=0)->∀j,j<N->hk j=true->t j%p=0
 arL : ∀j,j<N->la j=true->∀i,i<wk->app Tl wl (x j) i%p=(if hk j=true then u j i else 0)%p
 arR : ∀j,j<N->ra j=true->∀i,i<wk->app Tr wr (y j) i%p=(if hk j=true then u j i else 0)%p
 both : ∀j,la j=true->ra j=true->hk j=true
def nwB(la ra hk:RX)(j:Nat):Bool:=(la j && !hk j) || (ra j && !hk j) || (la j && ra j)
def sgB(la:RX)(j:Nat):Int:=if la j=true then -1 else 1
def zvB(wl:Nat)(la ra:RX)(x y:Nat->Vc)(j:Nat):Vc:=qf wl (λi=>if la j=true then x j i else 0) λi=>if ra j=true then sgB la j*y j i else 0
theorem V3(c:Bool)(a x:Int):(if c=true then a*x else 0)=(if c=true then a else 0)*x:=by cases c<;>simp
theorem fO{p:Int}{w N:Nat}{F:RK}{z a:Vc}{x:Nat->Vc}(h : ∀c,c<w->z c%p=zc (λj=>a j*x j c) N%p)(i:Nat):app F w z i%p=zc (λj=>a j*app F w (x j) i) N%p:=by rw[<- yd F w a x N i];exact j3 h i
theorem Xj{p a b:Int}(h:a%p=0):a*b%p=0:=by rw[IB,h];simp
section
variable{p:Int}{wl wr wk N q:Nat}{la ra hk:RX}{x y u:Nat->Vc}{Tl Tr:RK}{B:Nat->Vc}{l:RZ}
def nE(p:Int)(wl wr wk:Nat)(Tl Tr:RK)(z:Vc):Prop:=∀i,i<wk->(app Tl wl z i+app Tr wr (λc=>z<|wl+c) i)%p=0
theorem aV(L:Loc p wl wr wk N la ra hk x y u Tl Tr){j:Nat}(z:j<N)(hn:nwB la ra hk j=true):nE p wl wr wk Tl Tr (zvB wl la ra x y j):=λi hi=>by
 have e1:app Tl wl (zvB wl la ra x y j) i%p=(if la j=true/\hk j=true then u j i else 0)%p:=by
  have:app Tl wl (zvB wl la ra x y j) i=app Tl wl (λi=>if la j=true then x j i else 0) i:=zg λc I=>by show _*qf _ _ _ _=_;rw[zU I]
  rw[this];cases h:la j with
  | false=>simp[app,zy]
  | true=>
   simp only[if_true,true_and];exact L.arL j z h i hi
 have O:app Tr wr (λc=>zvB wl la ra x y j<|wl+c) i%p=(if ra j=true/\hk j=true then sgB la j*u j i else 0)%p:=by
  have:app Tr wr (λc=>zvB wl la ra x y j<|wl+c) i=app Tr wr (λi=>if ra j=true then sgB la j*y j i else 0) i:=zg λc I=>by show _*qf _ _ _ _=_;rw[z7]
  rw[this];cases h:ra j with
  | false=>simp[app,zy]
  | true=>
   simp only[if_true,true_and];have U:app Tr wr (λi=>sgB la j*y j i) i=sgB la j*app Tr wr (y j) i:=by unfold app;rw[<- zV];exact zg λc _=>by rw[Nc]
   rw[U,xy rfl (L.arR j z h i hi)];cases hk j<;>simp
 rw[IV,e1,O,<- IV];unfold nwB at hn;unfold sgB;cases h1:la j<;>cases h2:ra j<;>cases h3:hk j<;>simp[h1,h2,h3]at hn ⊢
 all_goals first
  | (rw[show u j i + -u j i=0 by omega];rfl)
  | (have:=L.both j h1 h2;rw[h3]at this;cases this)
theorem aU(L:Loc p wl wr wk N la ra hk x y u Tl Tr){z:Vc}(hz:nE p wl wr wk Tl Tr z) : ∃t:Vc,∀i,i<wl+wr->z i%p=zc (λj=>if nwB la ra hk j=true then t j*zvB wl la ra x y j i else 0) N%p:=by
 obtain⟨a,ha⟩:=L.spL z;obtain⟨b,hb⟩:=L.spR λc=>z<|wl+c;let α:Vc:=λj=>if la j=true then a j else 0;let β:Vc:=λj=>if ra j=true then b j else 0;have ha : ∀i,i<wl->z i%p=zc (λj=>α j*x j i) N%p:=λi hi=>by rw[ha i hi];congr 1;exact zg λj _=>V3 _ _ _
 have hb : ∀i,i<wr->z (wl+i)%p=zc (λj=>β j*y j i) N%p:=λi hi=>by rw[hb i hi];congr 1;exact zg λj _=>V3 _ _ _
 have U : ∀j,j<N->hk j=true->(α j+β j)%p=0:=L.inK (λj=>α j+β j) λi hi=>by
  have h1:=fO (F:=Tl) ha i;have h2:=fO (F:=Tr) (z:=λc=>z<|wl+c) hb i;have I:=hz i hi;rw[IV,h1,h2,<- IV,<- jt]at I;refine Pk (zx λj O=>?_) I;have Y:α j*app Tl wl (x j) i%p=α j*(if hk j=true then u j i else 0)%p:=by
   cases h:la j with
   | false=>simp[α,h]
   | true=>exact xy rfl<|L.arL j O h i hi
  have a2:β j*app Tr wr (y j) i%p=β j*(if hk j=true then u j i else 0)%p:=by
   cases h:ra j with
   | false=>simp[β,h]
   | true=>exact xy rfl<|L.arR j O h i hi
  rw[IV (α j*_),Y,a2,<- IV,<- On];cases hk j<;>simp
 refine⟨λj=>if la j=true then α j else β j,λi hi=>?_⟩;rcases IJ i wl with c | c
 ·rw[ha i c]
  refine zx λj O=>?_;show _=(if _ then _*qf _ _ _ _ else 0)%p;rw[zU c];have:=U j O;unfold nwB;cases h1:la j<;>cases h2:ra j<;>cases I:hk j<;>simp[h1,h2,I,α,β]at this ⊢;exact Int.emod_eq_zero_of_dvd<|Int.dvd_mul_of_dvd_left<|Int.dvd_of_emod_eq_zero this
 ·obtain⟨d,rfl⟩ : ∃d,i=wl+d:=⟨i - wl,by omega⟩
  rw[hb d ⋯];refine zx λj O=>?_;show _=(if _ then _*qf _ _ _ _ else 0)%p;rw[z7];have:=U j O;unfold nwB sgB;cases h1:la j<;>cases h2:ra j<;>cases I:hk j<;>simp[h1,h2,I,α,β]at this ⊢
  ·exact Int.emod_eq_zero_of_dvd<|Int.dvd_mul_of_dvd_left<|Int.dvd_of_emod_eq_zero this
  ·have:=L.both j h1 h2;rw[I]at this;cases this
  ·have e:b j*y j d - a j * -y j d=(a j+b j)*y j d:=by rw[Int.mul_neg,On];omega
   refine Mo.mpr ?_;rw[e];exact Xj this
theorem lZ(L:Loc p wl wr wk N la ra hk x y u Tl Tr){t:Vc}(z : ∀i,i<wl+wr->zc (λj=>if nwB la ra hk j=true then t j*zvB wl la ra x y j i else 0) N%p=0) : ∀j,j<N->nwB la ra hk j=true->t j%p=0:=by
 have h1:=L.inL (λj=>if nwB la ra hk j=true then t j else 0) λi hi=>by refine Pk (congrArg (· % p)<|zg λj _=>?_)<|z i ⋯;show _=if _ then _*qf _ _ _ _ else 0;rw[zU hi];cases la j<;>cases nwB la ra hk j<;>simp
 have h2:=L.inR (λj=>if nwB la ra hk j=true then sgB la j*t j else 0) λi hi=>by refine Pk (congrArg (· % p)<|zg λj _=>?_)<|z (wl+i) ⋯;show _=if _ then _*qf _ _ _ _ else 0;rw[z7];cases ra j<;>cases nwB la ra hk j<;>simp;rw[<- Lw,LK (t j)]
 intro j I hn;cases h:la j with
 | true=>have:=h1 j I h;rw[RY hn]at this;exact this
 | false=>
  have O:ra j=true:=by unfold nwB at hn;rw[h]at hn;cases h2:ra j<;>simp[h2]at hn ⊢
  have:=h2 j I O;rw[RY hn]at this;unfold sgB at this;rw[h]at this;simpa using this
def cvB(p:Int)(wl:Nat)(la ra:RX)(x y:Nat->Vc)(l:RZ)(j:Nat):Vc:=λc=>zvB wl la ra x y j (l c)%p
theorem Bk(L:Loc p wl wr wk N la ra hk x y u Tl Tr)(hb:WB (wl+wr) q B l)(hs : ∀z,Span p (wl+wr) (Fam q B) z↔nE p wl wr wk Tl Tr z){j:Nat}(I:j<N)(hn:nwB la ra hk j=true){i:Nat}(hi:i<wl+wr) :
 zc (λc=>B c i*cvB p wl la ra x y l j c) q%p=zvB wl la ra x y j i%p:=by
 rw[fe hb ((hs _).mpr (aV L I hn)) i hi];refine zx λc _=>?_;show _*(_%p)%p=_;rw[qr,LK]
theorem Fy(L:Loc p wl wr wk N la ra hk x y u Tl Tr)(hb:WB (wl+wr) q B l)(hs : ∀z,Span p (wl+wr) (Fam q B) z↔nE p wl wr wk Tl Tr z)(v:Vc) :
 ∃t:Vc,∀i,i<q->v i%p=zc (λj=>if nwB la ra hk j=true then t j*cvB p wl la ra x y l j i else 0) N%p:=by
 obtain⟨t,I⟩:=aU L<|(hs _).mp (kA (p:=p) (n:=wl+wr) (m:=q) B v);refine⟨t,λi hi=>?_⟩;have e:zc (λj=>v j*B j (l i)) q=v i:=by rw[zI (i:=i) hi λk hk O=>by rw[hb.oth k i hk hi (Ly O)];simp,hb.one i hi,MO]
 have:=I (l i)<|hb.lt i hi;rw[e]at this;rw[this];refine zx λj _=>?_;split
 ·show _=_*(_%p)%p
  rw[qr]
 ·rfl
theorem Bl(L:Loc p wl wr wk N la ra hk x y u Tl Tr)(hb:WB (wl+wr) q B l)(hs : ∀z,Span p (wl+wr) (Fam q B) z↔nE p wl wr wk Tl Tr z){t:Vc}(I : ∀i,i<q->zc (λj=>if nwB la ra hk j=true then t j*cvB p wl la ra x y l j i else 0) N%p=0) : ∀j,j<N->nwB la ra hk j=true->t j%p=0:=by
 refine lZ L λi hi=>?_;have O:Span p (wl+wr) (Fam q B) λi=>zc (λj=>t j*(if nwB la ra hk j=true then zvB wl la ra x y j i else 0)) N:=Span.sum (u:=λj i=>if nwB la ra hk j=true then zvB wl la ra x y j i else 0) t λj U=>by
  cases hn:nwB la ra hk j with
  | true=>simpa using (hs _).mpr (aV L U hn)
  | false=>exact .zero λi _=>by simp
 have Y : ∀i,zc (λj=>t j*(if nwB la ra hk j=true then zvB wl la ra x y j i else 0)) N=zc (λj=>if nwB la ra hk j=true then t j*zvB wl la ra x y j i else 0) N:=λi=>zg λj _=>by split<;>simp
 rw[<- Y,fe hb O i hi];have:zc (λk=>zc (λj=>t j*(if nwB la ra hk j=true then zvB wl la ra x y j (l k)else 0)) N*B k i) q%p=zc (λ_=>0) q%p:=zx λk a0=>by
  have h1:=I k a0;have:zc (λj=>t j*(if nwB la ra hk j=true then zvB wl la ra x y j (l k)else 0)) N%p=0:=by
   refine Pk (zx λj _=>?_) h1;split
   ·show _=_*(_%p)%p
    rw[qr]
   ·simp
  rw[Xj this];simp
 rw[this,zy];simp
theorem Bm(Y:Pr p)(L:Loc p wl wr wk N la ra hk x y u Tl Tr)(hb:WB (wl+wr) q B l)(hs : ∀z,Span p (wl+wr) (Fam q B) z↔nE p wl wr wk Tl Tr z):((Io N).filter (nwB la ra hk)).length=q:=by
 have nd:((Io N).filter (nwB la ra hk)).Nodup:=NB.sublist Nh;have I:=λg=>qA (nwB la ra hk) g N;have mem : ∀{e:Nat},e<((Io N).filter (nwB la ra hk)).length->((Io N).filter (nwB la ra hk)).getD e 0<N/\nwB la ra hk (((Io N).filter (nwB la ra hk)).getD e 0)=true:=λ{e} he=>by
  have hm:((Io N).filter (nwB la ra hk)).getD e 0∈(Io N).filter (nwB la ra hk):=by rw[Iy,Iv he];exact LU _
  obtain⟨h1,h2⟩:=IP.mp hm;exact⟨Iu.mp h1,h2⟩
 generalize (Io N).filter (nwB la ra hk)=J at nd I mem;refine rO Y hb (W:=λe=>zvB wl la ra x y<|J.getD e 0) (λv=>⟨λO=>?_,λO=>O.le λg hg=>?_⟩) λt U=>?_
 ·obtain⟨t,U⟩:=aU L ((hs v).mp O)
  refine(kA (p:=p) (n:=wl+wr) (m:=J.length) (λe=>zvB wl la ra x y<|J.getD e 0) λe=>t<|J.getD e 0).congr λi hi=>?_;rw[U i hi,<- I λj=>t j*zvB wl la ra x y j i]
 ·obtain⟨e,he,rfl⟩:=hg
  obtain⟨h1,h2⟩:=mem he;exact(hs _).mpr (aV L h1 h2)
 ·have a1:=lZ L (t:=λj=>t<|J.idxOf j) λi hi=>by
   rw[<- I λj=>t (J.idxOf j)*zvB wl la ra x y j i];refine Pk (congrArg (· % p)<|zg λe he=>?_)<|U i hi;show t (J.idxOf<|J.getD e 0)*_=_;rw[Iy,Iv he,Nf,nd.idxOf_getElem _ he]
  intro e he;obtain⟨h1,h2⟩:=mem he;have:=a1 _ h1 h2;rw[Iy,Iv he,Nf,nd.idxOf_getElem _ he]at this;exact this
end
def kp1:=jo 3<|qi<|jB Ws<|zb (zf 0)<|zb (zf 1)<|zb (zf 2) zE
def kp2:=jo 4<|sIx (zG<|sIx (zh 0)<|zu<|.int 1)<|zf 1
def kp3:=jo 5<|sIx (zG<|sIx (zh 0)<|zu<|.int 1)<|zf 2
def kp4:=jo 6<|qi<|jB qL<|zb (sIx (zh 0)<|zu<|.int 0)<|zb (zH jF (zf 5)<|zf 4)<|zb (qi<|zP (zO<|zh 3) (.nm 0) 1 [4] jA (zH jF (QT (zf 0) (sBd<|zf 1) Jl)<|QT (zf 0) Jl<|sBd<|zf 1)) zE
def kp5:=qv<|zH Jo (zH Jo (Zo<|zh 3)<|Zo<|jV<|jB jJ<|zb (zf 5)<|zb (zf 6) zE)<|Zo<|jV<|jB jJ<|zb (zf 4)<|zb (zf 3) zE
def Ji:=z6 7<|zK kp1<|zK kp2<|zK kp3<|zK kp4 kp5
def no1:=jo 3<|zH jF (gJ (zf 0) (qh<|zb (zH Jo (zf 1)<|zu<|.int 1)<|zb (zf 2) zE)<|zu<|.int 0)<|gJ (zf 0) (qh<|zb (zf 1)<|zb (zH jF (zf 2)<|zu<|.int 1) zE)<|zu<|.int 0
def no2:=qv<|zH jF (zH Jo (oC (zf 0)<|qh<|zb (zf 1)<|zb (zf 2) zE)<|zf 3)<|gJ (zf 0) (qh<|zb (zH Jo (zf 1)<|zu<|.int 1)<|zb (zH jF (zf 2)<|zu<|.int 1) zE)<|zu<|.int 0
def xG:=z6 4<|zK no1 no2
def nm1:=jo 1<|qi<|jB xZ<|zb (Zo<|zG<|sIx (zh 0)<|zu<|.int 1) zE
def nm2:=jo 2<|bM<|zP (zO<|zh 1) (.tp [0,1]) 2 [0] jA (qh<|zb (qh<|zb (zf 0)<|zb (zf 1) zE)<|zb (zC Ji<|zb (zf 2)<|zb (zf 0)<|zb (zf 1) zE) zE)
def nm3:=qv<|bM<|zP (zO<|zh 1) (.tp [0,1]) 2 [2] jA (qh<|zb (qh<|zb (zf 0)<|zb (zf 1) zE)<|zb (zC xG<|zb (zf 2)<|zb (zf 0)<|zb (zf 1) zE) zE)
def qJ:=z6 3<|zK nm1<|zK nm2 nm3
theorem AK:Ji=z6 7 (zK kp1<|zK kp2<|zK kp3<|zK kp4 kp5):=rfl
section
variable{p:Int}{w:RX}{wd:RZ}{T:RV}{m:Nat}
theorem av(hb:IsB p (a+b) q B l)(hs:s<=q)(s1 : ∀k,k<s->l k<a)(s2 : ∀k,s<=k->k<q->a<=l k) :
 IsB p a s B l/\∀u,Span p a (Fam s B) u ↔ ∃z,Span p (a+b) (Fam q B) (qf a u z):=by
 refine⟨{
  lt:=s1
  mono:=λk m h1 h2=>hb.mono k m h1 ⋯
  one:=λk hk=>hb.one k ⋯
  bef:=λk j hk O=>hb.bef k j ⋯ O
  oth:=λk m hk hm U=>hb.oth k m ⋯ ⋯ U
  rng:=λk i hk hi=>hb.rng k i ⋯ ⋯},λu=>⟨λI=>?_,λI=>?_⟩⟩
 ·obtain⟨t,Y⟩:=kc I
  refine⟨λj=>zc (λk=>t k*B k (a+j)) s,(Span.sum (u:=B) t (m:=s) λk hk=> .gen ⟨k,by omega,rfl⟩).congr λi hi=>?_⟩;rcases IJ i a with z | z
  ·rw[zU z,Y i z]
  ·obtain⟨j,rfl⟩ : ∃j,i=a+j:=⟨i - a,by omega⟩
   rw[z7]
 ·obtain⟨z,hz⟩:=I
  have c:=wm hb hz;refine(kA (n:=a) B λk=>qf a u z<|l k).congr λi hi=>?_;have:=c i ⋯;rw[zU hi]at this;rw[this];obtain⟨e,rfl⟩ : ∃e,q=s+e:=⟨q - s,by omega⟩;rw[yX];have e0:zc (λk=>qf a u z (l<|s+k)*B (s+k) i) e=zc (λ_=>0) e:=zg λk hk=>by rw[hb.bef (s+k) i ⋯ (by have:=s2 (s+k) ⋯ ⋯;omega)];simp
  rw[e0,zy,Int.add_zero]
theorem WC(v:Vc):Span p (b+a) (Fam q λk=>qf b (λj=>B k<|a+j)<|B k) (qf b (λ_=>0) v)↔Span p (a+b) (Fam q B) (qf a v λ_=>0):=by
 constructor
 ·intro h
  refine(h.map (n':=a+b) (G':=Fam q B) (λi=>if i<a then b+i else i - a) (λi hi=>by split<;>omega) λg I=>?_).congr λi hi=>?_
  ·obtain⟨k,hk,rfl⟩:=I
   refine(Span.gen (g:=B k) ⟨k,hk,rfl⟩).congr λi hi=>?_;show qf b (λj=>B k<|a+j) (B k) (if i<a then b+i else i - a)%p=_;split
   ·rw[z7]
   ·rw[zU ⋯];congr 2;omega
  ·split
   ·next z=>rw[z7,zU z]
   ·next z=>
    obtain⟨j,rfl⟩ : ∃j,i=a+j:=⟨i - a,by omega⟩;rw[z7,zU ⋯]
 ·intro h
  refine(h.map (n':=b+a) (G':=Fam q λk=>qf b (λj=>B k<|a+j)<|B k) (λi=>if i<b then a+i else i - b) (λi hi=>by split<;>omega) λg I=>?_).congr λi hi=>?_
  ·obtain⟨k,hk,rfl⟩:=I
   refine(Span.gen (g:=qf b (λj=>B k<|a+j)<|B k) ⟨k,hk,rfl⟩).congr λi hi=>?_;split
   ·next z=>rw[zU z]
   ·next z=>
    obtain⟨j,rfl⟩ : ∃j,i=b+j:=⟨i - b,by omega⟩;rw[z7];congr 2;omega
  ·split
   ·next z=>rw[z7,zU z]
   ·next z=>
    obtain⟨j,rfl⟩ : ∃j,i=b+j:=⟨i - b,by omega⟩;rw[z7,zU ⋯];congr 2;omega
theorem pZ(hp:Pr p)(Y : ∀k,wd k<=7)(hT : ∀k x y,0<=T k x y/\T k x y<p)(hm:m<=20)(a8:i<=j)(hj:j<=m) :
 ∃(s q:Nat) (B B2:Nat->Vc) (l l2:RZ),Ji [jI p m w wd T,.int i,.int j]=some (.val<|.int<|(s:Int) - (q:Int))/\IsB p (wd i) s B l/\(∀u,Span p (wd i) (Fam s B) u ↔ ∃z,Wk p w wd T i (j - i) u z)/\IsB p (wd i) q B2 l2/\∀u,Span p (wd i) (Fam q B2) u↔Wk p w wd T i (j - i) u λ_=>0:=by
 have hl:=jd;have ha:=Y i;have ax:=Y j;obtain⟨q,B,l,e1,hb,hP⟩:=gc (m:=m) (w:=w) hp Y hT a8 hj;have hq:=yK hb;have O:q<=lim:=by omega
 obtain⟨r,B',l',e2,U,hS⟩:=qD hp (show wd j+wd i<=100 by omega) O .L λk=>qf (wd j) (λx=>B k<|wd i+x)<|B k;have hr:=yK U;obtain⟨s,hs,s1,s2⟩:=yj (l:=l) (wd i) hb.mono;obtain⟨s',a3,a4,a5⟩:=yj (l:=l') (wd j) U.mono;have b1:=kU hb O hs s1 s2;have b2:=kU U ⋯ a3 a4 a5;obtain⟨h1,h2⟩:=av hb hs s1 s2;obtain⟨h3,h4⟩:=JJ U a3 a4 a5;refine⟨s,r - s',B,_,l,_,?_,h1,λu=>?_,h3,λu=>?_⟩
 ·have ag:i<m+1:=by omega
  have am:j<m+1:=by omega
  have sw:zS (.nm 0) jA (zH jF (QT (zf 0) (sBd<|zf 1) Jl)<|QT (zf 0) Jl<|sBd<|zf 1) [.no,.val (.int<|wd i)] (zN q (wd i+wd j) B)=some (zN q (wd j+wd i) λk=>qf (wd j) (λx=>B k<|wd i+x)<|B k):=by
   unfold zN;refine zB _ _ λk hk=>zD rfl rfl ?_;have a6:wd j+wd i<=lim:=by omega
   simp[Wg,Wf,jF,a6,kO]
  let R:=jI p m w wd T;let I:D:= .lst (zN q (wd i+wd j) B);let L2:D:= .lst (zN r (wd j+wd i) B');rw[AK];refine jG (zv (γ':=[.val R,.val<|.int i,.val<|.int j,.val I,.no,.no,.no]) ?_
   (zv (γ':=[.val R,.val<|.int i,.val<|.int j,.val I,.val<|.int<|wd i,.no,.no]) ?_
   (zv (γ':=[.val R,.val<|.int i,.val<|.int j,.val I,.val<|.int<|wd i,.val<|.int<|wd j,.no]) ?_
   (zv (γ':=[.val R,.val<|.int i,.val<|.int j,.val I,.val<|.int<|wd i,.val<|.int<|wd j,.val L2]) ?_ ?_))))
  ·simp[kp1,zY,Iw,R,I,e1]
  ·simp[kp2,R,jU,ag]
  ·simp[kp3,R,jU,am]
  ·have c1:((wd j:Int)+(wd i:Int))=((wd j+wd i:Nat):Int):=by omega
   have a6:wd j+wd i<=lim:=by omega
   simp only[dsq]at e2;simp[kp4,jk,R,jU,I,O,sw];rw[c1,e2];simp[L2]
  ·have r1:q - s<=lim:=by omega
   have r2:r - s'<=lim:=by omega
   have f1:(q:Int) - ((r - s':Nat):Int) - ((q - s:Nat):Int)=(s:Int) - ((r - s':Nat):Int):=by omega
   simp[kp5,I,L2,b1,b2,O,r1,r2,f1]
 ·rw[h2 u]
  constructor
  ·rintro⟨z,hz⟩
   have:=(Xf (j - i) _).mp ((hP _).mp hz);exact⟨_,K9 this λx hx=>by rw[zU hx]⟩
  ·rintro⟨z,hz⟩
   refine⟨z,(hP _).mpr ((Xf (j - i) _).mpr ?_)⟩;rw[show(λx=>qf (wd i) u z<|wd i+x)=z from funext λx=>z7 x];exact K9 hz λx hx=>by rw[zU hx]
 ·rw[h4 u,hS,WC,hP,Xf,show(λx=>qf (wd i) u (λ_=>0)<|wd i+x)=λ_=>0 from funext λx=>z7 x]
  exact⟨λh=>K9 h λx hx=>by rw[zU hx],λh=>K9 h λx hx=>by rw[zU hx]⟩
end
def stN(M:Nat):List (Nat×Nat):=(Io M).flatMap λi=>(Ng i<|M - i).map λj=>(i,j)
def kI(s:Nat×Nat):List Int:=[(s.1:Int),(s.2:Int)]
def kD(s:Nat×Nat):D:= .tup [.int s.1,.int s.2]
theorem mem_st:s∈stN M↔s.1<=s.2/\s.2<M:=by
 unfold stN;simp only[OT,Iu,La,List.mem_range'_1];constructor
 ·rintro⟨i,hi,j,z,rfl⟩
  exact⟨z.1,by show j<M;omega⟩
 ·intro h
  exact⟨s.1,by omega,s.2,⟨h.1,by omega⟩,rfl⟩
theorem Vt : ∀M:Fin 7,(stN M.val).Nodup/\((stN M.val).map kI).Nodup/\(stN M.val).length<=21:=by decide +kernel
theorem Ec : ∀M:Fin 7,xZ [.int (M.val:Int)]=some (.own<|(stN M.val).map kD)
 | ⟨0,_⟩=>by kernel_rfl
 | ⟨1,_⟩=>by kernel_rfl
 | ⟨2,_⟩=>by kernel_rfl
 | ⟨3,_⟩=>by kernel_rfl
 | ⟨4,_⟩=>by kernel_rfl
 | ⟨5,_⟩=>by kernel_rfl
 | ⟨6,_⟩=>by kernel_rfl
theorem V2(h:kI s=kI t):s=t:=by unfold kI at h;simp only[Nn,and_true]at h;obtain⟨a,b⟩:=s;obtain⟨c,d⟩:=t;simp only[Prod.mk.injEq];have h1:=h.1;have h2:=h.2;dsimp only at h1 h2;omega
theorem YO(f:Nat×Nat->D)(k:List Int) : ∀L:List (Nat×Nat),aS (L.map kI) (L.map f) k=(L.find? λs=>decide<|kI s=k).map f
 | []=>rfl
 | s::L=>by
  show(if kI s=k then _ else _)=_;by_cases h:kI s=k
  ·rw[RY h,OV (by simpa using h)];rfl
  ·rw[EQ h,OW (by simpa using h)];exact YO f k L
theorem eh{L:List (Nat×Nat)}{s:Nat×Nat}(h:s∈L):(L.find? λt=>decide<|kI t=kI s)=some s:=by
 cases e:L.find? λt=>decide (kI t=kI s)with
 | none=>
  have:=Ov.mp e s h;simp at this
 | some t=>
  have:=List.find?_some e;rw[V2 (of_decide_eq_true this)]
def atS(f:Nat×Nat->Int)(M:Nat)(a b:Int):Int:=if 0<=a/\a<=b/\b<M then f (a.toNat,b.toNat)else 0
theorem Xt(f:Nat×Nat->Int)(M:Nat)(a b:Int):(aS ((stN M).map kI) ((stN M).map λs=> .int (f s)) [a,b]).getD (.int 0) = .int (atS f M a b):=by
 rw[YO (λs=> .int (f s))];unfold atS;split
 ·next h=>
  have e:[a,b]=kI (a.toNat,b.toNat):=by unfold kI;simp;omega
  rw[e,eh (mem_st.mpr<|by show a.toNat<=b.toNat/\b.toNat<M;omega)];rfl
 ·next h=>
  rw[Ov.mpr λs hs z=>h ?_]
  ·rfl
  ·have hm:=mem_st.mp hs
   have z:=of_decide_eq_true z;unfold kI at z;simp only[Nn,and_true]at z;omega
theorem dY(f:Nat×Nat->Int){M:Nat}{s:Nat×Nat}(h:s∈stN M):aS ((stN M).map kI) ((stN M).map λs=>D.int<|f s) [(s.1:Int),(s.2:Int)]=some (.int<|f s):=by rw[YO (λs=> .int (f s))];rw[show [(s.1:Int),(s.2:Int)]=kI s from rfl,eh h];rfl
def pG(f:Nat×Nat->Int)(M:Nat)(s:Nat×Nat):Int:=f s - (atS f M ((s.1:Int) - 1) s.2+atS f M s.1 ((s.2:Int)+1))+atS f M ((s.1:Int) - 1) ((s.2:Int)+1)
def QB(f:Nat×Nat->Int)(M:Nat):D:= .dct ((stN M).map kI) ((stN M).map λs=> .int (f s))
theorem pY(a b:Int):mX (.tup [.int a,.int b])=some [a,b]:=rfl
theorem As:xG=z6 4 (zK no1 no2):=rfl
theorem cS(f:Nat×Nat->Int)(h:s∈stN M):xG [QB f M,.int s.1,.int s.2]=some (.val<|.int<|pG f M s):=by
 have h1:=Xt f M ((s.1:Int) - 1) s.2;have h2:=Xt f M s.1<|(s.2:Int)+1;have z:=Xt f M ((s.1:Int) - 1)<|(s.2:Int)+1;have I:=dY f h;rw[As];refine jG<|zv (γ':=[.val (QB f M),.val<|.int s.1,.val<|.int s.2,.val (.int<|atS f M ((s.1:Int) - 1) s.2+atS f M s.1 ((s.2:Int)+1))]) ?_ ?_
 ·simp[no1,zY,Iw,QB,rB,pY,h1,h2]
 ·simp[no2,QB,rB,pY,z,I,pG]
theorem QM(f:Nat×Nat->Int) : ∀L:List (Nat×Nat),yW (L.map λs=>D.tup [kD s,.int (f s)])=some (L.map kD,L.map λs=> .int (f s))
 | []=>rfl
 | s::L=>by show(yW<|L.map λs=>D.tup [kD s,.int (f s)]).map _=_;rw[QM f L];rfl
theorem dm : ∀L:List (Nat×Nat),dr (L.map kD)=some (L.map kI)
 | []=>rfl
 | s::L=>by show(mX<|kD s).bind _=_;rw[show mX (kD s)=some (kI s)from rfl];show(dr<|L.map kD).map _=_;rw[dm L];rfl
theorem Aw:qJ=z6 3 (zK nm1<|zK nm2 nm3):=rfl
section
variable{p:Int}{w:RX}{wd:RZ}{T:RV}{m:Nat}
theorem W7(hm:m<=5)(f:Nat×Nat->Int)(hk : ∀s,s∈stN (m+1)->Ji [jI p m w wd T,.int s.1,.int s.2]=some (.val<|.int<|f s)):qJ [jI p m w wd T]=some (.val<|QB (pG f<|m+1)<|m+1):=by
 have hl:=jd;obtain⟨n1,z,Y⟩:=Vt ⟨m+1,by omega⟩;have I:=Ec ⟨m+1,by omega⟩;dsimp only at n1 z Y I;have O:(stN<|m+1).length<=lim:=by omega
 let S:D:= .lst ((stN<|m+1).map kD);have c1:zS (.tp [0,1]) jA (qh<|zb (qh<|zb (zf 0)<|zb (zf 1) zE)<|zb (zC Ji<|zb (zf 2)<|zb (zf 0)<|zb (zf 1) zE) zE) [.no,.no,.val (jI p m w wd T)] ((stN<|m+1).map kD)=some ((stN<|m+1).map λs=>D.tup [kD s,.int (f s)]):=by refine zB _ _ λs hs=>zD (γ1:=[.val (.int s.1),.val<|.int s.2,.val (jI p m w wd T)]) rfl rfl ?_;have:=hk s hs;simp[this,kD]
 have c2:zS (.tp [0,1]) jA (qh<|zb (qh<|zb (zf 0)<|zb (zf 1) zE)<|zb (zC xG<|zb (zf 2)<|zb (zf 0)<|zb (zf 1) zE) zE) [.no,.no,.val (QB f<|m+1)] ((stN<|m+1).map kD)=some ((stN<|m+1).map λs=>D.tup [kD s,.int (pG f (m+1) s)]):=by refine zB _ _ λs hs=>zD (γ1:=[.val (.int s.1),.val<|.int s.2,.val (QB f<|m+1)]) rfl rfl ?_;have:=cS f hs;simp[this,kD]
 have u1:=QM f<|stN<|m+1;have u2:=QM (pG f<|m+1)<|stN<|m+1;have U:=dm<|stN<|m+1;have em:((m:Int)+1)=((m+1:Nat):Int):=by omega
 rw[Aw];refine jG<|zv (γ':=[.val (jI p m w wd T),.val S,.no]) ?_ (zv (γ':=[.val (jI p m w wd T),.val S,.val (QB f<|m+1)]) ?_ ?_)
 ·simp[nm1,zY,Iw,jU]
  rw[em,I];simp[S]
 ·simp[nm2,jk,S,O,c1,u1,U,z,QB]
 ·simp[nm3,jk,S,O,c2,u2,U,z]
  rfl
end
def cvZ(K:List (Nat×Nat))(a b:Int):Nat:=K.countP λx=>decide ((x.1:Int)<=a) && decide (b<=(x.2:Int))
def muZ(K:List (Nat×Nat))(s:Nat×Nat):Nat:=K.countP λx=>decide<|x=s
theorem xT(x:Nat×Nat)(K:List (Nat×Nat))(a b:Int):(cvZ (x::K) a b:Int)=(cvZ K a b:Int)+if (x.1:Int)<=a/\b<=(x.2:Int)then 1 else 0:=by
 unfold cvZ;rw[List.countP_cons];by_cases h1:(x.1:Int)<=a
 ·by_cases h2:b<=(x.2:Int)
  ·rw[RY (show(decide ((x.1:Int)<=a) && decide (b<=(x.2:Int)))=true by simp only[decide_eq_true h1,decide_eq_true h2];rfl),RY ⟨h1,h2⟩];rfl
  ·rw[EQ (show ¬(decide ((x.1:Int)<=a) && decide (b<=(x.2:Int)))=true by simp only[decide_eq_false h2,Bool.and_false];decide),EQ λz=>h2 z.2];rfl
 ·rw[EQ (show ¬(decide ((x.1:Int)<=a) && decide (b<=(x.2:Int)))=true by simp only[decide_eq_false h1,OB];decide),EQ λz=>h1 z.1];rfl
theorem wN(x s:Nat×Nat)(K:List (Nat×Nat)):(muZ (x::K) s:Int)=(muZ K s:Int)+if (x.1=s.1/\x.2=s.2)then 1 else 0:=by
 unfold muZ;rw[List.countP_cons];by_cases h:x=s
 ·rw[RY (decide_eq_true h),RY (by rw[h];exact⟨rfl,rfl⟩)];rfl
 ·rw[EQ (by simpa using h),EQ λz=>h (Prod.ext z.1 z.2)];rfl
theorem KF(s:Nat×Nat) : ∀K:List (Nat×Nat),(cvZ K s.1 s.2:Int) - ((cvZ K ((s.1:Int) - 1) s.2:Int)+(cvZ K s.1 ((s.2:Int)+1):Int))+(cvZ K ((s.1:Int) - 1) ((s.2:Int)+1):Int)=(muZ K s:Int)
 | []=>rfl
 | x::K=>by
  have z:=KF s K;rw[xT,xT,xT,xT,wN];generalize (cvZ K s.1 s.2:Int)=I at *;generalize (cvZ K ((s.1:Int) - 1) s.2:Int)=O at *;generalize (cvZ K s.1 ((s.2:Int)+1):Int)=U at *;generalize (cvZ K ((s.1:Int) - 1) ((s.2:Int)+1):Int)=Y at *;generalize (muZ K s:Int)=c5 at *
  repeat' split
  all_goals omega
section
variable{p:Int}{w:RX}{wd:RZ}{T:RV}{m N:Nat}{A:Nat->Bar}
def yD(A:Nat->Bar)(N:Nat):List (Nat×Nat):=(Io N).map λj=>((A j).s,(A j).s+(A j).n - 1)
theorem Xo(D:Decp p w wd T m N A) : ∀x,x∈yD A N->x∈stN (m+1):=λx hx=>by obtain⟨j,z,rfl⟩:=La.mp hx;have h1:=(D.ok j<|Iu.mp z).n1;have h2:=(D.ok j<|Iu.mp z).le;exact mem_st.mpr (by show(A j).s<=(A j).s+(A j).n - 1/\(A j).s+(A j).n - 1<m+1;omega)
theorem nz(D:Decp p w wd T m N A)(z:i<=j):(cvL A N i j).length=cvZ (yD A N) i j:=by unfold cvL cvZ yD;rw[<- Lf,Oi];refine MK λk hk=>?_;have h1:=(D.ok k<|Iu.mp hk).n1;simp only[ID,Pu,decide_eq_true_eq];rw[has_iff,has_iff];omega
theorem su(D:Decp p w wd T m N A)(I:a<=b):atS (λs=>(cvZ (yD A N) s.1 s.2:Int)) (m+1) a b=(cvZ (yD A N) a b:Int):=by
 unfold atS;split
 ·next h=>
  show((cvZ (yD A N) (a.toNat:Int) (b.toNat:Int):Nat):Int)=_;rw[Oj h.1,Oj ⋯]
 ·next h=>
  have:cvZ (yD A N) a b=0:=by unfold cvZ;rw[Ni];intro x hx z;have:=mem_st.mp<|Xo D x hx;simp only[ID,decide_eq_true_eq]at z;omega
  rw[this];rfl
theorem Ar(D:Decp p w wd T m N A)(hs:s.1<=s.2):pG (λs=>(cvZ (yD A N) s.1 s.2:Int)) (m+1) s=(muZ (yD A N) s:Int):=by unfold pG;rw[su D ⋯,su D ⋯,su D ⋯];exact KF s _
theorem iQ(z:Pr p)(O : ∀k,wd k<=7)(U : ∀k x y,0<=T k x y/\T k x y<p)(hm:m<=20)(D:Decp p w wd T m N A)(I:i<=j)(Y:j<=m):Ji [jI p m w wd T,.int i,.int j]=some (.val<|.int ((cvZ (yD A N) i j:Nat):Int)):=by obtain⟨s,q,B,B2,l,l2,e,h1,h2,h3,h4⟩:=pZ (w:=w) z O U hm I Y;have:=iS z D (n:=j - i) ⋯ h1 h2 h3 h4;rw[show i+(j - i)=j by omega]at this;rw[e,<- nz D I];congr 3;omega
end
def swp(k x:Nat):Nat:=if x=k then k+1 else if x=k+1 then k else x
def xM(k:Nat)(b:Bar):Bool:=decide (b.s<k) && decide (k<=b.s+b.n)
def wI(k:Nat)(b:Bar):Bool:=decide (b.s<=k+1) && decide (k+1<b.s+b.n)
def mvB(k:Nat)(b:Bar)(v:Nat->Vc):Bar:=⟨swp k b.s,swp k (b.s+b.n) - swp k b.s,v⟩
theorem mf{k:Nat}{b:Bar}(h1:1<=b.n)(h : ¬(b.s=k/\b.n=1)):swp k b.s<swp k (b.s+b.n):=by unfold swp;split<;>split<;>(try split)<;>(try split)<;>omega
theorem Az{k:Nat}{b:Bar}{v:Nat->Vc}(h1:1<=b.n){r:Nat}(z:r≠k):(mvB k b v).has r=b.has r:=by rw[Mr,has_iff,has_iff];show swp k b.s<=r/\r<swp k b.s+(swp k (b.s+b.n) - swp k b.s)↔_;unfold swp;split<;>split<;>(try split)<;>(try split)<;>omega
theorem pQ{k:Nat}{b:Bar}{v:Nat->Vc}(h1:1<=b.n):(mvB k b v).has k=((xM k b && !b.has k) || (wI k b && !b.has k) || (xM k b && wI k b)):=by have e : ∀{x y:Bool},(x=true↔y=true)->x=y:=λh=>Mr.mpr h;refine e ?_;simp only[LO,ID,MM,<- Bool.not_eq_true,has_iff,xM,wI,decide_eq_true_eq];show swp k b.s<=k/\k<swp k b.s+(swp k (b.s+b.n) - swp k b.s)↔_;unfold swp;split<;>split<;>(try split)<;>(try split)<;>omega
def sgR(k:Nat)(b:Bar)(r:Nat):Int:=if b.s<k/\k<r then -1 else 1
theorem mj(k:Nat)(b:Bar)(r:Nat):sgR k b r*sgR k b r=1:=by unfold sgR;split<;>rfl
section
variable{p:Int}{w w':RX}{wd wd':RZ}{T T':RV}{m N k q:Nat}{A:Nat->Bar}{B:Nat->Vc}{l:RZ}
theorem eU{z:Nat->Bar}(keep:RX)(ok : ∀j,j<N->keep j=true->BarOk p w wd T m (z j))(no : ∀j,j<N->keep j=false->∀r,(z j).has r=false)
 (sp : ∀r,r<=m->∀v:Vc,∃t:Vc,∀i,i<wd r->v i%p=zc (λj=>if (z j).has r=true then t j*(z j).v r i else 0) N%p)
 (inj : ∀r,r<=m->∀t:Vc,(∀i,i<wd r->zc (λj=>if (z j).has r=true then t j*(z j).v r i else 0) N%p=0)->∀j,j<N->(z j).has r=true->t j%p=0)
 (cnt : ∀r,r<=m->((Io N).filter λj=>(z j).has r).length=wd r) :
 Decp p w wd T m ((Io N).filter keep).length λe=>z (((Io N).filter keep).getD e 0):=by
 have nd:((Io N).filter keep).Nodup:=NB.sublist Nh;have Y:=λg=>qA keep g N;have mem : ∀{e:Nat},e<((Io N).filter keep).length->((Io N).filter keep).getD e 0<N/\keep (((Io N).filter keep).getD e 0)=true:=λ{e} he=>by
  have hm:((Io N).filter keep).getD e 0∈(Io N).filter keep:=by rw[Iy,Iv he];exact LU _
  obtain⟨h1,h2⟩:=IP.mp hm;exact⟨Iu.mp h1,h2⟩
 have cn : ∀r,((Io N).filter keep).filter (λj=>(z j).has r)=(Io N).filter λj=>(z j).has r:=λr=>by
  rw[List.filter_filter];refine MZ λj O=>?_;cases h:keep j with
  | true=>simp
  | false=>simp[no j (Iu.mp O) h r]
 have eJ:((Io N).filter keep)=(Io ((Io N).filter keep).length).map λe=>((Io N).filter keep).getD e 0:=(jL 0 _).symm;generalize hJ:(Io N).filter keep=J at nd Y mem cn eJ;have s2 : ∀r (t:Vc) (i:Nat),zc (λe=>if (z<|J.getD e 0).has r=true then t (J.getD e 0)*(z<|J.getD e 0).v r i else 0) J.length=zc (λj=>if (z j).has r=true then t j*(z j).v r i else 0) N:=λr t i=>by
  rw[Y λj=>if (z j).has r=true then t j*(z j).v r i else 0];refine zg λj O=>?_;cases h:keep j with
  | true=>simp
  | false=>simp[no j O h r]
 have a2 : ∀(t:Vc) e,e<J.length->t (J.idxOf<|J.getD e 0)=t e:=λt e he=>by rw[Iy,Iv he,Nf,nd.idxOf_getElem _ he]
 refine⟨λe he=>ok _ (mem he).1 (mem he).2,λr I v=>?_,λr I t U e he hh=>?_,λr I=>?_⟩
 ·obtain⟨t,U⟩:=sp r I v
  exact⟨λe=>t<|J.getD e 0,λi hi=>by rw[U i hi,<- s2 r t i]⟩
 ·have:=inj r I (λj=>t<|J.idxOf j) (λi hi=>by
   rw[<- s2 r (λj=>t<|J.idxOf j) i];refine Pk (congrArg (· % p)<|zg λe he=>?_)<|U i hi;show(if _ then t (J.idxOf<|J.getD e 0)*_ else 0)=_;rw[a2 t e he]) _ (mem he).1 hh
  rw[a2 t e he]at this;exact this
 ·rw[<- cnt r I,<- cn r,<- Lf]
  unfold ixs;rw[<- Lf]
  conv=>rhs;rw[eJ,Oi]
  rfl
end
section
variable{p:Int}{w w':RX}{wd wd':RZ}{T T':RV}{m N k q wl wr:Nat}{A:Nat->Bar}{B:Nat->Vc}{l:RZ}
structure TurnE(p:Int)(w w':RX)(wd wd':RZ)(T T':RV)(m k q wl wr:Nat)(B:Nat->Vc)(l:RZ):Prop where
 km:k<=m
 wl0:wl=if 0<k then wd (k - 1)else 0
 wr0:wr=if k<m then wd (k+1)else 0
 el:0<k->w (k - 1)=false/\w' (k - 1)=true/\∀i c,i<wl->c<q->T' (k - 1) i c=B c i
 er:k<m->w k=true/\w' k=false/\∀i c,i<wr->c<q->T' k i c=B c (wl+i)
 oth : ∀j,j<m->j≠k->j+1≠k->w' j=w j/\∀i c,T' j i c=T j i c
 wdk:wd' k=q
 wdo : ∀r,r≠k->wd' r=wd r
 hb:WB (wl+wr) q B l
 hs : ∀z,Span p (wl+wr) (Fam q B) z↔nE p wl wr (wd k) (T<|k - 1) (T k) z
theorem V5{b:Bar}(h1:1<=b.n)(h0:0<k):xM k b=b.has (k - 1):=by rw[Mr,has_iff];simp only[xM,ID,decide_eq_true_eq];omega
theorem AG(D:Decp p w wd T m N A)(E:TurnE p w w' wd wd' T T' m k q wl wr B l):Loc p wl wr (wd k) N (λj=>xM k<|A j) (λj=>wI k<|A j) (λj=>(A j).has k) (λj=>(A j).v (k - 1)) (λj=>(A j).v (k+1)) (λj=>(A j).v k) (T<|k - 1) (T k):=by
 have km:=E.km;have fL : ∀j,j<N->0<k->xM k (A j)=(A j).has (k - 1):=λj I h0=>V5 (D.ok j I).n1 h0;have a1:0<k->∀t:Vc,∀i,zc (λj=>if xM k (A j)=true then t j*(A j).v (k - 1) i else 0) N=zc (λj=>if (A j).has (k - 1)=true then t j*(A j).v (k - 1) i else 0) N:=λh0 t i=>zg λj I=>by rw[fL j I h0]
 refine⟨λz=>?_,λz=>?_,λt U j I O=>?_,λt U j I O=>?_,λt U=>D.inj k km t U,λj I O i hi=>?_,λj I O i hi=>?_,λj h1 h2=>?_⟩
 ·by_cases h0:0<k
  ·obtain⟨t,U⟩:=D.sp (k - 1) ⋯ z
   refine⟨t,λi hi=>?_⟩;rw[E.wl0,RY h0]at hi;rw[U i hi,a1 h0]
  ·exact⟨λ_=>0,λi hi=>by rw[E.wl0,EQ h0]at hi;omega⟩
 ·by_cases h0:k<m
  ·obtain⟨t,U⟩:=D.sp (k+1) ⋯ z
   refine⟨t,λi hi=>?_⟩;rw[E.wr0,RY h0]at hi;exact U i hi
  ·exact⟨λ_=>0,λi hi=>by rw[E.wr0,EQ h0]at hi;omega⟩
 ·have h0:0<k:=by simp only[xM,ID,decide_eq_true_eq]at O;omega
  refine D.inj (k - 1) ⋯ t (λi hi=>?_) j I (by rw[<- fL j I h0];exact O);rw[<- a1 h0];exact U i (by rw[E.wl0,RY h0];exact hi)
 ·have O:(A j).has (k+1)=true:=O
  have h0:k<m:=by have:=(has_iff.mp O).2;have:=(D.ok j I).le;omega
  exact D.inj (k+1) ⋯ t (λi hi=>U i<|by rw[E.wr0,RY h0];exact hi) j I O
 ·have h0:0<k:=by simp only[xM,ID,decide_eq_true_eq]at O;omega
  have hw:=(E.el h0).1;have Y:jO w (k - 1)=k - 1:=by unfold jO;rw[hw];rfl
  have ee:jT w (k - 1)=k:=by unfold jT;rw[hw];simp;omega
  have:=(D.ok j I).arr (k - 1) ⋯ (by rw[Y,<- fL j I h0];exact O) i (by rw[ee];exact hi);rw[Y,ee]at this;rw[E.wl0,RY h0];exact this
 ·have O:(A j).has (k+1)=true:=O
  have h0:k<m:=by have:=(has_iff.mp O).2;have:=(D.ok j I).le;omega
  have hw:=(E.er h0).1;have Y:jO w k=k+1:=by unfold jO;rw[hw];rfl
  have ee:jT w k=k:=by unfold jT;rw[hw];rfl
  have:=(D.ok j I).arr k h0 (by rw[Y];exact O) i (by rw[ee];exact hi);rw[Y,ee]at this;rw[E.wr0,RY h0];exact this
 ·simp only[xM,wI,ID,decide_eq_true_eq]at h1 h2
  rw[has_iff];omega
def vwB(p:Int)(k wl:Nat)(A:Nat->Bar)(l:RZ)(j r:Nat):Vc:=
 if r=k then cvB p wl (λj=>xM k<|A j) (λj=>wI k<|A j) (λj=>(A j).v (k - 1)) (λj=>(A j).v (k+1)) l j else λi=>sgR k (A j) r*(A j).v r i%p
def sQ(p:Int)(k wl:Nat)(A:Nat->Bar)(l:RZ)(j:Nat):Bar:=mvB k (A j)<|vwB p k wl A l j
def yO(k:Nat)(A:Nat->Bar)(j:Nat):Bool:= !(decide ((A j).s=k) && decide ((A j).n=1))
theorem ly(hp:Pr p)(D:Decp p w wd T m N A)(E:TurnE p w w' wd wd' T T' m k q wl wr B l) :
 Decp p w' wd' T' m ((Io N).filter (yO k A)).length λe=>sQ p k wl A l (((Io N).filter (yO k A)).getD e 0):=by
 have L:=AG D E;have km:=E.km;have p0:=hp.pos;have hv : ∀{j r:Nat},r≠k->(sQ p k wl A l j).v r=λi=>sgR k (A j) r*(A j).v r i%p:=λ{j r} h=>EQ h;have a8 : ∀{j:Nat},(sQ p k wl A l j).v k=cvB p wl (λj=>xM k<|A j) (λj=>wI k<|A j) (λj=>(A j).v (k - 1)) (λj=>(A j).v (k+1)) l j:=λ{j}=>RY rfl;have U : ∀{j r:Nat},j<N->r≠k->(sQ p k wl A l j).has r=(A j).has r:=λ{j r} I h=>Az (D.ok j I).n1 h;have a6 : ∀{j:Nat},j<N->(sQ p k wl A l j).has k=nwB (λj=>xM k<|A j) (λj=>wI k<|A j) (λj=>(A j).has k) j:=λ{j} I=>pQ (D.ok j I).n1;refine eU (yO k A) (λj I hk=>?_) (λj I hk r=>?_) (λr O v=>?_) (λr O t ht j I ac=>?_) λr O=>?_
 ·have o:=D.ok j I
  have b0:swp k (A j).s<swp k ((A j).s+(A j).n):=mf o.n1 λz=>by simp[yO,z.1,z.2]at hk
  refine⟨?_,?_,λr i O hi=>?_,λa ha hb i hi=>?_⟩
  ·show 1<=swp k ((A j).s+(A j).n) - swp k (A j).s
   omega
  ·show swp k (A j).s+(swp k ((A j).s+(A j).n) - swp k (A j).s)<=m+1
   have:=o.le;have e1:swp k (A j).s+(swp k ((A j).s+(A j).n) - swp k (A j).s)=swp k ((A j).s+(A j).n):=by omega
   rw[e1];unfold swp;split
   ·omega
   ·split<;>omega
  ·by_cases z:r=k
   ·subst z
    rw[a8];exact⟨Le _ ⋯,IU _ p0⟩
   ·rw[hv z]
    exact⟨Le _ ⋯,IU _ p0⟩
  ·by_cases a1:a+1=k
   ·
    have h0:0<k:=by omega
    obtain⟨_,Y,q2⟩:=E.el h0;have ea:a=k - 1:=by omega
    subst ea;have eb:jO w' (k - 1)=k:=by unfold jO;rw[Y];simp;omega
    have ee:jT w' (k - 1)=k - 1:=by unfold jT;rw[Y];rfl
    rw[eb,a6 I]at hb;rw[ee,E.wdo _ ⋯]at hi;have an:i<wl:=by rw[E.wl0,RY h0];exact hi
    rw[eb,ee,a8,E.wdk,U I ⋯,hv ⋯];have e1:=Bk L E.hb E.hs I hb (i:=i) ⋯;have e2:app (T'<|k - 1) q (cvB p wl (λj=>xM k<|A j) (λj=>wI k<|A j) (λj=>(A j).v (k - 1)) (λj=>(A j).v (k+1)) l j) i=zc (λc=>B c i*cvB p wl (λj=>xM k<|A j) (λj=>wI k<|A j) (λj=>(A j).v (k - 1)) (λj=>(A j).v (k+1)) l j c) q:=zg λc hc=>by rw[q2 i c an hc]
    rw[e2,e1];show qf _ _ _ _%p=_;rw[zU an];show(if xM k (A j)=true then (A j).v (k - 1) i else 0)%p=(if (A j).has (k - 1)=true then sgR k (A j) (k - 1)*(A j).v (k - 1) i%p else 0)%p;rw[V5 o.n1 h0];have:sgR k (A j) (k - 1)=1:=EQ ⋯;rw[this,OU];split
    ·exact(Lb _ _).symm
    ·rfl
   ·by_cases a2:a=k
    ·subst a2
     obtain⟨_,Y,q2⟩:=E.er ha;have eb:jO w' a=a:=by unfold jO;rw[Y];rfl
     have ee:jT w' a=a+1:=by unfold jT;rw[Y];rfl
     rw[eb,a6 I]at hb;rw[ee,E.wdo _ ⋯]at hi;have ax:i<wr:=by rw[E.wr0,RY ha];exact hi
     rw[eb,ee,a8,E.wdk,U I ⋯,hv ⋯];have e1:=Bk L E.hb E.hs I hb (i:=wl+i) ⋯;have e2:app (T' a) q (cvB p wl (λj=>xM a<|A j) (λj=>wI a<|A j) (λj=>(A j).v (a - 1)) (λj=>(A j).v (a+1)) l j) i=zc (λc=>B c (wl+i)*cvB p wl (λj=>xM a<|A j) (λj=>wI a<|A j) (λj=>(A j).v (a - 1)) (λj=>(A j).v (a+1)) l j c) q:=zg λc hc=>by rw[q2 i c ax hc]
     rw[e2,e1];show qf _ _ _ _%p=_;rw[z7];show(if (A j).has (a+1)=true then sgB (λj=>xM a<|A j) j*(A j).v (a+1) i else 0)%p=(if (A j).has (a+1)=true then sgR a (A j) (a+1)*(A j).v (a+1) i%p else 0)%p;cases O:(A j).has (a+1)with
     | false=>simp
     | true=>
      simp only[if_true];rw[Lb];have O:=has_iff.mp O;have:sgB (λj=>xM a<|A j) j=sgR a (A j) (a+1):=by
       unfold sgB sgR xM;simp only[ID,decide_eq_true_eq];by_cases z:(A j).s<a
       ·rw[RY ⟨z,by omega⟩,RY ⟨z,by omega⟩]
       ·rw[EQ (λh=>z h.1),EQ (λh=>z h.1)]
      rw[this]
    ·
     obtain⟨Y,q2⟩:=E.oth a ha a2 a1;have eb:jO w' a=jO w a:=by unfold jO;rw[Y]
     have ee:jT w' a=jT w a:=by unfold jT;rw[Y]
     have nb:jO w a≠k/\jT w a≠k/\(k<jO w a↔k<jT w a):=by unfold jO jT;cases w a<;>simp<;>omega
     rw[eb,U I nb.1]at hb;rw[ee,E.wdo _ nb.2.1]at hi;rw[eb,ee,E.wdo _ nb.1,U I nb.2.1,hv nb.1,hv nb.2.1];have e1:app (T' a) (wd<|jO w a) (λi=>sgR k (A j) (jO w a)*(A j).v (jO w a) i%p) i%p=sgR k (A j) (jO w a)*app (T a) (wd<|jO w a) ((A j).v (jO w a)) i%p:=by unfold app;rw[<- zV];refine zx λc _=>?_;rw[q2,qr,Nc]
     have e2:sgR k (A j) (jO w a)=sgR k (A j) (jT w a):=by
      unfold sgR;by_cases z:(A j).s<k/\k<jO w a
      ·rw[RY z,RY ⟨z.1,nb.2.2.mp z.2⟩]
      ·rw[EQ z,EQ λy=>z ⟨y.1,nb.2.2.mpr y.2⟩]
     rw[e1,xy rfl<|o.arr a ha hb i hi,e2];split
     ·rw[Lb]
     ·simp
 ·have:(A j).s=k/\(A j).n=1:=by simpa[yO]using hk
  rw[<- Bool.not_eq_true,has_iff];show ¬(swp k (A j).s<=r/\r<swp k (A j).s+(swp k ((A j).s+(A j).n) - swp k (A j).s));rw[this.1,this.2];unfold swp;simp
 ·by_cases z:r=k
  ·subst z
   obtain⟨t,ht⟩:=Fy L E.hb E.hs v;refine⟨t,λi hi=>?_⟩;rw[E.wdk]at hi;rw[ht i hi];congr 1;exact zg λj I=>by rw[a6 I,a8]
  ·obtain⟨t,ht⟩:=D.sp r O v
   refine⟨λj=>t j*sgR k (A j) r,λi hi=>?_⟩;rw[E.wdo _ z]at hi;rw[ht i hi];refine zx λj I=>?_;rw[U I z,hv z];split
   ·rw[qr,<- Lw,Lw<|t j,mj,MO]
   ·rfl
 ·by_cases z:r=k
  ·subst z
   rw[a6 I]at ac;refine Bl L E.hb E.hs (t:=t) (λi hi=>?_) j I ac;refine Pk (congrArg (· % p)<|zg λj I=>?_) (ht i<|by rw[E.wdk];exact hi);rw[a6 I,a8]
  ·rw[U I z]at ac
   have:=D.inj r O (λj=>t j*sgR k (A j) r) (λi hi=>by
    refine Pk (zx λj I=>?_) (ht i<|by rw[E.wdo _ z];exact hi);rw[U I z,hv z];split
    ·rw[qr,Lw]
    ·rfl) j I ac
   have e:t j=t j*sgR k (A j) r*sgR k (A j) r:=by rw[Lw,mj,MO]
   rw[e];exact Xj this
 ·by_cases z:r=k
  ·subst z
   rw[E.wdk,<- Bm hp L E.hb E.hs];congr 1;exact MZ λj I=>a6<|Iu.mp I
  ·rw[E.wdo _ z,<- D.cnt r O]
   unfold ixs;congr 1;exact MZ λj I=>by rw[U (Iu.mp I) z]
def mvS(k:Nat)(s:Nat×Nat):Nat×Nat:=(swp k s.1,swp k (s.2+1) - 1)
def mvK(k:Nat)(K:List (Nat×Nat)):List (Nat×Nat):=(K.filter λs=> !(decide (s.1=k) && decide (s.2=k))).map (mvS k)
theorem lx(D:Decp p w wd T m N A):yD (λe=>sQ p k wl A l<|((Io N).filter (yO k A)).getD e 0) ((Io N).filter (yO k A)).length=mvK k (yD A N):=by
 have I:((Io N).filter (yO k A))=(Io ((Io N).filter (yO k A)).length).map λe=>((Io N).filter (yO k A)).getD e 0:=(jL 0 _).symm;unfold mvK yD;rw[List.filter_map,LA];have e1:(Io N).filter ((λs:Nat×Nat=> !(decide (s.1=k) && decide (s.2=k)))∘λj=>((A j).s,(A j).s+(A j).n - 1))=(Io N).filter (yO k A):=MZ λj O=>by
  have:=(D.ok j<|Iu.mp O).n1;show(!(decide ((A j).s=k) && decide ((A j).s+(A j).n - 1=k))) = !(decide ((A j).s=k) && decide ((A j).n=1));congr 1;by_cases z:(A j).s=k
  ·rw[decide_eq_true z,OP,OP]
   exact decide_eq_decide.mpr ⋯
  ·rw[decide_eq_false z,OB,OB]
 rw[e1]
 conv=>rhs;rw[I]
 rw[LA];refine IK λe he=>?_;have he:=Iu.mp he;have hm:((Io N).filter (yO k A)).getD e 0∈(Io N).filter (yO k A):=by rw[Iy,Iv he];exact LU _
 obtain⟨h1,h2⟩:=IP.mp hm;simp only[Pu];generalize ((Io N).filter (yO k A)).getD e 0=j at h1 h2;have o:=D.ok j<|Iu.mp h1;have U:swp k (A j).s<swp k ((A j).s+(A j).n):=mf o.n1 λz=>by simp[yO,z.1,z.2]at h2
 have:=o.n1;show(swp k (A j).s,swp k (A j).s+(swp k ((A j).s+(A j).n) - swp k (A j).s) - 1)=(swp k (A j).s,swp k ((A j).s+(A j).n - 1+1) - 1);rw[show(A j).s+(A j).n - 1+1=(A j).s+(A j).n by omega,show swp k (A j).s+(swp k ((A j).s+(A j).n) - swp k (A j).s) - 1=swp k ((A j).s+(A j).n) - 1 by omega]
end
theorem bO:qK=z6 9 (zK (ke 4<|xX zE)<|zK (Jm (Zp<|zf 1) (.tp [5,6]) JN)<|qv<|qh<|zb (zf 0)<|zb (z4<|zh 2)<|zb (z4<|zh 4) zE):=rfl
theorem YV:qg=z6 11 (zK (jo 5<|qi<|zP (jK<|zH jF (QV<|zf 3)<|zu<|.int 1) (.nm 0) 1 [0,1,4] jA (zH yG (zC zZ<|zb (zf 1)<|zb (zH jF (zf 2)<|zf 0) zE)<|zH jF (zf 3)<|zu<|.int 1))<|zK (ke 6<|xX zE)<|zK (Jm (Zp<|zf 3) (.tp [7,8]) aF)<|BI 6<|qv<|zC qK<|zb (zf 2)<|zb (zf 3)<|zb (zf 5)<|zb (zf 6) zE):=rfl
section
variable{p:Int}{m:Nat}{w:RX}{wd:RZ}{T:RV}
def xO(w:RX)(wd:RZ)(T:RV)(m:Nat):List D:=(Io m).map λk=>D.lst<|kl (hiW w wd k) (wiW w wd k)<|T k
@[simp] theorem bx(m):(xO w wd T m).length=m:=by simp[xO]
theorem Ye(k):xO w wd T (k+1)=xO w wd T k++[D.lst (kl (hiW w wd k) (wiW w wd k)<|T k)]:=by simp[xO,Me]
theorem aM(k):j1 (k+1) w wd T=j1 k w wd T++[xk w wd T k]:=by simp[j1,Me]
theorem iG(h v:Nat)(f:RK):zS (.nm 0) jA (z4<|zh 0) [Cell.no] (kl h v f)=some (zN h v f):=by unfold kl zN;refine zB _ _ λy z=>zD rfl rfl ?_;simp
abbrev rc(p:Int)(m:Nat)(w:RX)(wd:RZ)(T:RV)(acc:List D)(c5 c6 c7 c8:Cell):Ctx:=[.val (.int p),.val (.str (xN m w)),.val (.lst (zF (m+1) λk=>(wd k:Int))),.val (.lst (xO w wd T m)),.own acc,c5,c6,c7,c8]
theorem WQ(hm:m<=5)(z : ∀k,wd k<=7){k:Nat}(hk:k<m)(acc:List D)(ha:acc.length<lim)(c7 c8:Cell) : ∃I O,JN (rc p m w wd T acc (.val<|.int k) (.val<|.str<|qN<|wch<|w k) c7 c8)=some (.next<|rc p m w wd T (acc++[xk w wd T k]) (.val<|.int k) (.val<|.str<|qN<|wch<|w k) I O):=by
 have hl:=jd;have h1:=eH w hk;have h2:=fG w hk;have U:hiW w wd k<=lim:=by rw[dO];have:=z<|jT w k;omega
 have Y:ixD (m+1) ((jT w k:Nat):Int)=some (jT w k):=by rw[jM,RY h1]
 have i2:ixD (m+1) ((jO w k:Nat):Int)=some (jO w k):=by rw[jM,RY h2]
 have i3:ixD m (k:Int)=some k:=by rw[jM,RY hk]
 have w1:(zF (m+1) λk=>(wd k:Int))[jT w k]? = some (.int (wd (jT w k):Int)):=qH (n:=m+1) (λk=>(wd k:Int)) h1;have w2:(zF (m+1) λk=>(wd k:Int))[jO w k]? = some (.int (wd (jO w k):Int)):=qH (n:=m+1) (λk=>(wd k:Int)) h2;have tx:(xO w wd T m)[k]? = some (D.lst<|kl (hiW w wd k) (wiW w wd k)<|T k):=by simp[xO,hk]
 refine⟨.val<|.int ((jO w k:Nat):Int),.val<|.int ((jT w k:Nat):Int),?_⟩;unfold JN;rw[jj,fP,wq];simp only[rc,ye,wA,xD,II,IM,z9,Iz,Lm,eE,y9,K1,Mc,Mb];have cm:(zP (zO<|zG<|sIx (zh 3)<|zf 5) (.nm 0) 1 [] jA (z4<|zh 0)) [.val (.int p),.val<|.str<|xN m w,.val<|.lst<|zF (m+1) λk=>(wd k:Int),.val<|.lst<|xO w wd T m,.own acc,.val<|.int k,.val<|.str<|qN<|wch<|w k,.val<|.int ((jO w k:Nat):Int),.val (.int ((jT w k:Nat):Int))]=some (zN (hiW w wd k) (wiW w wd k)<|T k):=by simp only[yS,yq,vB,XO,xC,xD,II,IM,z9,jN,Wn,Iz,Lm,xj,bx,i3,tx,QA,U,if_true];exact iG _ _ _
 simp only[vD,Bv,ye,wA,xD,XO,xC,aO,fQ,cm,II,IM,z9,jN,xB,Wn,Iz,Lm,xj,kN,Y,i2,w1,w2,Lj,Mz,ha,if_true];rw[<- dO w wd k,<- ma w wd k];rfl
theorem JD(hm:m<=5)(U : ∀k,wd k<=7):qK [.int p,.str<|xN m w,.lst<|zF (m+1) λk=>(wd k:Int),.lst (xO w wd T m)]=some (.val<|jI p m w wd T):=by
 have hl:=jd;have hs:=vN w (show m<=1000 by omega);have Y : ∀(k s:Nat) (c5 c6 c7 c8:Cell),s+k=m->∃a0 a1 a2 a3,qo (.tp [5,6]) JN ((Ng s k).map λ(k:Nat)=>D.tup [.int k,.str (qN<|wch<|w k)]) (rc p m w wd T (j1 s w wd T) c5 c6 c7 c8)=some (.next<|rc p m w wd T (j1 m w wd T) a0 a1 a2 a3):=by
  intro k
  induction k with
  | zero=>
   intro s c5 c6 c7 c8 h;obtain rfl:s=m:=by omega
   exact⟨c5,c6,c7,c8,rfl⟩
  | succ k ih=>
   intro s c5 c6 c7 c8 h;obtain⟨z,I,e⟩:=WQ (p:=p) (w:=w) (T:=T) hm U (show s<m by omega) (j1 s w wd T) (by simp;omega) c7 c8;obtain⟨a5,a6,a7,a8,O⟩:=ih (s+1) (.val<|.int s) (.val<|.str<|qN<|wch<|w s) z I ⋯;refine⟨a5,a6,a7,a8,?_⟩;rw[MA,IS,jm];show((JN<|rc p m w wd T _ (.val<|.int s) (.val<|.str<|qN<|wch<|w s) c7 c8).bind _)=_;rw[e];rw[aM]at O;exact O
 obtain⟨d5,d6,z,I,e⟩:=Y m 0 .no .no .no .no ⋯;rw[<- LZ]at e;rw[bO];unfold z6;rw[jj];show(zK _ _<|rc p m w wd T [] .no .no .no .no).bind _=_;rw[jj,Jd,K7];simp only[rc,xD,II,IM,z9,Iz,hs,if_true,J7];have e0:j1 0 w wd T=[]:=rfl;simp only[rc,e0]at e;rw[e];simp;rfl
abbrev wc(ns:List Int)(p:Int)(m:Nat)(w:RX)(wd:RZ)(wide:Nat)(acc:List D)(c7 c8 c9 c10:Cell):Ctx:=[.val (wj ns),.val (.int 2),.val (.int p),.val (.str (xN m w)),.val (.int wide),.val (.lst (zF (m+1) λk=>(wd k:Int))),.own acc,c7,c8,c9,c10]
def T22(ns:List Int)(p:Int)(w:RX)(wd:RZ)(k x y:Nat):Int:=Yc ns p<|2+10+20*(k:Int)+(x:Int)*((wiW w wd k:Nat):Int)+(y:Int)
theorem eO{ns:List Int}(I:ns.length<=63)(O:Pr p)(hm:m<=5)(z : ∀k,wd k<=4)(wide:Nat){k:Nat}(hk:k<m)(acc:List D)(ha:acc.length<lim)(c9 c10:Cell) : ∃U Y,aF (wc ns p m w wd wide acc (.val<|.int k) (.val<|.str<|qN<|wch<|w k) c9 c10)=some (.next<|wc ns p m w wd wide (acc++[D.lst (kl (hiW w wd k) (wiW w wd k)<|T22 ns p w wd k)]) (.val<|.int k) (.val<|.str<|qN<|wch<|w k) U Y):=by
 have hl:=jd;have h1:=eH w hk;have h2:=fG w hk;have i1:ixD (m+1) ((jT w k:Nat):Int)=some (jT w k):=by rw[jM,RY h1]
 have i2:ixD (m+1) ((jO w k:Nat):Int)=some (jO w k):=by rw[jM,RY h2]
 have w1:(zF (m+1) λk=>(wd k:Int))[jT w k]? = some (.int (wd (jT w k):Int)):=qH (n:=m+1) (λk=>(wd k:Int)) h1;have w2:(zF (m+1) λk=>(wd k:Int))[jO w k]? = some (.int (wd (jO w k):Int)):=qH (n:=m+1) (λk=>(wd k:Int)) h2;have cm:XX 20 (k:Int)=true:=ZV _ _ ⋯ ⋯;have R:=ue I O (at_:=2+10+20*(k:Int)) ⋯ ⋯ (h:=wd<|jT w k) (w:=wd<|jO w k) (z _)<|z _;refine⟨.val<|.int ((jO w k:Nat):Int),.val<|.int ((jT w k:Nat):Int),?_⟩;unfold aF;rw[jj,fP,wq];simp only[wc,ye,wA,xD,II,IM,z9,Iz,Lm,eE,y9,K1,Mc,Mb];have bm:yF (.int 20) (.int (k:Int))=some (.int<|20*(k:Int)):=by rw[lG,cm];rfl
 simp only[vD,Wo,lW,ye,wA,xD,vC,fU,XO,xC,We,bm,II,IM,z9,jN,xB,Wn,Iz,Lm,xj,kN,i1,i2,w1,w2,Lj,Mz,ha,if_true,R,QW];unfold T22;rw[dO,ma];rfl
theorem wK{ns:List Int}(O:ns.length<=63)(U:Pr p)(hm:m<=5){wide:Nat}(hw:wide<=4) :
 ∃wd T,qg [wj ns,.int 2,.int p,.str<|xN m w,.int wide]=some (.val<|jI p m w wd T)/\(∀k,wd k<=wide)/\∀k x y,0<=T k x y/\T k x y<p:=by
 have hl:=jd;have Y:m+1<=lim:=by omega
 have hs:=vN w (show m<=1000 by omega);let wd:Nat->Nat:=λk=>(xY ns (2+(k:Int))%((wide:Int)+1)).toNat;have z : ∀k:Nat,xY ns (2+(k:Int))%((wide:Int)+1)=(wd k:Int)/\wd k<=wide:=λk=>by have g1:=Le (xY ns<|2+(k:Int)) (show(wide:Int)+1≠0 by omega);have g2:=IU (xY ns<|2+(k:Int)) (show(0:Int)<(wide:Int)+1 by omega);have:(wd k:Int)=xY ns (2+(k:Int))%((wide:Int)+1):=Oj g1;exact⟨this.symm,by omega⟩
 refine⟨wd,T22 ns p w wd,?_,λk=>(z k).2,λk x y=>sg U.pos⟩;have I : ∀k,wd k<=4:=λk=>by have:=(z k).2;omega
 generalize wd=wd at z I ⊢;have a4:(0:Int)<(wide:Int)+1:=by omega
 have k1:zS (.nm 0) jA (zH yG (zC zZ<|zb (zf 1)<|zb (zH jF (zf 2)<|zf 0) zE)<|zH jF (zf 3)<|zu<|.int 1) [Cell.no,Cell.val<|wj ns,Cell.val<|.int 2,Cell.val (.int wide)] (zF (m+1) λi=>(i:Int))=some (zF (m+1) λk=>(wd k:Int)):=by rw[jE,jE];refine zB _ _ λk hk=>zD rfl rfl ?_;have hk:=Iu.mp hk;simp[(XI O (k:=2+(k:Int)) ⋯ ⋯).1,a4,(z k).1]
 have e1:(jo 5<|qi<|zP (jK<|zH jF (QV<|zf 3)<|zu<|.int 1) (.nm 0) 1 [0,1,4] jA (zH yG (zC zZ<|zb (zf 1)<|zb (zH jF (zf 2)<|zf 0) zE)<|zH jF (zf 3)<|zu<|.int 1)) (zY 11 [wj ns,.int 2,.int p,.str<|xN m w,.int wide])=some (.next [.val (wj ns),.val<|.int 2,.val<|.int p,.val<|.str<|xN m w,.val<|.int wide,.val<|.lst<|zF (m+1) λk=>(wd k:Int),.no,.no,.no,.no,.no]):=by rw[K6,Wo,yS,Jc,show zY 11 [wj ns,D.int 2,.int p,.str<|xN m w,.int wide]=[.val (wj ns),.val<|.int 2,.val<|.int p,.val<|.str<|xN m w,.val<|.int wide,.no,.no,.no,.no,.no,.no]from rfl];simp only[fU,sy,xD,vC,II,IM,z9,Iz,hs,if_true,Vh,We,xj];rw[show((m:Int)+1)=((m+1:Nat):Int)by omega];simp only[Xq Y,if_true,Mh,Iz,qG,kN,Y];rw[show jk 1 [0,1,4] [Cell.val (wj ns),Cell.val<|D.int 2,Cell.val<|D.int p,Cell.val<|D.str<|xN m w,Cell.val<|D.int (wide:Int),Cell.no,Cell.no,Cell.no,Cell.no,Cell.no,Cell.no]=[Cell.no,Cell.val<|wj ns,Cell.val<|.int 2,Cell.val (.int wide)]from rfl,k1];rfl
 have a6 : ∀(k s:Nat) (c7 c8 c9 c10:Cell),s+k=m->∃a7 a8 a9 aa,qo (.tp [7,8]) aF ((Ng s k).map λ(k:Nat)=>D.tup [.int k,.str (qN<|wch<|w k)]) (wc ns p m w wd wide (xO w wd (T22 ns p w wd) s) c7 c8 c9 c10)=some (.next<|wc ns p m w wd wide (xO w wd (T22 ns p w wd) m) a7 a8 a9 aa):=by
  intro k
  induction k with
  | zero=>
   intro s c7 c8 c9 c10 h;obtain rfl:s=m:=by omega
   exact⟨c7,c8,c9,c10,rfl⟩
  | succ k ih=>
   intro s c7 c8 c9 c10 h;obtain⟨d9,a1,e⟩:=eO (p:=p) (w:=w) O U hm I wide (show s<m by omega) (xO w wd (T22 ns p w wd) s) (by simp;omega) c9 c10;obtain⟨ae,ag,am,an,e'⟩:=ih (s+1) (.val<|.int s) (.val<|.str<|qN<|wch<|w s) d9 a1 ⋯;refine⟨ae,ag,am,an,?_⟩;rw[MA,IS,jm];show((aF<|wc ns p m w wd wide _ (.val<|.int s) (.val<|.str<|qN<|wch<|w s) c9 c10).bind _)=_;rw[e];rw[Ye]at e';exact e'
 obtain⟨d7,d8,d9,a1,e⟩:=a6 m 0 .no .no .no .no ⋯;rw[<- LZ]at e;have R:=JD (p:=p) (w:=w) (T:=T22 ns p w wd) hm<|λk=>LG (I k) ⋯;rw[YV];unfold z6;rw[jj,e1,kB,jj];show(zK _ _<|wc ns p m w wd wide [] .no .no .no .no).bind _=_;rw[jj,Jd,K7];simp only[wc,xD,II,IM,z9,Iz,hs,if_true,J7];have e0:xO w wd (T22 ns p w wd) 0=[]:=rfl;simp only[wc,e0]at e;rw[e];simp[R]
end
def u1:=(jo 1<|zC zZ<|zb (zf 0)<|zb (zu<|.int 0) zE)
def u2:=(jo 2<|sIx (jV<|xX<|zb (zu<|.int 2)<|zb (zu<|.int 3)<|zb (zu<|.int 5)<|zb (zu<|.int 7) zE)<|zH yG (zf 1)<|zu<|.int 4)
def u3:=(gH (.tp [3,4])<|sIx (jV<|xX<|zb (qh<|zb (zu<|.int 4)<|zb (zu<|.int 2) zE)<|zb (qh<|zb (zu<|.int 3)<|zb (zu<|.int 2) zE)<|zb (qh<|zb (zu<|.int 2)<|zb (zu<|.int 2) zE)<|zb (qh<|zb (zu<|.int 2)<|zb (zu<|.int 2) zE)<|zb (qh<|zb (zu<|.int 6)<|zb (zu<|.int 1) zE)<|zb (qh<|zb (zu<|.int 5)<|zb (zu<|.int 1) zE)<|zb (qh<|zb (zu<|.int 4)<|zb (zu<|.int 1) zE)<|zb (qh<|zb (zu<|.int 3)<|zb (zu<|.int 1) zE) zE)<|zH yG (zf 1)<|zu<|.int 8)
theorem Kt{c:Int}{n:Nat}(hn:0<n) : ∃a:Nat,c%(n:Int)=a/\a<n:=by obtain⟨a,ha⟩:=Nj (Le c<|show(n:Int)≠0 by omega);have:=IU c (show(0:Int)<n by omega);exact⟨a,ha,by omega⟩
theorem uQ{c:Int}(h:0<=c) : ∃q:Nat,Pr (q:Int)/\([D.int 2,.int 3,.int 5,.int 7])[(c%4).toNat]? = some (.int q)/\ixD 4 (c%4)=some (c%4).toNat:=by
 have h1:=Le c (show(4:Int)≠0 by decide);have h2:=IU c (show(0:Int)<4 by decide);obtain⟨r,z⟩:=Nj h1;rw[z];have I:r<4:=by omega
 rw[jM,RY I,Mh];rcases (by omega:r=0\/r=1\/r=2\/r=3)with e | e | e | e<;>subst e
 ·exact⟨2,.inl rfl,rfl,rfl⟩
 ·exact⟨3,.inr<|.inl rfl,rfl,rfl⟩
 ·exact⟨5,.inr<|.inr<|.inl rfl,rfl,rfl⟩
 ·exact⟨7,.inr<|.inr<|.inr rfl,rfl,rfl⟩
section
variable{p:Int}{w:RX}{wd:RZ}{T:RV}{m N:Nat}{A:Nat->Bar}
theorem JV(z:Pr p)(I : ∀k,wd k<=7)(O : ∀k x y,0<=T k x y/\T k x y<p)(hm:m<=5)(D:Decp p w wd T m N A):qJ [jI p m w wd T]=some (.val<|QB (λs=>(muZ (yD A N) s:Int))<|m+1):=by
 rw[W7 hm (λs=>(cvZ (yD A N) s.1 s.2:Int)) λs hs=>by have:=mem_st.mp hs;exact iQ z I O ⋯ D this.1 ⋯]
 congr 2;unfold QB;congr 1;exact IK λs hs=>by rw[Ar D (mem_st.mp hs).1]
theorem XD(D:Decp p w wd T m N A)(hk:k<=m):cvZ (yD A N) k k=wd k:=by rw[<- nz D (IC k),<- D.cnt k hk];unfold cvL ixs;congr 1;exact MZ λj _=>by simp
end
section
variable{p:Int}{w:RX}{wd:RZ}{T:RV}{m N:Nat}{A:Nat->Bar}
def YU(A:Nat->Bar)(N:Nat)(g:RV)(j:Nat):Bar:=⟨(A j).s,(A j).n,λr i=>g r ((ixs A N r).idxOf j) i⟩
theorem lz(g:RV)(r:Nat):ixs (YU A N g) N r=ixs A N r:=rfl
theorem KR(g:RV):yD (YU A N g) N=yD A N:=rfl
theorem tJ(D:Decp p w wd T m N A){r:Nat}(z:r<=m)(v:Vc) : ∃t,∀i,i<wd r->v i%p=app (qZ A N r) (wd r) t i%p:=by obtain⟨t,I⟩:=D.sp r z v;refine⟨λk=>t<|(ixs A N r).getD k 0,λi hi=>?_⟩;rw[I i hi,YK,D.cnt r z]
theorem KS(hp:Pr p)(ae : ∀k,wd k<=8)(D:Decp p w wd T m N A) : ∃g,Decp p (λk=> !w k) wd (λk i j=>T k j i) m N (YU A N g):=by
 have p0:=hp.pos;have b0 : ∀r,∃g:RK,r<=m->Cy p (wd r) (qZ A N r) g/\Cy p (wd r) g (qZ A N r)/\∀i j,0<=g i j/\g i j<p:=λr=>by
  by_cases U:r<=m
  ·obtain⟨g,h⟩:=X0 hp (ae r) (tJ D U)
   exact⟨g,λ_=>h⟩
  ·exact⟨λ_ _=>0,λz=>absurd z U⟩
 obtain⟨g,hg⟩:=NC b0;have pos : ∀{r l:Nat},l<(ixs A N r).length->(ixs A N r).idxOf ((ixs A N r).getD l 0)=l:=λ{r l} O=>by rw[Iy,Iv O,Nf,(vm A N r).idxOf_getElem _ O]
 have bF : ∀{r:Nat},r<=m->∀i l,l<wd r->qZ (YU A N g) N r i l=g r l i:=λ{r} U i l O=>by show g r ((ixs A N r).idxOf ((ixs A N r).getD l 0)) i=_;rw[pos (by rw[D.cnt r U];exact O)]
 refine⟨g,eT hp ae (λj hj=>?_) (λr U=>by rw[lz];exact D.cnt r U) λr U v=>?_⟩
 ·have o:=D.ok j hj
  refine⟨o.n1,o.le,λr i U hi=>?_,λk hk hb x hx=>?_⟩
  ·have bb:r<=m:=by have:=(has_iff.mp U).2;have:r<(A j).s+(A j).n:=this;have:=o.le;omega
   exact(hg r bb).2.2 _ _
  ·have eb:jO (λk=> !w k) k=jT w k:=by unfold jO jT;cases h:w k<;>simp[h]
   have ee:jT (λk=> !w k) k=jO w k:=by unfold jO jT;cases h:w k<;>simp[h]
   have Y:jO w k<=m:=by unfold jO;split<;>omega
   have a4:jT w k<=m:=by unfold jT;split<;>omega
   rw[eb]at hb;rw[ee]at hx;rw[eb,ee];have hb:(A j).has (jT w k)=true:=hb;generalize an:jO w k=b at *;generalize ap:jT w k=e at *;show zc (λi=>T k i x*g e ((ixs A N e).idxOf j) i) (wd e)%p=(if (A j).has b=true then g b ((ixs A N b).idxOf j) x else 0)%p;obtain⟨I,a5,a6⟩:=Ky hj hb;have bd:(ixs A N e).idxOf j=I:=by rw[<- a6];exact pos a5
   rw[bd];have be:I<wd e:=by rw[<- D.cnt e a4];exact a5
   have on : ∀l,l<wd b->zc (λy=>zc (λi=>T k i y*g e I i) (wd e)*qZ A N b y l) (wd b)%p=(if (ixs A N b).getD l 0=j then 1 else 0)%p:=λl O=>by
    have bi:l<(ixs A N b).length:=by rw[D.cnt b Y];exact O
    obtain⟨h1,h2⟩:=dD bi;have e1:zc (λy=>zc (λi=>T k i y*g e I i) (wd e)*qZ A N b y l) (wd b)=zc (λi=>g e I i*app (T k) (wd b) ((A<|(ixs A N b).getD l 0).v b) i) (wd e):=by
     have:zc (λy=>zc (λi=>T k i y*g e I i) (wd e)*qZ A N b y l) (wd b)=zc (λy=>zc (λi=>g e I i*(T k i y*qZ A N b y l))<|wd e) (wd b):=zg λy _=>by rw[<- jx];exact zg λi _=>by rw[LK (T k i y),Lw]
     rw[this,jw];exact zg λi _=>by rw[zV];rfl
    rw[e1];have ar : ∀i,i<wd e->app (T k) (wd b) ((A<|(ixs A N b).getD l 0).v b) i%p=(if (A<|(ixs A N b).getD l 0).has e=true then (A<|(ixs A N b).getD l 0).v e i else 0)%p:=λi hi=>by have:=(D.ok _ h1).arr k hk (by rw[an];exact h2) i (by rw[ap];exact hi);rw[an,ap]at this;exact this
    have e2:zc (λi=>g e I i*app (T k) (wd b) ((A<|(ixs A N b).getD l 0).v b) i) (wd e)%p=zc (λi=>g e I i*(if (A<|(ixs A N b).getD l 0).has e=true then (A<|(ixs A N b).getD l 0).v e i else 0)) (wd e)%p:=zx λi hi=>xy rfl<|ar i hi;rw[e2];cases hh:(A<|(ixs A N b).getD l 0).has e with
    | false=>
     have:(ixs A N b).getD l 0≠j:=λz=>by rw[z,hb]at hh;cases hh
     rw[EQ this];simp[zy]
    | true=>
     obtain⟨le,as,a8⟩:=Ky h1 hh;have u:=(hg e a4).2.1 I le be (by rw[<- D.cnt e a4];exact as);have e3:zc (λi=>g e I i*qZ A N e i le) (wd e)=zc (λi=>g e I i*(if true=true then (A<|(ixs A N b).getD l 0).v e i else 0)) (wd e):=zg λi _=>by rw[RY rfl];show _*(A<|(ixs A N e).getD le 0).v e i=_;rw[a8]
     rw[<- e3,u];unfold dlt;by_cases q:I=le
     ·rw[RY q,RY (by rw[<- a8,<- q,a6])]
     ·rw[EQ q,EQ λz=>q (by
       have:(ixs A N e).getD le 0=(ixs A N e).getD I 0:=by rw[a8,a6,z]
       exact(v7 (vm A N e) as a5 this).symm)]
   have e4:zc (λi=>T k i x*g e I i) (wd e)%p=zc (λl=>(if (ixs A N b).getD l 0=j then 1 else 0)*g b l x) (wd b)%p:=by
    have s1:zc (λl=>(if (ixs A N b).getD l 0=j then 1 else 0)*g b l x) (wd b)%p=zc (λl=>zc (λy=>zc (λi=>T k i y*g e I i) (wd e)*qZ A N b y l) (wd b)*g b l x) (wd b)%p:=zx λl O=>xy (on l O).symm rfl;rw[s1];have s2:zc (λl=>zc (λy=>zc (λi=>T k i y*g e I i) (wd e)*qZ A N b y l) (wd b)*g b l x) (wd b)=zc (λy=>zc (λi=>T k i y*g e I i) (wd e)*zc (λl=>qZ A N b y l*g b l x) (wd b)) (wd b):=by
     have:zc (λl=>zc (λy=>zc (λi=>T k i y*g e I i) (wd e)*qZ A N b y l) (wd b)*g b l x) (wd b)=zc (λl=>zc (λy=>zc (λi=>T k i y*g e I i) (wd e)*(qZ A N b y l*g b l x))<|wd b) (wd b):=zg λl _=>by rw[<- jx];exact zg λy _=>by rw[Lw]
     rw[this,jw];exact zg λy _=>zV ..
    rw[s2];have s3:zc (λy=>zc (λi=>T k i y*g e I i) (wd e)*zc (λl=>qZ A N b y l*g b l x) (wd b)) (wd b)%p=zc (λy=>zc (λi=>T k i y*g e I i) (wd e)*dlt y x) (wd b)%p:=zx λy hy=>xy rfl<|(hg b Y).1 y x hy hx;rw[s3,zI (i:=x) hx λy _ a0=>by unfold dlt;rw[EQ a0];simp];unfold dlt;rw[RY rfl,MO]
   rw[e4];cases hh:(A j).has b with
   | false=>
    have:zc (λl=>(if (ixs A N b).getD l 0=j then 1 else 0)*g b l x) (wd b)=zc (λ_=>0) (wd b):=zg λl O=>by
     rw[EQ λz=>by have:=(dD (A:=A) (N:=N) (r:=b) (j:=l)<|by rw[D.cnt b Y];exact O).2;rw[z,hh]at this;cases this]
     simp
    rw[this,zy];rfl
   | true=>
    obtain⟨jb,aa,ac⟩:=Ky hj hh;have c0:(ixs A N b).idxOf j=jb:=by rw[<- ac];exact pos aa
    rw[RY rfl,c0,zI (i:=jb) (by rw[<- D.cnt b Y];exact aa) λl O a0=>by rw[EQ λz=>a0 (v7 (vm A N b) (by rw[D.cnt b Y];exact O) aa<|by rw[z,ac])];simp,RY ac,OU]
 ·refine⟨λl=>zc (λy=>v y*qZ A N r y l)<|wd r,λi hi=>?_⟩
  unfold app;have e1:zc (λl=>qZ (YU A N g) N r i l*zc (λy=>v y*qZ A N r y l) (wd r)) (wd r)=zc (λy=>v y*zc (λl=>qZ A N r y l*g r l i) (wd r)) (wd r):=by
   have:zc (λl=>qZ (YU A N g) N r i l*zc (λy=>v y*qZ A N r y l) (wd r)) (wd r)=zc (λl=>zc (λy=>v y*(qZ A N r y l*g r l i))<|wd r) (wd r):=zg λl O=>by rw[bF U i l O,LK,<- jx];exact zg λy _=>by rw[Lw]
   rw[this,jw];exact zg λy _=>zV ..
  rw[e1];have e2:zc (λy=>v y*zc (λl=>qZ A N r y l*g r l i) (wd r)) (wd r)%p=zc (λy=>v y*dlt y i) (wd r)%p:=zx λy hy=>xy rfl<|(hg r U).1 y i hy hi;rw[e2,zI (i:=i) hi λy _ a0=>by unfold dlt;rw[EQ a0];simp];unfold dlt;rw[RY rfl,MO]
end
section
variable{p:Int}{n r q:Nat}{Bs:Nat->Vc}{ls:RZ}
def Jn(r:Nat)(Bs:Nat->Vc)(ls:RZ)(v:Vc):Vc:=λx=>v x - zc (λj=>v (ls j)*Bs j x) r
def V4(r:Nat)(ls:RZ)(i:Nat):Bool:=(Io r).any λj=>ls j==i
theorem isLd_iff{i:Nat}:V4 r ls i=true ↔ ∃j,j<r/\ls j=i:=by simp[V4]
def frL(n r:Nat)(ls:RZ):List Nat:=(Io n).filter λi=> !V4 r ls i
def lfB(p:Int)(n r:Nat)(Bs:Nat->Vc)(ls:RZ)(c:Nat):Vc:=λi=>Jn r Bs ls (ja i) ((frL n r ls).getD c 0)%p
theorem Xy{c:Nat}(h:c<(frL n r ls).length):(frL n r ls).getD c 0<n/\V4 r ls ((frL n r ls).getD c 0)=false:=by
 have hm:(frL n r ls).getD c 0∈frL n r ls:=by rw[Iy,Iv h];exact LU _
 obtain⟨h1,h2⟩:=IP.mp hm;exact⟨Iu.mp h1,by simpa using h2⟩
theorem VZ{i x:Nat}(h:V4 r ls i=false):Jn r Bs ls (ja i) x=ja i x:=by
 unfold Jn;rw[zg (g:=λ_=>0) λj I=>by
  have:i≠ls j:=λz=>by rw[isLd_iff.mpr ⟨j,I,z.symm⟩]at h;cases h
  show(if i=ls j then (1:Int)else 0)*_=0;rw[EQ this];simp,zy]
 omega
theorem AI(O:Pr p):WB n (frL n r ls).length (lfB p n r Bs ls) λc=>(frL n r ls).getD c 0:=by
 have nd:(frL n r ls).Nodup:=NB.sublist Nh;refine⟨λc I=>(Xy I).1,λc I=>?_,λc d I hd U=>?_⟩
 ·show Jn r Bs ls (ja _) _%p=1
  rw[VZ (Xy I).2];show(if _=_ then (1:Int)else 0)%p=1;rw[RY rfl,O.one]
 ·show Jn r Bs ls (ja _) _%p=0
  rw[VZ (Xy hd).2];show(if _=_ then (1:Int)else 0)%p=0;rw[EQ λz=>U (v7 nd hd I z)];simp
theorem pX(v:Vc){x:Nat}(hx:x<n)(I : ∀j,j<r->ls j<n):zc (λi=>v i*Jn r Bs ls (ja i) x) n=Jn r Bs ls v x:=by
 unfold Jn;have e1:zc (λi=>v i*(ja i x - zc (λj=>ja i (ls j)*Bs j x) r)) n=zc (λi=>v i*ja i x+zc (λj=>v i*(ja i (ls j)*Bs j x)) r * -1) n:=zg λi _=>by rw[zV,Int.mul_sub];omega
 rw[e1,jt,jx,jw];have O:zc (λi=>v i*ja i x) n=v x:=by rw[zI (i:=x) hx λi _ z=>by show _*(if _=_ then (1:Int)else 0)=0;rw[EQ z];simp];show _*(if _=_ then (1:Int)else 0)=_;rw[RY rfl,MO]
 have U:zc (λj=>zc (λi=>v i*(ja i (ls j)*Bs j x)) n) r=zc (λj=>v (ls j)*Bs j x) r:=zg λj Y=>by rw[zI (i:=ls j) (I j Y) λi _ z=>by show _*((if _=_ then (1:Int)else 0)*_)=0;rw[EQ z];simp];show _*((if _=_ then (1:Int)else 0)*_)=_;rw[RY rfl,OU]
 rw[O,U];omega
theorem iN(hb:WB n r Bs ls){j:Nat}(z:j<r)(x:Nat):Jn r Bs ls (Bs j) x=0:=by unfold Jn;rw[zI (i:=j) z λi hi I=>by rw[hb.oth j i z hi I];simp,hb.one j z];omega
theorem iM(hb:WB n r Bs ls){v:Vc}{j:Nat}(z:j<r):Jn r Bs ls v (ls j)=0:=by unfold Jn;rw[zI (i:=j) z λi hi I=>by rw[hb.oth i j hi z (Ly I)];simp,hb.one j z];omega
theorem iO(hb:WB n r Bs ls)(z:Vc):Span p n (Fam (frL n r ls).length (lfB p n r Bs ls)) z ↔ ∀j,j<r->zc (λi=>z i*Bs j i) n%p=0:=by
 constructor
 ·intro h j I
  obtain⟨t,U⟩:=kc h;have e1:zc (λi=>z i*Bs j i) n%p=zc (λi=>zc (λc=>t c*(Bs j i*Jn r Bs ls (ja i) ((frL n r ls).getD c 0))) (frL n r ls).length) n%p:=zx λi hi=>by rw[IB,U i hi,<- IB,<- jx];refine zx λc _=>?_;show t c*(_%p)*_%p=_;rw[Lw,LK<|_%p,<- Lw,qr,Lw]
  rw[e1,jw];have O:zc (λc=>zc (λi=>t c*(Bs j i*Jn r Bs ls (ja i) ((frL n r ls).getD c 0))) n) (frL n r ls).length=zc (λ_=>0) (frL n r ls).length:=zg λc Y=>by rw[zV,pX (Bs j) (Xy Y).1 hb.lt,iN hb I,Oz]
  rw[O,zy];simp
 ·intro h
  have sm:=λg=>qA (λi=> !V4 r ls i) g n;refine(kA (p:=p) (n:=n) (m:=(frL n r ls).length) (lfB p n r Bs ls) λc=>z<|(frL n r ls).getD c 0).congr λi hi=>?_;have e0:zc (λc=>z ((frL n r ls).getD c 0)*lfB p n r Bs ls c i) (frL n r ls).length%p=zc (λc=>z ((frL n r ls).getD c 0)*Jn r Bs ls (ja i) ((frL n r ls).getD c 0)) (frL n r ls).length%p:=zx λc _=>by show _*(_%p)%p=_;rw[qr]
  have e1:zc (λc=>z ((frL n r ls).getD c 0)*Jn r Bs ls (ja i) ((frL n r ls).getD c 0)) (frL n r ls).length=zc (λx=>if (!V4 r ls x)=true then z x*Jn r Bs ls (ja i) x else 0) n:=sm λx=>z x*Jn r Bs ls (ja i) x;have O:zc (λx=>if (!V4 r ls x)=true then z x*Jn r Bs ls (ja i) x else 0) n=zc (λx=>z x*Jn r Bs ls (ja i) x) n:=zg λx _=>by
   cases hx:V4 r ls x with
   | false=>simp
   | true=>
    obtain⟨j,I,rfl⟩:=isLd_iff.mp hx;rw[iM hb I];simp
  have e3:zc (λx=>z x*Jn r Bs ls (ja i) x) n=z i+zc (λj=>ja i (ls j)*zc (λx=>z x*Bs j x) n) r * -1:=by
   unfold Jn;have:zc (λx=>z x*(ja i x - zc (λj=>ja i (ls j)*Bs j x) r)) n=zc (λx=>z x*ja i x+zc (λj=>ja i (ls j)*(z x*Bs j x)) r * -1) n:=zg λx _=>by
    have:zc (λj=>ja i (ls j)*(z x*Bs j x)) r=z x*zc (λj=>ja i (ls j)*Bs j x) r:=by rw[<- zV];exact zg λj _=>by rw[Nc]
    rw[this,Int.mul_sub];omega
   rw[this,jt,jx,jw];congr 1
   ·rw[zI (i:=i) hi λx _ a3=>by show _*(if _=_ then (1:Int)else 0)=0;rw[EQ (Ly a3)];simp]
    show _*(if _=_ then (1:Int)else 0)=_;rw[RY rfl,MO]
   ·congr 1
    exact zg λj _=>zV _ _ _
  rw[e0,e1,O,e3];have e4:zc (λj=>ja i (ls j)*zc (λx=>z x*Bs j x) n) r%p=0:=by rw[zx (g:=λ_=>0) λj I=>by rw[IB,h j I];simp,zy];simp
  rw[IV,IB,e4];simp
end
section
variable{p:Int}{w w':RX}{wd wd':RZ}{T T':RV}{m N k q wl wr:Nat}{A:Nat->Bar}{B:Nat->Vc}{l:RZ}
structure TurnB(p:Int)(w w':RX)(wd wd':RZ)(T T':RV)(m k q wl wr:Nat)(B:Nat->Vc)(l:RZ):Prop where
 km:k<=m
 wl0:wl=if 0<k then wd (k - 1)else 0
 wr0:wr=if k<m then wd (k+1)else 0
 el:0<k->w (k - 1)=true/\w' (k - 1)=false/\∀c i,c<q->i<wl->T' (k - 1) c i=B c i
 er:k<m->w k=false/\w' k=true/\∀c i,c<q->i<wr->T' k c i=B c (wl+i)
 oth : ∀j,j<m->j≠k->j+1≠k->w' j=w j/\∀i c,T' j i c=T j i c
 wdk:wd' k=q
 wdo : ∀r,r≠k->wd' r=wd r
 hb:WB (wl+wr) q B l
 hs : ∀z,Span p (wl+wr) (Fam q B) z↔nE p wl wr (wd k) (λi c=>T (k - 1) c i) (λi c=>T k c i) z
theorem TurnB.dual(E:TurnB p w w' wd wd' T T' m k q wl wr B l):TurnE p (λk=> !w k) (λk=> !w' k) wd wd' (λk i j=>T k j i) (λk i j=>T' k j i) m k q wl wr B l where
 km:=E.km
 wl0:=E.wl0
 wr0:=E.wr0
 el:=λh=>by obtain⟨h1,h2,z⟩:=E.el h;exact⟨by simp[h1],by simp[h2],λi c hi I=>z c i I hi⟩
 er:=λh=>by obtain⟨h1,h2,z⟩:=E.er h;exact⟨by simp[h1],by simp[h2],λi c hi I=>z c i I hi⟩
 oth:=λj h1 h2 z=>by obtain⟨O,g2⟩:=E.oth j h1 h2 z;exact⟨by simp[O],λi c=>g2 c i⟩
 wdk:=E.wdk
 wdo:=E.wdo
 hb:=E.hb
 hs:=E.hs
theorem KQ(z:Pr p)(D:Decp p w wd T m N A)(E:TurnE p w w' wd wd' T T' m k q wl wr B l) : ∃N' A',Decp p w' wd' T' m N' A'/\yD A' N'=mvK k (yD A N):=⟨_,_,ly z D E,lx D⟩
theorem fF(z:Pr p)(O : ∀k,wd k<=8)(U : ∀k,wd' k<=8)(D:Decp p w wd T m N A)(E:TurnB p w w' wd wd' T T' m k q wl wr B l) : ∃N' A',Decp p w' wd' T' m N' A'/\yD A' N'=mvK k (yD A N):=by
 obtain⟨g,Y⟩:=KS z O D;obtain⟨N',A',D',e'⟩:=KQ z Y E.dual;obtain⟨g',I⟩:=KS z U D';refine⟨N',YU A' N' g',?_,?_⟩
 ·have e:(λk=> !(λk=> !w' k) k)=w':=funext λk=>by simp
  rw[e]at I;exact I
 ·rw[KR,e',KR]
end
def lm1:=(ke 3<|xX zE)
def lm2:=(Jm (zO<|zG<|qi<|jB qz<|zb (zC xE<|zb (zf 0) zE)<|zb (zf 1) zE) (.nm 4)<|zK (jo 5<|sIx (zG<|sIx (zG<|sIx (zh 0)<|zu<|.int 2)<|zf 4)<|zu<|.int 1)<|gK 3<|zG<|JM (sB<|zf 2) (sIx (zG<|zC js<|zb (zf 5) zE)<|zu<|.int 2)<|sIx (zh 5)<|zu<|.int 2)
def lm3:=(qv<|z4<|zh 3)
def kQ:=z6 6<|zK lm1<|zK lm2 lm3
def me1:=(qv<|zC kz<|zb (sIx (zh 1)<|zu<|.int 0)<|zb (qi<|jB kT<|zb (zf 0)<|zb (zC js<|zb (zf 1) zE) zE) zE)
def qt:=z6 2 me1
def wf1:=(jo 3<|zf 2)
def wf2:=(Jm (zO<|zG<|zf 1) (.nm 4)<|jo 3<|zC jS<|zb (zf 0)<|zb (zf 3)<|zb (zf 4)<|zb (zC jD<|zb (zf 4) zE) zE)
def wf3:=(jo 5<|qi<|zP (zO<|zh 1) (.nm 0) 1 [] jA (zC jD<|zb (zf 0) zE))
def wf4:=(qv<|z4<|jV<|zP (WO<|zf 3) (.tp [0,1]) 2 [5] (sB<|vT (zf 0)<|zh 2) (zf 1))
def j5:=z6 6<|zK wf1<|zK wf2<|zK wf3 wf4
def mb1:=(jo 2<|qi<|jB yU<|zb (zf 0)<|zb (zf 1) zE)
def mb2:=(jo 3<|qi<|zP (zO<|zG<|sIx (zG<|zC jC<|zb (sIx (zh 1)<|zu<|.int 0) zE)<|zu<|.int 2) (.nm 0) 1 [0,2] jA (zC j5<|zb (zf 1)<|zb (zf 2)<|zb (zf 0) zE))
def mb3:=(qv<|qh<|zb (sIx (zh 1)<|zu<|.int 0)<|zb (zH Jo (sIx (zh 1)<|zu<|.int 0)<|Zo<|zh 2)<|zb (z4<|zh 3) zE)
def jz:=z6 4<|zK mb1<|zK mb2 mb3
def ar1:=(jo 4<|qh<|zb (Zo<|zh 2)<|zb (zf 1)<|zb (zf 2) zE)
def ar2:=(qv<|qh<|zb (zC kP<|zb (zf 0) zE)<|zb (JM (sB<|zf 3) (zf 4)<|zC js<|zb (zf 4) zE) zE)
def ql:=z6 5<|zK ar1 ar2
def aa1:=(jo 4<|JM (sB<|zH dGt (zf 1)<|zu<|.int 0) (sIx (zG<|sIx (zh 0)<|zu<|.int 1)<|zH Jo (zf 1)<|zu<|.int 1)<|zu<|.int 0)
def aa2:=(jo 5<|Eo (zH Jo (zf 1)<|zu<|.int 1) (QT (sIx (zh 2)<|zu<|.int 2) Jl<|sBd<|zf 4) (zf 1)<|QT (sIx (zh 2)<|zu<|.int 2) (sBd<|zf 4) Jl)
def aa3:=(ke 6<|xX zE)
def aa4:=(Jm (WO<|sIx (zh 0)<|zu<|.int 2) (.tp [7,8])<|kZ 6<|JM (sB<|bN (zf 7)<|zf 5) (zC ql<|zb (sIx (zh 8)<|zu<|.int 0)<|zb (sIx (zh 2)<|zu<|.int 1)<|zb (gM (zf 5)<|zf 7)<|zb (zf 3) zE)<|zf 8)
def aa5:=(qv<|z4<|zh 6)
def qV:=z6 9<|zK aa1<|zK aa2<|zK aa3<|zK aa4 aa5
def ta1:=(jo 2<|zC xE<|zb (zf 0) zE)
def ta2:=(oB<|zC yu<|zb (zf 2)<|zb (zf 1) zE)
def ta3:=(jo 3<|zC vJ<|zb (zf 2)<|zb (zf 1) zE)
def ta4:=(jo 4<|zC kQ<|zb (zf 0)<|zb (zf 1)<|zb (zf 3) zE)
def ta5:=(jo 5<|qh<|zb (Zo<|zh 4)<|zb (sIx (zG<|sIx (zh 0)<|zu<|.int 1)<|zf 1)<|zb (zf 4) zE)
def ta6:=(jo 6<|JM (sB<|zf 3) (zC qt<|zb (sIx (zh 0)<|zu<|.int 0)<|zb (zf 5) zE)<|zC jz<|zb (sIx (zh 0)<|zu<|.int 0)<|zb (zf 5) zE)
def ta7:=(jo 7<|zH jF (zH jF (QT (sIx (zh 0)<|zu<|.int 1) Jl<|sBd<|zf 1)<|qh<|zb (sIx (zh 6)<|zu<|.int 1) zE)<|QT (sIx (zh 0)<|zu<|.int 1) (sBd<|zH jF (zf 1)<|zu<|.int 1) Jl)
def ta8:=(oB<|zC qU<|zb (zf 7) zE)
def ta9:=(qv<|qh<|zb (sIx (zh 0)<|zu<|.int 0)<|zb (zf 7)<|zb (zC qV<|zb (zf 0)<|zb (zf 1)<|zb (zf 6)<|zb (zf 3) zE) zE)
def j6:=z6 8<|zK ta1<|zK ta2<|zK ta3<|zK ta4<|zK ta5<|zK ta6<|zK ta7<|zK ta8 ta9
def nT:=(jo 1<|zC zZ<|zb (zf 0)<|zb (zu<|.int 0) zE)
def nS:=(jo 2<|sIx (jV<|xX<|zb (zu<|.int 2)<|zb (zu<|.int 3)<|zb (zu<|.int 5)<|zb (zu<|.int 7) zE)<|zH yG (zf 1)<|zu<|.int 4)
def nQ:=(jo 3<|zH jF (zu<|.int 1)<|zH yG (zH aH (zf 1)<|zu<|.int 4)<|zu<|.int 6)
def nP:=(jo 4<|zC qS<|zb (zH aH (zf 1)<|zu<|.int 24)<|zb (zf 3) zE)
def nO:=(jo 5<|zH yG (zC zZ<|zb (zf 0)<|zb (zu<|.int 1) zE)<|zf 3)
def nN:=(ml 100 (sB (zH dNe (zC Ya (zb (zf 4) (zb (zf 5) zE))) (zu (.str "told")))) (jo 5 (zH yG (zH jF (zf 5) (zu (.int 1))) (zf 3))))
def nM:=(jo 6<|zC qg<|zb (zf 0)<|zb (zu<|.int 2)<|zb (zf 2)<|zb (zf 4)<|zb (zH Jo (zu<|.int 3)<|bJ<|zH dGt (zf 3)<|zu<|.int 4) zE)
def nK:=(jo 7<|zC qJ<|zb (zf 6) zE)
def nJ:=(jo 8<|oC (zf 7)<|qh<|zb (zf 5)<|zb (zf 5) zE)
def bp:=(jo 9<|zC j6<|zb (zf 6)<|zb (zf 5) zE)
def Vk:=(jo 10<|sH<|jV<|zP (zO<|jV<|xX<|zb (zH Jo (zf 5)<|zu<|.int 1)<|zb (zH jF (zf 5)<|zu<|.int 1) zE) (.nm 0) 1 [3,6] (sB<|y8 dLe dLt (zu<|.int 0) (zf 0)<|zf 1) (sIx (zG<|sIx (zh 2)<|zu<|.int 1)<|zf 0))
def bo:=(sIf (sB<|zH dNe (sIx (zh 9)<|zu<|.int 1)<|zH jF (zH jF (QT (sIx (zh 6)<|zu<|.int 1) Jl<|sBd<|zf 5)<|qh<|zb (zH jF (zH Jo (zf 10)<|sIx (zG<|sIx (zh 6)<|zu<|.int 1)<|zf 5)<|zf 8) zE)<|QT (sIx (zh 6)<|zu<|.int 1) (sBd<|zH jF (zf 5)<|zu<|.int 1) Jl) (qv<|zu<|.bl false) xc)
def bj:=(jo 11<|zC j6<|zb (zf 9)<|zb (zf 5) zE)
def bh:=(sIf (tZ (sB<|zH dNe (sIx (zh 11)<|zu<|.int 1)<|zH jF (zH jF (QT (sIx (zh 6)<|zu<|.int 1) Jl<|sBd<|zf 5)<|qh<|zb (zH Jo (sIx (zG<|sIx (zh 6)<|zu<|.int 1)<|zf 5)<|zf 8) zE)<|QT (sIx (zh 6)<|zu<|.int 1) (sBd<|zH jF (zf 5)<|zu<|.int 1) Jl)<|sB<|zH dNe (sIx (zh 11)<|zu<|.int 0)<|zf 2) (qv<|zu<|.bl false) xc)
def bf:=(sIf (sB (zH dNe (Ka (zu (.str "")) (jV (zP (zO (zG (sIx (zh 11) (zu (.int 2))))) (.nm 0) 1 [] jA (sIx (zh 0) (zu (.int 0)))))) (zf 4))) (qv (zu (.bl false))) xc)
def bc:=(Vv 7 (BM (qh<|zb (zf 5)<|zb (zf 5) zE)<|zu<|.int 0)<|qv<|zH Ci (zC qJ<|zb (zf 11) zE)<|zf 7)
def Jh:=z6 12<|zK nT<|zK nS<|zK nQ<|zK nP<|zK nO<|zK nN<|zK nM<|zK nK<|zK nJ<|zK bp<|zK Vk<|zK bo<|zK bj<|zK bh<|zK bf bc
theorem ec{T:Tg}{F:CO Fl}{g:Nat->D}(P:Nat->Ctx->Prop)(n:Nat){γ:Ctx}(h0:P 0 γ)(step : ∀s,s<n->∀γ,P s γ->∃γ1 z,qM T (g s) γ=some γ1/\F γ1=some (.next z)/\P (s+1) z) :
 ∃γ',qo T F ((Io n).map g) γ=some (.next γ')/\P n γ':=by
 have O : ∀(k s:Nat) (γ:Ctx),s+k=n->P s γ->∃γ',qo T F ((Ng s k).map g) γ=some (.next γ')/\P n γ':=by
  intro k
  induction k with
  | zero=>
   intro s γ e I;obtain rfl:s=n:=by omega
   exact⟨γ,rfl,I⟩
  | succ k U=>
   intro s γ e I;obtain⟨γ1,z,e1,Y,e3⟩:=step s ⋯ γ I;obtain⟨γ',q1,q2⟩:=U (s+1) z ⋯ e3;refine⟨γ',?_,q2⟩;rw[MA,IS,jm,e1];simp only[Iz,Y];exact q1
 have:=O n 0 γ ⋯ h0;rw[<- LZ]at this;exact this
section
variable{p:Int}{m:Nat}{w:RX}{wd wd':RZ}{T T' S J X:RV}
abbrev rx(p:Int)(m:Nat)(w:RX)(wd wd':RZ)(T T' X:RV)(r:Nat)(c6 c7 c8 c9 c10:Cell):Ctx:=
 [.val (.int p),.val<|.str<|xN m w,.val<|iw m w wd T,.val<|iw m w wd' T',.val<|.lst<|tbL m (wiW w wd') (hiW w wd) λk i j=>X k j i,.val<|.int (r:Int),c6,c7,c8,c9,c10]
def rs1:=(jo 6<|qi<|zP (jK<|sIx (zG<|sIx (zh 3)<|zu<|.int 0)<|zf 5) (.nm 0) 1 [2,5] jA (qi<|oA (jV<|xX<|zb (zu<|.int 0) zE)<|sIx (zG<|sIx (zh 1)<|zu<|.int 0)<|zf 2))
end
theorem AH:kQ=z6 6 (zK lm1<|zK lm2 lm3):=rfl
theorem sV:j5=z6 6 (zK wf1<|zK wf2<|zK wf3 wf4):=rfl
theorem AE:qt=z6 2 me1:=rfl
theorem AF:jz=z6 4 (zK mb1<|zK mb2 mb3):=rfl
theorem Bu:ql=z6 5 (zK ar1 ar2):=rfl
theorem BD:qV=z6 9 (zK aa1<|zK aa2<|zK aa3<|zK aa4 aa5):=rfl
theorem tq:j6=z6 8 (zK ta1<|zK ta2<|zK ta3<|zK ta4<|zK ta5<|zK ta6<|zK ta7<|zK ta8 ta9):=rfl
def gi(m k:Nat):List Nat:=(if 0<k then [k - 1]else [])++if k<m then [k]else []
theorem aN:wrooms.map (λa=>qz [.str (wl a.1),.int (a.2:Int)])=wrooms.map λa=>some (.own<|(gi a.1.length a.2).map λ(i:Nat)=>D.int (i:Int)):=by kernel_rfl
def ZS(l:List Bool)(k:Nat):Bool:=(k==0 || l[k - 1]? == some false) && (k==l.length || l[k]? == some true)
theorem aq:wrooms.map (λa=>vJ [.str (wl a.1),.int (a.2:Int)])=wrooms.map λa=>some (.val<|.bl<|ZS a.1 a.2):=by kernel_rfl
section
variable{p:Int}{w:RX}{wd:RZ}{T:RV}{m k:Nat}
theorem Y3(hm:m<=5)(hk:k<=m):qz [.str (xN m w),.int (k:Int)]=some (.own<|(gi m k).map λ(i:Nat)=>D.int (i:Int)):=by have q:=VX aN (kj (l:=(Io m).map w) (k:=k) (by simpa using hm)<|by simpa using hk);dsimp only at q;rw[IQ,Mg]at q;rw[Ze];exact q
theorem YL(hm:m<=5)(hk:k<=m):vJ [.str (xN m w),.int (k:Int)]=some (.val<|.bl<|ZS ((Io m).map w) k):=by have q:=VX aq (kj (l:=(Io m).map w) (k:=k) (by simpa using hm)<|by simpa using hk);rw[Ze];exact q
theorem J9(hk:k<=m):ZS ((Io m).map w) k=true↔(0<k->w (k - 1)=false)/\(k<m->w k=true):=by
 unfold ZS;simp only[IQ,Mg,ID,LO,beq_iff_eq,Lo];constructor
 ·rintro⟨h1,h2⟩
  refine⟨λh0=>?_,λh0=>?_⟩
  ·rcases h1 with z | z
   ·omega
   ·rw[MH ⋯]at z;simpa using z
  ·rcases h2 with z | z
   ·omega
   ·rw[MH h0]at z;simpa using z
 ·rintro⟨h1,h2⟩
  refine⟨?_,?_⟩
  ·by_cases h0:0<k
   ·right;rw[MH ⋯];simp[h1 h0]
   ·left;omega
  ·by_cases h0:k<m
   ·right;rw[MH h0];simp[h2 h0]
   ·left;omega
theorem si(hk:k<=m)(I:vO ((Io m).map w) k=true)(he:ZS ((Io m).map w) k=false):(0<k->w (k - 1)=true)/\(k<m->w k=false):=by
 have h2 : ¬((0<k->w (k - 1)=false)/\(k<m->w k=true)):=λz=>by rw[(J9 hk).mpr z]at he;cases he
 have O:0<k->k<m->w (k - 1)≠w k:=λh0 h1=>by
  unfold vO at I;simp only[IQ,Mg,LO,beq_iff_eq,bne_iff_ne,Lo]at I;rcases I with(z | z) | z
  ·omega
  ·omega
  ·rw[MH ⋯,MH h1]at z
   intro e;apply z;simp[e]
 refine⟨λh0=>?_,λh1=>?_⟩
 ·cases e:w (k - 1)with
  | true=>rfl
  | false=>
   exfalso;apply h2;refine⟨λ_=>e,λh1=>?_⟩;have:=O h0 h1;rw[e]at this;cases e2:w k with
   | true=>rfl
   | false=>rw[e2]at this;exact absurd rfl this
 ·cases e:w k with
  | false=>rfl
  | true=>
   exfalso;apply h2;refine⟨λh0=>?_,λ_=>e⟩;have:=O h0 h1;rw[e]at this;cases e2:w (k - 1)with
   | false=>rfl
   | true=>rw[e2]at this;exact absurd rfl this
def lnO(e:Bool)(w:RX)(wd:RZ)(T:RV)(a:Nat):List D:=if e=true then zN (wiW w wd a) (hiW w wd a) (λi j=>T a j i)else zN (hiW w wd a) (wiW w wd a) (T a)
theorem YN{n:Nat}(z : ∀k,wd k<=n)(a:Nat):hiW w wd a<=n/\wiW w wd a<=n:=by unfold hiW wiW;constructor<;>(split<;>exact z _)
theorem pW{n:Nat}(z : ∀k,wd k<=n)(e:Bool)(a:Nat):(lnO e w wd T a).length<=n:=by
 unfold lnO;cases e
 ·rw[EQ ⋯,wU];exact(YN z a).1
 ·rw[RY rfl,wU];exact(YN z a).2
def lmB:=(zK (jo 5<|sIx (zG<|sIx (zG<|sIx (zh 0)<|zu<|.int 2)<|zf 4)<|zu<|.int 1)<|gK 3<|zG<|JM (sB<|zf 2) (sIx (zG<|zC js<|zb (zf 5) zE)<|zu<|.int 2)<|sIx (zh 5)<|zu<|.int 2)
theorem Xm(I : ∀k,wd k<=100)(e:Bool){a:Nat}(ha:a<m){acc:List D}(U:acc.length<=100)(c5:Cell)(k:Int) :
 lmB [.val (jI p m w wd T),.val<|.int k,.val<|.bl e,.own acc,.val<|.int (a:Int),c5]=some (.next [.val (jI p m w wd T),.val<|.int k,.val<|.bl e,.own<|acc++lnO e w wd T a,.val<|.int (a:Int),.val (jn (hiW w wd a) (wiW w wd a)<|T a)]):=by
 have Y:=jd;obtain⟨h1,h2⟩:=YN (w:=w) I a;have z:=xF (T a) (show hiW w wd a<=lim by omega) (show wiW w wd a<=lim by omega);have ag:=lT (w:=w) (wd:=wd) (T:=T) ha;have O:(j1 m w wd T).length=m:=by simp[j1]
 unfold lmB;refine zv (γ':=[.val (jI p m w wd T),.val<|.int k,.val<|.bl e,.own acc,.val<|.int (a:Int),.val (jn (hiW w wd a) (wiW w wd a)<|T a)]) ?_ ?_
 ·simp[jU,xn,jM,O,ha,vA]
 ·rw[sC]
  cases e with
  | true=>
   have b1:acc.length+wiW w wd a<=lim:=by omega
   simp[z,jn,jf,lnO,qy,b1];simp[jn]at z;simp[z,jf,b1]
  | false=>
   have b1:acc.length+hiW w wd a<=lim:=by omega
   simp[jn,jf,lnO,qy,b1]
theorem iK(z : ∀k,wd k<=100)(hm:m<=5)(hk:k<=m)(e:Bool):kQ [jI p m w wd T,.int (k:Int),.bl e]=some (.val<|.tup<|(gi m k).flatMap λa=>lnO e w wd T a):=by
 have Y:=jd;have O:=yf (p:=p) (w:=w) (wd:=wd) (T:=T) (show m<=900 by omega);have U:=Y3 (w:=w) hm hk;have go : ∃I c5,qo (.nm 4) lmB ((gi m k).map λ(i:Nat)=>D.int (i:Int)) [.val (jI p m w wd T),.val<|.int k,.val<|.bl e,.own [],.no,.no]=some (.next [.val (jI p m w wd T),.val<|.int k,.val<|.bl e,.own<|(gi m k).flatMap λa=>lnO e w wd T a,I,c5]):=by
  unfold gi;by_cases h0:0<k
  ·by_cases h1:k<m
   ·have s1:=Xm (p:=p) (w:=w) (T:=T) z e (a:=k - 1) (m:=m) ⋯ (acc:=[]) ⋯ .no (k:Int)
    have s2:=Xm (p:=p) (w:=w) (T:=T) z e (a:=k) h1 (acc:=[]++lnO e w wd T (k - 1)) (by simpa using pW z e (k - 1)) (.val<|jn (hiW w wd<|k - 1) (wiW w wd<|k - 1)<|T<|k - 1) (k:Int);refine⟨.val<|.int (k:Int),.val<|jn (hiW w wd k) (wiW w wd k)<|T k,?_⟩;rw[RY h0,RY h1];show qo _ _ [.int ((k - 1:Nat):Int),.int (k:Int)] _=_;rw[jm];show(lmB [.val (jI p m w wd T),.val<|.int k,.val<|.bl e,.own [],.val<|.int ((k - 1:Nat):Int),.no]).bind _=_;rw[s1,Iz];show qo _ _ [.int (k:Int)] _=_;rw[jm];show(lmB [.val (jI p m w wd T),.val<|.int k,.val<|.bl e,.own<|[]++lnO e w wd T (k - 1),.val<|.int (k:Int),_]).bind _=_;rw[s2,Iz];simp[qo]
   ·have s1:=Xm (p:=p) (w:=w) (T:=T) z e (a:=k - 1) (m:=m) ⋯ (acc:=[]) ⋯ .no (k:Int)
    refine⟨.val<|.int ((k - 1:Nat):Int),.val<|jn (hiW w wd<|k - 1) (wiW w wd<|k - 1)<|T<|k - 1,?_⟩;rw[RY h0,EQ h1];show qo _ _ [.int ((k - 1:Nat):Int)] _=_;rw[jm];show(lmB [.val (jI p m w wd T),.val<|.int k,.val<|.bl e,.own [],.val<|.int ((k - 1:Nat):Int),.no]).bind _=_;rw[s1,Iz];simp[qo]
  ·by_cases h1:k<m
   ·have s1:=Xm (p:=p) (w:=w) (T:=T) z e (a:=k) h1 (acc:=[]) ⋯ .no (k:Int)
    refine⟨.val<|.int (k:Int),.val<|jn (hiW w wd k) (wiW w wd k)<|T k,?_⟩;rw[EQ h0,RY h1];show qo _ _ [.int (k:Int)] _=_;rw[jm];show(lmB [.val (jI p m w wd T),.val<|.int k,.val<|.bl e,.own [],.val<|.int (k:Int),.no]).bind _=_;rw[s1,Iz];simp[qo]
   ·refine⟨.no,.no,?_⟩
    rw[EQ h0,EQ h1];rfl
 obtain⟨I,c5,go⟩:=go;rw[AH];refine jG<|zv (γ':=[.val (jI p m w wd T),.val<|.int k,.val<|.bl e,.own [],.no,.no]) rfl<|zv (γ':=[.val (jI p m w wd T),.val<|.int k,.val<|.bl e,.own<|(gi m k).flatMap λa=>lnO e w wd T a,I,c5]) ?_ rfl;unfold lm2;rw[Jd];have src:zO (zG<|qi<|jB qz<|zb (zC xE<|zb (zf 0) zE)<|zb (zf 1) zE) [.val (jI p m w wd T),.val<|.int k,.val<|.bl e,.own [],.no,.no]=some ((gi m k).map λ(i:Nat)=>D.int (i:Int)):=by simp[O,U,jf]
 rw[src];exact go
end
section
variable{p:Int}{n r:Nat}{Bs:Nat->Vc}{ls:RZ}
def YE(p:Int)(Bs:Nat->Vc)(ls:RZ)(v:Vc)(s:Nat):Vc:=λx=>(v x - zc (λj=>v (ls j)*Bs j x) s)%p
theorem dZ(hb:IsB p n r Bs ls):(frL n r ls).length+r=n:=by
 have h1:((frL n r ls).length:Int)=zc (λi=>if (!V4 r ls i)=true then 1 else 0) n:=by
  have:=qA (λi=> !V4 r ls i) (λ_=>1) n;rw[<- this];have : ∀k:Nat,zc (λ_=>1) k=(k:Int):=λk=>by
   induction k with
   | zero=>rfl
   | succ k O=>show zc _ k+1=_;rw[O];omega
  rw[this];rfl
 have inj : ∀{a b:Nat},a<r->b<r->ls a=ls b->a=b:=λ{a b} ha a0 e=>by
  rcases Nb a b with z | z | z
  ·have:=hb.mono a b z a0;omega
  ·exact z
  ·have:=hb.mono b a z ha;omega
 have h2 : ∀i,(if (!V4 r ls i)=true then (1:Int)else 0)+zc (λj=>if ls j=i then 1 else 0) r=1:=λi=>by
  cases h:V4 r ls i with
  | false=>
   rw[zg (g:=λ_=>0) λj I=>EQ λz=>by(rw[isLd_iff.mpr ⟨j,I,z⟩]at h;cases h),zy];rfl
  | true=>
   obtain⟨j,I,e⟩:=isLd_iff.mp h;rw[zI (i:=j) I λc hc U=>EQ λz=>U (inj hc I<|by rw[z,e]),RY e];rfl
 have Y:zc (λi=>(if (!V4 r ls i)=true then (1:Int)else 0)+zc (λj=>if ls j=i then 1 else 0) r) n=n:=by
  rw[zg (g:=λ_=>1) λi _=>h2 i];generalize n=k
  induction k with
  | zero=>rfl
  | succ k O=>show zc _ k+1=_;rw[O];omega
 rw[jt,<- h1,jw]at Y;have h4:zc (λj=>zc (λi=>if ls j=i then (1:Int)else 0) n) r=r:=by
  have:zc (λj=>zc (λi=>if ls j=i then (1:Int)else 0) n) r=zc (λ_=>1) r:=zg λj I=>by rw[zI (i:=ls j) (hb.lt j I) λc _ U=>EQ<|Ly U,RY rfl]
  rw[this];generalize r=k
  induction k with
  | zero=>rfl
  | succ k O=>show zc _ k+1=_;rw[O];omega
 rw[h4]at Y;omega
theorem dk(U:Pr p)(hn:n<=100)(hb:IsB p n r Bs ls){i:Nat}:j5 [.int p,.lst<|zN r n Bs,.tup (zF n<|ja i)]=some (.val<|.tup<|zF (frL n r ls).length λc=>lfB p n r Bs ls c i):=by
 have hl:=jd;have p0:=U.pos;have O:n<=lim:=by omega
 have rn:=yK hb;have a1:r<=lim:=by omega
 have ld : ∀j,j<r->jD [.tup (zF n<|Bs j)]=some (.val<|.int<|ls j):=λj z=>kx O (Bs j) (hb.lt j z) (λi hi=>hb.bef j i z hi) (by rw[hb.one j z];decide);let v:Vc:=ja i;have Y : ∀x,0<=v x/\v x<p:=λx=>by have:=U.two;show 0<=(if _ then (1:Int)else 0)/\(if _ then (1:Int)else 0)<p;split<;>omega
 have e0:zF n v=zF n (YE p Bs ls v 0):=xS λx _=>by show v x=(v x - 0)%p;rw[Pg,Lh (Y x).1 (Y x).2]
 have a3 : ∀j,j<r->jS [.int p,.tup<|zF n<|YE p Bs ls v j,.tup<|zF n<|Bs j,.int (ls j)]=some (.val<|.tup<|zF n<|YE p Bs ls v<|j+1):=λj z=>by
  rw[yi U O (hb.lt j z) (YE p Bs ls v j) (Bs j) λx _=>⟨Le _ ⋯,IU _ p0⟩];congr 3;refine xS λx _=>?_;have el:YE p Bs ls v j (ls j)=v (ls j)%p:=by show(v (ls j) - _)%p=_;rw[zg (g:=λ_=>0) λc hc=>by rw[hb.oth c j ⋯ z ⋯];simp,zy,Pg]
  show((v x - zc (λj=>v (ls j)*Bs j x) j)%p - YE p Bs ls v j (ls j)*Bs j x)%p=(v x - (zc (λj=>v (ls j)*Bs j x) j+v (ls j)*Bs j x))%p;rw[el,Mv,Lb,cX,<- Mv];congr 1;omega
 have L : ∃I,wf2 [.val (.int p),.val<|.lst<|zN r n Bs,.val<|.tup<|zF n v,.val<|.tup<|zF n v,.no,.no]=some (.next [.val (.int p),.val<|.lst<|zN r n Bs,.val<|.tup<|zF n v,.val<|.tup<|zF n<|YE p Bs ls v r,I,.no]):=by
  unfold wf2;rw[Jd];show ∃I,Ny (some (zN r n Bs)) _=_;rw[Iz];obtain⟨γ',e,I,rfl⟩:=ec (T:= .nm 4) (g:=λj=>D.tup<|zF n<|Bs j) (F:=(jo 3<|zC jS<|zb (zf 0)<|zb (zf 3)<|zb (zf 4)<|zb (zC jD<|zb (zf 4) zE) zE))
   (λs γ=>∃I,γ=[.val (.int p),.val<|.lst<|zN r n Bs,.val<|.tup<|zF n v,.val<|.tup<|zF n<|YE p Bs ls v s,I,.no]) r (γ:=[.val (.int p),.val<|.lst<|zN r n Bs,.val<|.tup<|zF n v,.val<|.tup<|zF n v,.no,.no]) ⟨.no,by rw[<- e0]⟩ (by
   rintro s hs γ ⟨I,rfl⟩;refine⟨[.val (.int p),.val<|.lst<|zN r n Bs,.val<|.tup<|zF n v,.val<|.tup<|zF n<|YE p Bs ls v s,.val<|.tup<|zF n<|Bs s,.no],_,rfl,?_,.val<|.tup<|zF n<|Bs s,rfl⟩;simp[ld s hs,a3 s hs])
  exact⟨I,e⟩
 obtain⟨I,L⟩:=L;have e4:zS (.nm 0) jA (zC jD<|zb (zf 0) zE) [.no] (zN r n Bs)=some ((Io r).map λj=>D.int ((ls j:Nat):Int)):=by unfold zN;refine zB _ _ λj z=>zD rfl rfl ?_;simp[ld j (Iu.mp z)]
 have e5:zS (.tp [0,1]) (sB<|vT (zf 0)<|zh 2) (zf 1) [.no,.no,.val (.lst<|(Io r).map λj=>D.int ((ls j:Nat):Int))] ((Io n).map λ(x:Nat)=>D.tup [.int x,.int (YE p Bs ls v r x)]) =
  some (((Io n).filter λ(c:Nat)=> !decide ((c:Int)∈(Io r).map λj=>((ls j:Nat):Int))).map λ(x:Nat)=>D.int<|YE p Bs ls v r x):=by
  refine jq (λ(c:Nat)=> !decide ((c:Int)∈(Io r).map λj=>((ls j:Nat):Int))) (λ(x:Nat)=>D.int<|YE p Bs ls v r x) _ λi hi=>⟨_,rfl,?_,λ_=>rfl⟩;have im:=v9 ls<|Io r;show((Jy<|(Io r).map λj=>D.int ((ls j:Nat):Int)).map λl=>D.bl<|!decide ((i:Int)∈l)).bind asB=_;rw[im];rfl
 have e6:((Io n).filter λ(c:Nat)=> !decide ((c:Int)∈(Io r).map λj=>((ls j:Nat):Int)))=frL n r ls:=MZ λc _=>by
  congr 1;rw[Mr,isLd_iff,decide_eq_true_eq,La];constructor
  ·rintro⟨j,z,e⟩;exact⟨j,Iu.mp z,by omega⟩
  ·rintro⟨j,z,e⟩;exact⟨j,Iu.mpr z,by omega⟩
 rw[sV];refine jG<|zv (γ':=[.val (.int p),.val<|.lst<|zN r n Bs,.val<|.tup<|zF n v,.val<|.tup<|zF n v,.no,.no]) rfl<|zv L<|zv (γ':=[.val (.int p),.val<|.lst<|zN r n Bs,.val<|.tup<|zF n v,.val<|.tup<|zF n<|YE p Bs ls v r,I,.val (.lst<|(Io r).map λj=>D.int ((ls j:Nat):Int))]) ?_ ?_
 ·simp[wf3,jk,jf,a1,e4]
 ·have en:xh (zF n<|YE p Bs ls v r)=(Io n).map λ(x:Nat)=>D.tup [.int x,.int (YE p Bs ls v r x)]:=by rw[jE,J8]
  have ae:(Io n).length<=lim:=by simpa using O
  simp[wf4,jk,en,O,qY];rw[e5,e6];simp only[Lm,Mw.injEq];rw[VW];rfl
end
theorem vw(xs:List D){a:Nat}(h:a<=xs.length):vx xs none (some (a:Int))=xs.take a:=by
 have n1 : ¬((a:Int)<0):=by omega
 simp[vx,JB,n1,Nt h]
theorem QC(xs:List D){a:Nat}(h:a<=xs.length):vx xs (some (a:Int)) none=xs.drop a:=by
 have n1 : ¬((a:Int)<0):=by omega
 simp only[vx,JB,n1,if_false,Mh,Nt h];rw[Mq (by rw[Re];omega)]
section
variable{p:Int}
theorem AC(I:Pr p){n wk:Nat}(hn:n<=8)(hk:wk<=20)(M:RK) : ∃q K l,qt [.int p,jn n wk M]=some (.val<|jn n q λi c=>K c i)/\IsB p n q K l/\(∀v,Span p n (Fam q K) v↔Ker p wk n (λi j=>M j i) v):=by have O:=jd;obtain⟨q,K,l,s,e,hb,hs,U,Y⟩:=xI I hk hn λi j=>M j i;have z:=xF M (show n<=lim by omega) (show wk<=lim by omega);have co:=wo (q:=q) (h:=n) K ⋯ ⋯;refine⟨q,K,l,?_,hb,hs⟩;rw[AE];refine jG ?_;simp only[jn]at z e co ⊢;simp[me1,zY,Iw,jf,z,e,co]
theorem AD(z:Pr p){n wk:Nat}(hn:n<=100)(hk:wk<=lim)(M:RK) : ∃r Bs ls,jz [.int p,jn n wk M]=some (.val<|jn n (frL n r ls).length λi c=>lfB p n r Bs ls c i)/\IsB p n r Bs ls/\(∀v,Span p n (Fam r Bs) v↔Span p n (Fam wk λj i=>M i j) v):=by
 have U:=jd;obtain⟨r,Bs,ls,e,hb,hs⟩:=wt z hn hk M;have I:n<=lim:=by omega
 have sa:=ko I;have Y:=dZ hb;refine⟨r,Bs,ls,?_,hb,hs⟩;have O:zS (.nm 0) jA (zC j5<|zb (zf 1)<|zb (zf 2)<|zb (zf 0) zE) [.no,.val<|.int p,.val (.lst<|zN r n Bs)] (zN n n λi j=>if i=j then 1 else 0)=some (zN n (frL n r ls).length λi c=>lfB p n r Bs ls c i):=by unfold zN;refine zB _ _ λi hi=>zD rfl rfl ?_;have:=dk z hn hb (i:=i);show(j5 [.int p,.lst<|zN r n Bs,.tup (zF n<|ja i)]).map uh=_;rw[this];rfl
 rw[AF];refine jG<|zv (γ':=[.val (.int p),.val<|jn n wk M,.val<|.lst<|zN r n Bs,.no]) ?_ (zv (γ':=[.val (.int p),.val<|jn n wk M,.val<|.lst<|zN r n Bs,.val (.lst<|zN n (frL n r ls).length λi c=>lfB p n r Bs ls c i)]) ?_ ?_)
 ·simp[mb1,zY,Iw,e]
 ·simp only[jn]at sa ⊢
  simp[mb2,jf,sa,jk,qY,I];rw[O]
 ·have e1:(n:Int) - (r:Int)=((frL n r ls).length:Int):=by omega
  simp[mb3,jn,jf,e1]
theorem yH{h q:Nat}(z:h<=lim)(I:q<=lim)(b e:Bool)(f:RK):ql [.str (qN<|wch b),.int q,.tup<|zN h q f,.bl e]=some (.val<|.tup [.str (qN<|wch !b),if e=true then jn h q f else jn q h λi j=>f j i]):=by
 have O:=xF f z I;have U:=JC b;rw[Bu];refine jG<|zv (γ':=[.val (.str<|qN<|wch b),.val<|.int q,.val<|.tup<|zN h q f,.val<|.bl e,.val (jn h q f)]) ?_ ?_
 ·simp[ar1,zY,Iw,jf,jn]
 ·cases e<;>simp[ar2,U,O]
variable{w:RX}{wd:RZ}{T:RV}{m k n q:Nat}
def flW(k:Nat)(w:RX)(a:Nat):Bool:=if a+1=k\/a=k then !w a else w a
def upW(k q:Nat)(wd:RZ)(r:Nat):Nat:=if r=k then q else wd r
def abT(p:Int)(e:Bool)(k wl:Nat)(G:RK)(T:RV)(a i c:Nat):Int:=
 if a+1=k then (if e=true then G i c else G c i)%p else if a=k then (if e=true then G (wl+i) c else G (wl+c) i)%p else T a i c
theorem Xv(i j:Int)(x y:D)(a:Int):Xw [.int i,.int j] [x,y] a=if i=a then some x else if j=a then some y else none:=by simp[Xw]
theorem ZY{wl wr:Nat}(hn:n=wl+wr)(a4:wl=if 0<k then wd (k - 1)else 0)(a8:wr=if k<m then wd (k+1)else 0)(hm:m<=5)(hk:k<=m)(a9 : ∀k,wd k<=100)(hq:q<=100)(e:Bool)(hE:(0<k->w (k - 1) = !e)/\(k<m->w k=e))(G:RK)(hG : ∀i c,i<n->c<q->0<=G i c/\G i c<p) :
 qV [jI p m w wd T,.int (k:Int),jn n q G,.bl e]=some (.val<|.tup<|j1 m (flW k w) (upW k q wd)<|abT p e k wl G T):=by
 have hl:=jd;have b9:wl<=100:=by rw[a4];split;exact a9 _;omega
 have bb:wr<=100:=by rw[a8];split;exact a9 _;omega
 let I:D:= .tup (zN wl q G);let O:D:= .tup (zN wr q λi=>G<|wl+i);let z:D:= .dic [.int ((k:Int) - 1),.int (k:Int)] [I,O];have bd:(j1 m w wd T).length=m:=by simp[j1]
 have an:vx (zN n q G) none (some (wl:Int))=zN wl q G:=by rw[vw _ (by simp;omega),hn];unfold zN;rw[<- List.map_take,List.take_range,Nt ⋯]
 have GE:vx (zN n q G) (some (wl:Int)) none=zN wr q λi=>G (wl+i):=by rw[QC _ (by simp;omega),hn];unfold zN;rw[<- List.map_drop,LZ,List.drop_range',LZ];refine Rf ⋯ λi h1 h2=>?_;simp
 have one : ∀a,a<m->(JM (sB<|bN (zf 7)<|zf 5) (zC ql<|zb (sIx (zh 8)<|zu<|.int 0)<|zb (sIx (zh 2)<|zu<|.int 1)<|zb (gM (zf 5)<|zf 7)<|zb (zf 3) zE)<|zf 8) [.val (jI p m w wd T),.val<|.int k,.val<|jn n q G,.val<|.bl e,.val<|.int wl,.val z,.own<|j1 a (flW k w) (upW k q wd)<|abT p e k wl G T,.val<|.int (a:Int),.val (xk w wd T a)]=some (xk (flW k w) (upW k q wd) (abT p e k wl G T) a):=λa ha=>by
  by_cases h1:a+1=k
  ·have k0:0<k:=by omega
   have ew:=hE.1 k0;rw[show k - 1=a by omega]at ew;have Y:Xw [.int ((k:Int) - 1),.int (k:Int)] [I,O] (a:Int)=some I:=by rw[Xv,RY ⋯]
   have ae:=yH (h:=wl) (q:=q) ⋯ ⋯ (w a) e G;have ag:wl=wd a:=by rw[a4,RY k0,show k - 1=a by omega]
   have er:(.tup [.str (qN<|wch !w a),if e=true then jn wl q G else jn q wl λi j=>G j i]:D)=xk (flW k w) (upW k q wd) (abT p e k wl G T) a:=by
    unfold xk;have f1:flW k w a = !w a:=RY<|.inl h1;have u1:upW k q wd a=wd a:=EQ ⋯;have u2:upW k q wd (a+1)=q:=RY h1;unfold hiW wiW;rw[f1,ew];cases e
    ·simp only[OA,Oe,LP,if_false,u1,u2]
     rw[ag];congr 2;rw[Nn];refine⟨vq λi j hi U=>?_,rfl⟩;have:=hG j i ⋯ hi;show _=(if a+1=k then (if false=true then G i j else G j i)%p else _);rw[RY h1,EQ ⋯,Lh this.1 this.2]
    ·simp only[Oe,OA,if_true,u1,u2]
     rw[ag];congr 2;rw[Nn];refine⟨vq λi j hi U=>?_,rfl⟩;have:=hG i j ⋯ U;show _=(if a+1=k then (if true=true then G i j else G j i)%p else _);rw[RY h1,RY rfl,Lh this.1 this.2]
   rw[<- er];have pd:jf (jn n q G)=some (.T,[.int n,.int q,.tup (zN n q G)]):=rfl;simp[bN,gM,z,Y,xn,pd,I,ae]
  ·by_cases h2:a=k
   ·subst h2
    have ew:=hE.2 ha;have Y:Xw [.int ((a:Int) - 1),.int (a:Int)] [I,O] (a:Int)=some O:=by rw[Xv,EQ ⋯,RY rfl]
    have ae:=yH (h:=wr) (q:=q) ⋯ ⋯ (w a) e λi=>G<|wl+i;have am:wr=wd (a+1):=by rw[a8,RY ha]
    have er:(.tup [.str (qN<|wch !w a),if e=true then jn wr q (λi=>G<|wl+i)else jn q wr λi j=>G (wl+j) i]:D)=xk (flW a w) (upW a q wd) (abT p e a wl G T) a:=by
     unfold xk;have f1:flW a w a = !w a:=RY<|.inr rfl;have u1:upW a q wd a=q:=RY rfl;have u2:upW a q wd (a+1)=wd (a+1):=EQ ⋯;unfold hiW wiW;rw[f1,ew];cases e
     ·simp only[OA,Oe,LP,if_false,if_true,u1,u2]
      rw[am];congr 2;rw[Nn];refine⟨vq λi j hi U=>?_,rfl⟩;have:=hG (wl+j) i ⋯ hi;show _=(if a+1=a then _ else if a=a then (if false=true then G (wl+i) j else G (wl+j) i)%p else _);rw[EQ ⋯,RY rfl,EQ ⋯,Lh this.1 this.2]
     ·simp only[Oe,OA,LP,if_false,if_true,u1,u2]
      rw[am];congr 2;rw[Nn];refine⟨vq λi j hi U=>?_,rfl⟩;have:=hG (wl+i) j ⋯ U;show _=(if a+1=a then _ else if a=a then (if true=true then G (wl+i) j else G (wl+j) i)%p else _);rw[EQ ⋯,RY rfl,RY rfl,Lh this.1 this.2]
    rw[<- er];have pd:jf (jn n q G)=some (.T,[.int n,.int q,.tup (zN n q G)]):=rfl;simp[bN,gM,z,Y,xn,pd,O,ae]
   ·have Y:Xw [.int ((k:Int) - 1),.int (k:Int)] [I,O] (a:Int)=none:=by rw[Xv,EQ ⋯,EQ ⋯]
    have er:xk (flW k w) (upW k q wd) (abT p e k wl G T) a=xk w wd T a:=by unfold xk;have f1:flW k w a=w a:=EQ ⋯;have u1:upW k q wd a=wd a:=EQ ⋯;have u2:upW k q wd (a+1)=wd (a+1):=EQ ⋯;unfold hiW wiW;rw[f1,u1,u2];congr 2;rw[Nn];refine⟨vq λi j hi U=>?_,rfl⟩;show(if a+1=k then _ else if a=k then _ else _)=_;rw[EQ h1,EQ h2]
    rw[er];simp[bN,z,Y]
 have Lp : ∃c7 c8,aa4 [.val (jI p m w wd T),.val<|.int k,.val<|jn n q G,.val<|.bl e,.val<|.int wl,.val z,.own [],.no,.no]=some (.next [.val (jI p m w wd T),.val<|.int k,.val<|jn n q G,.val<|.bl e,.val<|.int wl,.val z,.own<|j1 m (flW k w) (upW k q wd)<|abT p e k wl G T,c7,c8]):=by
  unfold aa4;rw[Jd];have src:WO (sIx (zh 0)<|zu<|.int 2) [.val (jI p m w wd T),.val<|.int k,.val<|jn n q G,.val<|.bl e,.val<|.int wl,.val z,.own [],.no,.no]=some ((Io m).map λ(k:Nat)=>D.tup [.int k,xk w wd T k]):=by rw[<- J8];rfl
  rw[src,Iz];obtain⟨γ',eq,c7,c8,rfl⟩:=ec (T:= .tp [7,8]) (g:=λ(a:Nat)=>D.tup [.int a,xk w wd T a]) (F:=(kZ 6<|JM (sB<|bN (zf 7)<|zf 5) (zC ql<|zb (sIx (zh 8)<|zu<|.int 0)<|zb (sIx (zh 2)<|zu<|.int 1)<|zb (gM (zf 5)<|zf 7)<|zb (zf 3) zE)<|zf 8))
   (λs γ=>∃c7 c8,γ=[.val (jI p m w wd T),.val<|.int k,.val<|jn n q G,.val<|.bl e,.val<|.int wl,.val z,.own<|j1 s (flW k w) (upW k q wd)<|abT p e k wl G T,c7,c8]) m (γ:=[.val (jI p m w wd T),.val<|.int k,.val<|jn n q G,.val<|.bl e,.val<|.int wl,.val z,.own [],.no,.no]) ⟨.no,.no,rfl⟩ (by
   rintro s hs γ ⟨c7,c8,rfl⟩;refine⟨[.val (jI p m w wd T),.val<|.int k,.val<|jn n q G,.val<|.bl e,.val<|.int wl,.val z,.own<|j1 s (flW k w) (upW k q wd)<|abT p e k wl G T,.val<|.int (s:Int),.val (xk w wd T s)],_,rfl,?_,.val<|.int (s:Int),.val<|xk w wd T s,rfl⟩;have ar:(j1 s (flW k w) (upW k q wd)<|abT p e k wl G T).length<lim:=by simp[j1];omega
   rw[vD,one s hs];simp only[IM,II,qy,Iz,RY ar];simp[j1,Me])
  exact⟨c7,c8,eq⟩
 obtain⟨c7,c8,Lp⟩:=Lp;rw[BD];refine jG<|zv (γ':=[.val (jI p m w wd T),.val<|.int k,.val<|jn n q G,.val<|.bl e,.val<|.int wl,.no,.no,.no,.no]) ?_ (zv (γ':=[.val (jI p m w wd T),.val<|.int k,.val<|jn n q G,.val<|.bl e,.val<|.int wl,.val z,.no,.no,.no]) ?_ (zv (γ':=[.val (jI p m w wd T),.val<|.int k,.val<|jn n q G,.val<|.bl e,.val<|.int wl,.val z,.own [],.no,.no]) rfl<|zv Lp rfl))
 ·rw[a4]
  by_cases h0:0<k
  ·have a7:(0:Int)<(k:Int):=by omega
   have e1:(k:Int) - 1=((k - 1:Nat):Int):=by omega
   have h2:k - 1<m+1:=by omega
   simp[aa1,zY,Iw,jU,h0,a7,e1,jM,h2]
  ·have a7 : ¬(0:Int)<(k:Int):=by omega
   simp[aa1,zY,Iw,h0,a7]
 ·have pd:jf (jn n q G)=some (.T,[.int n,.int q,.tup (zN n q G)]):=rfl
  have h3 : ¬(k:Int) - 1=(k:Int):=by omega
  simp[aa2,Eo,pd,an,GE,h3,z,I,O]
end
section
variable{p:Int}{w:RX}{wd:RZ}{T:RV}{m k n q wl wr:Nat}
def Ku(e:Bool)(k wl:Nat)(T:RV)(i c:Nat):Int:=if i<wl then (if e=true then T (k - 1) c i else T (k - 1) i c)else (if e=true then T k c (i - wl)else T k (i - wl) c)
theorem dh(U:wl=if 0<k then wd (k - 1)else 0)(I:wr=if k<m then wd (k+1)else 0)(hk:k<=m)(e:Bool)(Y:(0<k->w (k - 1) = !e)/\(k<m->w k=e)) :
 ((gi m k).flatMap λa=>lnO e w wd T a)=zN (wl+wr) (wd k) (Ku e k wl T):=by
 have L1:0<k->lnO e w wd T (k - 1)=zN wl (wd k) (Ku e k wl T):=λh0=>by
  have O:=Y.1 h0;have ek:k - 1+1=k:=by omega
  have el:wl=wd (k - 1):=by rw[U,RY h0]
  unfold lnO hiW wiW;rw[O,ek];cases e
  ·simp only[OA,LP,if_false,if_true]
   rw[<- el];refine yp λi j hi _=>?_;show _=if i<wl then _ else _;rw[RY hi,EQ ⋯]
  ·simp only[Oe,LP,if_false,if_true]
   rw[<- el];refine yp λi j hi _=>?_;show _=if i<wl then _ else _;rw[RY hi,RY rfl]
 have L2:k<m->lnO e w wd T k=zN wr (wd k) λi=>Ku e k wl T (wl+i):=λh0=>by
  have O:=Y.2 h0;have el:wr=wd (k+1):=by rw[I,RY h0]
  unfold lnO hiW wiW;rw[O];cases e
  ·simp only[LP,if_false,if_true]
   rw[<- el];refine yp λi j hi _=>?_;show _=if wl+i<wl then _ else _;rw[EQ ⋯,EQ ⋯,IZ]
  ·simp only[LP,if_false,if_true]
   rw[<- el];refine yp λi j hi _=>?_;show _=if wl+i<wl then _ else _;rw[EQ ⋯,RY rfl,IZ]
 unfold gi;by_cases h0:0<k
 ·by_cases h1:k<m
  ·rw[RY h0,RY h1]
   show lnO e w wd T (k - 1)++(lnO e w wd T k++[])=_;rw[Na,L1 h0,L2 h1];exact Wd _ _ _ _ _ _ (λ_ _ _ _=>rfl) λ_ _ _ _=>rfl
  ·rw[RY h0,EQ h1]
   show lnO e w wd T (k - 1)++[]=_;rw[Na,L1 h0,I,EQ h1];rfl
 ·have z:wl=0:=by rw[U,EQ h0]
  by_cases h1:k<m
  ·rw[EQ h0,RY h1]
   show lnO e w wd T k++[]=_;rw[Na,L2 h1,z,NH];refine yp λi j _ _=>?_;rw[NH]
  ·rw[EQ h0,EQ h1,z,I,EQ h1]
   rfl
theorem xW(hk:k<=m)(hm:m<=5):jF (.tup<|vx (zF (m+1) λr=>(wd r:Int)) none (some (k:Int))++[D.int (q:Int)]) (.tup<|vx (zF (m+1) λr=>(wd r:Int)) (some ((k:Int)+1)) none)=some (.tup<|zF (m+1) λr=>(upW k q wd r:Int)):=by
 have O:=jd;have e:((k:Int)+1)=((k+1:Nat):Int):=by omega
 rw[e,vw _ (by simp;omega),QC _ (by simp;omega)];have z:(zF (m+1) λr=>(wd r:Int)).take k++[D.int (q:Int)]++(zF (m+1) λr=>(wd r:Int)).drop (k+1)=zF (m+1) λr=>(upW k q wd r:Int):=by
  refine OI λi=>?_;rcases Nb i k with h | h | h
  ·rw[PU,LX (by simp;omega),List.getElem?_take_of_lt h,qH _ ⋯,qH _ ⋯]
   simp[upW,show i≠k by omega]
  ·subst h
   rw[PU,LB (by simp;omega),qH _ ⋯];simp[upW,Nt (show i<=m+1 by omega)]
  ·rw[LB (by simp;omega)]
   have el:((zF (m+1) λr=>(wd r:Int)).take k++[D.int (q:Int)]).length=k+1:=by simp;omega
   rw[el,List.getElem?_drop,show k+1+(i - (k+1))=i by omega];by_cases h2:i<m+1
   ·rw[qH _ h2,qH _ h2];simp[upW,show i≠k by omega]
   ·rw[List.getElem?_eq_none (by simp;omega),List.getElem?_eq_none (by simp;omega)]
 have I:((zF (m+1) λr=>(wd r:Int)).take k++[D.int (q:Int)]).length+((zF (m+1) λr=>(wd r:Int)).drop (k+1)).length<=lim:=by simp;omega
 show(if _<=lim then some (D.tup<|_++_)else none)=_;rw[RY I,z]
theorem Ki{n:Nat}{G:Vc->Prop}{z v:Vc}(h:Span p n G v)(I : ∀g,G g->zc (λi=>z i*g i) n%p=0):zc (λi=>z i*v i) n%p=0:=by
 induction h with
 | @zero v h=>
  rw[zx (g:=λ_=>0) λi hi=>by rw[IB,h i hi];simp,zy];simp
 | @step v w g c O hw h U=>
  have e:zc (λi=>z i*v i) n%p=(zc (λi=>z i*w i) n+zc (λi=>z i*g i) n*c)%p:=by rw[<- jx,<- jt];refine zx λi hi=>?_;rw[xy rfl (h i hi),Om,Nc,LK c]
  rw[e,IV,U,IB,I g O];simp
theorem cY(e:Bool)(z:Vc)(y:Nat):zc (λi=>Ku e k wl T i y*z i) (wl+wr)=app (λi c=>if e=true then T (k - 1) i c else T (k - 1) c i) wl z y+app (λi c=>if e=true then T k i c else T k c i) wr (λc=>z<|wl+c) y:=by
 rw[X1];unfold app;congr 1
 ·exact zg λi hi=>by unfold Ku;rw[RY hi]
 ·exact zg λi hi=>by unfold Ku;rw[EQ ⋯,IZ]
theorem QE(hp:Pr p)(hm:m<=5)(hk:k<=m)(a6 : ∀k,wd k<=8)(hT : ∀a x y,0<=T a x y/\T a x y<p)(a7:wl=if 0<k then wd (k - 1)else 0)(a8:wr=if k<m then wd (k+1)else 0)(hn:wl+wr<=8)(ht:vO ((Io m).map w) k=true)
 (bm : ∀q,q<=wl+wr->zc (λr=>(upW k q wd r:Int)) (m+1)<=30) :
 ∃q T',j6 [jI p m w wd T,.int (k:Int)]=some (.val<|jI p m (flW k w) (upW k q wd) T')/\(∀a x y,0<=T' a x y/\T' a x y<p)/\q<=wl+wr/\∀{N:Nat} {A:Nat->Bar},Decp p w wd T m N A->∃N' A',Decp p (flW k w) (upW k q wd) T' m N' A'/\yD A' N'=mvK k (yD A N):=by
 have hl:=jd;have p0:=hp.pos;have wy:=yf (p:=p) (w:=w) (wd:=wd) (T:=T) (show m<=900 by omega);have as:=Y2 (l:=(Io m).map w) (k:=k) (by simpa using hm) (by simpa using hk) ht;rw[<- Ze]at as;have ie:=YL (w:=w) hm hk;have c7:=a6 k;have b0 : ∀k,wd k<=100:=λk=>by have:=a6 k;omega
 have c8 : ∀a,a+1=k->flW k w a = !w a:=λa h=>RY<|.inl h;have b9 : ∀(e:Bool) (G:RK) (q:Nat),q<=wl+wr->ZS ((Io m).map w) k=e->((0<k->w (k - 1) = !e)/\(k<m->w k=e))->(∀i c,i<wl+wr->c<q->0<=G i c/\G i c<p)->
  (if e=true then qt [.int p,jn (wl+wr) (wd k) (Ku e k wl T)]=some (.val<|jn (wl+wr) q G)else jz [.int p,jn (wl+wr) (wd k) (Ku e k wl T)]=some (.val<|jn (wl+wr) q G))->
  j6 [jI p m w wd T,.int (k:Int)]=some (.val<|jI p m (flW k w) (upW k q wd)<|abT p e k wl G T):=λe G q O he hE hG hF=>by
  have li:=iK (p:=p) (w:=w) (T:=T) b0 hm hk e;rw[dh a7 a8 hk e hE]at li;have aa:=ZY (T:=T) (p:=p) (q:=q) rfl a7 a8 hm hk b0 ⋯ e hE G hG;rw[he]at ie;let R:=jI p m w wd T;let W:D:= .str (xN m w);let U:D:= .tup (zN (wl+wr) (wd k)<|Ku e k wl T);let Y:=jn (wl+wr) (wd k)<|Ku e k wl T;let NW:=jn (wl+wr) q G;let WD:D:= .tup (zF (m+1) λr=>(upW k q wd r:Int));rw[tq];refine jG (zv (γ':=[.val R,.val<|.int k,.val W,.no,.no,.no,.no,.no]) ?_ (zv (γ':=[.val R,.val<|.int k,.val W,.no,.no,.no,.no,.no]) ?_ (zv (γ':=[.val R,.val<|.int k,.val W,.val<|.bl e,.no,.no,.no,.no]) ?_ (zv (γ':=[.val R,.val<|.int k,.val W,.val<|.bl e,.val U,.no,.no,.no]) ?_
   (zv (γ':=[.val R,.val<|.int k,.val W,.val<|.bl e,.val U,.val Y,.no,.no]) ?_ (zv (γ':=[.val R,.val<|.int k,.val W,.val<|.bl e,.val U,.val Y,.val NW,.no]) ?_ (zv (γ':=[.val R,.val<|.int k,.val W,.val<|.bl e,.val U,.val Y,.val NW,.val WD]) ?_ (zv (γ':=[.val R,.val<|.int k,.val W,.val<|.bl e,.val U,.val Y,.val NW,.val WD]) ?_ ?_))))))))
  ·simp[ta1,zY,Iw,wy,R,W]
  ·simp[ta2,W,as]
  ·simp[ta3,W,ie]
  ·simp[ta4,R,li,U]
  ·have h2:k<m+1:=by omega
   have pl:jf (.tup<|zN (wl+wr) (wd k)<|Ku e k wl T)=some (.T,zN (wl+wr) (wd k)<|Ku e k wl T):=rfl;simp[ta5,R,jU,jM,h2,U,pl,Y,jn]
  ·cases e with
   | true=>rw[RY rfl]at hF;simp[ta6,R,jU,Y,NW,hF]
   | false=>rw[EQ ⋯]at hF;simp[ta6,R,jU,Y,NW,hF]
  ·have pd:jf (jn (wl+wr) q G)=some (.T,[.int (wl+wr:Nat),.int q,.tup (zN (wl+wr) q G)]):=rfl
   have wa:=xW (wd:=wd) (q:=q) hk hm;have c3:jF (.tup<|vx (zF (m+1) λr=>(wd r:Int)) none<|some (k:Int)) (.tup [D.int (q:Int)])=some (.tup<|vx (zF (m+1) λr=>(wd r:Int)) none (some (k:Int))++[D.int (q:Int)]):=by show(if _<=lim then _ else none)=_;rw[vw _ (by simp;omega),RY (by simp;omega)]
   simp[ta7,R,jU,NW,pd,c3,wa,WD]
  ·have hs:=bm q O
   have c4 : ¬30<zc (λr=>(upW k q wd r:Int)) (m+1):=by omega
   have c5:qU [WD]=some (.val .non):=by simp[qU,z6,zY,Iw,jf,WD,Zi,c4]
   simp[ta8,c5]
  ·simp[ta9,R,jU,NW,aa,WD]
   rfl
 have rng : ∀(e:Bool) (G:RK) a x y,0<=abT p e k wl G T a x y/\abT p e k wl G T a x y<p:=λe G a x y=>by
  unfold abT;split
  ·exact⟨Le _ ⋯,IU _ p0⟩
  ·split
   ·exact⟨Le _ ⋯,IU _ p0⟩
   ·exact hT a x y
 have f0:0<k->flW k w (k - 1) = !w (k - 1):=λh0=>RY<|.inl ⋯;have f1:flW k w k = !w k:=RY<|.inr rfl;have fo : ∀j,j≠k->j+1≠k->flW k w j=w j:=λj h1 h2=>EQ λz=>z.elim h2 h1;cases he:ZS ((Io m).map w) k with
 | true=>
  obtain⟨a1,a2⟩:=(J9 hk).mp he;obtain⟨q,K,l,eF,hb,hs⟩:=AC hp hn (show wd k<=20 by omega)<|Ku true k wl T;have O:=yK hb;refine⟨q,abT p true k wl (λi c=>K c i) T,b9 true _ q O he ⟨a1,a2⟩ (λi c hi I=>hb.rng c i I hi) (by rw[RY rfl];exact eF),rng true _,O,λ{N A} D=>KQ hp D (B:=K) (l:=l) (q:=q) (wl:=wl) (wr:=wr) ⟨hk,a7,a8,λh0=>⟨a1 h0,by rw[f0 h0,a1 h0];rfl,λi c hi I=>?_⟩,λh1=>⟨a2 h1,by rw[f1,a2 h1];rfl,λi c hi I=>?_⟩,λj hj h1 h2=>⟨fo j h1 h2,λi c=>?_⟩,RY rfl,λr hr=>EQ hr,hb.wb,λz=>(hs z).trans (forall_congr' λy=>imp_congr_right λhy=>?_)⟩⟩
  ·have:=hb.rng c i I ⋯
   show(if k - 1+1=k then (if true=true then K c i else _)%p else _)=_;rw[RY ⋯,RY rfl,Lh this.1 this.2]
  ·have:=hb.rng c (wl+i) I ⋯
   show(if k+1=k then _ else if k=k then (if true=true then K c (wl+i)else _)%p else _)=_;rw[EQ ⋯,RY rfl,RY rfl,Lh this.1 this.2]
  ·show(if j+1=k then _ else if j=k then _ else _)=_
   rw[EQ h2,EQ h1]
  ·rw[cY]
   rfl
 | false=>
  obtain⟨a1,a2⟩:=si hk ht he;obtain⟨r,Bs,ls,eF,hb,hs⟩:=AD hp (n:=wl+wr) ⋯ (show wd k<=lim by omega)<|Ku false k wl T;have fl:=dZ hb;have O:(frL (wl+wr) r ls).length<=wl+wr:=by omega
  have rg : ∀c i,0<=lfB p (wl+wr) r Bs ls c i/\lfB p (wl+wr) r Bs ls c i<p:=λc i=>⟨Le _ ⋯,IU _ p0⟩;refine⟨_,abT p false k wl (λi c=>lfB p (wl+wr) r Bs ls c i) T,b9 false _ _ O he ⟨a1,a2⟩ (λi c hi I=>rg c i) (by rw[EQ ⋯];exact eF),rng false _,O,λ{N A} D=>fF hp a6 (λr=>?_) D (B:=lfB p (wl+wr) r Bs ls) (l:=λc=>(frL (wl+wr) r ls).getD c 0) (wl:=wl) (wr:=wr) ⟨hk,a7,a8,λh0=>⟨a1 h0,by rw[f0 h0,a1 h0];rfl,λc i I hi=>?_⟩,λh1=>⟨a2 h1,by rw[f1,a2 h1];rfl,λc i I hi=>?_⟩,λj hj h1 h2=>⟨fo j h1 h2,λi c=>?_⟩,RY rfl,λr hr=>EQ hr,AI hp,λz=>?_⟩⟩
  ·show(if r=k then _ else _)<=8
   split
   ·omega
   ·exact a6 r
  ·have:=rg c i
   show(if k - 1+1=k then (if false=true then _ else lfB p (wl+wr) r Bs ls c i)%p else _)=_;rw[RY ⋯,EQ ⋯,Lh this.1 this.2]
  ·have:=rg c (wl+i)
   show(if k+1=k then _ else if k=k then (if false=true then _ else lfB p (wl+wr) r Bs ls c (wl+i))%p else _)=_;rw[EQ ⋯,RY rfl,EQ ⋯,Lh this.1 this.2]
  ·show(if j+1=k then _ else if j=k then _ else _)=_
   rw[EQ h2,EQ h1]
  ·rw[iO hb.wb]
   have mk : ∀y,zc (λi=>z i*Ku false k wl T i y) (wl+wr)=app (λi c=>T (k - 1) c i) wl z y+app (λi c=>T k c i) wr (λc=>z<|wl+c) y:=λy=>by rw[zg (g:=λi=>Ku false k wl T i y*z i) λi _=>LK _ _,cY];rfl
   constructor
   ·intro h y hy
    rw[<- mk];exact Ki (v:=λi=>Ku false k wl T i y) ((hs _).mpr (.gen ⟨y,hy,rfl⟩)) λg hg=>by obtain⟨j,hj,rfl⟩:=hg;exact h j hj
   ·intro h j hj
    exact Ki (v:=Bs j) ((hs _).mp (.gen ⟨j,hj,rfl⟩)) λg hg=>by obtain⟨y,hy,rfl⟩:=hg;rw[mk];exact h y hy
end
theorem V7(I:Nat×Nat->List Int)(g:Nat×Nat->Int) : ∀{L:List (Nat×Nat)} {t:Nat×Nat},(∀x∈L,I x=I t->x=t)->t∈L->dX (L.map I) (L.map g) (I t)=some (g t)
 | x::L,t,inj,h=>by
  show(if I x=I t then _ else _)=_;by_cases e:I x=I t
  ·rw[RY e,inj x IY e]
  ·rw[EQ e]
   refine V7 I g (λy O=>inj y<|IT _ O) ?_;rcases IG.mp h with z | z
   ·exact absurd (by rw[z]) e
   ·exact z
theorem wR(g:Nat×Nat->Int) : ∀L:List (Nat×Nat),kX (L.map λs=>D.int<|g s)=some (L.map g)
 | []=>rfl
 | s::L=>by show(kX<|L.map λs=>D.int<|g s).map _=_;rw[wR g L];rfl
theorem rJ(f g:Nat×Nat->Int)(z:Nat×Nat->List Int)(h : ∀s,s∈stN M->dX ((stN M).map z) ((stN M).map g) (kI s)=some (f s)):rK (QB f M) (.dct ((stN M).map z)<|(stN M).map λs=> .int (g s))=some true:=by show(kX _).bind _=_;rw[wR f];show(kX _).map _=_;rw[wR g];show some (eqT _ _ _ _)=_;congr 1;unfold eqT;rw[decide_eq_true ⋯,OP,LC];intro x hx;rw[Od]at hx;obtain⟨s,hs,rfl⟩:=La.mp hx;exact decide_eq_true<|h s hs
theorem Ke(h:Nat×Nat->Int){v:Int} : ∀{P:List (Nat×Nat)} {s:Nat×Nat},P.Nodup->s∈P->Xb (P.map kI) (P.map λt=>D.int<|h t) (kI s) (.int v)=P.map λt=> .int (if t=s then v else h t)
 | x::P,s,nd,hs=>by
  have I:=MW.mp nd;show(if kI x=kI s then _ else _)=_;by_cases e:x=s
  ·subst e
   rw[RY rfl,IS,RY rfl];congr 1;exact IK λt O=>by rw[EQ λz=>I.1 (by rw[<- z];exact O)]
  ·rw[EQ λz=>e<|V2 z,IS,EQ e]
   show _::Xb (P.map kI) (P.map λt=>D.int<|h t) (kI s) (.int v)=_;rw[Ke h I.2 (by rcases IG.mp hs with z | z;exact absurd z.symm e;exact z)]
theorem kI_mem{P:List (Nat×Nat)}{s:Nat×Nat}:kI s∈P.map kI↔s∈P:=⟨λh=>by obtain⟨t,z,e⟩:=La.mp h;rw[<- V2 e];exact z,λh=>La.mpr ⟨s,h,rfl⟩⟩
theorem Xi(k:Nat)(s:Nat×Nat)(K:List (Nat×Nat)):mvK k (s::K)=if s.1=k/\s.2=k then mvK k K else mvS k s::mvK k K:=by
 unfold mvK;rw[List.filter_cons];by_cases h:s.1=k/\s.2=k
 ·simp[h.1,h.2]
 ·rw[EQ h]
  have:(!(decide (s.1=k) && decide (s.2=k)))=true:=by
   by_cases h1:s.1=k
   ·have h2:s.2≠k:=λz=>h ⟨h1,z⟩
    simp[h2]
   ·simp[h1]
  rw[RY this];rfl
theorem AA(k:Nat) : ∀{K:List (Nat×Nat)},(∀s∈K,s.1<=s.2)->(cvZ (mvK k K) k k:Int)=cvZ K ((k:Int) - 1) ((k:Int) - 1)+cvZ K ((k:Int)+1) ((k:Int)+1) - cvZ K k k+muZ K (k,k)
 | [],_=>rfl
 | s::K,h=>by
  have z:=AA k (K:=K) λx hx=>h x<|IT _ hx;have hs:=h s IY;rw[Xi,xT s K<|(k:Int) - 1,xT s K<|(k:Int)+1,xT s K k,wN];dsimp only;split
  ·next e=>
   rw[z,EQ ⋯,EQ ⋯,RY ⋯];omega
  ·next e=>
   rw[xT,z];have q:(if ((mvS k s).1:Int)<=k/\(k:Int)<=((mvS k s).2:Int)then (1:Int)else 0)=(if (s.1:Int)<=(k:Int) - 1/\(k:Int) - 1<=(s.2:Int)then (1:Int)else 0)+(if (s.1:Int)<=(k:Int)+1/\(k:Int)+1<=(s.2:Int)then (1:Int)else 0) - (if (s.1:Int)<=(k:Int)/\(k:Int)<=(s.2:Int)then (1:Int)else 0):=by
    unfold mvS swp;dsimp only
    repeat' split
    all_goals omega
   omega
theorem pP{k:Nat}{K:List (Nat×Nat)}(h : ∀s∈K,s.1<=s.2):muZ (mvK k K) (k,k)=0:=by unfold muZ;rw[Ni];intro s hs;unfold mvK at hs;obtain⟨t,I,rfl⟩:=La.mp hs;have:=h t (IP.mp I).1;intro z;have z:=of_decide_eq_true z;unfold mvS swp at z;rw[Prod.mk.injEq]at z;obtain⟨z1,z2⟩:=z;revert z1 z2;split<;>split<;>(try split)<;>(try split)<;>omega
theorem mV(k:Nat){t:Nat×Nat} : ∀{K:List (Nat×Nat)},(∀s∈K,s.1<=s.2)->(muZ (mvK k<|mvK k K) t:Int)=if t=(k,k)then 0 else (muZ K t:Int)
 | [],_=>by split<;>rfl
 | s::K,h=>by
  have I:=mV k (t:=t) (K:=K) λx hx=>h x<|IT _ hx;have hs:=h s IY;rw[Xi,wN];split
  ·next e=>
   rw[I];by_cases z:t=(k,k)
   ·rw[RY z,RY z]
   ·have O : ¬(s.1=t.1/\s.2=t.2):=λy=>z (Prod.ext (by rw[<- y.1,e.1])<|by rw[<- y.2,e.2])
    rw[EQ z,EQ z,EQ O];omega
  ·next e=>
   have U : ¬((mvS k s).1=k/\(mvS k s).2=k):=by unfold mvS swp;dsimp only;intro z;obtain⟨z1,z2⟩:=z;revert z1 z2;split<;>split<;>(try split)<;>(try split)<;>omega
   have Y:mvS k (mvS k s)=s:=by
    obtain⟨a,b⟩:=s;unfold mvS swp;dsimp only at *;rw[Prod.mk.injEq];constructor
    ·split<;>(try split)<;>(try split)<;>(try split)<;>omega
    ·split<;>(try split)<;>(try split)<;>(try split)<;>(try split)<;>(try split)<;>omega
   rw[Xi,EQ U,wN,I,Y];by_cases z:t=(k,k)
   ·subst z
    rw[RY rfl,RY rfl,EQ e];rfl
   ·rw[EQ z,EQ z]
mutual
theorem noX_ints : ∀ns:List Int,noX (.lst<|ns.map D.int)=true
 | ns=>noXs_ints ns
theorem noXs_ints : ∀ns:List Int,noXs (ns.map D.int)=true
 | []=>rfl
 | n::ns=>by show(true && noXs (ns.map D.int))=true;rw[noXs_ints ns];rfl
end
theorem vi{α:Type}(f:α->D)(h : ∀a,noX (f a)=true) : ∀L:List α,noXs (L.map f)=true
 | []=>rfl
 | a::L=>by show(noX (f a) && noXs (L.map f))=true;rw[h a,vi f h L];rfl
theorem Yx(p:Int)(m:Nat)(w wd T):noX (jI p m w wd T)=true:=by
 have h1:noXs (zF (m+1) λk=>(wd k:Int))=true:=vi _ (λ_=>rfl) _;have h2:noXs (j1 m w wd T)=true:=vi _ (λa=>by
  have z:noXs (zN (hiW w wd a) (wiW w wd a)<|T a)=true:=vi _ (λi=>by have:noXs (zF (wiW w wd a)<|T a i)=true:=vi _ (λ_=>rfl) _;exact this) _
  show(true && ((true && (true && (noXs (zN (hiW w wd a) (wiW w wd a)<|T a) && true))) && true))=true;rw[z];rfl) _
 show(true && (noXs (zF (m+1) λk=>(wd k:Int)) && (noXs (j1 m w wd T) && true)))=true;rw[h1,h2];rfl
theorem gr:Jh=z6 12 (zK nT<|zK nS<|zK nQ<|zK nP<|zK nO<|zK nN<|zK nM<|zK nK<|zK nJ<|zK bp<|zK Vk<|zK bo<|zK bj<|zK bh<|zK bf bc):=rfl
theorem nI(z I O c6 c7 c8 c9 c10 c11:Cell):wrooms.map (λa=>nN [z,I,O,.val<|.int<|1+(a.1.length:Int),.val<|.str<|wl a.1,.val<|.int (a.2:Int),c6,c7,c8,c9,c10,c11])=wrooms.map λa=>some (.next [z,I,O,.val<|.int<|1+(a.1.length:Int),.val<|.str<|wl a.1,.val<|.int (JI a.1 a.2:Int),c6,c7,c8,c9,c10,c11]):=by kernel_rfl
theorem Vq{f:Nat->Int}{B:Int}(h : ∀r,f r<=B) : ∀n:Nat,zc f n<=n*B
 | 0=>by show(0:Int)<=_;omega
 | n+1=>by
  have:=Vq h n;have:=h n;show zc f n+f n<=_;have e:((n+1:Nat):Int)*B=n*B+B:=by rw[Int.natCast_add,On];simp
  omega
theorem rG(m k:Nat)(w:RX):(Io m).map (flW k w)=Xz ((Io m).map w) k:=by refine Rf (by simp[Xz]) λi h1 h2=>?_;simp[Xz,flW]
theorem Fk(k:Nat)(w:RX):flW k (flW k w)=w:=funext λa=>by
 unfold flW;split
 ·rw[Bool.not_not]
 ·rfl
theorem CH(k a b:Nat)(wd:RZ):upW k a (upW k b wd)=upW k a wd:=funext λr=>by unfold upW;split<;>rfl
theorem Kq(n:Nat)(f:Nat->Int):okD (.tup<|zF n f)=true:=by
 have h1 : ∀L:List Nat,deeps (L.map λi=>D.int<|f i)=0:=λL=>by
  induction L with
  | nil=>rfl
  | cons a L z=>show max 0 (deeps<|L.map λi=>D.int<|f i)=0;rw[z];rfl
 have h2 : ∀L:List Nat,okSs (L.map λi=>D.int<|f i)=true:=λL=>by
  induction L with
  | nil=>rfl
  | cons a L z=>show(true && okSs (L.map λi=>D.int<|f i))=true;rw[z];rfl
 unfold okD;show(decide (deeps (zF n f)+1<=20) && okSs (zF n f))=true;unfold zF;rw[h1,h2];rfl
theorem cP(m:Nat)(w:RX):okD (.str<|xN m w)=true:=by rw[Ze];exact Aq _
section
variable{p:Int}{w:RX}{wd:RZ}{T:RV}{m N k wl wr:Nat}{A:Nat->Bar}
theorem pM(D:Decp p w wd T m N A)(hk:k<=m)(z:wl=if 0<k then wd (k - 1)else 0)(I:wr=if k<m then wd (k+1)else 0):cvZ (yD A N) ((k:Int) - 1) ((k:Int) - 1)=wl/\cvZ (yD A N) ((k:Int)+1) ((k:Int)+1)=wr:=by
 constructor
 ·rw[z]
  by_cases h0:0<k
  ·rw[RY h0,<- XD D (show k - 1<=m by omega),show(k:Int) - 1=((k - 1:Nat):Int)by omega]
  ·rw[EQ h0]
   unfold cvZ;rw[Ni];intro s _;have : ¬(s.1:Int)<=(k:Int) - 1:=by omega
   simp[this]
 ·rw[I]
  by_cases h0:k<m
  ·rw[RY h0,<- XD D (show k+1<=m by omega),show(k:Int)+1=((k+1:Nat):Int)by omega]
  ·rw[EQ h0]
   unfold cvZ;rw[Ni];intro s hs;have:=mem_st.mp<|Xo D s hs;have : ¬(k:Int)+1<=(s.2:Int):=by omega
   simp[this]
theorem VS{q:Nat}{w':RX}{T':RV}{N':Nat}{A':Nat->Bar}(D:Decp p w wd T m N A)(hk:k<=m)(z:wl=if 0<k then wd (k - 1)else 0)(I:wr=if k<m then wd (k+1)else 0)(O:Decp p w' (upW k q wd) T' m N' A')(e:yD A' N'=mvK k (yD A N)):(q:Int)=wl+wr - wd k+muZ (yD A N) (k,k):=by have h1:=XD O hk;rw[e,show upW k q wd k=q from RY rfl]at h1;have h2:=AA k (K:=yD A N) λs hs=>(mem_st.mp<|Xo D s hs).1;obtain⟨U,Y⟩:=pM D hk z I;have h5:=XD D hk;rw[h1,U,Y,h5]at h2;exact h2
end
def yQ(ns:List Int)(c:Int)(q m:Nat)(W K R F al B z B2:Cell):Ctx:=[.val (wj ns),.val<|.int c,.val<|.int q,.val<|.int<|1+(m:Int),W,K,R,F,al,B,z,B2]
theorem nG{p:Int}{w:RX}{wd:RZ}{T:RV}{m k wl wr:Nat}(hk:k<=m)(a0:wl=if 0<k then wd (k - 1)else 0)(a3:wr=if k<m then wd (k+1)else 0)(ns c q W F al B) :
 Vk (yQ ns c q m W (.val<|.int (k:Int)) (.val<|jI p m w wd T) F al B .no .no)=some (.next<|yQ ns c q m W (.val<|.int (k:Int)) (.val<|jI p m w wd T) F al B (.val<|.int<|(wl:Int)+wr) .no):=by
 have hl:=jd;have l2:(2:Nat)<=lim:=by omega
 unfold Vk yQ;have b1:(0:Int)<=(k:Int)+1:=by omega
 have I:0<k->ixD (m+1) ((k:Int) - 1)=some (k - 1):=λh0=>by rw[show(k:Int) - 1=((k - 1:Nat):Int)by omega,jM,RY ⋯]
 have O:k<m->ixD (m+1) ((k:Int)+1)=some (k+1):=λh0=>by rw[show(k:Int)+1=((k+1:Nat):Int)by omega,jM,RY ⋯]
 have U:k - 1<m+1:=by omega
 rw[a0,a3];by_cases h0:0<k
 ·have z:(1:Int)<=(k:Int):=by omega
  have Y:(k:Int) - 1<1+(m:Int):=by omega
  by_cases h1:k<m
  ·have b2:(k:Int)+1<1+(m:Int):=by omega
   simp[jk,qY,l2,zS,qM,jU,WE,z,Y,b1,b2,I h0,O h1,h0,h1,U]
  ·have b2 : ¬(k:Int)+1<1+(m:Int):=by omega
   simp[jk,qY,l2,zS,qM,jU,WE,z,Y,b1,b2,I h0,h0,h1,U]
 ·have z : ¬(1:Int)<=(k:Int):=by omega
  by_cases h1:k<m
  ·have b2:(k:Int)+1<1+(m:Int):=by omega
   simp[jk,qY,l2,zS,qM,jU,WE,z,b1,b2,O h1,h0,h1]
  ·have b2 : ¬(k:Int)+1<1+(m:Int):=by omega
   simp[jk,qY,l2,zS,qM,jU,WE,z,b1,b2,h0,h1]
theorem ES(ns:List Int)(am:ns.length<=63):Jh [wj ns]=some (.val<|.bl true):=by
 have hl:=jd;obtain⟨a1,a2,a3⟩:=XI am (k:=0) ⋯ ⋯;obtain⟨y1,y2,y3⟩:=XI am (k:=1) ⋯ ⋯;generalize xY ns 0=c at a1 a2 a3;generalize xY ns 1=d at y1 y2 y3;obtain⟨q,hp,ep,cf⟩:=uQ a2;obtain⟨m,em,dp⟩:=Kt (c:=c/4) (n:=6) ⋯;have hm:m<=5:=by omega
 obtain⟨w,hw⟩:=sW (c:=c/24) ⋯ hm;obtain⟨i,ei,hi⟩:=Kt (c:=d) (n:=m+1) ⋯;have bv:((Io m).map w).length=m:=by simp
 obtain⟨ht,a4⟩:=bu (l:=(Io m).map w) (k:=i) ⋯ ⋯;have wh:=VX (nI (.val<|wj ns) (.val<|.int c) (.val<|.int q) .no .no .no .no .no .no)<|kj (l:=(Io m).map w) (k:=i) ⋯ ⋯;dsimp only at wh;rw[bv,<- Ze]at wh;rw[bv]at a4;generalize JI ((Io m).map w) i=k at ht a4 wh;have ci : ∃wide:Nat,(wide:Int)=3 - (if (4:Int)<1+(m:Int)then 1 else 0)/\wide<=3/\(m+1)*(2*wide)<=30:=by
  by_cases z:(4:Int)<1+(m:Int)
  ·exact⟨2,by rw[RY z];rfl,by omega,by omega⟩
  ·exact⟨3,by rw[EQ z];rfl,by omega,by omega⟩
 obtain⟨wide,ew,dq,dt⟩:=ci;obtain⟨wd,T,hd,a8,hT⟩:=wK (w:=w) am hp hm (wide:=wide) ⋯;have ar : ∀k,wd k<=8:=λk=>by have:=a8 k;omega
 obtain⟨bars,I,_,_⟩:=K8 (T:=T) (w:=w) (wd:=wd) hp ar hm λk x y _ _ _=>hT k x y;have Dc:=lF hp ar I;generalize bars.length=N at Dc;generalize (λj=>bars.getD j aT)=A at Dc;have nu:=JV hp (λk=>by have:=a8 k;omega) hT hm Dc;obtain⟨wl,aa⟩ : ∃wl,wl=if 0<k then wd (k - 1)else 0:=⟨_,rfl⟩;obtain⟨wr,ac⟩ : ∃wr,wr=if k<m then wd (k+1)else 0:=⟨_,rfl⟩;have dv:wl<=wide:=by rw[aa];split;exact a8 _;omega
 have dw:wr<=wide:=by rw[ac];split;exact a8 _;omega
 have c0 : ∀(ae:RZ) (q':Nat),(∀r,ae r<=2*wide)->q'<=wl+wr->zc (λr=>(upW k q' ae r:Int)) (m+1)<=30:=λae q' h1 h2=>by
  have:=Vq (f:=λr=>(upW k q' ae r:Int)) (B:=((2*wide:Nat):Int)) (λr=>by have:=h1 r;show((upW k q' ae r:Nat):Int)<=_;unfold upW;split<;>omega)<|m+1
  have e:(((m+1:Nat):Int)*((2*wide:Nat):Int))=(((m+1)*(2*wide):Nat):Int):=by rw[<- Int.natCast_mul]
  omega
 obtain⟨q1,T1,f1,co,dy,cq⟩:=QE (w:=w) (wd:=wd) (T:=T) hp hm a4 ar hT aa ac ⋯ ht λq' as=>c0 wd q' (λr=>by have:=a8 r;omega) as;obtain⟨N1,A1,D1,k1⟩:=cq Dc;have c2 : ∀r,upW k q1 wd r<=2*wide:=λr=>by have:=a8 r;unfold upW;split<;>omega
 have ul:wl=if 0<k then upW k q1 wd (k - 1)else 0:=by
  rw[aa];split
  ·exact(EQ ⋯).symm
  ·rfl
 have ur:wr=if k<m then upW k q1 wd (k+1)else 0:=by
  rw[ac];split
  ·exact(EQ ⋯).symm
  ·rfl
 have cr:vO ((Io m).map (flW k w)) k=true:=by rw[rG];exact(rF ⋯ ⋯ ht).1
 obtain⟨q2,T2,f2,cs,e4,ct⟩:=QE (w:=flW k w) (wd:=upW k q1 wd) (T:=T1) hp hm a4 (λr=>by have:=c2 r;omega) co ul ur ⋯ cr λq' as=>c0 _ q' c2 as;obtain⟨N2,A2,D2,k2⟩:=ct D1;have n1:=VS Dc a4 aa ac D1 k1;have n2:=VS D1 a4 ul ur D2 k2;rw[Fk,CH]at f2 D2;have cx : ∀r,upW k q2 wd r<=7:=λr=>by have:=a8 r;unfold upW;split<;>omega
 have c8:=JV hp cx cs hm D2;have hK : ∀s∈yD A N,s.1<=s.2:=λs hs=>(mem_st.mp<|Xo Dc s hs).1;rw[k1,pP hK,show upW k q1 wd k=q1 from RY rfl]at n2;rw[k2,k1]at c8;generalize e7:yD A N=K at *;have cy:(q2:Int)=(wd k:Int) - muZ K (k,k):=by omega
 have d0:=λt=>mV k (t:=t) hK;have d1:=yf (p:=(q:Int)) (w:=w) (wd:=upW k q2 wd) (T:=T2) (show m<=900 by omega);obtain⟨s1,s2,s3⟩:=Vt ⟨m+1,by omega⟩;dsimp only at s1 s2 s3;have bb:(k,k)∈stN (m+1):=mem_st.mpr (by show k<=k/\k<m+1;omega);let g:Nat×Nat->Int:=λs=>(muZ K s:Int);let R:=jI q m w wd T;let U:=jI q m (flW k w) (upW k q1 wd) T1;let R2:=jI q m w (upW k q2 wd) T2;let Y:=QB g<|m+1;let W:Cell:= .val (.str<|xN m w);let O:Cell:= .val (.int (k:Int));have d3:c/4%6=(m:Int):=em;have rp:(0:Int)<1+(m:Int):=by omega
 have d5:d%(1+(m:Int))=(i:Int):=by rw[<- ei];congr 1;omega
 have d6:qg [wj ns,.int 2,.int q,.str<|xN m w,.int wide]=some (.val<|jI q m w wd T):=hd;rw[gr];refine jG (zv (γ':=[.val (wj ns),.val<|.int c,.no,.no,.no,.no,.no,.no,.no,.no,.no,.no]) ?_
  (zv (γ':=[.val (wj ns),.val<|.int c,.val<|.int q,.no,.no,.no,.no,.no,.no,.no,.no,.no]) ?_
  (zv (γ':=yQ ns c q m .no .no .no .no .no .no .no .no) ?_
  (zv (γ':=yQ ns c q m W .no .no .no .no .no .no .no) ?_
  (zv (γ':=yQ ns c q m W (.val<|.int (i:Int)) .no .no .no .no .no .no) ?_
  (zv (γ':=yQ ns c q m W O .no .no .no .no .no .no) wh
  (zv (γ':=yQ ns c q m W O (.val R) .no .no .no .no .no) ?_
  (zv (γ':=yQ ns c q m W O (.val R) (.val Y) .no .no .no .no) ?_
  (zv (γ':=yQ ns c q m W O (.val R) (.val Y) (.val<|.int<|g (k,k)) .no .no .no) ?_
  (zv (γ':=yQ ns c q m W O (.val R) (.val Y) (.val<|.int<|g (k,k)) (.val U) .no .no) ?_
  (zv (nG a4 aa ac ns c q W (.val Y) (.val<|.int<|g (k,k))<|.val U)
  (zv (γ':=yQ ns c q m W O (.val R) (.val Y) (.val<|.int<|g (k,k)) (.val U) (.val<|.int<|(wl:Int)+wr) .no) ?_
  (zv (γ':=yQ ns c q m W O (.val R) (.val Y) (.val<|.int<|g (k,k)) (.val U) (.val<|.int<|(wl:Int)+wr)<|.val R2) ?_
  (zv (γ':=yQ ns c q m W O (.val R) (.val Y) (.val<|.int<|g (k,k)) (.val U) (.val<|.int<|(wl:Int)+wr)<|.val R2) ?_
  (zv (γ':=yQ ns c q m W O (.val R) (.val Y) (.val<|.int<|g (k,k)) (.val U) (.val<|.int<|(wl:Int)+wr)<|.val R2) ?_ ?_)))))))))))))))
 ·simp[nT,zY,Iw,a1]
 ·simp[nS,cf,ep]
 ·simp[nQ,d3,yQ]
 ·simp[nP,yQ,hw,W]
 ·simp[nO,yQ,y1,rp,d5]
 ·have e3:(3:Int) - (if (4:Int)<1+(m:Int)then 1 else 0)=(wide:Int):=ew.symm
  simp[nM,yQ,W,O,R];rw[e3,d6];exact⟨_,rfl,rfl⟩
 ·simp[nK,yQ,R,nu,Y,g]
 ·have h1:=dY g bb
  simp[nJ,yQ,O,Y,QB,pY,h1]
 ·simp[bp,yQ,O,R,f1,U]
 ·have wa:=xW (wd:=wd) (q:=q1) a4 hm
  have be:jF (.tup<|vx (zF (m+1) λr=>(wd r:Int)) none<|some (k:Int)) (.tup [D.int (q1:Int)])=some (.tup<|vx (zF (m+1) λr=>(wd r:Int)) none (some (k:Int))++[D.int (q1:Int)]):=by show(if _<=lim then _ else none)=_;rw[vw _ (by simp;omega),RY (by simp;omega)]
  have e1:(wl:Int)+wr - (wd k:Int)+g (k,k)=(q1:Int):=n1.symm;have bg:k<m+1:=by omega
  have ne:=wV<|Kq (m+1) λr=>(upW k q1 wd r:Int);simp[bo,yQ,O,U,R,jU,jM,bg,e1,be,wa,ne]
 ·simp[bj,yQ,O,U,f2,R2]
 ·have wa:=xW (wd:=wd) (q:=q2) a4 hm
  have be:jF (.tup<|vx (zF (m+1) λr=>(wd r:Int)) none<|some (k:Int)) (.tup [D.int (q2:Int)])=some (.tup<|vx (zF (m+1) λr=>(wd r:Int)) none (some (k:Int))++[D.int (q2:Int)]):=by show(if _<=lim then _ else none)=_;rw[vw _ (by simp;omega),RY (by simp;omega)]
  have e1:(wd k:Int) - g (k,k)=(q2:Int):=cy.symm;have bg:k<m+1:=by omega
  have ne:=wV<|Kq (m+1) λr=>(upW k q2 wd r:Int);have d8:=wV (d:= .int (q:Int)) rfl;simp[bh,yQ,O,R2,R,jU,jM,bg,e1,be,wa,ne,d8]
 ·have j:Ka (zu (.str "")) (jV (zP (zO (zG (sIx (zh 11) (zu (.int 2))))) (.nm 0) 1 [] jA (sIx (zh 0) (zu (.int 0))))) (yQ ns c q m W O (.val R) (.val Y) (.val (.int (g (k,k)))) (.val U) (.val (.int ((wl:Int)+wr))) (.val R2))=some (.str (xN m w)):=by
   have h:(Ka (zu (.str "")) (jV (zP (zO (zG (sIx (zh 0) (zu (.int 2))))) (.nm 0) 1 [] jA (sIx (zh 0) (zu (.int 0))))) [.val R2]).map (λd=>Res.val d)=some (.val (.str (xN m w))):=by rw[<- d1];unfold xE z6;show _=((Ka _ _ [.val R2]).map λd=>Fl.ret (Res.val d)).bind _;cases Ka (zu (.str "")) (jV (zP (zO (zG (sIx (zh 0) (zu (.int 2))))) (.nm 0) 1 [] jA (sIx (zh 0) (zu (.int 0))))) [.val R2]<;>rfl
   obtain⟨d,h1,h2⟩:=Option.map_eq_some_iff.mp h;cases h2;exact h1
  have ne:=wV<|cP m w;unfold bf;rw[FQ];show(Ny (Ny (Ny (Ka _ _ _) λx=>Ny (zf 4 _) λy=>dNe x y) asB) _)=_;rw[j];show(Ny (Ny (dNe (.str<|xN m w)<|.str<|xN m w) asB) _)=_;rw[ne];rfl
 ·have hx:((yQ ns c q m W O (.val R) (.val Y) (.val<|.int<|g (k,k)) (.val U) (.val<|.int<|(wl:Int)+wr)<|.val R2).set 7 .no).all BO=true:=by
   show(noX (wj ns) && (true && (true && (true && (true && (true && (noX R && (true && (true && (noX U && (true && (noX R2 && true))))))))))))=true;rw[show noX (wj ns)=true from noX_ints ns,Yx,Yx,Yx];rfl
  have ik:(kX<|(stN<|m+1).map λs=>D.int<|g s).isSome=true:=by rw[wR];rfl
  have pk:cc ((stN<|m+1).map kI) (kI (k,k))=(stN<|m+1).map kI:=RY<|kI_mem.mpr bb;have pv:=Ke g (v:=0) s1 bb;have db:((stN<|m+1).map kI).length<lim:=by rw[IQ];omega
  have dd:rK (QB (λs=>(muZ (mvK k<|mvK k K) s:Int))<|m+1) (QB (λs=>if s=(k,k)then 0 else g s)<|m+1)=some true:=rJ _ _ kI λs hs=>by rw[V7 kI (λs=>if s=(k,k)then 0 else g s) (λx _ e=>V2 e) hs,d0 s]
  unfold bc Vv;rw[RY ⟨hx,by show 7<12;decide⟩];show(if (kX<|(stN<|m+1).map λs=>D.int<|g s).isSome=true then (BM _ _ _ ((stN<|m+1).map kI)<|(stN<|m+1).map λs=>D.int<|g s).bind _ else none)=_;rw[RY ik];have qp:BM (qh<|zb (zf 5)<|zb (zf 5) zE) (zu<|.int 0) ((yQ ns c q m W O (.val R) (.val Y) (.val<|.int<|g (k,k)) (.val U) (.val<|.int<|(wl:Int)+wr)<|.val R2).set 7 .no) ((stN<|m+1).map kI) ((stN<|m+1).map λs=>D.int<|g s)=some ((yQ ns c q m W O (.val R) (.val Y) (.val<|.int<|g (k,k)) (.val U) (.val<|.int<|(wl:Int)+wr)<|.val R2).set 7 .no,(stN<|m+1).map kI,(stN<|m+1).map λs=>D.int<|if s=(k,k)then 0 else g s):=by show(if _<lim then some (_,cc _<|kI (k,k),Xb _ _ (kI (k,k))<|.int 0)else none)=_;rw[RY db,pk,pv]
  rw[qp,Iz];show(if ((stN<|m+1).map kI).length<=lim then _ else none)=_;rw[RY ⋯];have sc:zC qJ (zb (zf 11) zE) (((yQ ns c q m W O (.val R) (.val Y) (.val<|.int<|g (k,k)) (.val U) (.val<|.int<|(wl:Int)+wr)<|.val R2).set 7 .no).set 7 (.val<|QB (λs=>if s=(k,k)then 0 else g s)<|m+1))=some (QB (λs=>(muZ (mvK k<|mvK k K) s:Int))<|m+1):=by show(qJ [R2]).map uh=_;rw[c8];rfl
  show(Oy (λd=>Fl.ret<|Res.val d)<|Ny (zC qJ (zb (zf 11) zE)<|((yQ ns c q m W O (.val R) (.val Y) (.val<|.int<|g (k,k)) (.val U) (.val<|.int<|(wl:Int)+wr)<|.val R2).set 7 .no).set 7 (.val<|QB (λs=>if s=(k,k)then 0 else g s)<|m+1)) λx=>Ny (some (QB (λs=>if s=(k,k)then 0 else g s)<|m+1)) λy=>Ci x y)=_;rw[sc,Iz,Iz];show Oy _ ((rK _ _).map D.bl)=_;rw[dd];rfl
def top(i:Nat):PySem.Stmt:=PySem.Challenge.pw_barsplit_k54_whole_turned_back.main.body.getD i<|.Pass ⟨0,0,0,0⟩
section
variable{CR CL:PySem.Addr}{P:PySem.Program}{w:PySem.World}{K:Ip}{mg:PySem.Str->Option PySem.Value}{base:PySem.Heap}
theorem YH(h:us.length=n+1) : ∃a t,us=a::t/\t.length=n:=by
 cases us with
 | nil=>exact absurd h<|Nat.zero_ne_add_one n
 | cons a t=>exact⟨a,t,rfl,Nat.succ.inj h⟩
theorem HK(h:us.length=1) : ∃a,us=[a]:=by obtain⟨a,z,rfl,h0⟩:=YH h;rw[Lu h0];exact⟨a,rfl⟩
theorem HJ(h:us.length=2) : ∃a b,us=[a,b]:=by obtain⟨a,z,rfl,h0⟩:=YH h;obtain⟨b,I,rfl,h1⟩:=YH h0;rw[Lu h1];exact⟨a,b,rfl⟩
theorem Il(h:us.length=3) : ∃a b c,us=[a,b,c]:=by obtain⟨a,z,rfl,h0⟩:=YH h;obtain⟨b,I,rfl,h1⟩:=YH h0;obtain⟨c,O,rfl,h2⟩:=YH h1;rw[Lu h2];exact⟨a,b,c,rfl⟩
theorem Ik(h:us.length=4) : ∃a b c d,us=[a,b,c,d]:=by obtain⟨a,I,rfl,h0⟩:=YH h;obtain⟨b,O,rfl,h1⟩:=YH h0;obtain⟨c,U,rfl,h2⟩:=YH h1;obtain⟨d,Y,rfl,z⟩:=YH h2;rw[Lu z];exact⟨a,b,c,d,rfl⟩
theorem Ij{α:Type}{us:List α}(h:us.length=5) : ∃a b c d e,us=[a,b,c,d,e]:=by obtain⟨a,O,rfl,h0⟩:=YH h;obtain⟨b,U,rfl,h1⟩:=YH h0;obtain⟨c,Y,rfl,h2⟩:=YH h1;obtain⟨d,t3,rfl,z⟩:=YH h2;obtain⟨e,t4,rfl,I⟩:=YH z;rw[Lu I];exact⟨a,b,c,d,e,rfl⟩
structure E0(K:Ip)(mg:PySem.Str->Option PySem.Value):Prop where
 Q0:DefAt K mg "_law_cell" (top 61) ["_law_script","_law_k"]
 Q1:DefAt K mg "_law_ways" (top 64) ["_law_cell_here","_law_rooms"]
 Q2:DefAt K mg "_law_ends" (top 62) ["_law_k","_law_way"]
 Q3:DefAt K mg "_law_row" (top 63) ["_law_p","_law_ways_here","_law_widths","_law_tables"]
 Q4:DefAt K mg "_law_rows" (top 65) ["_law_script","_law_at","_law_p","_law_high","_law_wide"]
 Q5:DefAt K mg "_law_drawn" (top 66) ["_law_script","_law_at","_law_p","_law_ways_here","_law_most"]
 Q6:DefAt K mg "stretches_of" (top 57) ["many"]
 Q7:DefAt K mg "rests" (top 8) ["p","numbers"]
 Q8:DefAt K mg "inverse" (top 9) ["p","x"]
 Q9:DefAt K mg "cleared" (top 16) ["p","load","pivot","place"]
 Qa:DefAt K mg "base_of" (top 17) ["p","long","loads"]
 Qb:DefAt K mg "led" (top 10) ["p","table","load"]
 Qc:DefAt K mg "led_on" (top 19) ["p","table","base"]
 Qd:DefAt K mg "behind_noughts" (top 18) ["many","base"]
 Qe:DefAt K mg "turned_over" (top 11) ["table"]
 Qf:DefAt K mg "same_table" (top 12) ["many"]
 Qg:DefAt K mg "led_into" (top 20) ["p","table","base"]
 Qh:DefAt K mg "tables_joined" (top 51) ["one","other","join"]
 Qi:DefAt K mg "nought_table" (top 13) ["high","wide"]
 Qj:DefAt K mg "no_join" (top 52) ["one","other"]
 Qk:DefAt K mg "tables_beside" (top 53) ["one","other"]
 Ql:DefAt K mg "link" (top 55) ["row","i","j"]
 Qm:DefAt K mg "kept" (top 56) ["row","i","j"]
 Qn:DefAt K mg "number_of" (top 58) ["much","i","j"]
 Qo:DefAt K mg "numbers" (top 59) ["row"]
 Qp:DefAt K mg "ways_of" (top 31) ["row"]
 Qq:DefAt K mg "is_whole" (top 7) ["x"]
 Qr:DefAt K mg "is_room" (top 30) ["many","k"]
 Qs:DefAt K mg "end_of" (top 28) ["k","way"]
 Qt:DefAt K mg "arrows_of" (top 34) ["ways","k"]
 Qu:DefAt K mg "is_end" (top 35) ["ways","k"]
 Qv:DefAt K mg "beginning_of" (top 27) ["k","way"]
 Qw:DefAt K mg "is_beginning" (top 36) ["ways","k"]
 Qx:DefAt K mg "ask_turn" (top 37) ["ways","k"]
 Qy:DefAt K mg "lines_met" (top 38) ["row","k","ends"]
 Qz:DefAt K mg "ask_together" (top 32) ["widths"]
 Q10:DefAt K mg "columns" (top 24) ["high","loads"]
 Q11:DefAt K mg "kernel" (top 21) ["p","table"]
 Q12:DefAt K mg "met_from_end" (top 39) ["p","met"]
 Q13:DefAt K mg "image" (top 22) ["p","table"]
 Q14:DefAt K mg "lead_of" (top 15) ["load"]
 Q15:DefAt K mg "what_is_left" (top 40) ["p","base","load"]
 Q16:DefAt K mg "met_from_beginning" (top 41) ["p","met"]
 Q17:DefAt K mg "other_way" (top 29) ["way"]
 Q18:DefAt K mg "arrow_about" (top 42) ["way","wide","lines","ends"]
 Q19:DefAt K mg "arrows_about" (top 43) ["row","k","met","ends"]
 Q1a:DefAt K mg "turned_about" (top 44) ["row","k"]
 Q1b:DefAt K mg "_law_can" (top 67) ["_law_ways_here","_law_k"]
 Q1c:DefAt K mg "law" (top 68) ["_law_script"]
 Z0:mg "len" = none
 Z1:mg "min" = none
 Z2:mg "range" = none
 Z3:mg "enumerate" = none
 Z4:mg "tuple" = none
 Z5:mg "int" = none
 Z6:mg "zip" = none
 Z7:mg "sum" = none
 Z8:mg "any" = none
 Z9:mg "dict" = none
 Za:mg "bool" = none
 Zb:mg "isinstance" = none
 Zc:mg "all" = none
 G0:GL K mg "MOST_TOGETHER" (.int 30)
structure E1(P:PySem.Program)(w:PySem.World)(K:Ip)(mg:PySem.Str->Option PySem.Value)(base:PySem.Heap)(CR CL:PySem.Addr):Prop where
 a_by:FnBy P w K mg base 3 "arrow_by" CR CL
 m_R:MethAt P w K mg base 5 CR kS
 m_L:MethAt P w K mg base 5 CL j7
theorem kJ(E:E0 K mg):FnD P w K mg base 1 "_law_cell" 2 zZ:=
 xq (N:=["_law_script","_law_k","_law_cell_here","_law_turn","_law_given"]) E.Q0 ⋯ λX z hw I hm hb h0 hx=>by subst z hw I hm hb;exact by refine zo (xQ (gV (Yj (VE (kh h0 ⋯ E.Z0 (jh h0)) zm) (QX (vd h0 (qX (zM (jh h0) zm) zm) zm)))) (by refine zo (jH h0 (zM (jh h0) (z5 zm (qX (zw h0) (qW (kh h0 ⋯ E.Z0 (jh h0)) zm))))) ?_;refine zo (kW hx h0 (qP h0 ⋯ E.Z2 (uA h0 ⋯ E.Z1 zm (JO (zw h0) (qW (kh h0 ⋯ E.Z0 (jh h0)) zm)))) (zq (jH h0 (JO (zw h0) (bU zm zm))))) ?_;exact(zq (zR (qX (zw h0) (bU zm zm))))) j9) ?_;refine zo (jH h0 (zw h0)) ?_;refine zo (xQ (VE (kh h0 ⋯ E.Z0 (jh h0)) zm) (zq (jH h0 (zM (jh h0) (qX (zw h0) (kh h0 ⋯ E.Z0 (jh h0)))))) j9) ?_;exact(zq (zR (qX (xm (qX (z5 (z5 (z5 (xm (qX (zw h0) (bU zm zm)) zm) (xm (xm zm (zw h0)) (zw h0))) (xm zm (zw h0))) zm) zm) zm) zm)))
theorem Zy(E:E0 K mg):FnD P w K mg base 1 "_law_ways" 2 qS:=
 xq (N:=["_law_cell_here","_law_rooms","_law_ways_here","_law_k"]) E.Q1 ⋯ λX z hw I hm hb h0 hx=>by subst z hw I hm hb;exact by refine zo (jH h0 xu) ?_;refine zo (kW hx h0 (qP h0 ⋯ E.Z2 (qW (zw h0) zm)) (by refine zo (jH h0 (oK (zw h0) (QY xu (qX (zw h0) zm)))) ?_;exact(zq (jH h0 (JO (zw h0) zm))))) ?_;exact(zq (kF 2 (h0.var ⋯)))
theorem k8(E:E0 K mg):FnD P w K mg base 1 "_law_ends" 2 qu:=
 xq (N:=["_law_k","_law_way"]) E.Q2 ⋯ λX z hw I hm hb h0 hx=>by subst z hw I hm hb;exact by refine zo (xQ (vd h0 (zw h0) xu) (zq (zR (jy (xK (za (zw h0) (za (z5 (zw h0) zm) zk)))))) j9) ?_;exact(zq (zR (jy (xK (za (z5 (zw h0) zm) (za (zw h0) zk))))))
theorem Ju(E:E0 K mg):FnD P w K mg base 2 "_law_row" 4 qK:=
 xq (N:=["_law_p","_law_ways_here","_law_widths","_law_tables","_law_arrows","_law_k","_law_way","_law_begin","_law_end"]) E.Q3 ⋯ λX z hw I hm hb h0 hx=>by subst z hw I hm hb;exact by refine zo (vf h0 (k5 (xK zk))) ?_;refine zo (kW hx h0 (cC h0 ⋯ E.Z3 (zw h0)) (by refine zo (VF (Gi h0) (jg (k8 E) h0 (za (zw h0) (za (zw h0) zk)))) ?_;exact(zq (Xd 4 h0 ⋯ (jy (xK (za (zw h0) (za (jy (xK (za (zM (jh h0) (zw h0)) (za (zM (jh h0) (zw h0)) (za (jX h0 ⋯ E.Z4 (PO.q (kG h0 (ju (PV.q (zM (jh h0) (zw h0)))) (λ_ _ _ h1=>jX h1 ⋯ E.Z4 (jh h1))))) zk))))) zk)))))))) ?_;exact(zq (zR (jy (xK (za (zw h0) (za (jX h0 ⋯ E.Z4 (jh h0)) (za (jX h0 ⋯ E.Z4 (jh h0)) zk)))))))
theorem Zz(E:E0 K mg):FnD P w K mg base 2 "_law_rows" 5 qT:=
 xq (N:=["_law_script","_law_at","_law_p","_law_high","_law_wide","_law_rows_here","_law_x","_law_cells"]) E.Q4 ⋯ λX z hw I hm hb h0 hx=>by subst z hw I hm hb;exact by refine zo (vf h0 (k5 (xK zk))) ?_;refine zo (kW hx h0 (qP h0 ⋯ E.Z2 (zw h0)) (by refine zo (qj 7 (vW h0 (PIF.c (qP h0 ⋯ E.Z2 (zw h0))) (λ_ _ _ h1=>jg (kJ E) h1 (za (zw h1) (za (z5 (z5 (zw h1) (xm (zw h1) (zw h1))) (zw h1)) zk))))) ?_;exact(zq (Xd 5 h0 ⋯ (PO.v (kG h0 (ju (jh h0)) (λ_ _ _ h1=>xm (qX (JO (zw h1) zm) (zw h1)) (bX h1 ⋯ E.Z5 (uC (qX (zw h1) zm) zm))))))))) ?_;exact(zq (kF 5 (h0.var ⋯)))
theorem wG(E:E0 K mg):FnD P w K mg base 3 "_law_drawn" 5 qg:=
 xq (N:=["_law_script","_law_at","_law_p","_law_ways_here","_law_most","_law_widths","_law_tables","_law_k","_law_way","_law_begin","_law_end"]) E.Q5 ⋯ λX z hw I hm hb h0 hx=>by subst z hw I hm hb;exact by refine zo (qj 5 (vW h0 (PIF.c (qP h0 ⋯ E.Z2 (z5 (QZ h0 ⋯ E.Z0 (zw h0)) zm))) (λ_ _ _ h1=>qX (jg (kJ E) h1 (za (zw h1) (za (z5 (zw h1) (zw h1)) zk))) (z5 (zw h1) zm)))) ?_;refine zo (vf h0 (k5 (xK zk))) ?_;refine zo (kW hx h0 (cC h0 ⋯ E.Z3 (zw h0)) (by refine zo (VF (Gi h0) (jg (k8 E) h0 (za (zw h0) (za (zw h0) zk)))) ?_;exact(zq (Xd 6 h0 ⋯ (PO.v (yw (Zz E) h0 (za (zw h0) (za (z5 (z5 (zw h0) zm) (xm zm (zw h0))) (za (zw h0) (za (zM (jh h0) (zw h0)) (za (zM (jh h0) (zw h0)) zk))))))))))) ?_;exact(zq (ck 6 (zR (jg (Ju E) h0 (za (zw h0) (za (zw h0) (za (zw h0) (za (zw h0) zk))))))))
theorem Zv(E:E0 K mg):FnD P w K mg base 1 "stretches_of" 1 xZ:=
 xq (N:=["many","found","i"]) E.Q6 ⋯ λX z hw I hm hb h0 hx=>by subst z hw I hm hb;exact by refine zo (vf h0 (k5 (xK zk))) ?_;refine zo (kW hx h0 (qP h0 ⋯ E.Z2 (zw h0)) (zq (oT 1 h0 ⋯ (kG h0 (PIF.c (VN h0 ⋯ E.Z2 (zw h0) (zw h0))) (λ_ _ _ h1=>jy (xK (za (zw h1) (za (zw h1) zk)))))))) ?_;exact(zq (kF 1 (h0.var ⋯)))
theorem wM(E:E0 K mg):FnD P w K mg base 1 "rests" 2 xl:=
 xq (N:=["p","numbers"]) E.Q7 ⋯ λX z hw I hm hb h0 hx=>by subst z hw I hm hb;exact zq (zR (jX h0 ⋯ E.Z4 (PO.q (kG h0 (ju (jh h0)) (λ_ _ _ h1=>qX (zw h1) (zw h1))))))
theorem W5(E:E0 K mg):FnD P w K mg base 1 "inverse" 2 vK:=
 xq (N:=["p","x","y"]) E.Q8 ⋯ λX z hw I hm hb h0 hx=>by subst z hw I hm hb;exact by refine zo (kW hx h0 (VN h0 ⋯ E.Z2 zm (zw h0)) (zq (xQ (vd h0 (qX (xm (zw h0) (zw h0)) (zw h0)) zm) (zq (kF 2 (h0.var ⋯))) j9))) ?_;exact(zq ve)
theorem vY(E:E0 K mg):FnD P w K mg base 2 "cleared" 4 jS:=
 xq (N:=["p","load","pivot","place","much"]) E.Q9 ⋯ λX z hw I hm hb h0 hx=>by subst z hw I hm hb;exact by refine zo (jH h0 (zM (jh h0) (zw h0))) ?_;refine zo (xQ (vd h0 (zw h0) zm) (zq (kF 1 (h0.var ⋯))) j9) ?_;exact(zq (zR (jg (wM E) h0 (za (zw h0) (za (PO.v (kG h0 (PIF.c (VM h0 ⋯ E.Z6 (zw h0) (zw h0))) (λ_ _ _ h1=>qW (zw h1) (xm (zw h1) (zw h1))))) zk)))))
theorem ym(E:E0 K mg):FnD P w K mg base 3 "base_of" 3 qL:=
 xq (N:=["p","long","loads","left","base","place","leading","times","pivot"]) E.Qa ⋯ λX z hw I hm hb h0 hx=>by subst z hw I hm hb;exact by refine zo (qj 3 (vW h0 (ju (jh h0)) (λ_ _ _ h1=>jg (wM E) h1 (za (zw h1) (za (zw h1) zk))))) ?_;refine zo (vf h0 (k5 (xK zk))) ?_;refine zo (kW hx h0 (qP h0 ⋯ E.Z2 (zw h0)) (by refine zo (qj 6 (EA h0 (ju (jh h0)) (λ_ _ _ h1=>wz h1 (zM (jh h1) (zw h1)) zm) (λ_ _ _ h1=>zw h1))) ?_;refine zo (xQ (vV (gW (jh h0))) (zq Kf) j9) ?_;refine zo (jH h0 (jg (W5 E) h0 (za (zw h0) (za (zM (PV.q (zM (jh h0) zm)) (zw h0)) zk)))) ?_;refine zo (jH h0 (jg (wM E) h0 (za (zw h0) (za (PO.v (kG h0 (ju (PV.q (zM (jh h0) zm))) (λ_ _ _ h1=>xm (zw h1) (zw h1)))) zk)))) ?_;refine zo (qj 3 (vW h0 (ju (jh h0)) (λ_ _ _ h1=>jg (vY E) h1 (za (zw h1) (za (zw h1) (za (zw h1) (za (zw h1) zk))))))) ?_;exact(zq (vf h0 (cz (PO.q (kG h0 (ju (jh h0)) (λ_ _ _ h1=>jg (vY E) h1 (za (zw h1) (za (zw h1) (za (zw h1) (za (zw h1) zk))))))) (PO.q (k5 (xK (za (zw h0) zk))))))))) ?_;exact(zq (kF 4 (h0.var ⋯)))
theorem An(E:E0 K mg):FnD P w K mg base 2 "led" 3 Vd:=
 xq (N:=["p","table","load"]) E.Qb ⋯ λX z hw I hm hb h0 hx=>by subst z hw I hm hb;exact zq (zR (jg (wM E) h0 (za (zw h0) (za (PO.v (kG h0 (ju (PV.q (zM (jh h0) zm))) (λ_ _ _ h1=>bT h1 ⋯ E.Z7 (PO.q (kG h1 (PIF.c (VM h1 ⋯ E.Z6 (zw h1) (zw h1))) (λ_ _ _ h2=>xm (zw h2) (zw h2))))))) zk))))
theorem Am(E:E0 K mg):FnD P w K mg base 4 "led_on" 3 kS:=
 xq (N:=["p","table","base"]) E.Qc ⋯ λX z hw I hm hb h0 hx=>by subst z hw I hm hb;exact zq (yk (yw (ym E) h0 (za (zw h0) (za (zM (jh h0) zm) (za (PO.v (kG h0 (ju (jh h0)) (λ_ _ _ h1=>jg (An E) h1 (za (zw h1) (za (zw h1) (za (zw h1) zk)))))) zk)))))
theorem qO(E:E0 K mg):FnD P w K mg base 1 "behind_noughts" 2 jJ:=
 xq (N:=["many","base"]) E.Qd ⋯ λX z hw I hm hb h0 hx=>by subst z hw I hm hb;exact zq (yk (cu h0 (ju (jh h0)) (λ_ _ _ h1=>vV (yL (uH h1 ⋯ E.Z8 (PV.q (kg (zw h1) qm (j8 (zw h1))))))) (λ_ _ _ h1=>kg (zw h1) (j8 (zw h1)) qm)))
theorem j4(E:E0 K mg):FnD P w K mg base 1 "turned_over" 1 js:=
 xq (N:=["table","columns"]) E.Qe ⋯ λX z hw I hm hb h0 hx=>by subst z hw I hm hb;exact by refine zo (qj 1 (vW h0 (PIF.c (qP h0 ⋯ E.Z2 (zM (jh h0) zm))) (λ_ _ _ h1=>jX h1 ⋯ E.Z4 (PO.q (kG h1 (ju (PV.q (zM (jh h1) zm))) (λ_ _ _ h2=>zM (jh h2) (zw h2))))))) ?_;exact(zq (zR (jy (xK (za (zM (jh h0) zm) (za (zM (jh h0) zm) (za (jX h0 ⋯ E.Z4 (jh h0)) zk)))))))
theorem kH(E:E0 K mg):FnD P w K mg base 1 "same_table" 1 jC:=
 xq (N:=["many","rows"]) E.Qf ⋯ λX z hw I hm hb h0 hx=>by subst z hw I hm hb;exact by refine zo (qj 1 (vW h0 (PIF.c (qP h0 ⋯ E.Z2 (zw h0))) (λ_ _ _ h1=>jX h1 ⋯ E.Z4 (PO.q (kG h1 (PIF.c (qP h1 ⋯ E.Z2 (zw h1))) (λ_ _ _ h2=>xo (vd h2 (zw h2) (zw h2)) zm zm)))))) ?_;exact(zq (zR (jy (xK (za (zw h0) (za (zw h0) (za (jX h0 ⋯ E.Z4 (jh h0)) zk)))))))
theorem Yu(E:E0 K mg):FnD P w K mg base 4 "led_into" 3 j7:=
 xq (N:=["p","table","base","pairs","free"]) E.Qg ⋯ λX z hw I hm hb h0 hx=>by subst z hw I hm hb;exact by refine zo (qj 3 (vW h0 (PIF.c (VM h0 ⋯ E.Z6 (zM (PV.q (jg (j4 E) h0 (za (zw h0) zk))) zm) (zM (PV.q (jg (kH E) h0 (za (zM (jh h0) zm) zk))) zm))) (λ_ _ _ h1=>z5 (zw h1) (zw h1)))) ?_;refine zo (qj 4 (vW h0 (ju (jh h0)) (λ_ _ _ h1=>z5 (zw h1) (xm (jy (xK (za zm zk))) (zM (jh h1) zm))))) ?_;exact(zq (yk (yw (qO E) h0 (za (zM (jh h0) zm) (za (PO.v (yw (ym E) h0 (za (zw h0) (za (z5 (zM (jh h0) zm) (zM (jh h0) zm)) (za (PO.v (cz (jh h0) (jh h0))) zk))))) zk)))))
theorem wF(E:E0 K mg):FnD P w K mg base 1 "tables_joined" 3 qI:=
 xq (N:=["one","other","join","first","second"]) E.Qh ⋯ λX z hw I hm hb h0 hx=>by subst z hw I hm hb;exact by refine zo (qj 3 (vW h0 (PIF.c (VM h0 ⋯ E.Z6 (zM (jh h0) zm) (zM (jh h0) zm))) (λ_ _ _ h1=>z5 (zw h1) (zw h1)))) ?_;refine zo (qj 4 (vW h0 (ju (PV.q (zM (jh h0) zm))) (λ_ _ _ h1=>z5 (xm (jy (xK (za zm zk))) (zM (jh h1) zm)) (zw h1)))) ?_;exact(zq (zR (jy (xK (za (z5 (zM (jh h0) zm) (zM (jh h0) zm)) (za (z5 (zM (jh h0) zm) (zM (jh h0) zm)) (za (jX h0 ⋯ E.Z4 (PV.q (PO.v (cz (jh h0) (jh h0))))) zk)))))))
theorem Zw(E:E0 K mg):FnD P w K mg base 1 "nought_table" 2 qR:=
 xq (N:=["high","wide"]) E.Qi ⋯ λX z hw I hm hb h0 hx=>by subst z hw I hm hb;exact zq (zR (jy (xK (za (zw h0) (za (zw h0) (za (xm (jy (xK (za (xm (jy (xK (za zm zk))) (zw h0)) zk))) (zw h0)) zk))))))
theorem W2(E:E0 K mg):FnD P w K mg base 2 "no_join" 2 vF:=
 xq (N:=["one","other"]) E.Qj ⋯ λX z hw I hm hb h0 hx=>by subst z hw I hm hb;exact zq (zR (jg (Zw E) h0 (za (zM (jh h0) zm) (za (zM (jh h0) zm) zk))))
theorem vh(E:E0 K mg):FnD P w K mg base 3 "tables_beside" 2 qk:=
 xq (N:=["one","other"]) E.Qk ⋯ λX z hw I hm hb h0 hx=>by subst z hw I hm hb;exact zq (zR (jg (wF E) h0 (za (zw h0) (za (zw h0) (za (jg (W2 E) h0 (za (zw h0) (za (zw h0) zk))) zk)))))
theorem pD(E:E0 K mg)(A:E1 P w K mg base CR CL):FnD P w K mg base 6 "link" 3 Ws:=
 xq (N:=["row","i","j","same","base","arrow"]) E.Ql ⋯ λX z hw I hm hb h0 hx=>by subst z hw I hm hb;exact by refine zo (jH h0 (jg (kH E) h0 (za (zM (PV.q (zM (jh h0) zm)) (zw h0)) zk))) ?_;refine zo (VG 4 (vW h0 (ju (PV.q (zM (jh h0) zm))) (λ_ _ _ h1=>z5 (zw h1) (zw h1)))) ?_;refine zo (kW hx h0 (Yq (kg (zM (jh h0) zm) (j8 (zw h0)) (j8 (zw h0)))) (zq (ck 4 (vf h0 (ib A.a_by A.m_R A.m_L ⋯ ⋯ ⋯ h0 ⋯ (zM (jh h0) zm) (zM (jh h0) zm) (jg (vh E) h0 (za (zw h0) (za (zM (jh h0) zm) zk))) (zw h0)))))) ?_;exact(zq (kF 4 (h0.var ⋯)))
theorem pE(E:E0 K mg)(A:E1 P w K mg base CR CL):FnD P w K mg base 7 "kept" 3 Ji:=
 xq (N:=["row","i","j","base","first","second","swapped"]) E.Qm ⋯ λX z hw I hm hb h0 hx=>by subst z hw I hm hb;exact by refine zo (jH h0 (PO.v (yw (pD E A) h0 (za (zw h0) (za (zw h0) (za (zw h0) zk)))))) ?_;refine zo (jH h0 (zM (PV.q (zM (jh h0) zm)) (zw h0))) ?_;refine zo (jH h0 (zM (PV.q (zM (jh h0) zm)) (zw h0))) ?_;refine zo (jH h0 (PO.v (yw (ym E) h0 (za (zM (jh h0) zm) (za (z5 (zw h0) (zw h0)) (za (PO.v (kG h0 (ju (jh h0)) (λ_ _ _ h1=>z5 (kg (zw h1) (j8 (zw h1)) qm) (kg (zw h1) qm (j8 (zw h1)))))) zk)))))) ?_;exact(zq (zR (qW (qW (kh h0 ⋯ E.Z0 (jh h0)) (kh h0 ⋯ E.Z0 (PO.q (yw (qO E) h0 (za (zw h0) (za (zw h0) zk)))))) (kh h0 ⋯ E.Z0 (PO.q (yw (qO E) h0 (za (zw h0) (za (zw h0) zk))))))))
theorem Kn(E:E0 K mg):FnD P w K mg base 1 "number_of" 3 xG:=
 xq (N:=["much","i","j","longer"]) E.Qn ⋯ λX z hw I hm hb h0 hx=>by subst z hw I hm hb;exact by refine zo (jH h0 (z5 (Yk h0 (zw h0) (jy (xK (za (qW (zw h0) zm) (za (zw h0) zk)))) zm) (Yk h0 (zw h0) (jy (xK (za (zw h0) (za (z5 (zw h0) zm) zk)))) zm))) ?_;exact(zq (zR (z5 (qW (bY h0 (zw h0) (jy (xK (za (zw h0) (za (zw h0) zk))))) (zw h0)) (Yk h0 (zw h0) (jy (xK (za (qW (zw h0) zm) (za (z5 (zw h0) zm) zk)))) zm))))
theorem JT(E:E0 K mg)(A:E1 P w K mg base CR CL):FnD P w K mg base 8 "numbers" 1 qJ:=
 xq (N:=["row","stretches","much"]) E.Qo ⋯ λX z hw I hm hb h0 hx=>by subst z hw I hm hb;exact by refine zo (jH h0 (PO.v (yw (Zv E) h0 (za (kh h0 ⋯ E.Z0 (PV.q (zM (jh h0) zm))) zk)))) ?_;refine zo (jH h0 (VB h0 ⋯ E.Z9 (kG h0 (ju (jh h0)) (λ_ _ _ h1=>jy (xK (za (jy (xK (za (zw h1) (za (zw h1) zk)))) (za (jg (pE E A) h1 (za (zw h1) (za (zw h1) (za (zw h1) zk)))) zk))))))) ?_;exact(zq (zR (VB h0 ⋯ E.Z9 (kG h0 (ju (jh h0)) (λ_ _ _ h1=>jy (xK (za (jy (xK (za (zw h1) (za (zw h1) zk)))) (za (jg (Kn E) h1 (za (zw h1) (za (zw h1) (za (zw h1) zk)))) zk))))))))
theorem JS(E:E0 K mg):FnD P w K mg base 1 "ways_of" 1 xE:=
 xq (N:=["row"]) E.Qp ⋯ λX z hw I hm hb h0 hx=>by subst z hw I hm hb;exact zq (zR (bV xu (PO.q (kG h0 (ju (PV.q (zM (jh h0) zm))) (λ_ _ _ h1=>zM (jh h1) zm)))))
theorem Yv(E:E0 K mg):FnD P w K mg base 1 "is_whole" 1 QH:=
 xq (N:=["x"]) E.Qq ⋯ λX z hw I hm hb h0 hx=>by subst z hw I hm hb;exact zq (zR (mE (bW h0 ⋯ E.Zb ⋯ E.Z5 (zw h0)) (mD (uy (WS h0 ⋯ E.Zb ⋯ E.Za (zw h0))))))
theorem W4(E:E0 K mg):FnD P w K mg base 2 "is_room" 2 vH:=
 xq (N:=["many","k"]) E.Qr ⋯ λX z hw I hm hb h0 hx=>by subst z hw I hm hb;exact zq (zR (mE (jg (Yv E) h0 (za (zw h0) zk)) (mD (gT cM pB X6 bC zm (zw h0) (zw h0)))))
theorem cO(E:E0 K mg):FnD P w K mg base 1 "end_of" 2 XU:=
 xq (N:=["k","way"]) E.Qs ⋯ λX z hw I hm hb h0 hx=>by subst z hw I hm hb;exact zq (zR (xo (vd h0 (zw h0) xu) (z5 (zw h0) zm) (zw h0)))
theorem k9(E:E0 K mg):FnD P w K mg base 1 "arrows_of" 2 qz:=
 xq (N:=["ways","k"]) E.Qt ⋯ λX z hw I hm hb h0 hx=>by subst z hw I hm hb;exact zq (yk (cu h0 (ju (PV.q (jy (xK (za (qW (zw h0) zm) (za (zw h0) zk)))))) (λ_ _ _ h1=>Zq cM pB X6 bC zm (zw h1) (QZ h1 ⋯ E.Z0 (zw h1))) (λ_ _ _ h1=>zw h1)))
theorem Kp(E:E0 K mg):FnD P w K mg base 2 "is_end" 2 vJ:=
 xq (N:=["ways","k"]) E.Qu ⋯ λX z hw I hm hb h0 hx=>by subst z hw I hm hb;exact zq (zR (mF h0 ⋯ E.Zc (PO.q (kG h0 (ju (PO.q (yw (k9 E) h0 (za (zw h0) (za (zw h0) zk))))) (λ_ _ _ h1=>uE h1 (jg (cO E) h1 (za (zw h1) (za (QY (zw h1) (zw h1)) zk))) (zw h1))))))
theorem ZC(E:E0 K mg):FnD P w K mg base 1 "beginning_of" 2 x6:=
 xq (N:=["k","way"]) E.Qv ⋯ λX z hw I hm hb h0 hx=>by subst z hw I hm hb;exact zq (zR (xo (vd h0 (zw h0) xu) (zw h0) (z5 (zw h0) zm)))
theorem ZA(E:E0 K mg):FnD P w K mg base 2 "is_beginning" 2 yI:=
 xq (N:=["ways","k"]) E.Qw ⋯ λX z hw I hm hb h0 hx=>by subst z hw I hm hb;exact zq (zR (mF h0 ⋯ E.Zc (PO.q (kG h0 (ju (PO.q (yw (k9 E) h0 (za (zw h0) (za (zw h0) zk))))) (λ_ _ _ h1=>uE h1 (jg (ZC E) h1 (za (zw h1) (za (QY (zw h1) (zw h1)) zk))) (zw h1))))))
theorem Yw(E:E0 K mg):FnD P w K mg base 3 "ask_turn" 2 yu:=
 xq (N:=["ways","k"]) E.Qx ⋯ λX z hw I hm hb h0 hx=>by subst z hw I hm hb;exact by refine zo (xQ (vV (yL (jg (W4 E) h0 (za (z5 (QZ h0 ⋯ E.Z0 (zw h0)) zm) (za (zw h0) zk))))) (zq ve) j9) ?_;exact(zq (xQ (gV (Yj (vV (yL (jg (Kp E) h0 (za (zw h0) (za (zw h0) zk))))) (QX (vV (yL (jg (ZA E) h0 (za (zw h0) (za (zw h0) zk)))))))) (zq ve) j9))
theorem Ko(E:E0 K mg):FnD P w K mg base 2 "lines_met" 3 kQ:=
 xq (N:=["row","k","ends","lines","at","table"]) E.Qy ⋯ λX z hw I hm hb h0 hx=>by subst z hw I hm hb;exact by refine zo (vf h0 (k5 (xK zk))) ?_;refine zo (kW hx h0 (Yq (PO.v (yw (k9 E) h0 (za (jg (JS E) h0 (za (zw h0) zk)) (za (zw h0) zk))))) (by refine zo (jH h0 (zM (PV.q (zM (PV.q (zM (jh h0) zm)) (zw h0))) zm)) ?_;exact(zq (gZ 3 h0 ⋯ (PV.q (xo (yL (zw h0)) (zM (PV.q (jg (j4 E) h0 (za (zw h0) zk))) zm) (zM (jh h0) zm))))))) ?_;exact(zq (zR (jX h0 ⋯ E.Z4 (jh h0))))
theorem ZD(E:E0 K mg):FnD P w K mg base 1 "ask_together" 1 qU:=
 xq (N:=["widths"]) E.Qz ⋯ λX z hw I hm hb h0 hx=>by subst z hw I hm hb;exact zq (xQ (VE (bT h0 ⋯ E.Z7 (jh h0)) (Ew h0 ⋯ E.G0)) (zq ve) j9)
theorem W6(E:E0 K mg):FnD P w K mg base 2 "columns" 2 kz:=
 xq (N:=["high","loads"]) E.Q10 ⋯ λX z hw I hm hb h0 hx=>by subst z hw I hm hb;exact zq (zR (jg (j4 E) h0 (za (jy (xK (za (kh h0 ⋯ E.Z0 (jh h0)) (za (zw h0) (za (jX h0 ⋯ E.Z4 (jh h0)) zk))))) zk)))
theorem cN(E:E0 K mg):FnD P w K mg base 5 "kernel" 2 kT:=
 xq (N:=["p","table"]) E.Q11 ⋯ λX z hw I hm hb h0 hx=>by subst z hw I hm hb;exact zq (yk (yw (Yu E) h0 (za (zw h0) (za (zw h0) (za (PO.v (k5 (xK zk))) zk)))))
theorem Zx(E:E0 K mg):FnD P w K mg base 6 "met_from_end" 2 qt:=
 xq (N:=["p","met"]) E.Q12 ⋯ λX z hw I hm hb h0 hx=>by subst z hw I hm hb;exact zq (zR (jg (W6 E) h0 (za (zM (jh h0) zm) (za (PO.v (yw (cN E) h0 (za (zw h0) (za (jg (j4 E) h0 (za (zw h0) zk)) zk)))) zk))))
theorem iB(E:E0 K mg):FnD P w K mg base 4 "image" 2 yU:=
 xq (N:=["p","table"]) E.Q13 ⋯ λX z hw I hm hb h0 hx=>by subst z hw I hm hb;exact zq (yk (yw (ym E) h0 (za (zw h0) (za (zM (jh h0) zm) (za (zM (PV.q (jg (j4 E) h0 (za (zw h0) zk))) zm) zk)))))
theorem JU(E:E0 K mg):FnD P w K mg base 1 "lead_of" 1 jD:=
 xq (N:=["load"]) E.Q14 ⋯ λX z hw I hm hb h0 hx=>by subst z hw I hm hb;exact zq (zR (zM (PO.q (cu h0 (PIF.c (cD h0 ⋯ E.Z3 (zw h0))) (λ_ _ _ h1=>wz h1 (zw h1) zm) (λ_ _ _ h1=>zw h1))) zm))
theorem Zu(E:E0 K mg):FnD P w K mg base 3 "what_is_left" 3 j5:=
 xq (N:=["p","base","load","left","pivot","leads"]) E.Q15 ⋯ λX z hw I hm hb h0 hx=>by subst z hw I hm hb;exact by refine zo (jH h0 (zw h0)) ?_;refine zo (kW hx h0 (Yq (zw h0)) (zq (jH h0 (jg (vY E) h0 (za (zw h0) (za (zw h0) (za (zw h0) (za (jg (JU E) h0 (za (zw h0) zk)) zk)))))))) ?_;refine zo (qj 5 (vW h0 (ju (jh h0)) (λ_ _ _ h1=>jg (JU E) h1 (za (zw h1) zk)))) ?_;exact(zq (zR (jX h0 ⋯ E.Z4 (PO.q (cu h0 (PIF.c (cD h0 ⋯ E.Z3 (zw h0))) (λ_ _ _ h1=>WU (zw h1) (jh h1)) (λ_ _ _ h1=>zw h1))))))
theorem k7(E:E0 K mg):FnD P w K mg base 5 "met_from_beginning" 2 jz:=
 xq (N:=["p","met","base","lines"]) E.Q16 ⋯ λX z hw I hm hb h0 hx=>by subst z hw I hm hb;exact by refine zo (jH h0 (PO.v (yw (iB E) h0 (za (zw h0) (za (zw h0) zk))))) ?_;refine zo (qj 3 (vW h0 (ju (PV.q (zM (PV.q (jg (kH E) h0 (za (zM (jh h0) zm) zk))) zm))) (λ_ _ _ h1=>jg (Zu E) h1 (za (zw h1) (za (zw h1) (za (zw h1) zk)))))) ?_;exact(zq (zR (jy (xK (za (zM (jh h0) zm) (za (qW (zM (jh h0) zm) (kh h0 ⋯ E.Z0 (jh h0))) (za (jX h0 ⋯ E.Z4 (jh h0)) zk)))))))
theorem Km(E:E0 K mg):FnD P w K mg base 1 "other_way" 1 kP:=
 xq (N:=["way"]) E.Q17 ⋯ λX z hw I hm hb h0 hx=>by subst z hw I hm hb;exact zq (zR (xo (vd h0 (zw h0) xu) xu xu))
theorem Jv(E:E0 K mg):FnD P w K mg base 2 "arrow_about" 4 ql:=
 xq (N:=["way","wide","lines","ends","table"]) E.Q18 ⋯ λX z hw I hm hb h0 hx=>by subst z hw I hm hb;exact by refine zo (jH h0 (jy (xK (za (kh h0 ⋯ E.Z0 (jh h0)) (za (zw h0) (za (zw h0) zk)))))) ?_;exact(zq (zR (jy (xK (za (jg (Km E) h0 (za (zw h0) zk)) (za (xo (yL (zw h0)) (zw h0) (jg (j4 E) h0 (za (zw h0) zk))) zk))))))
theorem ZE(E:E0 K mg):FnD P w K mg base 3 "arrows_about" 4 qV:=
 xq (N:=["row","k","met","ends","split","parts","made","at","arrow"]) E.Q19 ⋯ λX z hw I hm hb h0 hx=>by subst z hw I hm hb;exact by refine zo (jH h0 (xo (VE (zw h0) zm) (zM (PV.q (zM (jh h0) zm)) (qW (zw h0) zm)) zm)) ?_;refine zo (jH h0 (uG (qW (zw h0) zm) (kg (zM (jh h0) zm) qm (j8 (zw h0))) (zw h0) (kg (zM (jh h0) zm) (j8 (zw h0)) qm))) ?_;refine zo (vf h0 (k5 (xK zk))) ?_;refine zo (kW hx h0 (cD h0 ⋯ E.Z3 (zM (jh h0) zm)) (zq (Xd 6 h0 ⋯ (xo (oO h0 (zw h0) (zw h0)) (jg (Jv E) h0 (za (zM (jh h0) zm) (za (zM (jh h0) zm) (za (uF h0 (zw h0) (zw h0)) (za (zw h0) zk))))) (zw h0))))) ?_;exact(zq (zR (jX h0 ⋯ E.Z4 (jh h0))))
theorem k6(E:E0 K mg):FnD P w K mg base 7 "turned_about" 2 j6:=
 xq (N:=["row","k","ways","ends","lines","old","new","widths"]) E.Q1a ⋯ λX z hw I hm hb h0 hx=>by subst z hw I hm hb;exact by refine zo (jH h0 (jg (JS E) h0 (za (zw h0) zk))) ?_;refine zo (VH (jg (Yw E) h0 (za (zw h0) (za (zw h0) zk)))) ?_;refine zo (jH h0 (jg (Kp E) h0 (za (zw h0) (za (zw h0) zk)))) ?_;refine zo (jH h0 (jg (Ko E) h0 (za (zw h0) (za (zw h0) (za (zw h0) zk))))) ?_;refine zo (jH h0 (jy (xK (za (kh h0 ⋯ E.Z0 (jh h0)) (za (zM (PV.q (zM (jh h0) zm)) (zw h0)) (za (zw h0) zk)))))) ?_;refine zo (jH h0 (xo (yL (zw h0)) (jg (Zx E) h0 (za (zM (jh h0) zm) (za (zw h0) zk))) (jg (k7 E) h0 (za (zM (jh h0) zm) (za (zw h0) zk))))) ?_;refine zo (jH h0 (z5 (z5 (kg (zM (jh h0) zm) qm (j8 (zw h0))) (jy (xK (za (zM (jh h0) zm) zk)))) (kg (zM (jh h0) zm) (j8 (z5 (zw h0) zm)) qm))) ?_;refine zo (VH (jg (ZD E) h0 (za (zw h0) zk))) ?_;exact(zq (zR (jy (xK (za (zM (jh h0) zm) (za (zw h0) (za (jg (ZE E) h0 (za (zw h0) (za (zw h0) (za (zw h0) (za (zw h0) zk))))) zk)))))))
theorem W3(E:E0 K mg):FnD P w K mg base 1 "_law_can" 2 Ya:=
 xq (N:=["_law_ways_here","_law_k","_law_left","_law_right"]) E.Q1b ⋯ λX z hw I hm hb h0 hx=>by subst z hw I hm hb;exact by refine zo (xQ (vV (Zq cM cM X6 X6 zm (zw h0) (QZ h0 ⋯ E.Z0 (zw h0)))) (zq (zR xu)) j9) ?_;refine zo (jH h0 (VA (VA (zw h0) qm (j8 (zw h0))) (j8 (uz zm)) qm)) ?_;refine zo (jH h0 (VA (VA (zw h0) (j8 (zw h0)) qm) qm (j8 zm))) ?_;refine zo (xQ (gV (Yj (vd h0 (zw h0) (zw h0)) (QX (wz h0 (zw h0) xu)))) (zq (zR xu)) j9) ?_;exact(zq (zR xu))
theorem Gz(D:L2.Fun K "law" "law" (top 68) f fd)(E:E0 K mg)(A:E1 P w K mg base CR CL):FnOk P w K mg base CX0 9 f fd ["_law_script"] (spT K 1 Jh):=
 Bc (N:=["_law_script","_law_cell_here","_law_p","_law_rooms","_law_ways_here","_law_k","_law_row_here","_law_found","_law_alone","_law_between","_law_whole","_law_back"]) D ⋯ λX z hw I hm hb h0 hx=>by subst z hw I hm hb;exact by refine xt ?_ ?_;exact(jH h0 (jg (kJ E) h0 (za (zw h0) (za zm zk))));refine xt ?_ ?_;exact(jH h0 (zM (PO.q (k5 (xK (za zm (za zm (za zm (za zm zk))))))) (qX (zw h0) zm)));refine xt ?_ ?_;exact(jH h0 (z5 zm (qX (JO (zw h0) zm) zm)));refine xt ?_ ?_;exact(jH h0 (jg (Zy E) h0 (za (JO (zw h0) zm) (za (zw h0) zk))));refine xt ?_ ?_;exact(jH h0 (qX (jg (kJ E) h0 (za (zw h0) (za zm zk))) (zw h0)));refine xt ?_ ?_;exact(cj 100 (mP hx) (wz h0 (jg (W3 E) h0 (za (zw h0) (za (zw h0) zk))) xu) (zq (jH h0 (qX (z5 (zw h0) zm) (zw h0)))));refine xt ?_ ?_;exact(jH h0 (jg (wG E) h0 (za (zw h0) (za zm (za (zw h0) (za (zw h0) (za (qW zm (bX h0 ⋯ E.Z5 (uC (zw h0) zm))) zk)))))));refine xt ?_ ?_;exact(jH h0 (jg (JT E A) h0 (za (zw h0) zk)));refine xt ?_ ?_;exact(jH h0 (bY h0 (zw h0) (jy (xK (za (zw h0) (za (zw h0) zk))))));refine xt ?_ ?_;exact(jH h0 (jg (k6 E) h0 (za (zw h0) (za (zw h0) zk))));refine xt ?_ ?_;exact(jH h0 (bT h0 ⋯ E.Z7 (PO.q (cu h0 (ju (PO.q (k5 (xK (za (qW (zw h0) zm) (za (z5 (zw h0) zm) zk)))))) (λ_ _ _ h1=>Zq cM pB X6 bC zm (zw h1) (zw h1)) (λ_ _ _ h1=>zM (PV.q (zM (jh h1) zm)) (zw h1))))));refine xt ?_ ?_;exact(xQ (wz h0 (zM (jh h0) zm) (z5 (z5 (kg (zM (jh h0) zm) qm (j8 (zw h0))) (jy (xK (za (z5 (qW (zw h0) (zM (PV.q (zM (jh h0) zm)) (zw h0))) (zw h0)) zk)))) (kg (zM (jh h0) zm) (j8 (z5 (zw h0) zm)) qm))) (zq (zR oN)) j9);refine xt ?_ ?_;exact(jH h0 (jg (k6 E) h0 (za (zw h0) (za (zw h0) zk))));refine xt ?_ ?_;exact(xQ (gV (uq (wz h0 (zM (jh h0) zm) (z5 (z5 (kg (zM (jh h0) zm) qm (j8 (zw h0))) (jy (xK (za (qW (zM (PV.q (zM (jh h0) zm)) (zw h0)) (zw h0)) zk)))) (kg (zM (jh h0) zm) (j8 (z5 (zw h0) zm)) qm))) (oH (wz h0 (zM (jh h0) zm) (zw h0))))) (zq (zR oN)) j9);refine xt ?_ ?_;exact(xQ (wz h0 (bV xu (PO.q (kG h0 (ju (PV.q (zM (jh h0) zm))) (λ_ _ _ h1=>zM (jh h1) zm)))) (zw h0)) (zq (zR oN)) j9);exact(sT 7 (um (oU (by have:=h0.u64;omega) (h0.var ⋯) (jy (xK (za (zw h0) (za (zw h0) zk)))) zm (by rfl))) (zq (zR (uD h0 (jg (JT E A) h0 (za (zw h0) zk)) (zw h0)))))
theorem EI(z:L2.Fun K "__init__" "Arrow.__init__" (rq (top 46) 0) f fd)(c:ClsA K C):FnOk P w K mg base CX0 1 f fd ["self","p","table"] (Zk C):=
 rE (k:=0) z ⋯ c λX I hw O hm hb h0=>by subst I hw O hm hb;exact wL (mH (h0.var ⋯) (h0.var ⋯) rfl)<|Zr<|mH (h0.var ⋯) (h0.var ⋯) rfl
theorem Ao(z:L2.Fun K "forth" "Right.forth" (rq (top 47) 0) f fd)(c:ClsA K C)(I:FnD P w K mg base 4 "led_on" 3 kS):FnOk P w K mg base CX0 5 f fd ["self","base"] (QR K C kS):=
 Wb (k:=4) z ⋯ c λX O hw U hm hb h0=>by subst O hw U hm hb;obtain⟨fa,fd,ps,hn,G,hm,hk,hb⟩:=I.ex;rw[hn]at G;exact Zr (JR (Zt G (h0.room.mono ⋯) (h0.gl (x:="led_on") ⋯).1 hm hk hb .nil Kk (zX (VP (h0.var ⋯) rfl) (zX (VP (h0.var ⋯) rfl) (zX (h0.var ⋯) qa)))))
theorem Ap(z:L2.Fun K "forth" "Left.forth" (rq (top 48) 0) f fd)(c:ClsA K C)(I:FnD P w K mg base 4 "led_into" 3 j7):FnOk P w K mg base CX0 5 f fd ["self","base"] (QR K C j7):=
 Wb (k:=4) z ⋯ c λX O hw U hm hb h0=>by subst O hw U hm hb;obtain⟨fa,fd,ps,hn,G,hm,hk,hb⟩:=I.ex;rw[hn]at G;exact Zr (JR (Zt G (h0.room.mono ⋯) (h0.gl (x:="led_into") ⋯).1 hm hk hb .nil Kk (zX (VP (h0.var ⋯) rfl) (zX (VP (h0.var ⋯) rfl) (zX (h0.var ⋯) qa)))))
theorem HH(I:L2.Fun K "arrow_by" "arrow_by" (top 49) f fd)(O:Mk K CR fI)(U:Mk K CL fI)(Y:FnOk P w K mg base CX0 1 fI fdI ["self","p","table"] (Zk CR))(GL:FnOk P w K mg base CX0 1 fI fdI ["self","p","table"] (Zk CL))(z:Binds K fdI ["self","p","table"] [])(mR:mg "Right" = some (.ref CR))(mL:mg "Left" = some (.ref CL)):FnOk P w K mg base CX0 3 f fd ["p","way","table"] (Ee CR CL):=
 Fi (k:=2) I ⋯ λX hP hw hK hm hb h0=>by subst hP hw hK hm hb;exact Zr (JR (L2.ip (Ym EG (h0.var ⋯) mO (by with_unfolding_all rfl)) (cJ O Y (h0.room.mono ⋯) (h0.gl (x:="Right") ⋯).1 mR z .nil Kk (zX (h0.var ⋯) (zX (h0.var ⋯) qa))) (cJ U GL (h0.room.mono ⋯) (h0.gl (x:="Left") ⋯).1 mL z .nil Kk (zX (h0.var ⋯) (zX (h0.var ⋯) qa)))))
end
end DL
namespace PySem.W.Fast
def tw1583252939298473004:=0
def tw5777200635058880675:=0
def tw11866668868100732263:=0
def tw16226979026019346687:=0
def tw9285982550762681677:=0
def tw9026374618476152744:=0
def tw9806317091948937306:=0
def tw2362138536128625497:=0
def tw11816241103781942476:=0
def tw9382638092358694038:=0
def tw18053534720546919324:=0
def tw12913275680354420256:=0
def tw11684687459162751573:=0
def tw3187771252828875431:=0
def tw15471359964977814399:=0
def tw4984308327769328528:=0
def tw12137258794356978493:=0
def tw10927166254413953774:=0
def tw12867673717199519163:=0
def tw18298266567011139955:=0
def tw11605085328389805258:=0
def tw6589761418094116126:=0
def tw16625885526893251655:=0
def tw242597393941829566:=0
def tw9001141232538998818:=0
def tw3120393366389022036:=0
def tw8171821885747593079:=0
def tw17120092587177798855:=0
def tw15087391316339637338:=0
def tw15002863296252045728:=0
def tw12920612511009031701:=0
def tw9355808219001072292:=0
def tw13603266419695154436:=0
def tw12734821315671175323:=0
def tw5128577183633621101:=0
def tw16198767876413064331:=0
def tw418182205086866302:=0
def tw1699056601671056435:=0
def tw17920581440009646364:=0
def tw15507555829037127666:=0
def tw2959178294973669114:=0
def tw11542432196984004962:=0
def tw13862481659186159776:=0
def tw5645020917167184473:=0
def tw2703690038045733635:=0
def tw962610892345921643:=0
def tw13142990238476456450:=0
def tw234898490902317007:=0
def tw4312631656683126201:=0
def tw10617722391516501667:=0
def tw6274126881732022910:=0
def tw17506093981753993820:=0
def tw5062095212903417656:=0
def tw17899840669231358349:=0
def tw12172042988055111681:=0
def tw17746418940547168588:=0
def tw5642780137846674350:=0
def tw8542018991860891131:=0
def tw2885803086587527741:=0
def tw18271331370688705363:=0
def tw16778572265676407290:=0
def tw11992491266750792512:=0
def tw5189292647438344554:=0
def tw1954956401232292288:=0
def tw5408242546691770679:=0
def tw13772159341057226385:=0
def tw209689736195525978:=0
def tw10927544153373270582:=0
def tw15949415764181596314:=0
def tw10164947219945634686:=0
def tw17627468768994610923:=0
def tw7416018095382909606:=0
def tw12031629925118197736:=0
def tw5185111550803629176:=0
def tw13199793187873588290:=0
def tw8897158396851465618:=0
def tw11977980058635060061:=0
def tw8637485597424010568:=0
def tw1381677492120753292:=0
def tw9404990616898845094:=0
def tw8889806805268075489:=0
def tw10185390715208877414:=0
def tw17435590927561049084:=0
def tw4861626524741825700:=0
def tw10366367301097128143:=0
def tw8252448291421222708:=0
def tw12956588350931521087:=0
def tw12641975945588864679:=0
def tw11171849418943750153:=0
def tw14796692748213658660:=0
def tw4004065322889979460:=0
def tw4025597019602870367:=0
def tw14039702971103574253:=0
def tw18435519258521450909:=0
def tw8372918257621594999:=0
def tw9849872913144496675:=0
def tw8121672093423063424:=0
def tw2080235386821678635:=0
def tw15312293595221012279:=0
def tw9114751418221305375:=0
def tw9885374200711079569:=0
def tw1030580100819208170:=0
def tw9367367988051040172:=0
def tw380101051872950039:=0
def tw12482054615121543707:=0
def tw7648355539079683561:=0
def tw13412862087672456499:=0
def tw15834295445828932119:=0
def tw391267717532206475:=0
def tw12953309034738313565:=0
def tw6958194400430909743:=0
def tw7286825386153677518:=0
def tw3572525196390109682:=0
def tw1480863929726768042:=0
def tw3039999874171554142:=0
def tw11045281387794783476:=0
def tw17410835550628314428:=0
def tw12783306542823154930:=0
def tw8875061905274897925:=0
def tw14949396283498542038:=0
def tw7900154543042927199:=0
def tw10955913325403255109:=0
def tw3871873891130747327:=0
def tw9032373020517837793:=0
def tw16806270692711282143:=0
def tw16262420700399399657:=0
def tw713899316833210351:=0
def tw3069608931013907429:=0
def tw9917442762945865194:=0
def tw7605473645365204451:=0
def tw12078084816182816327:=0
def tw2588294950736179314:=0
def tw1762271472430427236:=0
def tw5765349748357465286:=0
def tw3405481379622009854:=0
def tw3579596233043568826:=0
def tw18099336666774478669:=0
def tw12550294556486998860:=0
def tw775424997566290724:=0
def tw9545795760753649022:=0
def tw12041082457078226111:=0
def tw4297700726703615767:=0
def tw431215499280855791:=0
def tw1957316976536505405:=0
def tw7468729387012711794:=0
def tw10814127614809298057:=0
def tw6745166549258647388:=0
def tw8152541103198714797:=0
def tw3446038395404292777:=0
def tw10407633887063680844:=0
def tw2546210980183878177:=0
def tw8751718284527570653:=0
def tw468354613469637955:=0
def tw4039553640437233692:=0
def tw1310026190713997367:=0
def tw17279675949118743692:=0
def tw3583979819804847931:=0
def tw2152058987608861647:=0
def tw11892368980893893646:=0
def tw2152582093285995183:=0
def tw8366835562878217682:=0
def tw17378852765787067638:=0
def tw6186916817002936587:=0
def tw4913848426596793831:=0
def tw13238816461751727827:=0
def tw1119025332624162386:=0
def tw7783002614269217044:=0
def tw14181634928584327764:=0
def tw12710443419459229513:=0
def tw15155650017517174275:=0
def tw132429294911129830:=0
def tw12530708059464902518:=0
def tw11751169523958558843:=0
def tw3651910050869719908:=0
def tw15828670787343160740:=0
def tw1578561688551151542:=0
def tw3797539563106853431:=0
def tw5290345533419653673:=0
def tw17279603482251116303:=0
def tw10045030261249720198:=0
def tw1931719901191856095:=0
def tw5843746926239798832:=0
def tw13483108504364082580:=0
def tw17834280893720734647:=0
def tw8261122493214701595:=0
end PySem.W.Fast
open PySem PySem.W PyProof.Rows
set_option maxRecDepth 100000 in
set_option maxHeartbeats 0 in
theorem PySem.Challenge.cw_barsplit_k54_whole_turned_back_holds : PySem.Challenge.rw_barsplit_k54_whole_turned_back.Holds := by
 w_on;o_law;k_head;(case hw=>w_witness2)
 k_fill
 refine L2.BG (l:=Lg) (n:=63) (k:=9) (x:="_law_script") (CX:=L2.CX0) (sp:=λK=>DL.spT K 1 DL.Jh) rfl ⋯ rfl ⟨rfl,by decide,by decide⟩ (λw h Y=>PySem.W.kIn_of Y) ?F ?S ?C
 case S=>exact λK H a ns I hO hS=>DL.AJ hS (DL.ES ns I)
 case C=>exact λ_ _ _ _ z=>z
 case F=>
  intro w mg fa h O G a4;have bg:DL.GL (L2.KOf O) mg "MOST_TOGETHER" (.int 30):=by
   dsimp only[L2.KOf];refine' DL.GA O G ?a
   (case a=>k_is)
  have E:DL.E0 (L2.KOf O) mg:=by
   constructor
   all_goals first
    | assumption
    | exact PySem.W.mg_none_of O G (by k_is)
    | (dsimp only[L2.KOf];refine' DL.GD O G ?a ?l ?c ?k ?b;(case a=>k_is);(case l=>k_is);(case c=>k_is);(case k=>k_is);(case b=>intro _ _ _ _ _ _ us I;first | (obtain⟨_,rfl⟩:=DL.HK I;rfl) | (obtain⟨_,_,rfl⟩:=DL.HJ I;rfl) | (obtain⟨_,_,_,rfl⟩:=DL.Il I;rfl) | (obtain⟨_,_,_,_,rfl⟩:=DL.Ik I;rfl) | (obtain⟨_,_,_,_,_,rfl⟩:=DL.Ij I;rfl)))
  have AR:DL.ArrAt (L2.KOf O) mg (DL.rq (DL.top 46) 0) (DL.rq (DL.top 47) 0) (DL.rq (DL.top 48) 0):=by
   dsimp only[L2.KOf];refine' DL.GI O G ?nR ?nL ?iR ?iL ?mR ?mL ?uI ?uR ?uL ?vI ?vR ?vL ?w1 ?w2 ?w3 ?z1 ?z2 ?z3 ?bR ?bL ?gI ?gR ?gL
   (case nR=>k_is)
   (case nL=>k_is)
   (case iR=>k_is)
   (case iL=>k_is)
   (case mR=>k_is)
   (case mL=>k_is)
   (case uI=>k_is)
   (case uR=>k_is)
   (case uL=>k_is)
   (case vI=>k_is)
   (case vR=>k_is)
   (case vL=>k_is)
   (case w1=>k_is)
   (case w2=>k_is)
   (case w3=>k_is)
   (case z1=>k_is)
   (case z2=>k_is)
   (case z3=>k_is)
   (case bR=>kernel_rfl)
   (case bL=>kernel_rfl)
   (case gI=>intro _ _ _ _ _ _ us I;obtain⟨_,_,_,rfl⟩:=DL.Il I;rfl)
   (case gR=>intro _ _ _ _ _ _ us I;obtain⟨_,_,rfl⟩:=DL.HJ I;rfl)
   (case gL=>intro _ _ _ _ _ _ us I;obtain⟨_,_,rfl⟩:=DL.HJ I;rfl)
  have a6:DL.DefAt (L2.KOf O) mg "arrow_by" (DL.top 49) ["p","way","table"]:=by
   dsimp only[L2.KOf];refine' DL.GD O G ?a ?l ?c ?k ?b
   (case a=>k_is);(case l=>k_is);(case c=>k_is);(case k=>k_is)
   (case b=>intro _ _ _ _ _ _ us I;obtain⟨_,_,_,rfl⟩:=DL.Il I;rfl)
  obtain⟨f,fd,Fu,hb,hm⟩:=E.Q1c.ex;have e0:=a4.symm.trans hm;cases e0;refine⟨fd,λs u=> .of_eq (hb [u] rfl),λbase kb nb=>?_⟩;obtain⟨CR,CL,fI,fR,fL,dI,dR,dL,q1,q2,q3,q4,U,q6,q7,q8,q9,an,ap,ar,as,ax⟩:=AR.ex;obtain⟨b0,b9,a2,bb,bd⟩:=a6.ex;have a_by:DL.FnBy (Lg).prog w (L2.KOf O) mg base 3 "arrow_by" CR CL:=⟨b0,b9,DL.HH a2 q3 q4 (DL.EI q9 U) (DL.EI q9 q6) ar q1 q2,bd,a2.kp,.all bb⟩;have m_R:DL.MethAt (Lg).prog w (L2.KOf O) mg base 5 CR DL.kS:=⟨U,fR,dR,q7,DL.Ao an U (DL.Am E),as⟩;have m_L:DL.MethAt (Lg).prog w (L2.KOf O) mg base 5 CL DL.j7:=⟨q6,fL,dL,q8,DL.Ap ap q6 (DL.Yu E),ax⟩;have A:DL.E1 (Lg).prog w (L2.KOf O) mg base CR CL:=⟨a_by,m_R,m_L⟩;exact DL.Gz Fu E A
