import PyProof.Rows.All
import Wide.All
import OpenK.AllK
import Wide.FinOn
import Lean
import PyProof.EqAt
import PyProof.EqKinds
import PyProof.TupleCall
import PySem.SetOps
import KE.KSortTup
import PyProof.Rows.SortShellK
import KE.KDictSum
import PyProof.Rows.StrJoin2
import PyProof.Rows.SumAny
import KE.KxText
import PyProof.ZipIter
import PyProof.Rows.FactsT2
import PyProof.Rows.ZipGen
import PyProof.StrOps2
import PyProof.ListRange
import PyProof.ListStr
import PyProof.FString5
import PyProof.AutoSeq1
import PyProof.MinMaxWalk
import PyProof.WalksMore
import PyProof.Rows.CallKwBuiltin
import KE.KMinKey
import PyProof.Rows.BitMore
import Wide.Seal
import PyProof.DictItems
import KE.KPairComp
import PyProof.Rows.TupDisplay
import PyProof.TupleOfStr
import PySem.Challenge.RW_corepetals_k71_cores_counted
open Array renaming filterMap -> kg, forIn_toList -> gA, getD -> hU, getD_eq_getD_getElem? -> b9, getElem?_eq_getElem -> f7, getElem?_eq_none -> kc, getElem?_eq_some_iff -> dH, getElem?_replicate -> jv, getElem?_setIfInBounds_ne -> gX, getElem?_setIfInBounds_self_of_lt -> fJ, getElem?_toList -> aT, length_toList -> aZ, mem_of_getElem? -> fH, mem_toList_iff -> dE, perm_iff_toList_perm -> cY, replicate -> gw, size_append -> cU, size_map -> kB, size_push -> dQ, toList_append -> bJ, toList_push -> cx, toList_reverse -> fT, toList_setIfInBounds -> jc
open Array.Perm renaming refl -> kh
open Bool renaming and_eq_true -> aQ, and_false -> fQ, and_true -> kL, eq_false_iff -> eX, eq_iff_iff -> eG, false_eq_true -> aS, false_ne_true -> a9, not_eq_true' -> dO, not_false -> kC, not_true -> fF, true_and -> fG
open Classical renaming byContradiction -> bj
open False renaming elim -> eF
open ForInStep renaming done -> bo, yield -> bC
open Int renaming emod_lt_of_pos -> gz, emod_nonneg -> iA, le_refl -> kD, natCast_add -> fD, toNat_natCast -> ce
open LawfulBEq renaming eq_of_beq -> hJ
open List renaming Nodup -> iW, Perm -> kF, all_cons -> iq, all_eq_true -> bF, all_map -> iM, any_cons -> jz, any_eq_true -> jN, append_assoc -> aY, append_nil -> bz, countP_eq_length_filter -> iE, drop_append -> fY, drop_append_of_le_length -> ix, drop_eq_getElem_cons -> dW, drop_eq_nil_of_le -> cy, drop_length -> ie, drop_sublist -> jn, drop_zero -> iX, eq_nil_of_length_eq_zero -> cL, ext_getElem -> h9, ext_getElem? -> gM, filterMap_append -> gZ, filterMap_cons -> cE, filter_append -> d6, filter_congr -> eZ, filter_cons -> bt, filter_eq_nil_iff -> fz, filter_map -> km, filter_nil -> kj, filter_sublist -> iG, find?_cons -> dA, flatMap_append -> dP, flatMap_cons -> bV, flatMap_map -> ij, flatMap_nil -> ii, flatMap_singleton -> gU, flatten_append -> f9, flatten_singleton -> eK, foldl_cons -> kf, forIn_cons -> cZ, forIn_nil -> fR, getD_eq_getElem?_getD -> aj, getElem?_append_left -> dU, getElem?_append_right -> cg, getElem?_cons_succ -> jK, getElem?_cons_zero -> jS, getElem?_drop -> iY, getElem?_eq_getElem -> ah, getElem?_eq_none -> ci, getElem?_eq_some_iff -> aA, getElem?_map -> aF, getElem?_set_ne -> fK, getElem?_take_of_lt -> gk, getElem_drop -> gO, getElem_map -> ic, getElem_mem -> cS, getElem_of_mem -> bO, getElem_take -> gN, getLastD_cons -> je, length -> eM, length_append -> aq, length_cons -> aV, length_drop -> bm, length_eq_zero_iff -> gF, length_eraseIdx_of_lt -> i9, length_filter_le -> br, length_map -> af, length_nil -> cu, length_pos_iff -> dj, length_range -> dl, length_range' -> gB, length_singleton -> dX, length_take -> aK, lookup_cons -> da, mapM_toArray -> jp, map_append -> aO, map_congr_left -> eI, map_cons -> aL, map_map -> bH, map_nil -> fx, mem_append -> aN, mem_append_left -> cH, mem_append_right -> bi, mem_cons -> aB, mem_cons_of_mem -> ao, mem_cons_self -> am, mem_filter -> bq, mem_filterMap -> fw, mem_flatMap -> fq, mem_map -> bD, mem_of_getElem? -> ak, mem_of_mem_drop -> cI, mem_of_mem_take -> cJ, mem_range -> bu, mem_reverse -> jQ, mem_singleton -> aI, mergeSort_perm -> iF, nil_append -> bY, nodup_append -> dq, nodup_cons -> bN, nodup_nil -> eB, nodup_range -> jJ, not_mem_nil -> db, of_mem_zip -> ke, pairwise_append -> bB, pairwise_cons -> bb, pairwise_iff_getElem -> de, pairwise_map -> eY, pairwise_mergeSort -> gG, pairwise_reverse -> g7, pairwise_singleton -> cq, perm_append_comm -> dY, perm_append_singleton -> iZ, perm_middle -> fX, range -> aH, range' -> bZ, range'_concat -> jf, range_succ -> fC, replicate -> fM, reverse_perm -> jq, size_toArray -> ar, sublist_append_left -> jD, sum_cons -> cB, take_add_one -> bT, take_append_drop -> bL, take_append_of_le_length -> eC, take_length -> cv, take_of_length_le -> bG, take_sublist -> gH, zipIdx_cons -> jR, zip_cons_cons -> d0, zip_nil_left -> jo, zip_nil_right -> eO
open List.Pairwise renaming filter -> fV, imp -> kP, imp_of_mem -> du, nil -> gT
open List.Perm renaming append_left -> eQ, append_right -> eJ, refl -> dI
open Ne renaming symm -> b8
open Option renaming getD_none -> jH, isSome_iff_exists -> cR, map_eq_some_iff -> a6
open Option.some renaming inj -> aM
open Or renaming inl -> aW, inr -> gb
open PyProof.Rows renaming AllBare -> jj, IntsAre -> iI, IsTup -> jh, Keyed -> aP, SortKind -> fm, SortSt -> cW, StrsAre -> kb, arrOf -> aU, boot_enumerate -> iJ, callWith_type1 -> cT, elem' -> eP, envOfC -> jt, failedOf -> fS, get?_update_seq -> gx, lt_str -> kG, mirror -> dR, pairsOf -> ir, pairsOf_toList -> jd, pendingOf -> bR, reverseSlice'_eq -> dG, seqObj -> cG, setArr -> cV, setPending -> fU, slot_tuple_getitem -> cC, sortedHeap -> hZ, wpS_bind -> ax, wpS_forRange -> bU, wpS_get -> iN, wpS_lift -> jb, wpS_modify -> cX, wpS_mono -> dF, wpS_pure -> aD
open PyProof.Rows.F renaming entry_set_update_loop -> dh, plain_set_update_loop -> b7
open PyProof.Rows.SortSt renaming mk' -> ja
open PySem renaming Around -> a7, Builtin -> b4, Comprehension -> ju, DictEntry -> jF, Fin -> iP, FuncData -> eA, Heap -> bf, IsItemIter -> gC, IsPair -> ff, IsTupleKey -> j5, IsZip -> iH, Keyword -> fy, NameKind -> fB, Paired -> a8, Program -> aC, SetTable -> aX, Shared -> ai, Value -> ae, World -> aR, assignEach -> fb, attributeBase -> d8, backTo -> cz, backToKw -> iU, behindInMarks -> eL, binaryOp -> eH, bootBuiltins -> bQ, cLine -> cb, call_meets -> j4, carriedByValue -> i4, cellsFrom -> gD, codeAny -> jm, codeAny_builtin -> c5, codeAny_mono -> fW, compEnvC -> kz, compTurn -> iV, compareOp -> cQ, concat_meets -> jZ, firstArgMember -> i6, foldedSetIterable -> eE, getItem -> j0, holding -> io, isSubtype_stop -> i7, keywordEach -> fP, letOwnedTupleGo -> iz, mainGlobals -> bn, mem_of_lookup -> fg, model -> aJ, noFill_tuple_add -> jG, ofAClassStatement -> fI, pickOrder -> iO, plainId_quiet -> gp, pushCells -> jI, putSet_of -> hX, pyNext -> fh, rawInt -> eR, relayAll -> jL, setAddHashed -> j6, setField -> iw, sizeLine_eq -> bh, sliceBounds -> ft, starEach -> av, strKind -> eg, swapsWith -> g9, sysModules -> e8, unsupported -> fu, wpAny -> aE, wpAny_Call_Name_kw -> iT, wpAny_askSetting -> fj, wpAny_attempt -> fc, wpAny_bind -> aa, wpAny_callSpecial?_slot -> bK, wpAny_call_entry -> bI, wpAny_dictEntries -> jr, wpAny_eqBool_tuple -> i5, wpAny_field -> cj, wpAny_fieldsOf -> gS, wpAny_forIn_list -> hW, wpAny_holding -> bW, wpAny_isInstance -> fk, wpAny_isOneOf_itemiter -> fA, wpAny_ite_split -> iC, wpAny_loadPart' -> eV, wpAny_mono -> e9, wpAny_newList -> jy, wpAny_newObj_type -> bA, wpAny_onRaise -> iu, wpAny_passesOwn -> gv, wpAny_pure -> ad, wpAny_pyIter_enum -> gR, wpAny_pyIter_list -> gQ, wpAny_pyIter_tuple -> eN, wpAny_rule -> dN, wpAny_seqItems -> cP, wpAny_setField_rec -> bd, wpAny_setState_of -> dJ, wpAny_standAt -> js, wpAny_storeSet_of -> gP, wpAny_truthy_bool -> eD, wpAny_typeNameOfWhole_itemiter -> d7, wpAny_typeNameOf_itemiter -> eU, wpAny_typeOf -> gK, wpAny_updateSeq -> iD, wpAny_updateSeq_pair -> iy
open PySem.Around renaming under_plainId -> cK
open PySem.AutoSeq1 renaming sub_tuple_tuple -> gq, wpAny_loadPart' -> jC
open PySem.Builtin.Dict renaming showsAll -> kx
open PySem.Builtin.Dict_items renaming ownedTupleFields -> gu, ownsTuple -> fE, pairFromOwner -> gV
open PySem.Builtin.Frozenset renaming updateFrom -> iB
open PySem.Builtin.Int renaming intBits -> kH
open PySem.Builtin.List renaming listExtendWith -> iL, listLengthHint -> iK, listSameRef -> jx, listTooLong -> d9
open PySem.Builtin.Slice renaming sliceAdjust -> fZ, sliceApplied -> fN, slicePlaces -> eS
open PySem.Builtin.SmallTypes renaming nextOf -> cM, ownedTupleHandOut -> gc, ownedTupleIsFree -> dw
open PySem.Builtin.Str renaming strSliceIndices -> ca
open PySem.Builtin.Tuple renaming tupleCompareSizes -> gY, tupleExact -> cA, tupleItemsOf -> fO
open PySem.Calls renaming Name_function_global -> iQ, callWith_builtin -> gL, call_function_entry -> f6, spliced_cons -> iS
open PySem.Code renaming compLoop -> kI
open PySem.Expr renaming Call -> ig
open PySem.F renaming args_tuple_add_2 -> gn, args_tuple_lt_2 -> jO, called_set -> bE, entry_extend_loop -> jg, entry_set_init -> j8, entry_tuple_add -> gE, entry_tuple_lt -> ka, entry_type_call -> jM, plainAttrs_dict -> jT, plainAttrs_list -> fo, plain_extend_loop -> eT, plain_list_iadd -> jP, plain_set_new -> ko, slot_dict_get -> ku, slot_dict_items -> jU, slot_list_extend -> jA, slot_set_iter -> kr, slot_tuple_add -> gJ, slot_tuple_lt -> g6, typeCall_set_1 -> j7, type_list_extend -> jB
open PySem.Heap renaming IsTuple -> j9, SameBut -> c8, get?_push_of_some -> ag, get?_push_size -> au, get?_update_other -> cN, get?_update_self -> cD, lt_size -> ay, size_push -> b5
open PySem.Heap.SameBut renaming extBut -> gj, refl -> kN, update -> b6
open PySem.NameKind renaming cell -> ip, free -> be
open PySem.Obj renaming mapSeq -> bX, putSet -> dZ
open PySem.Paired renaming length -> bP
open PySem.PassesOwn renaming never -> cf
open PySem.SeqAt renaming EqAt -> dD, RcNeAt -> cO
open PySem.SeqAt.EqAt renaming of_refs -> kM, same -> ki, str_str -> i8
open PySem.SetTable renaming fill -> kK, fits -> kJ, fresh -> kA, grown -> dM
open PySem.Shared renaming TypeIs -> jw
open PySem.Str renaming ofString -> aG
open PySem.Value renaming bool -> jX, int -> g8, isStrOf -> ik, isStrOf_shape -> f8, none -> bM, ref -> cr, str -> jE, type -> dg
open PySem.W renaming Frag -> az, cellsFrom_some -> jY, codeIn -> gI, fnOf -> eW, instObj -> kd, keepIn -> fL, kia_one -> cF, kitOne -> iR, kitx_list -> jl, lookIn -> ky, methodObj -> ji, nsIn -> bS
open PySem.pickOrder renaming go -> kO
open Sum renaming inl -> jV, inr -> jW
open True renaming intro -> gy
set_option Elab.async false
set_option linter.all false
set_option maxRecDepth 100000
namespace L2
open PySem PySem.Spec PyProof.Rows
abbrev Key:=Sum Int Str
def dQk:Key->ae->Bool
 | .inl k,v=>ae.isInt k v
 | .inr x,v=>ik x v
def keyH (w:aR):Key->Int
 | .inl k=>hashInt k
 | .inr x=>hashStr w x
theorem aQh:∀ {k:Key} {v:ae},dQk k v=true->(∃ i t,k=jV i/\v=g8 i t)\/(∃ x t,k=jW x/\v=jE x t)
 | .inl i,v,h=>by
  obtain⟨t,e⟩:=ae.isInt_shape (k:=i) (v:=v) h;exact .inl ⟨i,t,rfl,e⟩
 | .inr x,v,h=>by
  obtain⟨t,e⟩:=f8 (x:=x) (v:=v) h;exact .inr ⟨x,t,rfl,e⟩
theorem eXn (a b:Int):decide ((jV a:Key)=jV b)=(a == b):=by
 by_cases e:a=b
 ·subst e;simp
 ·have h:¬ (jV a:Key)=jV b:=λq=>e (jV.inj q);rw[decide_eq_false h];exact(beq_eq_false_iff_ne.mpr e).symm
theorem eXo (a b:Str):decide ((jW a:Key)=jW b)=decide (a=b):=by
 by_cases e:a=b
 ·subst e;simp
 ·have h:¬ (jW a:Key)=jW b:=λq=>e (jW.inj q);rw[decide_eq_false h,decide_eq_false e]
theorem eXp (a:Int) (b:Str):decide ((jV a:Key)=jW b)=false:=decide_eq_false (λq=>nomatch q)
theorem eXq (a:Str) (b:Int):decide ((jW a:Key)=jV b)=false:=decide_eq_false (λq=>nomatch q)
def aJr (prog:aC) (w:aR):PySem.KeyKind prog w Key where
 is:=dQk
 hash:=keyH w
 inj:=λv a b ha hb=>by
  rcases aQh ha with⟨i,t,rfl,rfl⟩ | ⟨x,t,rfl,rfl⟩
  ·rcases aQh hb with⟨j,u,rfl,e⟩ | ⟨y,u,rfl,e⟩
   ·injection e with e1 _;rw[e1]
   ·exact nomatch e
  ·rcases aQh hb with⟨j,u,rfl,e⟩ | ⟨y,u,rfl,e⟩
   ·exact nomatch e
   ·injection e with e1 _;rw[e1]
 byValue:=λk v h=>by
  rcases aQh h with⟨i,t,rfl,rfl⟩ | ⟨x,t,rfl,rfl⟩ <;> rfl
 pyHash:=λhv h=>by
  rcases aQh hv with⟨i,t,rfl,rfl⟩ | ⟨x,t,rfl,rfl⟩
  ·exact wpAny_pyHash_int h
  ·exact wpAny_pyHash_str h
 eqBool:=λhu hv h=>by
  rcases aQh hu with⟨i,t,rfl,rfl⟩ | ⟨x,t,rfl,rfl⟩
  ·rcases aQh hv with⟨j,u,rfl,rfl⟩ | ⟨y,u,rfl,rfl⟩
   ·rw[eXn] at h;exact wpAny_eqBool_int h
   ·rw[eXp] at h;exact dD.int_str i t y u _ _ _ _ h
  ·rcases aQh hv with⟨j,u,rfl,rfl⟩ | ⟨y,u,rfl,rfl⟩
   ·rw[eXq] at h;exact dD.str_int x t j u _ _ _ _ h
   ·rw[eXo] at h;exact wpAny_eqBool_str h
 «strs»:=λk x t v h=>by
  rcases aQh h with⟨i,u,rfl,e⟩ | ⟨y,u,rfl,e⟩
  ·exact nomatch e
  ·injection e with e1 _
   subst e1;cases v <;> rfl
inductive V where
 | non | bl (b:Bool) | int (i:Int) | str (x:Str) | byt (b:Array UInt8) | flt (b:UInt64) | ref (a:Addr) | ty (n:String)
 deriving DecidableEq
def RelV:V->ae->Prop
 | .non,u=>u=bM
 | .bl b,u=>u=jX b
 | .int i,u=>∃ t,u=g8 i t
 | .str x,u=>∃ t,u=jE x t
 | .byt b,u=>∃ t,u=ae.bytes b t
 | .flt b,u=>∃ t,u=ae.float b t
 | .ref a,u=>u=cr a
 | .ty n,u=>u=dg n
abbrev Vals:List V->List ae->Prop:=a8 RelV
theorem Vals.length {xs:List V} {us:List ae} (r:Vals xs us):xs.length=us.length:=bP r
theorem Vals.get:∀ {xs:List V} {us:List ae} {i:Nat} {x:V},Vals xs us->xs[i]?=some x->∃ u,us[i]?=some u/\RelV x u
 | _,_,_,_,.nil,e=>by simp at e
 | _,_,0,_,.cons r _,e=>by simp at e;subst e;exact⟨_,rfl,r⟩
 | _,_,i + 1,x,.cons _ t,e=>by
  obtain⟨u,h1,h2⟩:=Vals.get (i:=i) (x:=x) t (by simpa using e)
  exact⟨u,by simpa using h1,h2⟩
theorem Vals.set {x:V} {u:ae} (r:RelV x u):∀ {xs:List V} {us:List ae} (i:Nat),Vals xs us->Vals (xs.set i x) (us.set i u)
 | _,_,_,.nil=>.nil
 | _,_,0,.cons _ t=>.cons r t
 | _,_,i + 1,.cons q t=>.cons q (Vals.set r i t)
theorem Vals.append:∀ {xs ys:List V} {us ws:List ae},Vals xs us->Vals ys ws->Vals (xs++ys) (us++ws)
 | _,_,_,_,.nil,s=>s
 | _,_,_,_,.cons r t,s=>.cons r (Vals.append t s)
theorem Vals.take:∀ {xs:List V} {us:List ae} (n:Nat),Vals xs us->Vals (xs.take n) (us.take n)
 | _,_,0,_=>.nil
 | _,_,_ + 1,.nil=>.nil
 | _,_,n + 1,.cons r t=>.cons r (Vals.take n t)
theorem Vals.drop:∀ {xs:List V} {us:List ae} (n:Nat),Vals xs us->Vals (xs.drop n) (us.drop n)
 | _,_,0,r=>r
 | _,_,_ + 1,.nil=>.nil
 | _,_,n + 1,.cons _ t=>Vals.drop n t
def RelO:Option V->Option ae->Prop
 | some v,some u=>RelV v u
 | none,none=>True
 | _,_=>False
def KV {κ:Type}:List (κ × V)->List (κ × ae)->Prop:=a8 λ(p:κ × V) (q:κ × ae)=>p.1=q.1/\RelV p.2 q.2
def kV:Key->V
 | .inl i=>.int i
 | .inr x=>.str x
inductive HO where
 | lst (xs:List V)
 | tup (xs:List V)
 | dK (kvs:List (Key × V)) | dT (kvs:List (List Key × V))
 | set (S:Int->Bool) (n:Nat)
 | ins (C dx:Addr) (fs:List (Str × V))
 | own (x:Addr)
 | xd (fs:List (Str × V))
 | met (f x:Addr)
 | rng (lo hi:Int)
 | frz (o:Obj) (u:HO)
 | tbl (ps:Array ae)
 | ext (φ:bf->Prop)
abbrev Hp:=Addr->Option HO
def upd (H:Hp) (a:Addr) (o:HO):Hp:=λb=>if b=a then some o else H b
theorem aQa {H:Hp} {a:Addr} {o:HO}:upd H a o a=some o:=by unfold upd;rw[if_pos rfl]
theorem upd_ne {H:Hp} {a b:Addr} {o:HO} (h:b≠a):upd H a o b=H b:=by unfold upd;rw[if_neg h]
theorem aQ6 {H:Hp} {a b:Addr} {o:HO} (h:H a=some o) (h':H b=none):a≠b:=by
 intro e;subst e;rw[h] at h';cases h'
section
variable (P:aC) (w:aR)
def ObjOk (H:Hp) (h:bf) (a:Addr):HO->Prop
 | .lst xs=>xs.length<=sizeLine/\∃ (its:List ae) (n:Nat),Vals xs its/\h.get? a=some { cls:=.type "list",data:=.seq its.toArray n }
 | .tup xs=>xs.length<=sizeLine/\∃ its:List ae,Vals xs its/\jh h a its.toArray/\∀ o,h.get? a=some o->o.dict=none
 | .dK kvs=>kvs.length<=sizeLine/\(a == e8)=false/\∃ vs,KV kvs vs/\h.DictOf (aJr P w) a vs
 | .dT kvs=>kvs.length<=sizeLine/\(a == e8)=false/\∃ xs:List (List Key × Addr × ae),
   a8 (λ(p:List Key × V) (q:List Key × Addr × ae)=>p.1=q.1/\H q.2.1=some (.tup (p.1.map kV))/\RelV p.2 q.2.2) kvs xs /\
   ∃ o es ep,h.get? a=some o/\o.ExactDict/\o.data=.dict es ep/\es.toList=xs.map (entryOfKey (tupleKind (aJr P w)))/\(xs.map (·.1)).Nodup
 | .set S n=>h.SetOf (intKind P w) a S n
 | .ins C dx fs=>H dx=some (.own a)/\fs.length<=1000/\dx≠a/\h.get? a=some (kd C dx) /\
   ∃ mA,h.Ns1 dx mA/\(∀ f,RelO (fs.lookup f) (mA f))/\PySem.Within mA (fs.map (·.1))
 | .own _=>∃ o,h.get? a=some o
 | .xd fs=>∃ mA,h.Ns1 a mA/\∀ f,RelO (fs.lookup f) (mA f)
 | .rng lo hi=>∃ t u v,h.get? a=some { cls:=.type "range",data:=.fields #[.int lo t,.int hi u,.int 1 v] }
 | .frz o u=>h.get? a=some o/\ObjOk H h a u
 | .tbl ps=>h.get? a=some { cls:=.none,data:=.fields ps }
 | .met f x=>h.get? a=some (ji (.ref f) (.ref x))
 | .ext φ=>φ h/\(∃ o,h.get? a=some o)/\∀ h1 h2:bf,φ h1->(∀ o,h1.get? a=some o->h2.get? a=some o)->φ h2
def HOk (H:Hp) (h:bf):Prop:=∀ a o,H a=some o->ObjOk P w H h a o
end
section
variable {P:aC} {w:aR} {H H':Hp} {h h':bf} {a:Addr} {o:HO}
theorem ObjOk.lt (x:ObjOk P w H h a o):a < h.objs.size:=by
 cases o with
 | lst xs=>obtain⟨_,_,_,_,e⟩:=x;exact ay e
 | tup xs=>obtain⟨_,_,_,p⟩:=x;exact p.1.lt
 | dK j=>obtain⟨_,_,_,_,o,_,_,e,_⟩:=x;exact ay e
 | dT j=>obtain⟨_,_,_,_,o,_,_,e,_⟩:=x;exact ay e
 | set S n=>obtain⟨o,_,_,_,e,_⟩:=x;exact ay e
 | ins C dx fs=>obtain⟨_,_,_,e,_⟩:=x;exact ay e
 | own y=>obtain⟨_,e⟩:=x;exact ay e
 | xd fs=>obtain⟨_,⟨_,_,_,e,_⟩,_⟩:=x;exact ay e
 | rng lo hi=>obtain⟨_,_,_,e⟩:=x;exact ay e
 | frz B u=>obtain⟨e,_⟩:=x;exact ay e
 | tbl ps=>exact ay (show h.get? a=some _ from x)
 | met f y=>exact ay (show h.get? a=some _ from x)
 | ext φ=>obtain⟨_,⟨_,e⟩,_⟩:=x;exact ay e
theorem Paired.mapP {α β:Type} {F G:α->β->Prop}:∀ {l₁:List α} {l₂:List β},a8 F l₁ l₂->(∀ a b,F a b->G a b)->a8 G l₁ l₂
 | _,_,.nil,_=>.nil
 | _,_,.cons r t,f=>.cons (f _ _ r) (Paired.mapP t f)
theorem ObjOk.stay (x:ObjOk P w H h a o) (k:∀ b u,(b=a\/H b=some (.own a))->h.get? b=some u->h'.get? b=some u)
  (ho:∀ b,H b=some (.own a)->H' b=some (.own a)) (ht:∀ b xs,H b=some (.tup xs)->H' b=some (.tup xs)):ObjOk P w H' h' a o:=by
 induction o with
 | lst xs=>obtain⟨z,B,n,r,e⟩:=x;exact⟨z,B,n,r,k _ _ (.inl rfl) e⟩
 | tup xs =>
  obtain⟨z,B,r,⟨j,e,c⟩,nd⟩:=x;exact⟨z,B,r,⟨j,k _ _ (.inl rfl) e,c⟩,λo q=>by rw[k _ _ (.inl rfl) e] at q;cases q;exact nd _ e⟩
 | dK I=>obtain⟨z,y,vs,r,j,es,ep,e,c⟩:=x;exact⟨z,y,vs,r,j,es,ep,k _ _ (.inl rfl) e,c⟩
 | dT I =>
  obtain⟨z,y,xs,r,j,es,ep,e,c⟩:=x;exact⟨z,y,xs,Paired.mapP r λp q z=>⟨z.1,ht _ _ z.2.1,z.2.2⟩,j,es,ep,k _ _ (.inl rfl) e,c⟩
 | set S n=>obtain⟨j,es,ep,t,e,c⟩:=x;exact⟨j,es,ep,t,k _ _ (.inl rfl) e,c⟩
 | ins C dx fs =>
  obtain⟨d,z,ne,e,G,⟨D,es,ep,L,c⟩,r⟩:=x;exact⟨ho _ d,z,ne,k _ _ (.inl rfl) e,G,⟨D,es,ep,k _ _ (.inr d) L,c⟩,r⟩
 | own y=>obtain⟨j,e⟩:=x;exact⟨j,k _ _ (.inl rfl) e⟩
 | xd fs=>obtain⟨G,⟨D,es,ep,e,c⟩,r⟩:=x;exact⟨G,⟨D,es,ep,k _ _ (.inl rfl) e,c⟩,r⟩
 | rng lo hi=>obtain⟨t,u,v,e⟩:=x;exact⟨t,u,v,k _ _ (.inl rfl) e⟩
 | frz j u J=>obtain⟨e,q⟩:=x;exact⟨k _ _ (.inl rfl) e,J q⟩
 | tbl ps =>
  have e:h.get? a=some { cls:=.none,data:=.fields ps }:=x;show h'.get? a=some { cls:=.none,data:=.fields ps };exact k a _ (.inl rfl) e
 | met f y =>
  have e:h.get? a=some (ji (.ref f) (.ref y)):=x;show h'.get? a=some (ji (.ref f) (.ref y));exact k a _ (.inl rfl) e
 | ext φ=>obtain⟨p,⟨o,e⟩,st⟩:=x;exact⟨st _ _ p λo q=>k _ _ (.inl rfl) q,⟨o,k _ _ (.inl rfl) e⟩,st⟩
theorem bJu {g:bf} {arr:Array ae} {n:Nat}:∀ o,(g.push { cls:=.type "tuple",data:=.seq arr n }).get? g.objs.size=some o->o.dict=none:=λo e=>by
 rw[au _ rfl] at e;cases e;rfl
theorem HOk.lt (x:HOk P w H h) (e:H a=some o):a < h.objs.size:=(x a o e).lt
theorem HOk.fresh (x:HOk P w H h) (e:h.objs.size<=a):H a=none:=by
 cases q:H a with
 | none=>rfl
 | some u=>exact absurd (Nat.lt_of_lt_of_le (x.lt q) e) (Nat.lt_irrefl _)
theorem HOk.kept (x:HOk P w H h) (k:∀ b u,h.get? b=some u->h'.get? b=some u):HOk P w H h':=λa o e =>
 (x a o e).stay (λb u _ q=>k b u q) (λ_ q=>q) λ_ _ q=>q
theorem HOk.laid (x:HOk P w H h) (k:∀ b u,h.get? b=some u->h'.get? b=some u) (hp:h.objs.size<=a) (new:ObjOk P w (upd H a o) h' a o):HOk P w (upd H a o) h':=λb u e=>by
 have j:=x.fresh hp
 by_cases B:b=a
 ·subst B;rw[aQa] at e;cases e;exact new
 ·rw[upd_ne B] at e;exact(x b u e).stay (λc v _ q=>k c v q) (λc q=>by rw[upd_ne (aQ6 q j)];exact q) λc xs q=>by rw[upd_ne (aQ6 q j)];exact q
end
def Rd (H:Hp) (a:Addr) (u:HO):Prop:=H a=some u\/∃ o,H a=some (.frz o u)
theorem Rd.ok {P:aC} {w:aR} {H:Hp} {h:bf} {a:Addr} {u:HO} (r:Rd H a u) (x:HOk P w H h):ObjOk P w H h a u:=by
 rcases r with r | ⟨o,r⟩
 ·exact x a u r
 ·obtain⟨_,q⟩:=x a _ r;exact q
def Mut:Option HO->Prop
 | some (.lst _)=>True
 | some (.dK _)=>True
 | some (.dT _)=>True
 | some (.set _ _)=>True
 | some (.ins _ _ _)=>True
 | some (.ext _)=>True
 | _=>False
section
variable {P:aC} {w:aR} {H:Hp} {h h':bf} {x e:Addr} {o':HO}
theorem HOk.write (ok:HOk P w H h) (mu:Mut (H x)) (he:e=x\/H e=some (.own x)) (k:∀ b u,b≠e->h.get? b=some u->h'.get? b=some u) (heo:∃ u,h'.get? e=some u)
  (new:ObjOk P w (upd H x o') h' x o'):HOk P w (upd H x o') h':=λb u q=>by
 have B:∀ c y,H c=some (.own y)->c≠x:=λc y r z=>by subst z;rw[r] at mu;exact mu
 have ntup:∀ c xs,H c=some (.tup xs)->c≠x:=λc xs r z=>by subst z;rw[r] at mu;exact mu
 by_cases G:b=x
 ·subst G;rw[aQa] at q;cases q;exact new
 ·rw[upd_ne G] at q
  by_cases j:b=e
  ·have q':H b=some (.own x):=by
    rcases he with z | z
    ·exact absurd (j.trans z) G
    ·rw[j];exact z
   rw[q] at q';cases q';obtain⟨v,I⟩:=heo;exact⟨v,by rw[j];exact I⟩
  ·refine(ok b u q).stay (λc v D r=>k c v ?_ r) (λc r=>by rw[upd_ne (B c b r)];exact r) λc xs r=>by rw[upd_ne (ntup c xs r)];exact r
   rcases D with rfl | D
   ·exact j
   ·rintro rfl;rcases he with z | z
    ·exact B c b D z
    ·rw[D] at z;cases z;exact G rfl
end
structure Un (fs ex:List Addr) (H H':Hp) (h h':bf):Prop where
 keep:∀ b o,h.get? b=some o->H b=none->b∉fs->b∉ex->h'.get? b=some o
 slot:∀ b o,h.get? b=some o->H b=none->b∈fs->b∉ex->∃ sl,h'.get? b=some { o with slots:=sl }
 free:∀ b o,h.get? b=some o->H b=none->b∉ex->H' b=none
 there:∀ b o,h.get? b=some o->b∉ex->∃ o',h'.get? b=some o'
 tups:∀ b xs,H b=some (.tup xs)->H' b=some (.tup xs)
 frzs:∀ b o u,H b=some (.frz o u)->H' b=some (.frz o u)
 tbls:∀ b ps,H b=some (.tbl ps)->∃ more,H' b=some (.tbl (ps++more))
section
variable {fs fs' ex ex':List Addr} {H H1 H2:Hp} {h h1 h2 h':bf} {a x e:Addr} {o:HO}
theorem Un.any (u:Un fs ex H H1 h h1) {b:Addr} {ob:Obj} (q:h.get? b=some ob) (n:H b=none) (hx:b∉ex):∃ sl,h1.get? b=some { ob with slots:=sl }:=by
 by_cases j:b∈fs
 ·exact u.slot b ob q n j hx
 ·exact⟨ob.slots,u.keep b ob q n j hx⟩
theorem Un.kept (k:∀ b u,h.get? b=some u->h'.get? b=some u):Un fs ex H H h h' :=
 ⟨λb j q _ _ _=>k b j q,λb j q _ _ _=>⟨j.slots,k b j q⟩,λ_ _ _ n _=>n,λb j q _=>⟨j,k b j q⟩,λ_ _ q=>q,λ_ _ _ q=>q,λ_ ps q=>⟨#[],by rw[q];simp⟩⟩
theorem Un.refl:Un fs ex H H h h:=Un.kept λ_ _ q=>q
theorem Un.laid (k:∀ b u,h.get? b=some u->h'.get? b=some u) (hp:h.objs.size<=a) (hn:H a=none):Un fs ex H (upd H a o) h h' where
 keep:=λb u q _ _ _=>k b u q
 slot:=λb u q _ _ _=>⟨u.slots,k b u q⟩
 free:=λb u q n _=>by rw[upd_ne (Nat.ne_of_lt (Nat.lt_of_lt_of_le (ay q) hp))];exact n
 there:=λb u q _=>⟨u,k b u q⟩
 tups:=λb xs q=>by rw[upd_ne (aQ6 q hn)];exact q
 frzs:=λb u xs q=>by rw[upd_ne (aQ6 q hn)];exact q
 tbls:=λb ps q=>⟨#[],by rw[upd_ne (aQ6 q hn),q];simp⟩
theorem Un.write (mu:Mut (H x)) (he:e=x\/H e=some (.own x)) (k:∀ b u,b≠e->h.get? b=some u->h'.get? b=some u) (heo:∃ u,h'.get? e=some u):Un fs ex H (upd H x o) h h':=by
 have B:∀ b,H b=none->b≠x:=λb n z=>by subst z;rw[n] at mu;exact mu
 have D:∀ b,H b=none->b≠e:=λb n z=>by
  subst z;rcases he with r | r
  ·exact B b n r
  ·rw[n] at r;cases r
 have hm:∀ b u,H b=some u->¬ Mut (some u)->b≠x:=λb u q nm z=>by subst z;rw[q] at mu;exact nm mu
 refine⟨λb u q n _ _=>k b u (D b n) q,λb u q n _ _=>⟨u.slots,k b u (D b n) q⟩,λb u q n _=>by rw[upd_ne (B b n)];exact n,λb u q _=>?_,
  λb xs q=>by rw[upd_ne (hm b _ q λz=>z)];exact q,λb u xs q=>by rw[upd_ne (hm b _ q λz=>z)];exact q,λb ps q=>⟨#[],by rw[upd_ne (hm b _ q λz=>z),q];simp⟩⟩
 by_cases j:b=e
 ·subst j;exact heo
 ·exact⟨u,k b u j q⟩
end
def trk (h:bf) (H:Hp):List Addr:=(aH h.objs.size).filter λa=>(H a).isSome
def hidT (h:bf) (H:Hp):bf:=PySem.W.hideAll h (trk h H)
theorem cZz (h:bf) (H:Hp):(hidT h H).objs.size=h.objs.size:=PySem.W.hideAll_size _ _
theorem dQl {h:bf} {H:Hp} {b:Addr} {o:Obj} (e:h.get? b=some o) (n:H b=none):(hidT h H).get? b=some o :=
 PySem.W.hideAll_get _ e λhm=>by
  have q:(H b).isSome=true:=(bq.mp hm).2;rw[n] at q;simp at q
theorem dJc {h:bf} {H:Hp} {b:Addr} {o:Obj} (e:(hidT h H).get? b=some o):h.get? b=some o/\H b=none:=by
 have j:h.get? b=some o:=PySem.W.of_hideAll (trk h H) e;refine⟨j,?_⟩;cases q:H b with
 | none=>rfl
 | some x =>
  have hm:b∈trk h H:=bq.mpr ⟨bu.mpr (ay j),by simp[q]⟩
  have z:(hidT h H).get? b=none:=PySem.W.hideAll_none (trk h H) hm;rw[z] at e;cases e
structure Mod (K:az) (mg:Str->Option ae) (base:bf):Prop where
 kin:K.In base
 glob:base.Ns bn mg
 blt:∃ mb,base.Ns builtinsNs mb/\∀ x:Str,x ≠ "__name__"->mb x=bQ x
 nolimit:base.NoLimit
structure Cx where
 prog:aC
 w:aR
 K:az
 mg:Str->Option ae
 base:bf
 A:a7
 N:List Str
 s₀:ai
 H₀:Hp
 env:Env
 outer:List Env
 stack:List Env
 ex:List Addr
 fn:Str->Bool
 calm:Bool
 pn:List (Addr × Obj)
 xe:ae->ai->Prop
def frs (l:List Env):List Addr:=l.filterMap (·.frame)
abbrev Cx.fs (X:Cx):List Addr:=frs X.outer
def Vis (sc:Scope) (x:Str):Prop:=sc.names.lookup x=some .local\/sc.names.lookup x=some .cell\/sc.names.lookup x=some .free
def Loc (sc:Scope) (x:Str):Prop:=sc.names.lookup x=some .local\/sc.names.lookup x=some .cell
def Look (env:Env) (h:bf) (m:Str->Option ae) (x:Str) (u:ae):Prop :=
 (env.kindOf x=some .local/\m x=some u)\/((env.kindOf x=some .cell\/env.kindOf x=some .free)/\∃ c,env.cells.lookup x=some c/\h.IsCell c (some u))
structure Cx.Ok (X:Cx):Prop where
 mod:Mod X.K X.mg X.base
 kind:X.env.scope.kind=.function
 glob:X.env.globals=bn
 blt:X.env.builtins=builtinsNs
 above:X.s₀.heap.objs.size<=X.env.locals
 inj:∀ x y c,X.env.cells.lookup x=some c->X.env.cells.lookup y=some c->x=y
 has:∀ x,(X.env.kindOf x=some .cell\/X.env.kindOf x=some .free)->∃ c,X.env.cells.lookup x=some c
 cab:∀ x c,X.fn x=true->X.env.cells.lookup x=some c->X.s₀.heap.objs.size<=c
 hd:X.calm=true->X.A.handled=none
 frames:X.A.frames=some X.stack
 gd:X.A.guards=some []
 stk:X.stack=X.outer\/(X.stack=X.env::X.outer/\X.env.frame=some X.env.locals)
 exf:∀ b∈X.ex,b≠X.env.locals/\∀ x c,X.env.cells.lookup x=some c->c≠b
 bs:∀ b o,X.base.get? b=some o->X.s₀.heap.get? b=some o/\X.H₀ b=none
 bsz:X.base.objs.size<=X.s₀.heap.objs.size
 noex:∀ b o,X.base.get? b=some o->b∉X.ex
 exfs:∀ b∈X.ex,b∉X.fs
 funs:X.s₀.heap.FunFrames X.base X.outer
 frf:∀ b∈X.fs,X.H₀ b=none
structure Inv (X:Cx) (pins:List (Addr × Obj)) (σ:List (Option V)) (H:Hp) (s:ai):Prop where
 ok:X.Ok
 os:s.os=X.s₀.os
 bare:jj s.gens
 base:Un X.fs X.ex X.H₀ H X.s₀.heap s.heap
 loc:∃ m,s.heap.Ns X.env.locals m/\∀ (i:Nat) (x:Str) (v:V),X.N[i]?=some x->σ[i]?=some (some v)->Vis X.env.scope x->∃ u,RelV v u/\Look X.env s.heap m x u
 cell:∀ x c,X.env.cells.lookup x=some c->∃ v,s.heap.IsCell c v
 free:H X.env.locals=none
 freeC:∀ x c,X.env.cells.lookup x=some c->H c=none
 pin:∀ p∈X.pn++pins,s.heap.get? p.1=some p.2/\H p.1=none/\p.1≠X.env.locals/\p.1∉X.fs/\∀ v,p.2.data≠.cell v
 hok:HOk X.prog X.w H s.heap
 len:σ.length=X.N.length
section
variable {X:Cx} {pins:List (Addr × Obj)} {σ:List (Option V)} {H H':Hp} {s:ai} {h':bf}
theorem Cx.Ok.nofr (ok:X.Ok) {b:Addr} {o:Obj} (e:X.base.get? b=some o):b∉X.fs:=λj=>by
 have:=(ok.funs.mem j).1
 rw[e] at this;cases this
theorem Inv.bs (I:Inv X pins σ H s):∀ b o,X.base.get? b=some o->s.heap.get? b=some o/\H b=none:=λb o e =>
 ⟨I.base.keep b o (I.ok.bs b o e).1 (I.ok.bs b o e).2 (I.ok.nofr e) (I.ok.noex b o e),I.base.free b o (I.ok.bs b o e).1 (I.ok.bs b o e).2 (I.ok.noex b o e)⟩
theorem Inv.bk (I:Inv X pins σ H s):∀ b o,X.base.get? b=some o->s.heap.get? b=some o:=λb o e=>(I.bs b o e).1
theorem Inv.mod (I:Inv X pins σ H s):Mod X.K X.mg X.base:=I.ok.mod
theorem Inv.kIn (I:Inv X pins σ H s):X.K.In s.heap:=I.ok.mod.kin.keeps I.bk
theorem Inv.lt (I:Inv X pins σ H s):X.env.locals < s.heap.objs.size:=let ⟨_,j,_⟩:=I.loc;j.lt
theorem Inv.sz (I:Inv X pins σ H s):X.s₀.heap.objs.size<=s.heap.objs.size:=Nat.le_trans I.ok.above (Nat.le_of_lt I.lt)
theorem Inv.nofs (I:Inv X pins σ H s) {a:Addr} (h:s.heap.objs.size<=a):a∉X.fs:=λB=>by
 obtain⟨_,o,j,_⟩:=I.ok.funs.mem B;exact absurd (Nat.lt_of_lt_of_le (ay j) (Nat.le_trans I.sz h)) (Nat.lt_irrefl _)
theorem Inv.cne (I:Inv X pins σ H s):∀ x c,X.env.cells.lookup x=some c->c≠X.env.locals:=λx c e z=>by
 obtain⟨v,o,ho,hd⟩:=I.cell x c e;obtain⟨m,⟨o',es,ep,j,B,_⟩,_⟩:=I.loc;rw[z,j] at ho;cases ho;rw[B] at hd;cases hd
theorem Inv.funs (I:Inv X pins σ H s):s.heap.FunFrames X.base X.outer:=by
 have all:∀ (l:List Env),(∀ b∈frs l,b∈X.fs)->X.s₀.heap.FunFrames X.base l->s.heap.FunFrames X.base l:=by
  intro l
  induction l with
  | nil=>intro _ _;trivial
  | cons env r G =>
   intro D U;obtain⟨Y,⟨L,o,hf,R,O,hd⟩,J⟩:=U;have B:L∈X.fs:=D L (by unfold frs;rw[cE,hf];exact am)
   obtain⟨sl,e⟩:=I.base.slot L o O (I.ok.frf L B) B λz=>I.ok.exfs L z B;exact⟨Y,⟨L,_,hf,R,e,hd⟩,G (λb j=>D b (by unfold frs;rw[cE,hf];exact ao _ j)) J⟩
 exact all X.outer (λ_ j=>j) I.ok.funs
theorem Inv.stack (I:Inv X pins σ H s):s.heap.FunFrames X.base X.stack:=by
 rcases I.ok.stk with e | ⟨e,hf⟩
 ·rw[e];exact I.funs
 ·rw[e];obtain⟨m,j,_⟩:=I.loc;refine .cons (by rw[I.ok.kind];decide) hf j ?_ I.funs
  exact bf.get?_none_of_le (Nat.le_trans I.ok.bsz I.ok.above)
theorem Inv.stkSub (I:Inv X pins σ H s):∀ b∈frs X.stack,b∈X.env.locals::X.fs:=λb j=>by
 rcases I.ok.stk with e | ⟨e,hf⟩
 ·rw[e] at j;exact ao _ j
 ·rw[e] at j;unfold frs at j;rw[cE,hf] at j;exact j
theorem Inv.stkFree (I:Inv X pins σ H s):∀ b∈frs X.stack,H b=none:=λb j=>by
 rcases aB.mp (I.stkSub b j) with e | j
 ·rw[e];exact I.free
 ·obtain⟨_,o,B,_⟩:=I.ok.funs.mem j;exact I.base.free b o B (I.ok.frf b j) λz=>I.ok.exfs b z j
theorem Inv.step {g':Array GenState} {t':Nat} {d':Drawn} {ch:List Addr} (I:Inv X pins σ H s)
  (hch:∀ b∈ch,(b∈X.ex\/X.s₀.heap.objs.size<=b)/\b≠X.env.locals/\(∀ x c,X.env.cells.lookup x=some c->c≠b)/\∀ p∈X.pn++pins,p.1≠b)
  (keep:∀ b o,b≠X.env.locals->b∉X.fs->b∉ch->s.heap.get? b=some o->H b=none->h'.get? b=some o)
  (slot:∀ b o,b≠X.env.locals->b∈X.fs->b∉ch->s.heap.get? b=some o->H b=none->∃ sl,h'.get? b=some { o with slots:=sl }) (free:∀ b o,b∉ch->s.heap.get? b=some o->H b=none->H' b=none)
  (there:∀ b o,b∉ch->s.heap.get? b=some o->∃ o',h'.get? b=some o')
  (tups:∀ b xs,H b=some (.tup xs)->H' b=some (.tup xs)) (frzs:∀ b o u,H b=some (.frz o u)->H' b=some (.frz o u)) (tbls:∀ b ps,H b=some (.tbl ps)->∃ more,H' b=some (.tbl (ps++more)))
  (ns:∀ m,s.heap.Ns X.env.locals m->h'.Ns X.env.locals m) (hok:HOk X.prog X.w H' h') (hg:jj g') :
  Inv X pins σ H' { s with heap:=h',gens:=g',drawn:=d',toks:=t' }:=by
 have O:∀ b o,X.s₀.heap.get? b=some o->b≠X.env.locals:=λb o e=>Nat.ne_of_lt (Nat.lt_of_lt_of_le (ay e) I.ok.above);have D:∀ b o,X.s₀.heap.get? b=some o->b∉X.ex->b∉ch:=λb o e j J=>by
  rcases(hch b J).1 with z | z
  ·exact j z
  ·exact absurd (Nat.lt_of_lt_of_le (ay e) z) (Nat.lt_irrefl _)
 have cellK:∀ x c,X.env.cells.lookup x=some c->∀ v,s.heap.IsCell c v->h'.IsCell c v:=λx c e v ⟨o,L,hd⟩=>by
  have B:c∉ch:=λz=>(hch c z).2.2.1 x c e rfl
  by_cases hc:c∈X.fs
  ·obtain⟨sl,q⟩:=slot c o (I.cne x c e) hc B L (I.freeC x c e);exact⟨_,q,hd⟩
  ·exact⟨o,keep c o (I.cne x c e) hc B L (I.freeC x c e),hd⟩
 refine⟨I.ok,I.os,hg,⟨λb o e n J j=>?_,λb o e n J j=>?_,λb o e n j=>?_,λb o e j=>?_,λb xs e=>tups b xs (I.base.tups b xs e),λb o xs e=>frzs b o xs (I.base.frzs b o xs e),λb ps e=>?_⟩,?_,λx c e=>?_,?_,λx c e=>?_,λp Z=>?_,hok,I.len⟩
 ·exact keep b o (O b o e) J (D b o e j) (I.base.keep b o e n J j) (I.base.free b o e n j)
 ·obtain⟨sl,G⟩:=I.base.slot b o e n J j;obtain⟨U,R⟩:=slot b _ (O b o e) J (D b o e j) G (I.base.free b o e n j);exact⟨U,R⟩
 ·obtain⟨o',G⟩:=I.base.there b o e j;exact free b o' (D b o e j) G (I.base.free b o e n j)
 ·obtain⟨o',G⟩:=I.base.there b o e j;exact there b o' (D b o e j) G
 ·obtain⟨m1,G⟩:=I.base.tbls b ps e;obtain⟨m2,R⟩:=tbls b _ G;exact⟨m1++m2,by rw[R,Array.append_assoc]⟩
 ·obtain⟨m,hn,hl⟩:=I.loc;refine⟨m,ns m hn,λi x v G R e3=>?_⟩;obtain⟨u,r,l⟩:=hl i x v G R e3;refine⟨u,r,?_⟩;rcases l with l | ⟨k,c,e,z⟩
  ·exact .inl l
  ·exact .inr ⟨k,c,e,cellK x c e _ z⟩
 ·obtain⟨v,z⟩:=I.cell x c e;exact⟨v,cellK x c e v z⟩
 ·obtain⟨m,⟨o,_,_,L,_⟩,_⟩:=I.loc;exact free _ o (λz=>(hch _ z).2.1 rfl) L I.free
 ·obtain⟨v,o,L,hd⟩:=I.cell x c e;exact free c o (λz=>(hch c z).2.2.1 x c e rfl) L (I.freeC x c e)
 ·obtain⟨e,n,ne,Y,d⟩:=I.pin p Z;have B:p.1∉ch:=λz=>(hch p.1 z).2.2.2 p Z rfl;exact⟨keep p.1 p.2 ne Y B e n,free p.1 p.2 B e n,ne,Y,d⟩
theorem Inv.un {t':Nat} (I:Inv X pins σ H s) (u:Un X.fs [] H H' s.heap h') (hok:HOk X.prog X.w H' h'):Inv X pins σ H' { s with heap:=h',toks:=t' }:=by
 obtain⟨m,⟨o,es,ep,G,r⟩,_⟩:=id I.loc;obtain⟨sl,L⟩:=u.any G I.free (by simp)
 exact I.step (g':=s.gens) (d':=s.drawn) (ch:=[]) (λ_ z=>nomatch z) (λb o _ j _ e n=>u.keep b o e n j (by simp)) (λb o _ j _ e n=>u.slot b o e n j (by simp)) (λb o _ e n=>u.free b o e n (by simp)) (λb o _ e=>u.there b o e (by simp)) u.tups u.frzs u.tbls (λO hm=>by
  obtain⟨o',B,D,ho',J⟩:=hm;rw[G] at ho';cases ho';exact⟨_,B,D,L,J⟩) hok I.bare
theorem Inv.call {g':Array GenState} {t':Nat} {d':Drawn} {ch:List Addr} (I:Inv X pins σ H s) (u:Un (frs X.stack) ch H H' s.heap h') (hok:HOk X.prog X.w H' h') (hg:jj g')
  (hch:∀ b∈ch,(b∈X.ex\/X.s₀.heap.objs.size<=b)/\b≠X.env.locals/\(∀ x c,X.env.cells.lookup x=some c->c≠b)/\∀ p∈X.pn++pins,p.1≠b) :
  Inv X pins σ H' { s with heap:=h',gens:=g',drawn:=d',toks:=t' }:=by
 obtain⟨m,⟨o,es,ep,J,r⟩,_⟩:=id I.loc;obtain⟨sl,B⟩:=u.any J I.free λz=>(hch _ z).2.1 rfl;exact I.step (ch:=ch) hch (λb o B O j e n=>u.keep b o e n (λz=>(aB.mp (I.stkSub b z)).elim B O) j) (λb o _ _ j e n=>u.any e n j) (λb o j e n=>u.free b o e n j) (λb o j e=>u.there b o e j) u.tups u.frzs u.tbls (λR hm=>by
  obtain⟨o',D,G,ho',L⟩:=hm;rw[J] at ho';cases ho';exact⟨_,D,G,B,L⟩) hok hg
theorem Inv.turned {t':Nat} {it:Addr} (I:Inv X pins σ H s) (k:∀ b o,b≠it->s.heap.get? b=some o->h'.get? b=some o) (hn:H it=none) (hL:it≠X.env.locals)
  (h1:it∈X.ex\/X.s₀.heap.objs.size<=it) (h2:∀ x c,X.env.cells.lookup x=some c->c≠it) (h3:∀ p∈X.pn++pins,p.1≠it):Inv X pins σ H { s with heap:=h',toks:=t' }:=by
 have B:∀ b u,H b=some u->b≠it:=λb u e z=>by rw[z,hn] at e;cases e
 refine I.step (g':=s.gens) (d':=s.drawn) (ch:=[it]) (λb G=>?_) (λb o _ _ j e _=>k b o (λz=>j (by simp[z])) e) (λb o _ _ j e _=>⟨o.slots,k b o (λz=>j (by simp[z])) e⟩) (λ_ _ _ _ n=>n)
  (λb o j e=>⟨o,k b o (λz=>j (by simp[z])) e⟩) (λ_ _ e=>e) (λ_ _ _ e=>e) (λb ps e=>⟨#[],by rw[e];simp⟩) (λm hm=>?_) (λb u e=>?_) I.bare
 ·have e:b=it:=by simpa using G
  subst e;exact⟨h1,hL,h2,h3⟩
 ·obtain⟨o,es,ep,D,r⟩:=hm;exact⟨o,es,ep,k _ o (b8 hL) D,r⟩
 ·refine(I.hok b u e).stay (λc v j q=>k c v ?_ q) (λ_ q=>q) λ_ _ q=>q;rcases j with z | z
  ·rw[z];exact B b u e
  ·exact B c _ z
theorem Inv.tok (I:Inv X pins σ H s) (t:Nat):Inv X pins σ H { s with toks:=t }:=I.un (h':=s.heap) (t':=t) Un.refl I.hok
theorem Inv.kept {t':Nat} (I:Inv X pins σ H s) (k:∀ b u,s.heap.get? b=some u->h'.get? b=some u):Inv X pins σ H { s with heap:=h',toks:=t' }:=I.un (Un.kept k) (I.hok.kept k)
theorem Inv.laid {a:Addr} {o:HO} {t':Nat} (I:Inv X pins σ H s) (k:∀ b u,s.heap.get? b=some u->h'.get? b=some u) (hp:s.heap.objs.size<=a) (new:ObjOk X.prog X.w (upd H a o) h' a o) :
  Inv X pins σ (upd H a o) { s with heap:=h',toks:=t' }:=I.un (Un.laid k hp (I.hok.fresh hp)) (I.hok.laid k hp new)
theorem Inv.write {x e:Addr} {o:HO} {t':Nat} (I:Inv X pins σ H s) (mu:Mut (H x)) (he:e=x\/H e=some (.own x)) (k:∀ b u,b≠e->s.heap.get? b=some u->h'.get? b=some u) (heo:∃ u,h'.get? e=some u)
  (new:ObjOk X.prog X.w (upd H x o) h' x o):Inv X pins σ (upd H x o) { s with heap:=h',toks:=t' }:=I.un (Un.write mu he k heo) (I.hok.write mu he k heo new)
theorem Inv.weak {σ':List (Option V)} (I:Inv X pins σ H s) (hl:σ'.length=σ.length) (w:∀ (i:Nat) v,σ'[i]?=some (some v)->σ[i]?=some (some v)):Inv X pins σ' H s :=
 ⟨I.ok,I.os,I.bare,I.base,let ⟨m,B,j⟩:=I.loc;⟨m,B,λi x v J G D=>j i x v J (w i v G) D⟩,I.cell,I.free,I.freeC,I.pin,I.hok,hl.trans I.len⟩
theorem Inv.pins_of {pins':List (Addr × Obj)} (I:Inv X pins σ H s) (h:∀ p∈pins',s.heap.get? p.1=some p.2/\H p.1=none/\p.1≠X.env.locals/\p.1∉X.fs/\∀ v,p.2.data≠.cell v):Inv X pins' σ H s :=
 ⟨I.ok,I.os,I.bare,I.base,I.loc,I.cell,I.free,I.freeC,λp j=>(aN.mp j).elim (λz=>I.pin p (cH _ z)) (h p),I.hok,I.len⟩
theorem nodup_ix {N:List Str} (hN:N.Nodup) {i j:Nat} {x:Str} (a:N[i]?=some x) (b:N[j]?=some x):i=j:=by
 obtain⟨h1,D⟩:=aA.mp a;obtain⟨h2,B⟩:=aA.mp b;exact(List.getElem_inj hN).mp (D.trans B.symm)
theorem bZy {M:Model} {A:a7} {E:ae->ai->Prop} {i:Nat} {x:Str} {v:V} {u:ae} {Q:Unit->ai->Prop} (I:Inv X pins σ H s) (hN:X.N.Nodup) (hi:X.N[i]?=some x) (hx:Loc X.env.scope x) (r:RelV v u)
  (h:∀ s',Inv X pins (σ.set i (some v)) H s'->(∃ a,c8 a s.heap s'.heap/\(a=X.env.locals\/X.env.cells.lookup x=some a))->Q () s') (hf:X.fn x=true\/X.env.scope.names.lookup x=some .local:=by first | exact .inl rfl | exact .inr rfl | assumption):aE M A (storeName X.env x u) Q E s:=by
 obtain⟨m,hn,hl⟩:=id I.loc;have U:(X.env.scope.kind == .class || (X.env.scope.kind == .module && X.env.locals != X.env.globals))=false:=by rw[I.ok.kind];rfl
 have hiσ:i < σ.length:=by rw[I.len];exact(aA.mp hi).1
 have cne:=I.cne;have tracked:∀ {a:Addr} {h':bf},(∃ o,s.heap.get? a=some o/\H a=none)->c8 a s.heap h'->HOk X.prog X.w H h':=λ{a h'} ha B b ob e=>by
  obtain⟨_,_,D⟩:=ha;refine(I.hok b ob e).stay (λc w' hc q=>(B.2 c ?_).trans q) (λ_ q=>q) λ_ _ q=>q;rintro rfl;rcases hc with rfl | hc
  ·rw[D] at e;cases e
  ·rw[D] at hc;cases hc
 rcases hx with hk | hk
 ·refine wpAny_storeName_local hk hn (λh' hn' B=>?_) U;obtain⟨oL,_,_,hoL,_⟩:=id hn;refine h _ ⟨I.ok,I.os,I.bare,⟨λb o e n L hx=>?_,λb o e n L hx=>?_,I.base.free,λb o e hx=>?_,I.base.tups,I.base.frzs,I.base.tbls⟩,⟨_,hn',λj y v' e1 e2 e3=>?_⟩,λy c e=>?_,I.free,I.freeC,λp hp=>?_,tracked ⟨oL,hoL,I.free⟩ B,by simpa using I.len⟩ ⟨_,B,.inl rfl⟩
  ·exact(B.2 b (Nat.ne_of_lt (Nat.lt_of_lt_of_le (ay e) I.ok.above))).trans (I.base.keep b o e n L hx)
  ·obtain⟨sl,e1⟩:=I.base.slot b o e n L hx;exact⟨sl,(B.2 b (Nat.ne_of_lt (Nat.lt_of_lt_of_le (ay e) I.ok.above))).trans e1⟩
  ·obtain⟨o',e1⟩:=I.base.there b o e hx;exact⟨o',(B.2 b (Nat.ne_of_lt (Nat.lt_of_lt_of_le (ay e) I.ok.above))).trans e1⟩
  ·by_cases G:j=i
   ·subst G;rw[hi] at e1;cases e1;rw[List.getElem?_set_self hiσ] at e2;cases e2;exact⟨u,r,.inl ⟨hk,by simp⟩⟩
   ·rw[fK (b8 G)] at e2;obtain⟨u',r',q⟩:=hl j y v' e1 e2 e3;refine⟨u',r',?_⟩;rcases q with⟨k,e⟩ | ⟨k,c,e,z⟩
    ·refine .inl ⟨k,?_⟩
     have:y≠x:=λe=>G (nodup_ix hN e1 (e ▸ hi))
     simp[this,e]
    ·exact .inr ⟨k,c,e,z.sameBut B (cne y c e)⟩
  ·obtain⟨w',z⟩:=I.cell y c e;exact⟨w',z.sameBut B (cne y c e)⟩
  ·obtain⟨e,n,ne,nf,d⟩:=I.pin p hp;exact⟨(B.2 p.1 ne).trans e,n,ne,nf,d⟩
 ·have J:X.fn x=true:=by
   rcases hf with z | z
   ·exact z
   ·rw[z] at hk;cases hk
  obtain⟨c,hc⟩:=I.ok.has x (.inl hk);obtain⟨w',z⟩:=I.cell x c hc;refine wpAny_storeName_cell I.ok.kind hk hc z (λh' Z B=>?_);obtain⟨oc,R,O⟩:=id z;refine h { s with heap:=h' } ⟨I.ok,I.os,I.bare,⟨λb o e n L hx=>?_,λb o e n L hx=>?_,I.base.free,λb o e hx=>?_,I.base.tups,I.base.frzs,I.base.tbls⟩,⟨m,hn.sameBut B (b8 (cne x c hc)),λj y v' e1 e2 e3=>?_⟩,λy c' e=>?_,I.free,I.freeC,λp hp=>?_,tracked ⟨oc,R,I.freeC x c hc⟩ B,by simpa using I.len⟩ ⟨c,B,.inr hc⟩
  ·exact(B.2 b (Nat.ne_of_lt (Nat.lt_of_lt_of_le (ay e) (I.ok.cab x c J hc)))).trans (I.base.keep b o e n L hx)
  ·obtain⟨sl,e1⟩:=I.base.slot b o e n L hx;exact⟨sl,(B.2 b (Nat.ne_of_lt (Nat.lt_of_lt_of_le (ay e) (I.ok.cab x c J hc)))).trans e1⟩
  ·obtain⟨o',e1⟩:=I.base.there b o e hx;exact⟨o',(B.2 b (Nat.ne_of_lt (Nat.lt_of_lt_of_le (ay e) (I.ok.cab x c J hc)))).trans e1⟩
  ·by_cases G:j=i
   ·subst G;rw[hi] at e1;cases e1;rw[List.getElem?_set_self hiσ] at e2;cases e2;exact⟨u,r,.inr ⟨.inl hk,c,hc,Z⟩⟩
   ·rw[fK (b8 G)] at e2;obtain⟨u',r',q⟩:=hl j y v' e1 e2 e3;refine⟨u',r',?_⟩;rcases q with q | ⟨k,c',e,z'⟩
    ·exact .inl q
    ·refine .inr ⟨k,c',e,z'.sameBut B ?_⟩;rintro rfl;exact G (nodup_ix hN e1 (I.ok.inj _ _ _ e hc ▸ hi))
  ·by_cases Y:c'=c
   ·subst Y;exact⟨_,Z⟩
   ·obtain⟨w2,z2⟩:=I.cell y c' e;exact⟨w2,z2.sameBut B Y⟩
  ·obtain⟨e,n,ne,nf,d⟩:=I.pin p hp;refine⟨(B.2 p.1 ?_).trans e,n,ne,nf,d⟩;intro q;rw[q,R] at e;have q':oc=p.2:=aM e;exact d w' (by rw[<- q'];exact O)
theorem store_ok {M:Model} {A:a7} {E:ae->ai->Prop} {i:Nat} {x:Str} {v:V} {u:ae} {Q:Unit->ai->Prop} (I:Inv X pins σ H s) (hN:X.N.Nodup) (hi:X.N[i]?=some x) (hx:Loc X.env.scope x) (r:RelV v u)
  (h:∀ s',Inv X pins (σ.set i (some v)) H s'->Q () s') (hf:X.fn x=true\/X.env.scope.names.lookup x=some .local:=by first | exact .inl rfl | exact .inr rfl | assumption):aE M A (storeName X.env x u) Q E s :=
 bZy I hN hi hx r (λs' j _=>h s' j) hf
theorem Inv.call' {s':ai} {ch:List Addr} (I:Inv X pins σ H s) (ho:s'.os=s.os) (u:Un (frs X.stack) ch H H' s.heap s'.heap) (hok:HOk X.prog X.w H' s'.heap) (hg:jj s'.gens)
  (hch:∀ b∈ch,(b∈X.ex\/X.s₀.heap.objs.size<=b)/\b≠X.env.locals/\(∀ x c,X.env.cells.lookup x=some c->c≠b)/\∀ p∈X.pn++pins,p.1≠b):Inv X pins σ H' s':=by
 obtain⟨h',g',d',t',o'⟩:=s';have e:o'=s.os:=ho;subst e;exact I.call (g':=g') (t':=t') (d':=d') u hok hg hch
end
abbrev XK:=ae->Option Addr->Hp->Prop
abbrev St:=List (Option V)
abbrev VK:=V->Hp->Prop
abbrev TE:=St->Hp->VK->Prop
abbrev TT:=St->Hp->(Bool->Hp->Prop)->Prop
abbrev TA:=St->Hp->(List V->Hp->Prop)->Prop
structure Ends where
 nx:St->Hp->Prop
 rt:VK
 bk:St->Hp->Prop:=λ_ _=>False
 ct:St->Hp->Prop:=λ_ _=>False
abbrev TS:=Ends->St->Hp->Prop
def EP (X:Cx) (pins:List (Addr × Obj)) (σ:St) (Q:VK) (u:ae) (s':ai):Prop:=∃ v H',Inv X pins σ H' s'/\RelV v u/\Q v H'
def TP (X:Cx) (pins:List (Addr × Obj)) (σ:St) (Q:Bool->Hp->Prop) (b:Bool) (s':ai):Prop:=∃ H',Inv X pins σ H' s'/\Q b H'
def AP (X:Cx) (pins:List (Addr × Obj)) (σ:St) (Q:List V->Hp->Prop) (us:List ae) (s':ai):Prop:=∃ vs H',Inv X pins σ H' s'/\Vals vs us/\Q vs H'
def SP (X:Cx) (pins:List (Addr × Obj)) (D:Ends) (f:Flow) (s':ai):Prop :=
 match f with
 | .next=>∃ σ' H',Inv X pins σ' H' s'/\D.nx σ' H'
 | .brk=>∃ σ' H',Inv X pins σ' H' s'/\D.bk σ' H'
 | .cont=>∃ σ' H',Inv X pins σ' H' s'/\D.ct σ' H'
 | .ret u=>∃ v σ' H',Inv X pins σ' H' s'/\RelV v u/\D.rt v H'
def PE (X:Cx) (e:Expr) (t:TE):Prop :=
 ∀ (pins:List (Addr × Obj)) (s:ai) (σ:St) (H:Hp) (Q:VK),Inv X pins σ H s->t σ H Q->aE (aJ X.prog X.w) X.A (eval e X.env) (EP X pins σ Q) X.xe s
def PT (X:Cx) (e:Expr) (t:TT):Prop :=
 ∀ (pins:List (Addr × Obj)) (s:ai) (σ:St) (H:Hp) (Q:Bool->Hp->Prop),Inv X pins σ H s->t σ H Q->aE (aJ X.prog X.w) X.A (isTrue e X.env (eval e X.env)) (TP X pins σ Q) X.xe s
def PW (X:Cx) (e:Expr) (t:TT):Prop :=
 ∀ (whole:Sem ae) (pins:List (Addr × Obj)) (s:ai) (σ:St) (H:Hp) (Q:Bool->Hp->Prop),Inv X pins σ H s->t σ H Q->aE (aJ X.prog X.w) X.A (isTrue e X.env whole) (TP X pins σ Q) X.xe s
theorem PW.pt {X:Cx} {e:Expr} {t:TT} (h:PW X e t):PT X e t:=h _
def PA (X:Cx) (es:List Expr) (t:TA):Prop :=
 ∀ (pos:Pos) (pins:List (Addr × Obj)) (s:ai) (σ:St) (H:Hp) (Q:List V->Hp->Prop),Inv X pins σ H s->t σ H Q->aE (aJ X.prog X.w) X.A (spliced (cz pos (av es X.env))) (AP X pins σ Q) X.xe s
def PS (X:Cx) (st:Stmt) (t:TS):Prop :=
 ∀ (pins:List (Addr × Obj)) (s:ai) (σ:St) (H:Hp) (D:Ends),Inv X pins σ H s->t D σ H->aE (aJ X.prog X.w) X.A (exec st X.env) (SP X pins D) X.xe s
def PSs (X:Cx) (st:List Stmt) (t:TS):Prop :=
 ∀ (pins:List (Addr × Obj)) (s:ai) (σ:St) (H:Hp) (D:Ends),Inv X pins σ H s->t D σ H->aE (aJ X.prog X.w) X.A (execs st X.env) (SP X pins D) X.xe s
theorem thn {α:Type} {t:Sem α} {Q Q':α->ai->Prop} {M:Model} {A:a7} {E:ae->ai->Prop} {s:ai} (h:aE M A t Q E s) (hQ:∀ a s,Q a s->Q' a s):aE M A t Q' E s:=e9 h hQ λ_ _ x=>x
section
variable {X:Cx}
def tVar (i:Nat):TE:=fun σ H Q=>∃ v,σ[i]?=some (some v)/\Q v H
def tC (v:V):TE:=λ_ H Q=>Q v H
theorem eXr {i:Nat} {x:Str} {pos:Pos} (hN:X.N[i]?=some x) (hv:Vis X.env.scope x) (hd:(x == ("__debug__" : Str))=false:=by decide) (hcd:(x == ("__classdict__" : Str))=false:=by decide):PE X (.Name x pos) (tVar i):=by
 intro pins s σ H Q I h;obtain⟨v,e,h⟩:=h;obtain⟨m,G,J⟩:=I.loc;obtain⟨u,r,l⟩:=J i x v hN e hv;have fin:EP X pins σ Q u s:=⟨v,H,I,r,h⟩;rcases l with⟨B,hm⟩ | ⟨B,c,D,j⟩
 ·exact wpAny_Name (wpAny_loadName_local I.ok.kind B G hm fin) hd
 ·rcases B with B | B
  ·exact wpAny_Name (wpAny_loadName_cell I.ok.kind B D j fin) hd
  ·exact wpAny_Name (wpAny_loadName_free I.ok.kind B D j fin hcd) hd
theorem eXs {i j pos}:PE X (.Constant (.int i) j pos) (tC (.int i)):=λ_ _ _ H _ I h=>wpAny_Constant_int ⟨.int i,H,I.tok _,⟨_,rfl⟩,h⟩
theorem fXi {b j pos}:PE X (.Constant (.bool b) j pos) (tC (.bl b)):=λ_ _ _ H _ I h=>Constant_bool ⟨.bl b,H,I,rfl,h⟩
theorem eXt {j pos}:PE X (.Constant .none j pos) (tC .non):=λ_ _ _ H _ I h=>Constant_none ⟨.non,H,I,rfl,h⟩
theorem eXu {x j pos}:PE X (.Constant (.str x) j pos) (tC (.str x)):=λ_ _ _ H _ I h=>Calls.Constant_str ⟨.str x,H,I.tok _,⟨_,rfl⟩,h⟩
def Gl (X:Cx) (x:Str):Prop:=X.env.kindOf x=some .globalImplicit
theorem ld_glob {E:ae->ai->Prop} {pins:List (Addr × Obj)} {s:ai} {σ:St} {H:Hp} {x:Str} {u:ae} {pos:Pos} {Q:ae->ai->Prop} (I:Inv X pins σ H s) (hg:Gl X x) (hm:X.mg x=some u) (h:Q u s)
  (hd:(x == ("__debug__" : Str))=false:=by decide):aE (aJ X.prog X.w) X.A (eval (.Name x pos) X.env) Q E s :=
 iQ I.ok.kind hg (Calls.loadGlobal_global (by rw[I.ok.glob];exact I.mod.glob.keeps I.bk) hm h) hd
theorem ld_blt {E:ae->ai->Prop} {pins:List (Addr × Obj)} {s:ai} {σ:St} {H:Hp} {x:Str} {u:ae} {pos:Pos} {Q:ae->ai->Prop} (I:Inv X pins σ H s) (hg:Gl X x) (hm:X.mg x=none) (hv:bQ x=some u) (h:Q u s)
  (hn:x ≠ "__name__":=by decide) (hd:(x == ("__debug__" : Str))=false:=by decide):aE (aJ X.prog X.w) X.A (eval (.Name x pos) X.env) Q E s:=by
 obtain⟨j,h1,h2⟩:=I.mod.blt;exact iQ I.ok.kind hg (Calls.loadGlobal_builtin (by rw[I.ok.glob];exact I.mod.glob.keeps I.bk) hm (by rw[I.ok.blt];exact h1.keeps I.bk) ((h2 x hn).trans hv) h) hd
theorem dJd {x:Str} {v:V} {u:ae} {pos:Pos} (hg:Gl X x) (hm:X.mg x=none) (hv:bQ x=some u) (r:RelV v u) (hn:x ≠ "__name__":=by decide) (hd:(x == ("__debug__" : Str))=false:=by decide):PE X (.Name x pos) (tC v) :=
 λ_ _ _ H _ I h=>ld_blt I hg hm hv ⟨v,H,I,r,h⟩ hn hd
variable {a b:Expr} {ta tb:TE} {pos:Pos}
variable {tA tB':TT} {rest:List Expr}
def tAnd (t u:TT):TT:=fun σ H Q=>t σ H λc H1=>if c=true then u σ H1 Q else Q false H1
def tOr (t u:TT):TT:=fun σ H Q=>t σ H λc H1=>if c=true then Q true H1 else u σ H1 Q
def tNot (t:TT):TT:=fun σ H Q=>t σ H λc H1=>Q (!c) H1
theorem dJe (ha:PT X a tA):PW X (.BoolOp .And [a] pos) tA:=by
 intro j pins s σ H Q I h;refine isTrue_and (thn (ha pins s σ H Q I h) λc s1 e=>?_);cases c with
 | true=>exact isTrue_and_nil e
 | false=>exact e
theorem eXv (ha:PT X a tA):PW X (.BoolOp .Or [a] pos) tA:=by
 intro j pins s σ H Q I h;refine isTrue_or (thn (ha pins s σ H Q I h) λc s1 e=>?_);cases c with
 | false=>exact isTrue_or_nil e
 | true=>exact e
theorem eXw (ha:PT X a tA) (hb:PW X (.BoolOp .And (b::rest) pos) tB'):PW X (.BoolOp .And (a::b::rest) pos) (tAnd tA tB'):=by
 intro D pins s σ H Q I h;refine isTrue_and (thn (ha pins s σ H _ I h) λc s1 ⟨H1,B,j⟩=>?_);cases c with
 | true=>exact hb D pins s1 σ H1 Q B j
 | false=>exact⟨H1,B,j⟩
theorem fXj (ha:PT X a tA) (hb:PW X (.BoolOp .Or (b::rest) pos) tB'):PW X (.BoolOp .Or (a::b::rest) pos) (tOr tA tB'):=by
 intro D pins s σ H Q I h;refine isTrue_or (thn (ha pins s σ H _ I h) λc s1 ⟨H1,B,j⟩=>?_);cases c with
 | true=>exact⟨H1,B,j⟩
 | false=>exact hb D pins s1 σ H1 Q B j
theorem eXx (ha:PT X a tA):PT X (.UnaryOp .Not a pos) (tNot tA):=by
 intro pins s σ H Q I h;exact isTrue_not (ha pins s σ H (λc H1=>Q (!c) H1) I h)
def fXk (ta tb:TE):TE:=fun σ H Q=>ta σ H λx H1=>∃ c,x=.bl c/\if c=true then tb σ H1 Q else Q (.bl false) H1
def fXl (ta:TE):TE:=fun σ H Q=>ta σ H λx H1=>∃ c,x=.bl c/\Q (.bl (!c)) H1
theorem eXy {op} {t:TE} (h:PE X a t):PE X (.BoolOp op [a] pos) t:=λpins s σ H Q I hw=>BoolOp_one (h pins s σ H Q I hw)
theorem eXz (ha:PE X a ta) (hb:PE X (.BoolOp .And (b::rest) pos) tb):PE X (.BoolOp .And (a::b::rest) pos) (fXk ta tb):=by
 intro pins s σ H Q I h;refine BoolOp_and (thn (ha pins s σ H _ I h) λv s1 ⟨x,H1,B,r1,j⟩=>?_);obtain⟨c,rfl,j⟩:=j;cases r1;refine eD ?_;cases c with
 | true=>exact hb pins s1 σ H1 Q B j
 | false=>exact⟨.bl false,H1,B,rfl,j⟩
theorem eJ0 (ha:PE X a ta):PE X (.UnaryOp .Not a pos) (fXl ta):=by
 intro pins s σ H Q I h;refine UnaryOp_ (thn (ha pins s σ H _ I h) λv s1 ⟨x,H1,B,r1,j⟩=>?_);obtain⟨c,rfl,j⟩:=j;cases r1;exact not_of (eD ⟨.bl (!c),H1,B,rfl,j⟩)
def tIf (t:TT) (ta tb:TE):TE:=fun σ H Q=>t σ H λc H1=>if c=true then ta σ H1 Q else tb σ H1 Q
theorem dQm {c:Expr} (hc:PT X c tA) (ha:PE X a ta) (hb:PE X b tb):PE X (.IfExp c a b pos) (tIf tA ta tb):=by
 intro pins s σ H Q I h;refine wpAny_IfExp (thn (hc pins s σ H _ I h) λd s1 ⟨H1,B,j⟩=>?_);cases d with
 | true=>exact ha pins s1 σ H1 Q B j
 | false=>exact hb pins s1 σ H1 Q B j
end
def SqL (K:az) (H:Hp) (a:Addr) (xs:List V):Prop :=
 Rd H a (.lst xs) \/
  ∃ (o:Obj) (its:Array ae) (n:Nat),K.lookup a=some o/\o.cls=.type "list"/\o.dict=none/\o.data=.seq its n/\its.size<=sizeLine/\Vals xs its.toList
def SqT (K:az) (H:Hp) (a:Addr) (xs:List V):Prop :=
 Rd H a (.tup xs) \/
  ∃ (o:Obj) (its:Array ae) (n:Nat),K.lookup a=some o/\o.cls=.type "tuple"/\o.dict=none/\o.data=.seq its n/\its.size<=sizeLine/\Vals xs its.toList
def absV:ae->Option V
 | .none=>some .non
 | .bool b=>some (.bl b)
 | .int i _=>some (.int i)
 | .str x _=>some (.str x)
 | .bytes b _=>some (.byt b)
 | .float b _=>some (.flt b)
 | .ref a=>some (.ref a)
 | .type n=>some (.ty n)
 | _=>none
theorem RelV.abs {x:V} {u:ae} (r:RelV x u):absV u=some x:=by
 cases x with
 | non=>cases r;rfl
 | bl _=>cases r;rfl
 | int _=>obtain⟨t,rfl⟩:=r;rfl
 | str _=>obtain⟨t,rfl⟩:=r;rfl
 | byt _=>obtain⟨t,rfl⟩:=r;rfl
 | flt _=>obtain⟨t,rfl⟩:=r;rfl
 | ref _=>cases r;rfl
 | ty _=>cases r;rfl
theorem RelV.inj {x y:V} {u:ae} (r:RelV x u) (q:RelV y u):x=y:=aM (r.abs.symm.trans q.abs)
theorem Vals.inj:∀ {xs ys:List V} {us:List ae},Vals xs us->Vals ys us->xs=ys
 | _,_,_,.nil,.nil=>rfl
 | _,_,_,.cons r t,.cons B j=>by rw[r.inj B,Vals.inj t j]
section
variable {X:Cx} {pins:List (Addr × Obj)} {σ:St} {H:Hp} {s:ai} {a:Addr} {xs ys:List V}
theorem SqL.of {K:az} (h:H a=some (.lst xs)):SqL K H a xs:=.inl (.inl h)
theorem Inv.list (I:Inv X pins σ H s) (h:SqL X.K H a xs):∃ its:List ae,Vals xs its/\PlainL s.heap a its.toArray/\xs.length<=sizeLine:=by
 rcases h with h | ⟨o,its,n,B,D,hd,j,G,r⟩
 ·obtain⟨z,its,n,r,e⟩:=h.ok I.hok;exact⟨its,r,⟨_,n,e,rfl,rfl,rfl⟩,z⟩
 ·refine⟨its.toList,r,⟨o,n,I.kIn a o B,D,hd,by simpa using j⟩,?_⟩
  have e:=r.length;simp only[aZ] at e;omega
theorem Inv.tuple (I:Inv X pins σ H s) (h:SqT X.K H a xs):∃ its:List ae,Vals xs its/\jh s.heap a its.toArray/\xs.length<=sizeLine:=by
 rcases h with h | ⟨o,its,n,B,D,_,j,G,r⟩
 ·obtain⟨z,its,r,p,_⟩:=h.ok I.hok;exact⟨its,r,p,z⟩
 ·refine⟨its.toList,r,⟨o,I.kIn a o B,D,n,by simpa using j⟩,?_⟩
  have e:=r.length;simp only[aZ] at e;omega
theorem Inv.list_inj (I:Inv X pins σ H s) (h:SqL X.K H a xs) (h':SqL X.K H a ys):xs=ys:=by
 obtain⟨j,r,⟨o,n,e,_,_,d⟩,_⟩:=I.list h;obtain⟨its',D,⟨o',J,e',_,_,B⟩,_⟩:=I.list h';rw[e] at e';cases e';rw[d] at B;injection B with G _
 have:j=its':=by simpa using congrArg Array.toList G
 subst this;exact r.inj D
theorem Inv.tuple_inj (I:Inv X pins σ H s) (h:SqT X.K H a xs) (h':SqT X.K H a ys):xs=ys:=by
 obtain⟨j,r,⟨o,e,_,n,d⟩,_⟩:=I.tuple h;obtain⟨its',D,⟨o',e',_,J,B⟩,_⟩:=I.tuple h';rw[e] at e';cases e';rw[d] at B;injection B with G _
 have:j=its':=by simpa using congrArg Array.toList G
 subst this;exact r.inj D
end
abbrev Cx.wish (X:Cx) (E:ae->ai->Prop):Cx:={ X with xe:=E }
abbrev Cx.nox (X:Cx):Cx:=X.wish λ_ _=>False
theorem Cx.Ok.wish {X:Cx} (ok:X.Ok) (E:ae->ai->Prop):(X.wish E).Ok :=
 ⟨ok.mod,ok.kind,ok.glob,ok.blt,ok.above,ok.inj,ok.has,ok.cab,ok.hd,ok.frames,ok.gd,ok.stk,ok.exf,ok.bs,ok.bsz,ok.noex,ok.exfs,ok.funs,ok.frf⟩
theorem Cx.Ok.unwish {X:Cx} {E:ae->ai->Prop} (ok:(X.wish E).Ok):X.Ok :=
 ⟨ok.mod,ok.kind,ok.glob,ok.blt,ok.above,ok.inj,ok.has,ok.cab,ok.hd,ok.frames,ok.gd,ok.stk,ok.exf,ok.bs,ok.bsz,ok.noex,ok.exfs,ok.funs,ok.frf⟩
section
variable {X:Cx} {pins:List (Addr × Obj)} {σ:St} {H:Hp} {s:ai} {E:ae->ai->Prop}
theorem Inv.wish (I:Inv X pins σ H s) (E:ae->ai->Prop):Inv (X.wish E) pins σ H s:=⟨I.ok.wish E,I.os,I.bare,I.base,I.loc,I.cell,I.free,I.freeC,I.pin,I.hok,I.len⟩
theorem Inv.unwish (I:Inv (X.wish E) pins σ H s):Inv X pins σ H s:=⟨I.ok.unwish,I.os,I.bare,I.base,I.loc,I.cell,I.free,I.freeC,I.pin,I.hok,I.len⟩
theorem SP.unwish {D:Ends} {f:Flow} {s':ai} (h:SP (X.wish E) pins D f s'):SP X pins D f s':=by
 cases f with
 | next=>obtain⟨σ',H',I,q⟩:=h;exact⟨σ',H',I.unwish,q⟩
 | brk=>obtain⟨σ',H',I,q⟩:=h;exact⟨σ',H',I.unwish,q⟩
 | cont=>obtain⟨σ',H',I,q⟩:=h;exact⟨σ',H',I.unwish,q⟩
 | ret u=>obtain⟨v,σ',H',I,r,q⟩:=h;exact⟨v,σ',H',I.unwish,r,q⟩
theorem PSs.nox {st:List Stmt} {t:TS} (h:PSs X.nox st t):PSs X st t:=λpins s σ H D I hw =>
 e9 (h pins s σ H D (I.wish _) hw) (λ_ _ q=>q.unwish) λ_ _ z=>eF z
end
section
variable {X:Cx} {st:Stmt} {rest:List Stmt} {t u:TS} {e:Expr} {te:TE} {pos:Pos}
def fXm:TS:=λD σ H=>D.nx σ H
def tSeq (t u:TS):TS:=λD σ H=>t { D with nx:=u D } σ H
theorem dJf:PSs X [] fXm:=λ_ _ σ H _ I h=>wpAny_execs_nil ⟨σ,H,I,h⟩
theorem bJv (h1:PS X st t) (h2:PSs X rest u):PSs X (st::rest) (tSeq t u):=by
 intro pins s σ H D I h;refine wpAny_execs_cons (thn (h1 pins s σ H { D with nx:=u D } I h) λf s1 q=>?_)
 cases f with
 | next =>
  obtain⟨σ',H',j,q⟩:=q;exact h2 pins s1 σ' H' D j q
 | ret v=>exact q
 | brk=>exact q
 | cont=>exact q
theorem dJg (h1:PS X st t):PSs X [st] t:=by
 intro pins s σ H D I h;refine wpAny_execs_cons (thn (h1 pins s σ H D I h) λf s1 q=>?_);cases f with
 | next=>exact wpAny_execs_nil q
 | ret v=>exact q
 | brk=>exact q
 | cont=>exact q
theorem Inv.quiet {pins:List (Addr × Obj)} {σ:St} {H:Hp} {s:ai} (I:Inv X pins σ H s):interactive X.env=false:=by simp[interactive,I.ok.kind]
def fXn (te:TE):TS:=λD σ H=>te σ H λ_ H1=>D.nx σ H1
theorem dJh (he:PE X e te) (hs:g9 e none pos.line X.env=pure false:=by rfl):PS X (.Expr e pos) (fXn te):=by
 intro pins s σ H D I h;exact wpAny_Expr_any (thn (he pins s σ H _ I h) λv s1 ⟨x,H1,B,G,j⟩=>⟨σ,H1,B,j⟩) I.quiet hs
def tRet (te:TE):TS:=λD σ H=>te σ H D.rt
theorem eJ1 (he:PE X e te):PS X (.Return (some e) pos) (tRet te):=by
 intro pins s σ H D I h;exact wpAny_Return_some (thn (he pins s σ H _ I h) λv s1 ⟨x,H1,G,j,B⟩=>⟨x,σ,H1,G,j,B⟩)
def tIfS (c:TT) (t u:TS):TS:=λD σ H=>c σ H λb H1=>if b=true then t D σ H1 else u D σ H1
theorem fXo {c:Expr} {a b:List Stmt} {tc:TT} (hc:PT X c tc) (ha:PSs X a t) (hb:PSs X b u):PS X (.If c a b pos) (tIfS tc t u):=by
 intro pins s σ H D I h;refine wpAny_If (thn (hc pins s σ H _ I h) λd s1 ⟨H1,B,j⟩=>?_);cases d with
 | true=>exact ha pins s1 σ H1 D B j
 | false=>exact hb pins s1 σ H1 D B j
end
abbrev TG:=V->St->Hp->(St->Hp->Prop)->Prop
abbrev TGs:=List V->St->Hp->(St->Hp->Prop)->Prop
def PG (X:Cx) (target:Expr) (t:TG):Prop :=
 ∀ (pins:List (Addr × Obj)) (s:ai) (σ:St) (H:Hp) (v:V) (u:ae) (Q:St->Hp->Prop),Inv X pins σ H s->RelV v u->t v σ H Q ->
  aE (aJ X.prog X.w) X.A (assign target X.env u) (λ_ s'=>∃ σ' H',Inv X pins σ' H' s'/\Q σ' H') X.xe s
def PGs (X:Cx) (ts:List Expr) (t:TGs):Prop :=
 ∀ (pins:List (Addr × Obj)) (s:ai) (σ:St) (H:Hp) (vs:List V) (us:List ae) (Q:St->Hp->Prop),Inv X pins σ H s->Vals vs us->t vs σ H Q ->
  aE (aJ X.prog X.w) X.A (assignInOrder ((fb ts X.env).map (·.2)) us) (λ_ s'=>∃ σ' H',Inv X pins σ' H' s'/\Q σ' H') X.xe s
abbrev TSet:=V->V->V->Hp->(Hp->Prop)->Prop
def PSet (X:Cx) (t:TSet):Prop :=
 ∀ (pins:List (Addr × Obj)) (s:ai) (σ:St) (H:Hp) (o i v:V) (ov iv u:ae) (Q:Hp->Prop),Inv X pins σ H s->RelV o ov->RelV i iv->RelV v u->t o i v H Q ->
  aE (aJ X.prog X.w) X.A (setItem ov iv u) (λ_ s'=>∃ H',Inv X pins σ H' s'/\Q H') X.xe s
section
variable {X:Cx} {pos:Pos}
def bQ9 (i:Nat):TG:=λv σ H Q=>Q (σ.set i (some v)) H
theorem aQb {i:Nat} {x:Str} (hN:X.N.Nodup) (hi:X.N[i]?=some x) (hx:Loc X.env.scope x) (hf:X.fn x=true\/X.env.scope.names.lookup x=some .local:=by first | exact .inl rfl | exact .inr rfl | assumption):PG X (.Name x pos) (bQ9 i):=by
 intro pins s σ H v u Q I r h;exact wpAny_assign_Name (store_ok I hN hi hx r (λs' j=>⟨_,H,j,h⟩) hf)
def gNil:TGs:=λvs σ H Q=>vs=[]/\Q σ H
def bXw (t:TG) (u:TGs):TGs:=λvs σ H Q=>∃ v r,vs=v::r/\t v σ H fun σ' H'=>u r σ' H' Q
theorem aZy:PGs X [] gNil:=by
 intro pins s σ H vs us Q I r h;obtain⟨e,h⟩:=h;subst e;cases r;exact assignInOrder_nil ⟨σ,H,I,h⟩
theorem aQj {e:Expr} {es:List Expr} {t:TG} {u:TGs} (h1:PG X e t) (h2:PGs X es u)
  (hs:(fb (e::es) X.env).map (·.2)=assign e X.env::(fb es X.env).map (·.2):=by rfl):PGs X (e::es) (bXw t u):=by
 intro pins s σ H vs us Q I r h;obtain⟨v,J,D,h⟩:=h;subst D;cases r with
 | cons r j =>
  rw[hs];refine assignInOrder_cons (thn (h1 pins s σ H _ _ _ I r h) λ_ s1 ⟨σ1,H1,G,B⟩=>?_);exact h2 pins s1 σ1 H1 _ _ Q G j B
def gTup (K:az) (n:Nat) (t:TGs):TG:=λv σ H Q=>∃ a xs,v=.ref a/\SqT K H a xs/\xs.length=n/\t xs σ H Q
theorem aJc {es:List Expr} {k:Nat} {t:TGs} {n:Nat} (hc:X.calm=true) (h:PGs X es t)
  (hn:(fb es X.env).length=n:=by rfl) (hst:(fb es X.env).findIdx? (·.1)=none:=by rfl):PG X (.Tuple es k pos) (gTup X.K n t):=by
 intro pins s σ H v u Q I r hw;obtain⟨a,xs,O,J,L,hw⟩:=hw;subst O;cases r;obtain⟨B,j,G,U⟩:=I.tuple J;refine assign_Tuple_tuple (I.ok.hd hc) G (by simp[hn,<- L,j.length]) hst λh' D=>?_
 have R:Inv X pins σ H { s with heap:=h' }:=I.kept (t':=s.toks) λb o e=>D b o (Nat.ne_of_lt (ay e)) e
 exact h pins _ σ H xs _ Q R (by simpa using j) hw
def gSub (to ti:TE) (t:TSet):TG:=λv σ H Q=>to σ H λo H1=>ti σ H1 λi H2=>t o i v H2 λH3=>Q σ H3
theorem eJ2 {o i:Expr} {to ti:TE} {t:TSet} (ho:PE X o to) (hi:PE X i ti) (hs:PSet X t)
  (ha:∀ v,assign (.Subscript o i pos) X.env v=(do
   let ov <- io [v] (eval o X.env)
   let iv <- io [v,ov] (eval i X.env)
   standAt pos
   io [v,ov,iv] (setItem ov iv v)
   release [v,ov,iv] []):=by intro _;rfl):PG X (.Subscript o i pos) (gSub to ti t):=by
 intro pins s σ H v u Q I r h;rw[ha];refine aa (bW (thn (ho pins s σ H _ I h) λov s1 ⟨x,H1,R,B,J⟩=>?_));refine aa (bW (thn (hi pins s1 σ H1 _ R J) λiv s2 ⟨y,H2,O,j,G⟩=>?_));refine aa (js (aa (bW (thn (hs pins s2 σ H2 x y v ov iv u _ O B j r G) λ_ s3 ⟨U,L,D⟩=>?_))));exact wpAny_release ⟨σ,U,L,D⟩
def tAsg (te:TE) (g:TG):TS:=λD σ H=>te σ H λx H1=>g x σ H1 D.nx
theorem eJ3 {tg e:Expr} {te:TE} {g:TG} (he:PE X e te) (hg:PG X tg g) (hs:swapsWithSole [tg] e pos.line X.env=pure false:=by rfl) (hw:swappedStores [tg] e X.env=pure none:=by rfl)
  (h1:(fb [tg] X.env).map (·.2)=[assign tg X.env]:=by rfl):PS X (.Assign [tg] e pos) (tAsg te g):=by
 intro pins s σ H D I h;refine wpAny_Assign_stores (thn (he pins s σ H _ I h) λv s1 ⟨x,H1,G,j,B⟩=>?_) hs hw;rw[h1];exact thn (hg pins s1 σ H1 x v _ G j B) λ_ s2 q=>q
theorem eJ4 {i:Nat} {x:Str} {e:Expr} {te:TE} {pos':Pos} (hN:X.N.Nodup) (hi:X.N[i]?=some x) (hx:Loc X.env.scope x) (he:PE X e te) (hs:g9 e (some (.Name x pos')) pos.line X.env=pure false:=by rfl) (hf:X.fn x=true\/X.env.scope.names.lookup x=some .local:=by first | exact .inl rfl | exact .inr rfl | assumption) :
  PS X (.Assign [.Name x pos'] e pos) (tAsg te (bQ9 i)):=by
 intro pins s σ H D I h;refine wpAny_Assign_Name (thn (he pins s σ H _ I h) λv s1 ⟨y,H1,J,j,B⟩=>?_) hs;exact store_ok J hN hi hx j (λs2 G=>⟨_,H1,G,B⟩) hf
end
structure It where
 go:Nat->Hp->Prop
 yld:Nat->Hp->V->Hp->Prop
 stop:Nat->Hp->Prop
def FpOk (X:Cx) (pins:List (Addr × Obj)) (H:Hp) (b:Addr):Prop :=
 H b=none/\b≠X.env.locals/\b∉X.fs/\(b∈X.ex\/X.s₀.heap.objs.size<=b)/\(∀ x c,X.env.cells.lookup x=some c->c≠b)/\∀ p∈X.pn++pins,p.1≠b
theorem Inv.fpOk {X:Cx} {pins:List (Addr × Obj)} {σ:St} {H H':Hp} {s:ai} {b:Addr} (I:Inv X pins σ H s) (hb:s.heap.objs.size<=b) (hn:H' b=none):FpOk X pins H' b:=by
 refine⟨hn,Nat.ne_of_gt (Nat.lt_of_lt_of_le I.lt hb),I.nofs hb,.inr (Nat.le_trans I.sz hb),λx c e z=>?_,λp j z=>?_⟩
 ·obtain⟨v,q⟩:=I.cell x c e;exact absurd (Nat.lt_of_lt_of_le q.lt (by rw[z];exact hb)) (Nat.lt_irrefl _)
 ·exact absurd (Nat.lt_of_lt_of_le (ay (I.pin p j).1) (by rw[z];exact hb)) (Nat.lt_irrefl _)
structure Turn (P:aC) (w:aR) (K:az) (tg:Expr) (J:It) (fp:List Addr) (it:Addr) (tn:Nat->bf->Prop):Prop where
 mem:it∈fp
 obj:∀ i h,tn i h->∀ b∈fp,∃ o,h.get? b=some o/\∀ v,o.data≠.cell v
 keep:∀ i h h',tn i h->(∀ b∈fp,∀ o,h.get? b=some o->h'.get? b=some o)->tn i h'
 item:∀ (X:Cx),X.prog=P->X.w=w->X.K=K->X.calm=true->∀ (i:Nat) (pins:List (Addr × Obj)) (s:ai) (σ:St) (H:Hp) (E:ae->ai->Prop),Inv X pins σ H s->(∀ b∈fp,FpOk X pins H b)->tn i s.heap->J.go i H ->
  aE (aJ P w) X.A (fh (.ref it)) (λr s1=>∃ u,r=some u /\
   aE (aJ P w) X.A (iz tg (.ref it) u) (λ_ s2=>∃ x H',Inv X pins σ H' s2/\RelV x u/\J.yld i H x H'/\tn (i + 1) s2.heap/\∀ b∈fp,H' b=none) E s1) E s
 done:∀ (X:Cx),X.prog=P->X.w=w->X.K=K->X.calm=true->∀ (i:Nat) (pins:List (Addr × Obj)) (s:ai) (σ:St) (H:Hp) (E:ae->ai->Prop),Inv X pins σ H s->(∀ b∈fp,FpOk X pins H b)->tn i s.heap->J.stop i H ->
  aE (aJ P w) X.A (fh (.ref it)) (λr s1=>r=none/\Inv X pins σ H s1) E s
 self:∀ (A:a7) (i:Nat) (s:ai) (Q:ae->ai->Prop) (E:ae->ai->Prop),tn i s.heap->Q (.ref it) s->aE (aJ P w) A (pyIter (.ref it)) Q E s
abbrev TI:=St->Hp->(It->Hp->Prop)->Prop
def PIE (X:Cx) (pins:List (Addr × Obj)) (σ:St) (tg:Expr) (R:It->Hp->Prop) (itv:ae) (s2:ai):Prop :=
 ∃ (it:Addr) (fp:List Addr) (tn:Nat->bf->Prop) (J:It) (H':Hp),itv=.ref it/\Inv X pins σ H' s2/\Turn X.prog X.w X.K tg J fp it tn/\tn 0 s2.heap/\(∀ b∈fp,FpOk X pins H' b)/\R J H'
def PI (X:Cx) (tg iter:Expr) (wi:TI):Prop :=
 ∀ (pins:List (Addr × Obj)) (s:ai) (σ:St) (H:Hp) (R:It->Hp->Prop),Inv X pins σ H s->wi σ H R ->
  aE (aJ X.prog X.w) X.A (eval iter X.env) (λv s1=>aE (aJ X.prog X.w) X.A (pyIter v) (PIE X pins σ tg R) X.xe s1) X.xe s
theorem dQn {M : Model} {A : a7} {E : ae -> ai -> Prop} {s : ai} {tg : Expr} {it : Addr} {u : ae} {o : Obj} {n : String} {vs : Array ae} {Q : Unit -> ai -> Prop} (ho : s.heap.get? it = some o) (hc : o.cls = .type n) (hd : o.data = .fields vs)
    (hn : ["enumerate", "zip", "dict_itemiterator", "dict_reverseitemiterator", "odict_iterator", "itertools.zip_longest", "itertools.pairwise"].contains n = false) (hQ : Q () s) : aE M A (iz tg (.ref it) u) Q E s := by
  unfold iz;cases tg <;> first
    | exact ad hQ
    | (cases u <;> first
        | exact ad hQ
        | (refine aa (wpAny_load ho ?_)
           rw [hc, hd];show aE M A (if (["enumerate", "zip", "dict_itemiterator", "dict_reverseitemiterator", "odict_iterator", "itertools.zip_longest", "itertools.pairwise"].contains n && vs[0]? == some (eR _)) = true then _ else _) Q E s
           rw [if_neg (by intro h; rw [hn, Bool.false_and] at h; cases h)]
           exact ad hQ))
def Itl (K:az) (a:Addr):It :=
 ⟨λi H=>∃ xs x,SqL K H a xs/\xs[i]?=some x,λi H x H'=>H'=H/\∀ xs,SqL K H a xs->xs[i]?=some x,λi H=>∃ xs,SqL K H a xs/\xs.length<=i⟩
def Itt (K:az) (a:Addr):It :=
 ⟨λi H=>∃ xs x,SqT K H a xs/\xs[i]?=some x,λi H x H'=>H'=H/\∀ xs,SqT K H a xs->xs[i]?=some x,λi H=>∃ xs,SqT K H a xs/\xs.length<=i⟩
def Itr (lo:Int) (n:Nat):It:=⟨λi _=>i < n,λi H x H'=>H'=H/\x=.int (lo + i),λi _=>n<=i⟩
theorem cX0 {P:aC} {w:aR} {K:az} {tg:Expr} (a it:Addr):Turn P w K tg (Itl K a) [it] it (λi h=>h.IsListIter it a i) where
 mem:=by simp
 obj:=λi h st b j=>by
  have e:b=it:=by simpa using j
  subst e;obtain⟨o,e,c,d⟩:=st;exact⟨o,e,λv z=>by rw[d] at z;cases z⟩
 keep:=λi h h' st k=>st.at λo e=>k it (by simp) o e
 item:=by
  intro X R hw U Z i pins s σ H E I hf st O;subst R hw U;obtain⟨xs,x,D,L⟩:=O;obtain⟨J,G,p,hz⟩:=I.list D;obtain⟨u,hu,ru⟩:=G.get L;obtain⟨f0,f1,f2,Y,f4,f5⟩:=hf it (by simp)
  refine wpAny_pyNext_list_item st p.isList (x:=u) (by simpa using hu) λh' B sb=>?_
  have I1:Inv X pins σ H { s with heap:=h' }:=I.turned (t':=s.toks) (λb o j e=>(sb.2 b j).trans e) f0 f1 Y f4 f5
  obtain⟨o,e,c,d⟩:=id B;exact⟨u,rfl,dQn (s:={ s with heap:=h' }) e c d (by decide) ⟨x,H,I1,ru,⟨rfl,λys hy=>by rw[I.list_inj hy D];exact L⟩,B,λb j=>(hf b j).1⟩⟩
 done:=by
  intro X R hw U Z i pins s σ H E I hf st O;subst R hw U;obtain⟨xs,D,L⟩:=O;obtain⟨J,G,p,hz⟩:=I.list D;obtain⟨f0,f1,f2,Y,f4,f5⟩:=hf it (by simp)
  have hl:=G.length;exact wpAny_pyNext_list_end (I.ok.hd Z) st p.isList (by simp;omega) λh' eb=>⟨rfl,I.turned (t':=s.toks) (λb o j e=>eb b o j e) f0 f1 Y f4 f5⟩
 self:=λ_ _ _ _ _ st h=>wpAny_pyIter_listiter st h
theorem cZc {P:aC} {w:aR} {K:az} {tg:Expr} (a it:Addr):Turn P w K tg (Itt K a) [it] it (λi h=>h.IsTupleIter it a i) where
 mem:=by simp
 obj:=λi h st b B=>by
  have e:b=it:=by simpa using B
  subst e;obtain⟨o,e,c,d⟩:=st;exact⟨o,e,λv z=>by rw[d] at z;cases z⟩
 keep:=λi h h' st k=>st.at λo e=>k it (by simp) o e
 item:=by
  intro X R hw U Z i pins s σ H E I hf st O;subst R hw U;obtain⟨xs,x,G,L⟩:=O;obtain⟨j,J,p,hz⟩:=I.tuple G;obtain⟨u,hu,ru⟩:=J.get L;obtain⟨f0,f1,f2,Y,f4,f5⟩:=hf it (by simp)
  refine wpAny_pyNext_tuple_item st (show s.heap.IsTuple a j.toArray from p) (x:=u) (by simpa using hu) λh' D sb=>?_
  have I1:Inv X pins σ H { s with heap:=h' }:=I.turned (t':=s.toks) (λb o B e=>(sb.2 b B).trans e) f0 f1 Y f4 f5
  obtain⟨o,e,c,d⟩:=id D;exact⟨u,rfl,dQn (s:={ s with heap:=h' }) e c d (by decide) ⟨x,H,I1,ru,⟨rfl,λys hy=>by rw[I.tuple_inj hy G];exact L⟩,D,λb B=>(hf b B).1⟩⟩
 done:=by
  intro X R hw U Z i pins s σ H E I hf st O;subst R hw U;obtain⟨xs,G,L⟩:=O;obtain⟨j,J,p,hz⟩:=I.tuple G;obtain⟨f0,f1,f2,Y,f4,f5⟩:=hf it (by simp)
  have hl:=J.length;exact wpAny_pyNext_tuple_end (I.ok.hd Z) st (show s.heap.IsTuple a j.toArray from p) (by simp;omega) λh' eb=>⟨rfl,I.turned (t':=s.toks) (λb o B e=>eb b o B e) f0 f1 Y f4 f5⟩
 self:=λ_ _ _ _ _ st h=>wpAny_pyIter_tupleiter st h
theorem cZd {P:aC} {w:aR} {K:az} {tg:Expr} (it:Addr) (lo:Int) (n:Nat):Turn P w K tg (Itr lo n) [it] it (λi h=>IsRangeIter h it (lo + (i:Nat) * 1) ((n:Int) - (i:Nat)) 1) where
 mem:=by simp
 obj:=λi h st b j=>by
  have e:b=it:=by simpa using j
  subst e;exact⟨_,st,λv z=>by
   have z':Data.fields _=Data.cell v:=z;cases z'⟩
 keep:=λi h h' st k=>k it (by simp) _ st
 item:=by
  intro X J hw L G i pins s σ H E I hf st D;subst J hw L;obtain⟨f0,f1,f2,O,f4,f5⟩:=hf it (by simp)
  have W:=Walks.range (prog:=X.prog) (w:=X.w) (I.ok.hd G) it lo 1 n;refine W.item i s _ _ D st λv h' R Y B U=>?_;obtain⟨t,rfl⟩:=Y;have I1:Inv X pins σ H { s with heap:=h',toks:=R }:=I.turned (λb o j e=>U b o (by simpa using j) e) f0 f1 O f4 f5
  refine⟨_,rfl,dQn (s:={ s with heap:=h',toks:=R }) (n := "range_iterator") B rfl rfl (by decide) ⟨.int (lo + i),H,I1,⟨t,?_⟩,⟨rfl,rfl⟩,B,λb j=>(hf b j).1⟩⟩
  rw[Int.mul_one]
 done:=by
  intro X J hw L G i pins s σ H E I hf st D;subst J hw L;obtain⟨f0,f1,f2,O,f4,f5⟩:=hf it (by simp)
  exact wpAny_pyNext_range_end (I.ok.hd G) st (by have:n<=i:=D;omega) λh' Z=>⟨rfl,I.turned (t':=s.toks) (λb o j e=>Z b o j e) f0 f1 O f4 f5⟩
 self:=λ_ _ _ _ _ st h=>wpAny_pyIter_rangeiter st h
section
variable {X:Cx} {tg:Expr}
theorem bJw {pins:List (Addr × Obj)} {σ:St} {H:Hp} {s:ai} {R:It->Hp->Prop} {E:ae->ai->Prop} {lo hi:Int} {t u v:Tok} {tk:Nat} (I:Inv X pins σ H s) (h1:-(2 ^ 62)<=lo) (h2:lo < 2 ^ 62) (h3:-(2 ^ 62)<=hi) (h4:hi < 2 ^ 62)
  (q:R (Itr lo (hi - lo).toNat) H):aE (aJ X.prog X.w) X.A (pyIter (.ref s.heap.objs.size)) (PIE X pins σ tg R) E { s with heap:=s.heap.push { cls:=.type "range",data:=.fields #[.int lo t,.int hi u,.int 1 v] },toks:=tk }:=by
 refine wpAny_pyIter_range (IsRange.new ..) (small_one h1 h2 h3 h4) ?_;have j:Inv X pins σ H { s with heap:=s.heap.push { cls:=.type "range",data:=.fields #[.int lo t,.int hi u,.int 1 v] },toks:=tk }:=I.kept λb o e=>ag _ e
 refine⟨(s.heap.push { cls:=.type "range",data:=.fields #[.int lo t,.int hi u,.int 1 v] }).objs.size,[(s.heap.push { cls:=.type "range",data:=.fields #[.int lo t,.int hi u,.int 1 v] }).objs.size],_,_,H,rfl,
  j.kept (t':=tk) λb o e=>ag _ e,cZd _ lo (hi - lo).toNat,?_,λb B=>?_,q⟩
 ·have G:lo + ((0:Nat):Int) * 1=lo:=by simp
  have D:(((hi - lo).toNat:Nat):Int) - ((0:Nat):Int)=b4.Range.rangeSize lo hi 1:=by rw[rangeSize_one];split <;> omega
  show IsRangeIter _ _ (lo + ((0:Nat):Int) * 1) ((((hi - lo).toNat:Nat):Int) - ((0:Nat):Int)) 1;rw[G,D];exact au _ rfl
 ·have e:b=(s.heap.push { cls:=.type "range",data:=.fields #[.int lo t,.int hi u,.int 1 v] }).objs.size:=by simpa using B
  subst e;exact j.fpOk (Nat.le_refl _) (j.hok.fresh (Nat.le_refl _))
def fXp (ta:TA):TI:=fun σ H R=>ta σ H λvs H1=>∃ j:Int,vs=[.int j]/\-(2 ^ 62)<=j/\j < 2 ^ 62/\R (Itr 0 j.toNat) H1
def fXq (ta:TA):TI:=fun σ H R=>ta σ H λvs H1=>∃ i j:Int,vs=[.int i,.int j]/\(-(2 ^ 62)<=i/\i < 2 ^ 62/\-(2 ^ 62)<=j/\j < 2 ^ 62)/\R (Itr i (j - i).toNat) H1
theorem cX1 {a:Expr} {ta:TA} {p pos:Pos} (hg:Gl X "range") (hm:X.mg "range" = none) (ha:PA X [a] ta) (hs:av [a] X.env=[(false,eval a X.env)]:=by rfl):PI X tg (.Call (.Name "range" p) [a] [] pos) (fXp ta):=by
 intro pins s σ H R I h;refine Call_ (ld_blt I hg hm boot_range (cT (thn (ha pos pins s σ H _ I h) λus s1 ⟨vs,H1,G,r1,B⟩=>?_) hs rfl));obtain⟨j,e,B,D,q⟩:=B;subst e;cases r1 with
 | cons r rr =>
  cases rr;obtain⟨t,rfl⟩:=r;exact call_range_1 (bJw G (by omega) (by omega) B D (by simpa using q))
theorem cX2 {a b:Expr} {ta:TA} {p pos:Pos} (hg:Gl X "range") (hm:X.mg "range" = none) (ha:PA X [a,b] ta) (hs:av [a,b] X.env=[(false,eval a X.env),(false,eval b X.env)]:=by rfl) (hs2:av [b] X.env=[(false,eval b X.env)]:=by rfl) :
  PI X tg (.Call (.Name "range" p) [a,b] [] pos) (fXq ta):=by
 intro pins s σ H R I h;refine Call_ (ld_blt I hg hm boot_range (cT (thn (ha pos pins s σ H _ I h) λus s1 ⟨vs,H1,O,r1,B⟩=>?_) (by rw[hs,hs2]) (by rw[hs2];rfl)))
 obtain⟨i,j,e,⟨B,L,J,G⟩,q⟩:=B;subst e;cases r1 with
 | cons r rr =>
  cases rr with
  | cons D rr =>
   cases rr;obtain⟨t,rfl⟩:=r;obtain⟨U,rfl⟩:=D;exact call_range_2 (bJw O B L J G q)
def tFor (wi:TI) (g:TG) (tb:TS):TS:=λD σ H=>wi σ H λJ H1=>∃ W:Nat->Nat->St->Hp->Prop,(∃ m,W 0 m σ H1)/\∀ i m σ H,W i m σ H ->
 (J.stop i H/\D.nx σ H)\/(J.go i H/\∃ N:St->Hp->Prop,(∀ σ' H',N σ' H'->∃ m',m' < m/\W (i + 1) m' σ' H')/\∀ x H',J.yld i H x H'->g x σ H' fun σ2 H2=>tb { D with nx:=N,ct:=N,bk:=D.nx } σ2 H2)
def bZz (fp:List Addr) (h:bf):List (Addr × Obj):=fp.filterMap λb=>(h.get? b).map λo=>(b,o)
theorem aX7 {fp:List Addr} {h:bf} {b:Addr} {o:Obj} (hb:b∈fp) (e:h.get? b=some o):(b,o)∈bZz fp h:=fw.mpr ⟨b,hb,by rw[e];rfl⟩
theorem cX3 {fp:List Addr} {h:bf} {p:Addr × Obj} (hp:p∈bZz fp h):p.1∈fp/\h.get? p.1=some p.2:=by
 obtain⟨b,j,e⟩:=fw.mp hp;cases q:h.get? b with
 | none=>rw[q] at e;cases e
 | some o =>
  rw[q] at e;have B:(b,o)=p:=aM e;subst B;exact⟨j,q⟩
theorem Inv.pinned {pins:List (Addr × Obj)} {σ:St} {H:Hp} {s:ai} {fp:List Addr} (I:Inv X pins σ H s) (hf:∀ b∈fp,FpOk X pins H b) (ho:∀ b∈fp,∃ o,s.heap.get? b=some o/\∀ v,o.data≠.cell v):Inv X (pins++bZz fp s.heap) σ H s :=
 I.pins_of λp B=>(aN.mp B).elim (λz=>I.pin p (bi _ z)) λz=>by
  obtain⟨j,e⟩:=cX3 z;obtain⟨f0,f1,f2,_⟩:=hf p.1 j;obtain⟨o,e',d⟩:=ho p.1 j;rw[e] at e';cases e';exact⟨e,f0,f1,f2,d⟩
theorem Inv.unpinned {pins pl:List (Addr × Obj)} {σ:St} {H:Hp} {s:ai} (I:Inv X (pins++pl) σ H s):Inv X pins σ H s:=I.pins_of λp j=>I.pin p (bi _ (cH _ j))
theorem eJ5 {iter:Expr} {body:List Stmt} {wi:TI} {g:TG} {tb:TS} {pos:Pos} (hp:PassesOwn (aJ X.prog X.w) X.A X.env X.xe) (hc:X.calm=true) (hi:PI X tg iter wi) (hg:PG X tg g) (hb:PSs X body tb)
  (hs:∀ x,eE iter X.env x=pure x:=by intro _;rfl):PS X (.For tg iter body [] pos) (tFor wi g tb):=by
 intro pins s σ H D I h;refine wpAny_For (thn (hi pins s σ H _ I h) λv s1 h1=>thn h1 λitv s2 h2=>?_) hs;obtain⟨it,Z,tn,J,H2,e,I2,T,st2,f2,W,⟨m0,w0⟩,turn⟩:=h2;subst e;have j:∀ {H':Hp},(∀ b∈Z,H' b=none)->∀ b∈Z,FpOk X pins H' b:=λhn b hb=>⟨hn b hb,(f2 b hb).2⟩;refine codeAny_forLoop_any (λn s'=>∃ i σ' H',Inv X pins σ' H' s'/\tn i s'.heap/\(∀ b∈Z,H' b=none)/\W i n σ' H') ?_ m0 ⟨0,σ,H2,I2,st2,λb hb=>(f2 b hb).1,w0⟩;rintro n s3 ⟨i,σ3,H3,I3,R,Y,w3⟩;rcases turn i n σ3 H3 w3 with⟨stop,qn⟩ | ⟨go,N,hN,step⟩
 ·refine gv hp (thn (T.done X rfl rfl rfl hc i pins s3 σ3 H3 X.xe I3 (j Y) R stop) λr s4 ⟨hr,I4⟩=>?_);subst hr;exact wpAny_execs_nil ⟨σ3,H3,I4,qn⟩
 ·refine gv hp (thn (T.item X rfl rfl rfl hc i pins s3 σ3 H3 X.xe I3 (j Y) R go) λr s4 ⟨u,hr,h4⟩=>?_);subst hr;refine gv hp (thn h4 λ_ s5 ⟨x,H5,I5,r5,y5,O,fr5⟩=>?_);have I5':=I5.pinned (j fr5) (T.obj _ _ O);refine gv hp (thn (hg _ s5 σ3 H5 x u _ I5' r5 (step x H5 y5)) λ_ s6 ⟨σ6,H6,I6,q6⟩=>?_);refine gv hp (thn (hb _ s6 σ6 H6 _ I6 q6) λf s7 L=>?_);have again:∀ {σ7:St} {G:Hp},Inv X (pins++bZz Z s5.heap) σ7 G s7->N σ7 G->∃ m,m < n/\∃ i σ' H',Inv X pins σ' H' s7/\tn i s7.heap/\(∀ b∈Z,H' b=none)/\W i m σ' H':=λ{σ7 G} B U=>by
   obtain⟨m',hm,w7⟩:=hN σ7 G U;refine⟨m',hm,i + 1,σ7,G,B.unpinned,T.keep _ _ _ O λb hb o e=>(B.pin (b,o) (bi _ (bi _ (aX7 hb e)))).1,λb hb=>?_,w7⟩;obtain⟨o,e,d⟩:=T.obj _ _ O b hb;exact(B.pin (b,o) (bi _ (bi _ (aX7 hb e)))).2.1
  cases f with
  | next=>obtain⟨σ7,G,B,U⟩:=L;exact again B U
  | cont=>obtain⟨σ7,G,B,U⟩:=L;exact again B U
  | brk=>obtain⟨σ7,G,B,L⟩:=L;exact⟨σ7,G,B.unpinned,L⟩
  | ret v=>obtain⟨x7,σ7,G,B,r7,L⟩:=L;exact⟨x7,σ7,G,B.unpinned,r7,L⟩
end
abbrev R2:=V->V->Hp->VK->Prop
def OpR (X:Cx) (f:ae->ae->Sem ae) (r:R2):Prop :=
 ∀ (pins:List (Addr × Obj)) (s:ai) (σ:St) (H:Hp) (x y:V) (v u:ae) (Q:VK),Inv X pins σ H s->RelV x v->RelV y u->r x y H Q ->
  aE (aJ X.prog X.w) X.A (f v u) (EP X pins σ Q) X.xe s
def UnR (X:Cx) (f:ae->Sem ae) (r:V->Hp->VK->Prop):Prop :=
 ∀ (pins:List (Addr × Obj)) (s:ai) (σ:St) (H:Hp) (x:V) (v:ae) (Q:VK),Inv X pins σ H s->RelV x v->r x H Q ->
  aE (aJ X.prog X.w) X.A (f v) (EP X pins σ Q) X.xe s
def CallR (X:Cx) (f:ae) (r:List V->Hp->VK->Prop):Prop :=
 ∀ (pins:List (Addr × Obj)) (s:ai) (σ:St) (H:Hp) (xs:List V) (us:List ae) (Q:VK),Inv X pins σ H s->Vals xs us->r xs H Q ->
  aE (aJ X.prog X.w) X.A (call f us) (EP X pins σ Q) X.xe s
def TruR (X:Cx) (r:V->Hp->(Bool->Hp->Prop)->Prop):Prop :=
 ∀ (pins:List (Addr × Obj)) (s:ai) (σ:St) (H:Hp) (x:V) (v:ae) (Q:Bool->Hp->Prop),Inv X pins σ H s->RelV x v->r x H Q ->
  aE (aJ X.prog X.w) X.A (truthy v) (TP X pins σ Q) X.xe s
def tOp (r:R2) (ta tb:TE):TE:=fun σ H Q=>ta σ H λx H1=>tb σ H1 λy H2=>r x y H2 Q
def tUn (r:V->Hp->VK->Prop) (ta:TE):TE:=fun σ H Q=>ta σ H λx H1=>r x H1 Q
def rI (C:Int->Int->Prop) (g:Int->Int->V):R2:=λx y H Q=>∃ i j,x=.int i/\y=.int j/\C i j/\Q (g i j) H
def rI0 (g:Int->Int->V):R2:=λx y H Q=>∃ i j,x=.int i/\y=.int j/\Q (g i j) H
def rU (g:Int->V):V->Hp->VK->Prop:=λx H Q=>∃ i,x=.int i/\Q (g i) H
section
variable {X:Cx} {a b c:Expr} {ta tb tc:TE} {pos:Pos}
theorem binT (ha:PE X a ta) (hb:PE X b tb) {pins:List (Addr × Obj)} {s:ai} {σ:St} {H:Hp} {R:V->V->Hp->Prop} (I:Inv X pins σ H s)
  (h:ta σ H λx H1=>tb σ H1 λy H2=>R x y H2) {Q:ae->ai->Prop} {f:ae->ae->Sem ae}
  (hf:∀ v u s2 x y H2,Inv X pins σ H2 s2->RelV x v->RelV y u->R x y H2->aE (aJ X.prog X.w) X.A (f v u) Q X.xe s2) :
  aE (aJ X.prog X.w) X.A (eval a X.env) (λv s₁=>aE (aJ X.prog X.w) X.A (eval b X.env) (λu s₂=>aE (aJ X.prog X.w) X.A (f v u) Q X.xe s₂) X.xe s₁) X.xe s:=by
 refine thn (ha pins s σ H _ I h) λv s1 ⟨x,H1,L,B,G⟩=>?_;refine thn (hb pins s1 σ H1 _ L G) λu s2 ⟨y,H2,J,j,D⟩=>?_;exact hf v u s2 x y H2 J B j D
theorem fXr {op:Operator} {r:R2} (ho:OpR X (eH op) r) (ha:PE X a ta) (hb:PE X b tb):PE X (.BinOp a op b pos) (tOp r ta tb):=by
 intro pins s σ H Q I h;exact wpAny_BinOp (binT ha hb I h λv u s2 x y H2 D B j q=>ho pins s2 σ H2 x y v u Q D B j q)
theorem fXs {op:UnaryOp} {r:V->Hp->VK->Prop} (ho:UnR X (unaryOp op) r) (ha:PE X a ta):PE X (.UnaryOp op a pos) (tUn r ta):=by
 intro pins s σ H Q I h;exact UnaryOp_ (thn (ha pins s σ H _ I h) λv s1 ⟨x,H1,D,j,B⟩=>ho pins s1 σ H1 x v Q D j B)
theorem opI {f:ae->ae->Sem ae} {C:Int->Int->Prop} {g:Int->Int->Int}
  (rule:∀ (i j:Int) (t u:Tok) (s:ai) (Q:ae->ai->Prop) (E:ae->ai->Prop),C i j->Q (.int (g i j) s.toks) { s with toks:=s.toks + 1 }->aE (aJ X.prog X.w) X.A (f (.int i t) (.int j u)) Q E s) :
  OpR X f (rI C λi j=>.int (g i j)):=by
 intro pins s σ H x y v u Q I G D h;obtain⟨i,j,rfl,rfl,J,q⟩:=h;obtain⟨t,rfl⟩:=G;obtain⟨B,rfl⟩:=D;exact rule i j t B s _ _ J ⟨.int (g i j),H,I.tok _,⟨_,rfl⟩,q⟩
theorem opI0 {f:ae->ae->Sem ae} {g:Int->Int->Int}
  (rule:∀ (i j:Int) (t u:Tok) (s:ai) (Q:ae->ai->Prop) (E:ae->ai->Prop),Q (.int (g i j) s.toks) { s with toks:=s.toks + 1 }->aE (aJ X.prog X.w) X.A (f (.int i t) (.int j u)) Q E s) :
  OpR X f (rI0 λi j=>.int (g i j)):=by
 intro pins s σ H x y v u Q I G D h;obtain⟨i,j,rfl,rfl,q⟩:=h;obtain⟨t,rfl⟩:=G;obtain⟨B,rfl⟩:=D;exact rule i j t B s _ _ ⟨.int (g i j),H,I.tok _,⟨_,rfl⟩,q⟩
theorem opB0 {f:ae->ae->Sem ae} {g:Int->Int->Bool}
  (rule:∀ (i j:Int) (t u:Tok) (s:ai) (Q:ae->ai->Prop) (E:ae->ai->Prop),Q (.bool (g i j)) s->aE (aJ X.prog X.w) X.A (f (.int i t) (.int j u)) Q E s) :
  OpR X f (rI0 λi j=>.bl (g i j)):=by
 intro pins s σ H x y v u Q I G D h;obtain⟨i,j,rfl,rfl,q⟩:=h;obtain⟨t,rfl⟩:=G;obtain⟨B,rfl⟩:=D;exact rule i j t B s _ _ ⟨.bl (g i j),H,I,rfl,q⟩
def CDiv (i j:Int):Prop:=0 < j/\j < 1073741824
def CPow (i j:Int):Prop:=0<=j/\j<=1000000/\i.natAbs < 2 ^ 64
def CMul (i j:Int):Prop:=(-(2 ^ 64) < i/\i < 2 ^ 64)\/(-(2 ^ 64) < j/\j < 2 ^ 64)
theorem CMul.ok {i j:Int} (h:CMul i j):IntMulOk i j:=by
 rcases h with⟨h1,h2⟩ | ⟨h1,h2⟩
 ·exact .of_left (intBits_le_64 h1 h2)
 ·exact .of_right (intBits_le_64 h1 h2)
theorem op_add:OpR X (eH .Add) (rI0 λi j=>.int (i + j)):=opI0 λ_ _ _ _ _ _ _ q=>add_int q
theorem eJ6:OpR X (eH .Sub) (rI0 λi j=>.int (i - j)):=opI0 λ_ _ _ _ _ _ _ q=>sub_int q
theorem eJ7:OpR X (eH .Mult) (rI CMul λi j=>.int (i * j)):=opI λ_ _ _ _ _ _ _ B q=>mul_int q B.ok
theorem dJi:OpR X (eH .FloorDiv) (rI CDiv λi j=>.int (i / j)):=opI λi j _ _ _ _ _ B q=>by
 have h1:(0:Int) < j:=B.1;have h2:j < 1073741824:=B.2;exact floordiv_int (by omega) (by rw[Int.fdiv_eq_ediv_of_nonneg i (by omega)];exact q) (.inl (PyProof.noPylong_small (by omega)))
theorem eJ8:OpR X (eH .Mod) (rI (λ_ j=>0 < j) λi j=>.int (i % j)):=opI λi j _ _ _ _ _ B q=>by
 have h1:(0:Int) < j:=B;exact mod_int' (by omega) (by rw[Int.fmod_eq_emod_of_nonneg i (by omega)];exact q)
theorem eJ9:OpR X (eH .Pow) (rI CPow λi j=>.int (i ^ j.toNat)):=opI λ_ _ _ _ _ _ _ B q=>pow_int_small B.1 B.2.1 B.2.2 q
theorem unI {f:ae->Sem ae} {g:Int->Int}
  (rule:∀ (i:Int) (t:Tok) (s:ai) (Q:ae->ai->Prop) (E:ae->ai->Prop),Q (.int (g i) s.toks) { s with toks:=s.toks + 1 }->aE (aJ X.prog X.w) X.A (f (.int i t)) Q E s) :
  UnR X f (rU λi=>.int (g i)):=by
 intro pins s σ H x v Q I j h;obtain⟨i,rfl,q⟩:=h;obtain⟨t,rfl⟩:=j;exact rule i t s _ _ ⟨.int (g i),H,I.tok _,⟨_,rfl⟩,q⟩
theorem eJa:UnR X (unaryOp .USub) (rU λi=>.int (-i)):=unI λ_ _ _ _ _ q=>neg_int q
end
section
variable {X:Cx} {a b c:Expr} {ta tb tc:TE} {pos:Pos}
theorem dX9 {pins:List (Addr × Obj)} {σ:St} {H:Hp} {s:ai} {Q:VK} {k k':Bool} (I:Inv X pins σ H s) (q:Q (.bl k) H) (e:k=k'):EP X pins σ Q (.bool k') s:=by
 subst e;exact⟨.bl k,H,I,rfl,q⟩
theorem op_lt:OpR X (cQ .Lt) (rI0 λi j=>.bl (decide (i < j))):=opB0 λ_ _ _ _ _ _ _ q=>lt_int q
theorem fXt:OpR X (cQ .Gt) (rI0 λi j=>.bl (decide (j < i))):=opB0 λ_ _ _ _ _ _ _ q=>gt_int q
theorem fXu:OpR X (cQ .GtE) (rI0 λi j=>.bl (decide (j<=i))):=opB0 λ_ _ _ _ _ _ _ q=>ge_int q
theorem op_lt_str:OpR X (cQ .Lt) (λx y H Q=>∃ i j,x=.str i/\y=.str j/\Q (.bl (decide (i.cps.toList < j.cps.toList))) H):=by
 intro pins s σ H x y v u Q I D B h;obtain⟨i,j,rfl,rfl,q⟩:=h;obtain⟨t,rfl⟩:=D;obtain⟨G,rfl⟩:=B;exact lt_str (dX9 I q rfl)
theorem eJb:OpR X (cQ .Is) (λx y H Q=>y=.non/\Q (.bl (decide (x=.non))) H):=by
 intro pins s σ H x y v u Q I rx ry h;obtain⟨rfl,q⟩:=h;cases ry;refine is_none_gen (dX9 I q ?_);cases x <;> first
  | (cases rx;rfl)
  | (obtain⟨t,rfl⟩:=rx;rfl)
theorem OpR.or {f:ae->ae->Sem ae} {r r':R2} (h:OpR X f r) (h':OpR X f r'):OpR X f (λx y H Q=>r x y H Q\/r' x y H Q):=by
 intro pins s σ H x y v u Q I B j q;rcases q with q | q
 ·exact h pins s σ H x y v u Q I B j q
 ·exact h' pins s σ H x y v u Q I B j q
theorem nomark (b:Expr) {op:CmpOp} (h:op≠.In:=by decide) (h2:op≠.NotIn:=by decide):eL op b=false:=by
 have B:(op == CmpOp.In)=false:=by cases op <;> first | rfl | exact absurd rfl h
 have j:(op == CmpOp.NotIn)=false:=by cases op <;> first | rfl | exact absurd rfl h2
 cases b <;> simp[eL,B,j]
theorem dJj {op:CmpOp} {r:R2} (ho:OpR X (cQ op) r) (ha:PE X a ta) (hb:PE X b tb) (hm:eL op b=false):PE X (.Compare a [op] [b] pos) (tOp r ta tb):=by
 intro pins s σ H Q I h;exact wpAny_Compare1 (binT ha hb I h λv u s2 x y H2 D B j q=>ho pins s2 σ H2 x y v u Q D B j q) hm
def eJc (t:TE):TT:=fun σ H Q=>t σ H λx H'=>∃ k,x=.bl k/\Q k H'
theorem dJk {op:CmpOp} {r:R2} (ho:OpR X (cQ op) r) (ha:PE X a ta) (hb:PE X b tb) (hm:eL op b=false):PT X (.Compare a [op] [b] pos) (eJc (tOp r ta tb)):=by
 intro pins s σ H Q I h;refine wpAny_isTrue_Compare1 (thn (ha pins s σ H _ I h) λv s1 ⟨x,H1,R,B,J⟩=>thn (hb pins s1 σ H1 _ R J) λu s2 ⟨y,H2,O,j,G⟩ =>
  thn (ho pins s2 σ H2 x y v u _ O B j G) λc s3 ⟨z,U,L,r3,k,e,D⟩=>?_) hm
 subst e;cases r3;exact eD ⟨U,L,D⟩
def TruV (K:az) (x:V) (H:Hp) (k:Bool):Prop :=
 match x with
 | .non=>k=false
 | .bl b=>k=b
 | .int i=>k=(i != 0)
 | .str y=>y.length<=sizeLine/\k=((y.length:Int) != 0)
 | .byt y=>y.size<=sizeLine/\k=((y.size:Int) != 0)
 | .ref p=>(∃ xs,SqL K H p xs/\k=!xs.isEmpty)\/(∃ xs,SqT K H p xs/\k=!xs.isEmpty)\/∃ kvs,H p=some (.dK kvs)/\k=!kvs.isEmpty
 | _=>False
theorem cZe {κ:Type} {kvs:List (κ × V)} {vs:List (κ × ae)} (r:KV kvs vs):(!vs.isEmpty)=!kvs.isEmpty:=by
 cases r <;> rfl
theorem bQh {xs:List V} {its:List ae} (r:Vals xs its):(!its.toArray.isEmpty)=!xs.isEmpty:=by
 cases r <;> simp
theorem bQi:(sizeLine:Nat) < 2 ^ 63:=by rw[bh];decide
theorem eJd:TruR X (λx H Q=>∃ k,TruV X.K x H k/\Q k H):=by
 intro pins s σ H x v Q I rx h;obtain⟨k,e,q⟩:=h;have R:=bQi;have O:sizeLine=16777216:=bh;cases x with
 | non =>
  cases rx;have j:k=false:=e;subst j;exact truthy_none ⟨H,I,q⟩
 | bl b =>
  cases rx;have j:k=b:=e;subst j;exact eD ⟨H,I,q⟩
 | int i =>
  obtain⟨t,rfl⟩:=rx;have j:k=(i != 0):=e;subst j;exact PySem.P.truthy_int ⟨H,I,q⟩
 | str y =>
  obtain⟨t,rfl⟩:=rx;obtain⟨J,j⟩:y.length<=sizeLine/\k=((y.length:Int) != 0):=e;subst j;exact PySem.P.truthy_str (by omega) ⟨H,I.tok _,q⟩
 | byt y =>
  obtain⟨t,rfl⟩:=rx;obtain⟨J,j⟩:y.size<=sizeLine/\k=((y.size:Int) != 0):=e;subst j;exact PySem.W.truthy_bytes (by omega) ⟨H,I.tok _,q⟩
 | ref p =>
  cases rx;have j:(∃ xs,SqL X.K H p xs/\k=!xs.isEmpty)\/(∃ xs,SqT X.K H p xs/\k=!xs.isEmpty)\/∃ kvs,H p=some (.dK kvs)/\k=!kvs.isEmpty:=e;rcases j with⟨xs,B,j⟩ | ⟨xs,B,j⟩ | ⟨kvs,B,j⟩
  ·subst j;obtain⟨D,r,pl,G⟩:=I.list B;have hlen:=r.length;exact wpAny_truthy_list pl.isList (by simp only[ar];omega) ⟨H,I.tok _,by rw[bQh r];exact q⟩
  ·subst j;obtain⟨D,r,pl,G⟩:=I.tuple B;have hlen:=r.length;exact truthy_tuple pl (by simp only[ar];omega) ⟨H,I.tok _,by rw[bQh r];exact q⟩
  ·subst j;obtain⟨G,L,vs,r,m⟩:kvs.length<=sizeLine/\(p == e8)=false/\∃ vs,KV kvs vs/\s.heap.DictOf (aJr X.prog X.w) p vs:=I.hok p _ B;have hlen:kvs.length=vs.length:=bP r;exact wpAny_truthy_dict L m (by omega) ⟨H,I.tok _,by rw[cZe r];exact q⟩
 | _=>exact(show False from e).elim
theorem dQo (ha:PE X a ta) (he:∀ whole,isTrue a X.env whole=(do let v <- whole;standAt a.pos;io [v] (truthy v))) :
  PT X a (fun σ H Q=>ta σ H λx H'=>∃ k,TruV X.K x H' k/\Q k H'):=by
 intro pins s σ H Q I h;exact isTrue_plain (thn (ha pins s σ H _ I h) λv s1 ⟨x,H1,D,j,B⟩=>eJd pins s1 σ H1 x v Q D j B) (he _)
theorem op_add_str:OpR X (eH .Add) (λx y H Q=>∃ i j,x=.str i/\y=.str j/\i.length + j.length<=sizeLine/\Q (.str (i++j)) H):=by
 intro pins s σ H x y v u Q I G D h;obtain⟨i,j,rfl,rfl,J,q⟩:=h;obtain⟨t,rfl⟩:=G;obtain⟨B,rfl⟩:=D;exact add_str (λB L=>⟨.str (i++j),H,I.tok _,⟨_,rfl⟩,q⟩) J
theorem aZo {x:V} {us:List ae} (r:Vals [x] us):∃ u,us=[u]/\RelV x u:=by
 cases r with
 | cons j r2=>cases r2;exact⟨_,rfl,j⟩
theorem dQp:CallR X (.builtin "abs") (λxs H Q=>∃ i,xs=[.int i]/\Q (.int (if i < 0 then -i else i)) H):=by
 intro pins s σ H xs us Q I r h;obtain⟨i,rfl,q⟩:=h;obtain⟨u,rfl,t,rfl⟩:=aZo r;exact call_abs_int λu j=>⟨.int (if i < 0 then -i else i),H,I.tok _,⟨_,rfl⟩,q⟩
theorem cX4:CallR X (.type "int") (λxs H Q=>(∃ i,xs=[.int i]/\Q (.int i) H)\/∃ k,xs=[.bl k]/\Q (.int (if k then 1 else 0)) H):=by
 intro pins s σ H xs us Q I r h;rcases h with⟨i,rfl,q⟩ | ⟨k,rfl,q⟩
 ·obtain⟨u,rfl,t,rfl⟩:=aZo r;exact call_int_int ⟨.int i,H,I,⟨_,rfl⟩,q⟩
 ·obtain⟨u,rfl,r1⟩:=aZo r;cases r1;exact call_int_bool ⟨.int (if k then 1 else 0),H,I.tok _,⟨_,rfl⟩,q⟩
def LenV (K:az) (x:V) (H:Hp) (n:Nat):Prop :=
 match x with
 | .str y=>y.length<=sizeLine/\n=y.length
 | .byt y=>y.size<=sizeLine/\n=y.size
 | .ref p=>(∃ xs,SqL K H p xs/\n=xs.length)\/∃ xs,SqT K H p xs/\n=xs.length
 | _=>False
theorem dQq:CallR X (.builtin "len") (λxs H Q=>∃ x n,xs=[x]/\LenV X.K x H n/\Q (.int n) H):=by
 intro pins s σ H xs us Q I r h;obtain⟨x,n,rfl,e,q⟩:=h;obtain⟨u,rfl,rx⟩:=aZo r;have R:=bQi;have O:sizeLine=16777216:=bh;cases x with
 | str y =>
  obtain⟨t,rfl⟩:=rx;obtain⟨L,j⟩:y.length<=sizeLine/\n=y.length:=e;subst j;exact len_str (by omega) ⟨.int _,H,I.tok _,⟨_,rfl⟩,q⟩
 | byt y =>
  obtain⟨t,rfl⟩:=rx;obtain⟨L,j⟩:y.size<=sizeLine/\n=y.size:=e;subst j;exact PySem.W.len_bytes (by omega) ⟨.int _,H,I.tok _,⟨_,rfl⟩,q⟩
 | ref p =>
  cases rx;have j:(∃ xs,SqL X.K H p xs/\n=xs.length)\/∃ xs,SqT X.K H p xs/\n=xs.length:=e;rcases j with⟨xs,G,j⟩ | ⟨xs,G,j⟩
  ·subst j;obtain⟨D,B,pl,J⟩:=I.list G;have hlen:=B.length;exact Calls.call_len_list pl.isList (by simp only[ar];omega) ⟨.int xs.length,H,I.tok _,⟨_,by simp only[ar];rw[hlen]⟩,q⟩
  ·subst j;obtain⟨D,B,pl,J⟩:=I.tuple G;have hlen:=B.length;exact len_tuple pl (by simp only[ar];omega) ⟨.int xs.length,H,I.tok _,⟨_,by simp only[ar];rw[hlen]⟩,q⟩
 | _=>exact(show False from e).elim
end
structure ObjM (h:bf) (x dx C:Addr) (mA:Str->Option ae):Prop where
 obj:h.get? x=some (kd C dx)
 ns:h.Ns1 dx mA
 ne:dx≠x
theorem cX5 {h:bf} {dx:Addr} {mA:Str->Option ae} (n:h.Ns1 dx mA):∃ od,h.get? dx=some od/\∀ name,ky name od=some (mA name):=by
 obtain⟨o,es,ep,D,hd,G,_,hm⟩:=n;refine⟨o,D,λname=>?_⟩;have e:=hm name;unfold nsFind findBy at e;rw[<- Array.find?_toList] at e;unfold ky;rw[hd];dsimp only
 split
 ·rename_i y q;rw[q] at e;exact congrArg some e
 ·rename_i q;rw[q] at e;have a:es.toList.any (·.refKey)=false:=by
   rw[List.any_eq_false];intro y B;obtain⟨z,t,j⟩:=G y (dE.mp B);simp[jF.refKey,j]
  have I:¬ es.toList.any (·.refKey)=true:=by rw[a];exact a9
  rw[if_neg I];exact congrArg some e
theorem ObjM.look {h:bf} {x dx C:Addr} {mA:Str->Option ae} (I:ObjM h x dx C mA):∃ od,PySem.W.InstAt h x (kd C dx) C (some od)/\∀ name,ky name od=some (mA name) :=
 let ⟨od,j,B⟩:=cX5 I.ns
 ⟨od,⟨I.obj,rfl,rfl,j⟩,B⟩
section
variable {P:aC} {w:aR} {H H':Hp} {h h':bf} {a C dx:Addr} {fs fs':List (Str × V)}
theorem dJl (hok:HOk P w H h) (e:H a=some (.ins C dx fs)):∃ mA,ObjM h a dx C mA/\(∀ f,RelO (fs.lookup f) (mA f))/\PySem.Within mA (fs.map (·.1))/\fs.length<=1000/\H dx=some (.own a):=by
 obtain⟨d,z,ne,j,mA,n,r,q⟩:=(show ObjOk P w H h a (.ins C dx fs) from hok a _ e)
 exact⟨mA,⟨j,n,ne⟩,r,q,z,d⟩
end
structure Cls (K:az) (C:Addr):Prop where
 pg:PySem.W.plainGet K C Str.empty=true
 hd:PySem.W.hasDictIn K C=true
 po:PySem.W.plainOver K C=true
 sa:PySem.W.findIn K (.ref C) "__setattr__" = some (some (.builtin "object.__setattr__"))
theorem Cls.get {K:az} {C:Addr} (c:Cls K C) (f:Str):PySem.W.plainGet K C f=true:=c.pg
section
variable {X:Cx} {pins:List (Addr × Obj)} {σ:St} {H:Hp} {s:ai} {A:a7} {E:ae->ai->Prop} {Q:ae->ai->Prop} {c:ae} {b:Bool}
inductive TyOf (K:az) (H:Hp):V->ae->Prop where
 | non:TyOf K H .non (.type "NoneType")
 | bl (x:Bool):TyOf K H (.bl x) (.type "bool")
 | int (i:Int):TyOf K H (.int i) (.type "int")
 | str (x:Str):TyOf K H (.str x) (.type "str")
 | flt (x:UInt64):TyOf K H (.flt x) (.type "float")
 | lst {a:Addr} {xs:List V} (e:H a=some (.lst xs)):TyOf K H (.ref a) (.type "list")
 | frz {a:Addr} {o:Obj} {xs:List V} (e:H a=some (.frz o (.lst xs))):TyOf K H (.ref a) (.type "list")
 | tup {a:Addr} {xs:List V} (e:H a=some (.tup xs)):TyOf K H (.ref a) (.type "tuple")
 | dK {a:Addr} {kvs:List (Key × V)} (e:H a=some (.dK kvs)):TyOf K H (.ref a) (.type "dict")
 | dT {a:Addr} {kvs:List (List Key × V)} (e:H a=some (.dT kvs)):TyOf K H (.ref a) (.type "dict")
 | ins {a C dx:Addr} {fs:List (Str × V)} (e:H a=some (.ins C dx fs)) (cl:Cls K C) (ha:PySem.W.findIn K (.ref C) "__class__" = some (some (.builtin "object.__class__")))
   (hn:PySem.W.specialIn K (.builtin "object.__class__") "__get__" = some (some (.builtin "getset_descriptor.__get__"))) (htk:PySem.W.takesIn K (.builtin "object.__class__")=some true)
   (hm:PySem.W.mroIn K C (.type "object")=some true):TyOf K H (.ref a) (.ref C)
theorem cX6 {x:V} {u t:ae} (I:Inv X pins σ H s) (rx:RelV x u) (ty:TyOf X.K H x t) (e:iR X.K t c=some b) (h:∀ tk,Q (.bool b) { s with toks:=tk }) :
  aE (aJ X.prog X.w) A (call (.builtin "isinstance") [u,c]) Q E s:=by
 cases ty with
 | non=>cases (show u=bM from rx);exact cF PySem.W.kitx_none I.kIn gy e (λz=>nomatch z) h
 | bl y=>cases (show u=jX y from rx);exact cF PySem.W.kitx_bool I.kIn gy e (λz=>nomatch z) h
 | int i=>obtain⟨t,q⟩:=(show ∃ t,u=g8 i t from rx);cases q;exact cF PySem.W.kitx_int I.kIn gy e (λz=>nomatch z) h
 | str y=>obtain⟨t,q⟩:=(show ∃ t,u=jE y t from rx);cases q;exact cF PySem.W.kitx_str I.kIn gy e (λz=>nomatch z) h
 | flt y=>obtain⟨t,q⟩:=(show ∃ t,u=ae.float y t from rx);cases q;exact cF PySem.W.kitx_float I.kIn gy e (λz=>nomatch z) h
 | @lst a xs j =>
  cases (show u=cr a from rx)
  obtain⟨_,_,n,_,h1⟩:=(show ObjOk X.prog X.w H s.heap a (.lst xs) from I.hok a _ j)
  exact cF jl I.kIn ⟨_,h1,rfl⟩ e (λz=>nomatch z) h
 | @frz a G xs j =>
  cases (show u=cr a from rx)
  obtain⟨_,_,_,n,_,h1⟩:=(show ObjOk X.prog X.w H s.heap a (.frz G (.lst xs)) from I.hok a _ j)
  exact cF jl I.kIn ⟨_,h1,rfl⟩ e (λz=>nomatch z) h
 | @tup a xs j =>
  cases (show u=cr a from rx)
  obtain⟨_,_,_,p,_⟩:=(show ObjOk X.prog X.w H s.heap a (.tup xs) from I.hok a _ j)
  obtain⟨o,h1,h2,_⟩:=p;exact cF PySem.W.kitx_tuple I.kIn ⟨o,h1,h2⟩ e (λz=>nomatch z) h
 | @dK a B j =>
  cases (show u=cr a from rx)
  obtain⟨_,_,vs,_,p⟩:=(show ObjOk X.prog X.w H s.heap a (.dK B) from I.hok a _ j)
  obtain⟨o,es,ep,h1,h2,_⟩:=p;exact cF PySem.W.kitx_dict I.kIn ⟨o,h1,h2.1⟩ e (λz=>nomatch z) h
 | @dT a B j =>
  cases (show u=cr a from rx)
  obtain⟨_,_,xs,_,o,es,ep,h1,h2,_⟩:=(show ObjOk X.prog X.w H s.heap a (.dT B) from I.hok a _ j)
  exact cF PySem.W.kitx_dict I.kIn ⟨o,h1,h2.1⟩ e (λz=>nomatch z) h
 | @ins a C dx fs j cl R L D hm =>
  cases (show u=cr a from rx)
  obtain⟨Y,O,_⟩:=dJl I.hok j;obtain⟨U,J,_⟩:=O.look;exact cF (PySem.W.kitx_own (cl.get _) cl.hd R L D hm) I.kIn J e (λz=>nomatch z) h
end
structure Room (k:Nat) (A:a7):Prop where
 hd:A.handled=none
 dp:A.depth + 3 * k + 5 < recursionLimit
 un:A.units + 16 * k + 200 < cb
theorem Room.mono {j k:Nat} {A:a7} (r:Room k A) (h:j<=k):Room j A:=⟨r.hd,by have:=r.dp;omega,by have:=r.un;omega⟩
theorem Room.deeper {k:Nat} {A:a7} (r:Room (k + 1) A) (env:Env):Room k (A.deeper env) :=
 ⟨r.hd,by have:=r.dp;show A.depth + 1 + 3 * k + 5 < _;omega,by have:=r.un;show A.units + 3 + 16 * k + 200 < _;omega⟩
theorem Room.depth {k:Nat} {A:a7} (r:Room k A):A.depth < recursionLimit:=by have:=r.dp;omega
theorem Room.units {k:Nat} {A:a7} (r:Room k A):A.units + 64 < cb:=by have:=r.un;omega
theorem Room.units0 {k:Nat} {A:a7} (r:Room k A):A.units < cb:=by have:=r.un;omega
def tNil:TA:=λ_ H Q=>Q [] H
def fXv (ta:TE) (tr:TA):TA:=fun σ H Q=>ta σ H λx H1=>tr σ H1 λxs H2=>Q (x::xs) H2
section
variable {X:Cx} {e:Expr} {es:List Expr} {te:TE} {t:TA} {pos:Pos}
theorem aXn:PA X [] tNil:=λ_ _ _ _ H Q I h=>Calls.spliced_nil ⟨[],H,I,.nil,h⟩
theorem aZp (ha:PE X e te) (hr:PA X es t) (hs:av (e::es) X.env=(false,eval e X.env)::av es X.env:=by rfl):PA X (e::es) (fXv te t):=by
 intro pos pins s σ H Q I h;rw[hs];show aE _ _ (spliced ((false,eval e X.env)::cz pos (av es X.env))) _ _ s;refine iS (thn (ha pins s σ H _ I h) λu s1 ⟨x,H1,L,B,G⟩=>?_);exact thn (hr pos pins s1 σ H1 _ L G) λus s2 ⟨xs,H2,J,j,D⟩=>⟨x::xs,H2,J,.cons B j,D⟩
def tTup (t:TA):TE:=fun σ H Q=>t σ H λxs H1=>xs.length<=sizeLine/\∀ p,H1 p=none->Q (.ref p) (upd H1 p (.tup xs))
def tLst (t:TA):TE:=fun σ H Q=>t σ H λxs H1=>xs.length<=sizeLine/\∀ p,H1 p=none->Q (.ref p) (upd H1 p (.lst xs))
theorem eJe {x1} (h:PA X es t):PE X (.Tuple es x1 pos) (tTup t):=by
 intro pins s σ H Q I B;refine wpAny_Tuple_spliced (thn (h pos pins s σ H _ I B) λus s1 ⟨xs,H1,j,r,z,q⟩=>⟨by rw[<- r.length];exact z,?_⟩)
 have hf:H1 s1.heap.objs.size=none:=j.hok.fresh (Nat.le_refl _);refine⟨.ref s1.heap.objs.size,upd H1 s1.heap.objs.size (.tup xs),j.laid (t':=s1.toks) (λb u e=>ag _ e) (Nat.le_refl _) ?_,rfl,q _ hf⟩;exact⟨z,us,r,⟨_,au _ rfl,rfl,_,rfl⟩,bJu⟩
theorem eJf (h:PA X es t):PE X (.List es pos) (tLst t):=by
 intro pins s σ H Q I B;refine wpAny_List_spliced (thn (h pos pins s σ H _ I B) λus s1 ⟨xs,H1,j,r,z,q⟩=>⟨by rw[<- r.length];exact z,?_⟩)
 have hf:H1 s1.heap.objs.size=none:=j.hok.fresh (Nat.le_refl _);refine⟨.ref s1.heap.objs.size,upd H1 s1.heap.objs.size (.lst xs),j.laid (t':=s1.toks) (λb u e=>ag _ e) (Nat.le_refl _) ?_,rfl,q _ hf⟩;exact⟨z,us,0,r,au _ rfl⟩
end
abbrev Sp:=List V->Hp->VK->XK->Prop
abbrev CXT:=List Env->Hp->ai->XK->ae->ai->Prop
structure Env0 (P:aC) (w:aR) (K:az) (mg:Str->Option ae) (base:bf) (A:a7) (outer:List Env) (s:ai) (H:Hp):Prop where
 frames:A.frames=some outer
 gd:A.guards=some []
 mod:Mod K mg base
 bs:∀ b o,base.get? b=some o->s.heap.get? b=some o/\H b=none
 bsz:base.objs.size<=s.heap.objs.size
 funs:s.heap.FunFrames base outer
 frf:∀ b∈frs outer,H b=none
 hok:HOk P w H s.heap
 bare:jj s.gens
def CE (outer:List Env) (P:aC) (w:aR) (H:Hp) (s:ai) (Q:VK) (u:ae) (s':ai):Prop :=
 ∃ v H',s'.os=s.os/\jj s'.gens/\Un (frs outer) [] H H' s.heap s'.heap/\HOk P w H' s'.heap/\RelV v u/\Q v H'
def CR (CX:CXT) (outer:List Env) (P:aC) (w:aR) (H:Hp) (s:ai) (Q:VK) (E:XK) (r:Result) (s':ai):Prop :=
 match r with
 | .ok (.ret u)=>CE outer P w H s Q u s'
 | .ok _=>False
 | .error e=>CX outer H s E e s'
structure FnOk (P:aC) (w:aR) (K:az) (mg:Str->Option ae) (base:bf) (CX:CXT) (k:Nat) (f:Addr) (fd:eA) (ps:List Str) (sp:Sp):Prop where
 len:∀ vs H Q E,sp vs H Q E->vs.length=ps.length
 run:∀ (A:a7) (outer:List Env) (s:ai) (H:Hp) (args:Args) (us:List ae) (vs:List V) (Q:VK) (E:XK),Room k A->Env0 P w K mg base A outer s H->BindsTo s fd args (ps.zip us)->Vals vs us->sp vs H Q E ->
  jm (aJ P w) A (.call (.ref f) args) (CR CX outer P w H s Q E) s
theorem FnOk.mono {P:aC} {w:aR} {K:az} {mg:Str->Option ae} {base:bf} {CX:CXT} {j k:Nat} {f:Addr} {fd:eA} {ps:List Str} {sp:Sp} (F:FnOk P w K mg base CX j f fd ps sp) (h:j<=k) :
  FnOk P w K mg base CX k f fd ps sp:=⟨F.len,λA outer s H args us vs Q E B=>F.run A outer s H args us vs Q E (B.mono h)⟩
section
variable {X:Cx} {pins:List (Addr × Obj)} {σ:St} {H:Hp} {s s':ai}
theorem Inv.env0 (I:Inv X pins σ H s):Env0 X.prog X.w X.K X.mg X.base X.A X.stack s H :=
 ⟨I.ok.frames,I.ok.gd,I.ok.mod,I.bs,Nat.le_trans I.ok.bsz I.sz,I.stack,I.stkFree,I.hok,I.bare⟩
theorem Inv.after {Q:VK} {u:ae} (I:Inv X pins σ H s) (h:CE X.stack X.prog X.w H s Q u s'):EP X pins σ Q u s':=by
 obtain⟨v,H',os,bare,un,hok,r,q⟩:=h;obtain⟨B,g,d,t,j⟩:=s';obtain rfl:j=s.os:=os;exact⟨v,H',I.call (h':=B) (g':=g) (d':=d) (t':=t) (ch:=[]) un hok bare (λb z=>absurd z (by simp)),r,q⟩
end
def eJg (sp:Sp) (dvs:List V) (E:XK) (t:TA):TE:=fun σ H Q=>t σ H λvs H1=>sp (vs++dvs) H1 Q E
def Binds (K:az) (fd:eA) (ps:List Str) (ds:List ae):Prop :=
 ∀ (s:ai) (us:List ae),K.In s.heap->(us++ds).length=ps.length->BindsTo s fd ⟨us,[]⟩ (ps.zip (us++ds))
theorem Binds.all {K:az} {fd:eA} {ps:List Str} (h:∀ us:List ae,us.length=ps.length->bindArgs fd ⟨us,[]⟩=pure (ps.zip us)):Binds K fd ps []:=λs us _ j=>by
 rw[bz] at j ⊢;exact .of_eq (h us j)
def cX7 (CX:CXT) (X:Cx) (E:XK):Prop:=∀ (pins:List (Addr × Obj)) (σ:St) (H:Hp) (s:ai) (e:ae) (s':ai),Inv X pins σ H s->CX X.stack H s E e s'->X.xe e s'
section
variable {X:Cx} {CX:CXT} {k:Nat} {f C:Addr} {fd:eA} {ps:List Str} {sp:Sp} {dvs:List V} {ds:List ae} {E:XK} {x m:Str} {p pos apos:Pos} {e o:Expr} {es:List Expr} {ta:TE} {t:TA}
theorem eJh {pins:List (Addr × Obj)} {σ:St} {H:Hp} {s:ai} {Q:VK} {us:List ae} {vs:List V} (F:FnOk X.prog X.w X.K X.mg X.base CX k f fd ps sp) (hr:Room k X.A) (hb:Binds X.K fd ps ds) (hd:Vals dvs ds) (hx:cX7 CX X E)
  (I:Inv X pins σ H s) (r:Vals vs us) (h:sp (vs++dvs) H Q E):aE (aJ X.prog X.w) X.A (call (.ref f) us) (EP X pins σ Q) X.xe s:=by
 have B:Vals (vs++dvs) (us++ds):=r.append hd;have D:(us++ds).length=ps.length:=by rw[<- B.length];exact F.len _ _ _ _ h
 refine wpAny_call (fW (F.run X.A X.stack s H ⟨us,[]⟩ (us++ds) (vs++dvs) Q E hr I.env0 (hb s us I.kIn D) B h) λr s' j=>?_);cases r with
 | error e=>exact hx pins σ H s e s' I j
 | ok fl =>
  cases fl with
  | ret u=>exact I.after j
  | next=>exact eF j
  | brk=>exact eF j
  | cont=>exact eF j
theorem dJm (F:FnOk X.prog X.w X.K X.mg X.base CX k f fd ps sp) (hr:Room k X.A) (hg:Gl X x) (hm:X.mg x=some (.ref f)) (hk:fL X.K (.ref f)=true) (hb:Binds X.K fd ps ds) (hd:Vals dvs ds) (hx:cX7 CX X E)
  (ha:PA X (e::es) t) (hdb:(x == ("__debug__" : Str))=false:=by decide) (he:av (e::es) X.env=(false,eval e X.env)::av es X.env:=by rfl) (hpl:(cz pos (av es X.env)).any (·.1)=false:=by rfl) :
  PE X (.Call (.Name x p) (e::es) [] pos) (eJg sp dvs E t):=by
 intro pins s σ H Q I h;refine iT (ld_glob I hg hm ?_ hdb);refine PySem.W.callWith_K (h₀:=X.base) I.ok.mod.kin hk (thn (ha pos pins s σ H _ I h) λus s1 ⟨vs,H1,j,r,q⟩=>⟨j.kIn,?_⟩) he hpl;exact eJh F hr hb hd hx j r q
end
structure FnScope (N P:List Str) (sc:Scope):Prop where
 kind:sc.kind=.function
 co:sc.isCoroutine=false
 gen:sc.isGenerator=false
 nd:N.Nodup
 pre:N.take P.length=P
 par:∀ x∈P,sc.names.lookup x=some .local\/sc.names.lookup x=some .cell
 nofree:∀ y∈sc.names,y.2≠.free
theorem bX0 {kindOf:Str->Option fB} {x:Str}:∀ {binds:List (Str × ae)} {m:Str->Option ae},(∀ v,(x,v)∉binds)->bindL kindOf binds m x=m x
 | [],_,_=>rfl
 | (n,v)::r,m,h=>by
  unfold bindL;rw[bX0 λw hw=>h w (ao _ hw)]
  split
  ·have:x≠n:=by rintro rfl;exact h v am
   simp[this]
  ·rfl
theorem bindC_out {kindOf:Str->Option fB} {x:Str}:∀ {binds:List (Str × ae)} {m:Str->Option ae},(∀ v,(x,v)∉binds)->bindC kindOf binds m x=m x
 | [],_,_=>rfl
 | (n,v)::r,m,h=>by
  unfold bindC;rw[bindC_out λw hw=>h w (ao _ hw)]
  split
  ·rfl
  ·have:x≠n:=by rintro rfl;exact h v am
   simp[this]
theorem bindL_get {kindOf:Str->Option fB} {x:Str} {v:ae}:∀ {P:List Str} {vs:List ae} {i:Nat} {m:Str->Option ae},P.Nodup->P[i]?=some x->vs[i]?=some v->kindOf x=some .local ->
  bindL kindOf (P.zip vs) m x=some v
 | [],_,_,_,_,h,_,_=>by simp at h
 | _::_,[],_,_,_,_,h,_=>by simp at h
 | p::P,w::vs,0,m,nd,h1,h2,j=>by
  simp at h1 h2;subst h1;subst h2;show bindL kindOf ((p,w)::P.zip vs) m p=_;unfold bindL;rw[bX0 λv B=>(bN.mp nd).1 (ke B).1,if_pos j];simp
 | p::P,w::vs,i + 1,m,nd,h1,h2,j=>by
  show bindL kindOf ((p,w)::P.zip vs) m x=_;unfold bindL;exact bindL_get (i:=i) (bN.mp nd).2 (by simpa using h1) (by simpa using h2) j
theorem bX1 {kindOf:Str->Option fB} {x:Str} {v:ae}:∀ {P:List Str} {vs:List ae} {i:Nat} {m:Str->Option ae},P.Nodup->P[i]?=some x->vs[i]?=some v->kindOf x≠some .local ->
  bindC kindOf (P.zip vs) m x=some v
 | [],_,_,_,_,h,_,_=>by simp at h
 | _::_,[],_,_,_,_,h,_=>by simp at h
 | p::P,w::vs,0,m,nd,h1,h2,j=>by
  simp at h1 h2;subst h1;subst h2;show bindC kindOf ((p,w)::P.zip vs) m p=_;unfold bindC;rw[bindC_out λv B=>(bN.mp nd).1 (ke B).1,if_neg j];simp
 | p::P,w::vs,i + 1,m,nd,h1,h2,j=>by
  show bindC kindOf ((p,w)::P.zip vs) m x=_;unfold bindC;exact bX1 (i:=i) (bN.mp nd).2 (by simpa using h1) (by simpa using h2) j
def start (N:List Str) (vs:List V):St:=vs.map some++fM (N.length - vs.length) none
def cxOf (CX:CXT) (P:aC) (w:aR) (K:az) (mg:Str->Option ae) (base:bf) (N:List Str) (qual:Str) (scope:Scope) (f:Addr) (cd:ae) (A:a7) (outer:List Env) (s:ai) (H:Hp) (E:XK):Cx where
 prog:=P
 w:=w
 K:=K
 mg:=mg
 base:=base
 A:=A.deeper (jt qual scope s.heap.objs.size f cd)
 N:=N
 s₀:=s
 H₀:=H
 env:=jt qual scope s.heap.objs.size f cd
 outer:=outer
 stack:=jt qual scope s.heap.objs.size f cd::outer
 ex:=[]
 calm:=true
 fn:=λ_=>true
 pn:=[]
 xe:=λe s'=>aE (aJ P w) (A.deeper (jt qual scope s.heap.objs.size f cd)) (leaving (jt qual scope s.heap.objs.size f cd) e) (λ_ s''=>CX outer H s E e s'') (λe' s''=>CX outer H s E e' s'') s'
theorem bJx {sc:Scope} {n:Nat} {x:Str} (h:sc.names.lookup x=some .cell):∃ c,(gD n sc.names []).lookup x=some c:=by
 have q:=jY sc.names n [] (.inl h);exact cR.mp q
theorem cX8 {CX:CXT} {P:aC} {w:aR} {K:az} {mg:Str->Option ae} {base:bf} {N ps:List Str} {qual:Str} {scope:Scope} {f:Addr} {cd:ae} {A:a7} {outer:List Env} {s s1:ai} {H:Hp} {E:XK} {us:List ae} {vs:List V}
  (S:FnScope N ps scope) (hd:A.handled=none) (e0:Env0 P w K mg base A outer s H) (hl:vs.length=ps.length) (r:Vals vs us)
  (x:InCallC s s.heap.objs.size (bindL (jt qual scope s.heap.objs.size f cd).kindOf (ps.zip us) λ_=>none) (gD (s.heap.objs.size + 1) scope.names []) (bindC (jt qual scope s.heap.objs.size f cd).kindOf (ps.zip us) λ_=>none) s1) :
  Inv (cxOf CX P w K mg base N qual scope f cd A outer s H E) [] (start N vs) H s1:=by
 have O:ps.length<=N.length:=by have:=congrArg eM S.pre;rw[aK] at this;omega
 obtain⟨h1,U,rfl,J⟩:=x.done;have j:∀ b:Addr,b∉(cxOf CX P w K mg base N qual scope f cd A outer s H E).ex:=λb z=>absurd (show b∈([]:List Addr) from z) (by simp)
 refine⟨⟨e0.mod,S.kind,rfl,rfl,Nat.le_refl _,λy z c h1 h2=>?_,λy B=>?_,λy c _ h=>?_,λ_=>hd,a7.frames_deeper e0.frames,e0.gd,.inr ⟨rfl,rfl⟩,λb z=>absurd z (j b),e0.bs,e0.bsz,λb _ _=>j b,λb z=>absurd z (j b),e0.funs,e0.frf⟩,
  rfl,e0.bare,Un.kept J,⟨_,x.toInCall.ns,λi y v h1 h2 Y=>?_⟩,λy c h=>⟨_,x.cell y c h⟩,e0.hok.fresh (Nat.le_refl _),λy c h=>?_,λp G=>absurd (show p∈([]:List (Addr × Obj)) from G) (by simp),e0.hok.kept J,?_⟩
 ·exact name_of_addr x.apart (fg h1) (fg h2)
 ·have B:scope.names.lookup y=some .cell\/scope.names.lookup y=some .free:=B;rcases B with B | B
  ·exact bJx B
  ·exact absurd rfl (S.nofree _ (fg B))
 ·exact Nat.le_of_lt (x.above y c (fg h))
 ·have hi:i < vs.length:=by
   unfold start at h2
   by_cases hi:i < vs.length
   ·exact hi
   ·rw[cg (by simpa using hi)] at h2
    rw[List.getElem?_replicate] at h2
    split at h2 <;> cases h2
  have R:vs[i]?=some v:=by
   unfold start at h2;rw[dU (by simpa using hi),aF] at h2
   cases e:vs[i]? with
   | none=>rw[e] at h2;cases h2
   | some a=>rw[e] at h2;cases h2;rfl
  obtain⟨u,I,L⟩:=r.get R;have G:ps[i]?=some y:=by
   rw[<- S.pre,gk (by omega)];exact h1
  have D:ps.Nodup:=by rw[<- S.pre];exact S.nd.sublist (gH _ _)
  refine⟨u,L,?_⟩;rcases S.par y (ak G) with k | k
  ·exact .inl ⟨k,bindL_get D G I k⟩
  ·obtain⟨c,e⟩:=bJx (n:=s.heap.objs.size + 1) k;refine .inr ⟨.inl k,c,e,?_⟩;have q:=x.cell y c e;rw[bX1 D G I (by show scope.names.lookup y≠_;rw[k];decide)] at q
   exact q
 ·exact e0.hok.fresh (Nat.le_of_lt (x.above y c (fg h)))
 ·unfold start;show _=N.length;rw[aq,af,List.length_replicate];omega
theorem fXw {CX:CXT} {P:aC} {w:aR} {K:az} {mg:Str->Option ae} {base:bf} {k:Nat} {f:Addr} {name qual:Str} {params:Arguments} {body:List Stmt} {scope:Scope} {dV kV doc pm cdv ct oc:ae} {an od:Option Addr}
  {osl:Array (Option ae)} {N ps:List Str} {sp:Sp} (lk:K.lookup f=some ⟨oc,od,.func (eW name qual params body scope dV kV doc pm an cdv ct),osl⟩) (hcd:gI K cdv qual=true) (S:FnScope N ps scope)
  (len:∀ vs H Q E,sp vs H Q E->vs.length=ps.length)
  (hbody:∀ (A:a7) (outer:List Env) (s:ai) (H:Hp) (vs:List V) (Q:VK) (E:XK),Room k (A.deeper (jt qual scope s.heap.objs.size f cdv))->sp vs H Q E ->
   ∃ t,PSs (cxOf CX P w K mg base N qual scope f cdv A outer s H E) body t/\t { nx:=λ_ H'=>Q .non H',rt:=Q } (start N vs) H) :
  FnOk P w K mg base CX (k + 1) f (eW name qual params body scope dV kV doc pm an cdv ct) ps sp:=by
 refine⟨len,λA outer s H args us vs Q E O G hb r D=>?_⟩;have Z:=len _ _ _ _ D;have KX:K.In s.heap:=G.mod.kin.keeps λb o e=>(G.bs b o e).1;have lim:s.heap.NoLimit:=G.mod.nolimit.keeps λb o e=>(G.bs b o e).1;have j:∀ y∈ps.zip us,scope.names.lookup y.1=some .local\/(scope.names.lookup y.1=some .cell/\((gD (s.heap.objs.size + 1) scope.names []).lookup y.1).isSome=true):=λ⟨n,v⟩ R=>by
  rcases S.par n (ke R).1 with q | q
  ·exact .inl q
  ·exact .inr ⟨q,jY _ _ _ (.inl q)⟩
 refine codeAny_call_function O.depth (KX _ _ lk) rfl S.co S.gen rfl (PySem.W.codeRec_of KX hcd) (hb _ _ _ _ ?_);refine wpAny_newFunctionEnv_cells S.kind j λenv he s1 x=>?_;subst he;refine⟨lim.keeps x.toInCall.keep,codeAny_func ?_⟩;obtain⟨t,U,Y⟩:=hbody A outer s H vs Q E (O.deeper _) D;have I:Inv (cxOf CX P w K mg base N qual scope f cdv A outer s H E) [] (start N vs) H s1:=cX8 S O.hd G Z r x;refine e9 (U [] s1 (start N vs) H _ I Y) (λfl s' B=>?_) λe s' B=>B;have fin:∀ {σ':St} {H':Hp} {v:V} {u:ae},Inv (cxOf CX P w K mg base N qual scope f cdv A outer s H E) [] σ' H' s'->RelV v u->Q v H'->CE outer P w H s Q u s' :=
  λ{σ' H' v u} J L q=>⟨v,H',J.os,J.bare,J.base,J.hok,L,q⟩
 cases fl with
 | ret u =>
  obtain⟨v,σ',H',J,L,q⟩:=B;exact fin J L q
 | next =>
  obtain⟨σ',H',J,q⟩:=B;exact fin (v:=V.non) (u:=bM) J rfl q
 | brk =>
  obtain⟨_,_,_,q⟩:=B;exact eF q
 | cont =>
  obtain⟨_,_,_,q⟩:=B;exact eF q
section
variable {X:Cx} {x:Str} {p pos:Pos} {e:Expr} {es:List Expr} {t:TA} {id T:String} {r:List V->Hp->VK->Prop}
def tCB (r:List V->Hp->VK->Prop) (t:TA):TE:=fun σ H Q=>t σ H λvs H1=>r vs H1 Q
theorem aXo (hc:CallR X (.builtin id) r) (hg:Gl X x) (hm:X.mg x=none) (hv:bQ x=some (.builtin id)) (ha:PA X (e::es) t) (hn:x ≠ "__name__":=by decide) (hdb:(x == ("__debug__" : Str))=false:=by decide)
  (he:av (e::es) X.env=(false,eval e X.env)::av es X.env:=by rfl) (hpl:(cz pos (av es X.env)).any (·.1)=false:=by rfl):PE X (.Call (.Name x p) (e::es) [] pos) (tCB r t):=by
 intro pins s σ H Q I h;refine iT (ld_blt I hg hm hv ?_ hn hdb);exact PyProof.Rows.callWith_builtin1 (thn (ha pos pins s σ H _ I h) λus s1 ⟨vs,H1,D,j,B⟩=>hc pins s1 σ H1 vs us Q D j B) he hpl
theorem aZz (hc:CallR X (.type T) r) (hg:Gl X x) (hm:X.mg x=none) (hv:bQ x=some (.type T)) (ha:PA X (e::es) t) (hn:x ≠ "__name__":=by decide) (hdb:(x == ("__debug__" : Str))=false:=by decide)
  (he:av (e::es) X.env=(false,eval e X.env)::av es X.env:=by rfl) (hpl:(cz pos (av es X.env)).any (·.1)=false:=by rfl):PE X (.Call (.Name x p) (e::es) [] pos) (tCB r t):=by
 intro pins s σ H Q I h;refine iT (ld_blt I hg hm hv ?_ hn hdb);exact cT (thn (ha pos pins s σ H _ I h) λus s1 ⟨vs,H1,D,j,B⟩=>hc pins s1 σ H1 vs us Q D j B) he hpl
end
end L2
namespace HT
open PySem PyProof.Rows
section
variable {prog:aC} {w:aR} {A:a7} {E:ae->ai->Prop} {s:ai}
theorem cat_tup {t b:Addr} {vs ws:List ae} {Q:ae->ai->Prop} (ht:jh s.heap t vs.toArray) (hb:jh s.heap b ws.toArray) (hv:vs≠[])
  (h1:ws=[]->Q (.ref t) s) (h2:ws≠[]->Q (.ref s.heap.objs.size) { s with heap:=s.heap.push { cls:=.type "tuple",data:=.seq (vs++ws).toArray } })
  (hsz:vs.length + ws.length<=sizeLine):aE (aJ prog w) A (eH .Add (.ref t) (.ref b)) Q E s:=by
 obtain⟨⟨cls,dd,data,sl⟩,I,L,n,hd⟩:=id ht;obtain⟨⟨O,G,data2,B⟩,j,D,J,hd2⟩:=id hb;simp only at L hd D hd2;subst L hd D hd2;have e:vs.toArray++ws.toArray=(vs++ws).toArray:=by simp
 by_cases hw:ws=[]
 ·exact jZ ⟨_,I,rfl⟩ ⟨_,j,rfl⟩ jG seq_tuple_add gJ gE (gn _ _)
   (tuple_addW1 t b vs.toArray ws.toArray n J dd G sl B (by simpa using hv) (by simp[hw])) ⟨I,j,h1 hw⟩
 ·refine jZ ⟨_,I,rfl⟩ ⟨_,j,rfl⟩ jG seq_tuple_add gJ gE (gn _ _)
   (tuple_addW2 t b vs.toArray ws.toArray n J dd G sl B (by simpa using hv) (by simpa using hw) (by rw[ar,ar];exact hsz)) ⟨I,j,?_⟩
  rw[e];exact h2 hw
def sIx (n d:Nat):Option Int->Nat
 | none=>d
 | some v=>if v < 0 then (v + (n:Int)).toNat else min v.toNat n
theorem sIx_nat (n d k:Nat):sIx n d (some (k:Int))=min k n:=by
 show(if (k:Int) < 0 then ((k:Int) + (n:Int)).toNat else min (k:Int).toNat n)=min k n
 rw[if_neg (by omega),ce]
theorem sIx_le (n d:Nat) (hd:d<=n) (o:Option Int):sIx n d o<=n:=by
 cases o with
 | none=>exact hd
 | some v =>
  show(if v < 0 then (v + (n:Int)).toNat else min v.toNat n)<=n
  by_cases j:v < 0
  ·rw[if_pos j];omega
  ·rw[if_neg j];exact Nat.min_le_right _ _
theorem cX9 (v:Int) (n d:Nat):(if v < 0 then max (v + (n:Int)) 0 else min v (n:Int))=((sIx n d (some v):Nat):Int):=by
 show(if v < 0 then max (v + (n:Int)) 0 else min v (n:Int))=(((if v < 0 then (v + (n:Int)).toNat else min v.toNat n):Nat):Int)
 by_cases j:v < 0
 ·simp only[if_pos j];omega
 ·simp only[if_neg j];omega
theorem cZf (lo hi:Option Int) (n:Nat):fZ lo hi 1 (n:Int)=(((sIx n 0 lo:Nat):Int),((sIx n n hi:Nat):Int)):=by
 have h1:¬ ((1:Int) < 0):=by omega
 unfold fZ;simp only[h1,if_false];refine Prod.ext ?_ ?_
 ·cases lo with
  | none=>rfl
  | some v=>exact cX9 v n 0
 ·cases hi with
  | none=>rfl
  | some v=>exact cX9 v n n
theorem cZg (i j:Nat):eS (i:Int) (j:Int) 1=j - i:=by
 unfold eS;have h1:(1:Int) > 0:=by omega
 simp only[h1,if_true,Int.ediv_one]
 split <;> omega
theorem bQj {v:ae} {o:Option Int} {Q:Option Int->ai->Prop} (p:IsPart v o) (h:Q o s):aE (aJ prog w) A (b4.Slice.slicePartIndex v) Q E s:=by
 cases p with
 | none=>exact slicePart_none h
 | int i t=>exact slicePart_int h
theorem sliceApplied_gen {sl:Addr} {vl vu:ae} {lo hi:Option Int} {n:Nat} {Q:Int × Int × Nat->ai->Prop} (hs:s.heap.IsSliceOf sl vl vu .none) (pl:IsPart vl lo) (pu:IsPart vu hi)
  (h:Q (((sIx n 0 lo:Nat):Int),1,sIx n n hi - sIx n 0 lo) s):aE (aJ prog w) A (fN (.ref sl) (pure (n:Int))) Q E s:=by
 obtain⟨os,j,D,B⟩:=id hs;unfold fN b4.Slice.sliceFields;refine aa (aa (cj j B (x:=vl) rfl (aa (cj j B (x:=vu) rfl (aa (cj j B (x:=.none) rfl (ad ?_)))))));refine aa (slicePart_none ?_);show aE _ _ (if ((1:Int) == 0)=true then _ else _) _ _ s
 rw[if_neg (by decide)]
 refine aa (bQj pl (aa (bQj pu (aa (ad ?_)))));show aE _ _ (match fZ lo hi 1 (n:Int) with | (lo,hi)=>pure (lo,(1:Int),eS lo hi 1)) _ _ s
 rw[cZf lo hi n];show aE _ _ (pure (((sIx n 0 lo:Nat):Int),(1:Int),eS ((sIx n 0 lo:Nat):Int) ((sIx n n hi:Nat):Int) 1)) _ _ s;rw[cZg];exact ad h
theorem dQr (xs:Array ae) (i k:Nat):((aH k).filterMap λ(m:Nat)=>xs[((i:Int) + (m:Int) * 1).toNat]?).toArray=((xs.toList.drop i).take k).toArray:=by
 have e:(λ(m:Nat)=>xs[((i:Int) + (m:Int) * 1).toNat]?)=λm=>xs[i + m]?:=by
  funext m
  have:((i:Int) + (m:Int) * 1).toNat=i + m:=by omega
  rw[this]
 rw[e]
 have:=pick_run xs i k
 rw[List.filterMap_map] at this;have j:((λx=>xs[x]?) ∘ λx=>i + x)=λm=>xs[i + m]?:=rfl;rw[j] at this;rw[this]
theorem getItem_tuple_cut {t sl:Addr} {items:Array ae} {vl vu:ae} {lo hi:Option Int} {Q:ae->ai->Prop} (ht:jh s.heap t items) (hs:s.heap.IsSliceOf sl vl vu .none) (pl:IsPart vl lo) (pu:IsPart vu hi)
  (hw:¬ (sIx items.size 0 lo=0/\sIx items.size items.size hi=items.size))
  (h:Q (.ref s.heap.objs.size) { s with heap:=s.heap.push { cls:=.type "tuple",data:=.seq ((items.toList.drop (sIx items.size 0 lo)).take (sIx items.size items.size hi - sIx items.size 0 lo)).toArray } })
  (hsz:items.size<=sizeLine):aE (aJ prog w) A (j0 (.ref t) (.ref sl)) Q E s:=by
 have j:sizeOk (.seq ((items.toList.drop (sIx items.size 0 lo)).take (sIx items.size items.size hi - sIx items.size 0 lo)).toArray):=by
  show((items.toList.drop (sIx items.size 0 lo)).take (sIx items.size items.size hi - sIx items.size 0 lo)).toArray.size<=sizeLine;rw[ar,aK,bm,aZ];omega
 have R:sIx items.size items.size hi<=items.size:=sIx_le _ _ (Nat.le_refl _) hi;obtain⟨os,B,G,J⟩:=id hs;have I:s.TypeIs (.ref sl) "slice":=⟨os,B,G⟩;unfold j0
 try with_reducible refine bW ?_
 first | refine aa (ad ?_) | skip
 refine aa (wpAny_sequenceKey ht.typeIs (by decide) ?_)
 refine aa (bK (name:=aG "__getitem__") ht.typeIs cC
  (bI cC ht.typeIs entry_tuple_getitem ?_ (args_tuple_getitem _ _)))
 show aE _ _ (fO (.ref t) >>= _) _ _ s;refine aa (tupleItemsOf_ ht ?_);refine aa (gK I ?_);rw[if_pos (by decide)]
 refine aa (sliceApplied_gen hs pl pu ?_);have D:¬ ((((sIx items.size 0 lo:Nat):Int) == 0 && (1:Int) == 1 && (sIx items.size items.size hi - sIx items.size 0 lo) == items.size)=true):=by
  intro q;rw[aQ,aQ] at q;have O:((sIx items.size 0 lo:Nat):Int)=0:=hJ q.1.1;have L:sIx items.size items.size hi - sIx items.size 0 lo=items.size:=hJ q.2;exact hw ⟨by omega,by omega⟩
 show aE _ _ (if (((sIx items.size 0 lo:Nat):Int) == 0 && (1:Int) == 1 && (sIx items.size items.size hi - sIx items.size 0 lo) == items.size)=true then _ else _) _ _ s
 rw[if_neg D,dQr]
 first
  | exact aa (m:=cA _) (bA (ad ⟨_,rfl,ad h⟩) j)
  | exact aa (m:=cA _) (bA (aa (ad (ad ⟨_,rfl,ad h⟩))) j)
  | exact aa (aa (m:=cA _) (bA (ad (ad ⟨_,rfl,ad h⟩)) j))
  | exact aa (aa (m:=cA _) (bA (ad ⟨_,rfl,ad h⟩) j))
end
end HT
namespace L2
open PySem PySem.Spec PyProof.Rows
abbrev TO:=St->Hp->(Option Int->Hp->Prop)->Prop
def PO (X:Cx) (e:Option Expr) (t:TO):Prop :=
 ∀ (pins:List (Addr × Obj)) (s:ai) (σ:St) (H:Hp) (Q:Option Int->Hp->Prop),Inv X pins σ H s->t σ H Q ->
  aE (aJ X.prog X.w) X.A (evalPart e X.env) (λu s'=>∃ o H',Inv X pins σ H' s'/\IsPart u o/\Q o H') X.xe s
def dJn:TO:=λ_ H Q=>Q none H
def fXx (t:TE):TO:=fun σ H Q=>t σ H λx H1=>∃ i,x=.int i/\Q (some i) H1
theorem bQk {ns:List Int}:∀ {us:List ae},Vals (ns.map V.int) us->iI us ns:=by
 induction ns with
 | nil=>intro us r;rw[fx] at r;cases r;exact .nil
 | cons n ns D =>
  intro us r;rw[aL] at r;cases r with
  | cons B j =>
   obtain⟨t,e⟩:=B;subst e;exact .cons n t (D j)
section
variable {X:Cx} {e:Expr} {te:TE} {lo hi:Option Expr} {tl th:TO} {pos p2:Pos}
theorem dJo:PO X none dJn:=by
 intro pins s σ H Q I h;rw[evalPart_none];exact ad ⟨none,H,I,.none,h⟩
theorem dJp (h:PE X e te):PO X (some e) (fXx te):=by
 intro pins s σ H Q I hw;rw[evalPart_some];refine thn (h pins s σ H _ I hw) λu s1 ⟨x,H1,D,j,B⟩=>?_;obtain⟨i,rfl,q⟩:=B;obtain⟨t,rfl⟩:=j;exact⟨some i,H1,D,.int i t,q⟩
def SlR (X:Cx) (r:V->Option Int->Option Int->Hp->VK->Prop):Prop :=
 ∀ (pins:List (Addr × Obj)) (s:ai) (σ:St) (H:Hp) (x:V) (v vl vu:ae) (lo hi:Option Int) (sl:Addr) (Q:VK),Inv X pins σ H s->RelV x v->s.heap.IsSliceOf sl vl vu .none->IsPart vl lo->IsPart vu hi->r x lo hi H Q ->
  ∃ T id,typeLookup (.type T) "__getitem__" = pure (some (.builtin id))/\s.TypeIs v T/\aE (aJ X.prog X.w) X.A (j0 v (.ref sl)) (EP X pins σ Q) X.xe s
theorem SlR.or {r r':V->Option Int->Option Int->Hp->VK->Prop} (h:SlR X r) (h':SlR X r'):SlR X (λx lo hi H Q=>r x lo hi H Q\/r' x lo hi H Q):=by
 intro pins s σ H x v B j lo hi sl Q I D G pl pu q;rcases q with q | q
 ·exact h pins s σ H x v B j lo hi sl Q I D G pl pu q
 ·exact h' pins s σ H x v B j lo hi sl Q I D G pl pu q
def tSl (r:V->Option Int->Option Int->Hp->VK->Prop) (te:TE) (tl th:TO):TE:=fun σ H Q=>te σ H λx H1=>tl σ H1 λl H2=>th σ H2 λu H3=>r x l u H3 Q
theorem dQs {r:V->Option Int->Option Int->Hp->VK->Prop} (hr:SlR X r) (he:PE X e te) (hl:PO X lo tl) (hu:PO X hi th):PE X (.Subscript e (.Slice lo hi none p2) pos) (tSl r te tl th):=by
 intro pins s σ H Q I h;refine Subscript_ (thn (he pins s σ H _ I h) λv s1 ⟨x,H1,I1,G,O⟩=>?_);refine wpAny_Slice (thn (hl pins s1 σ H1 _ I1 O) λB s2 ⟨l,H2,I2,pl,L⟩=>thn (hu pins s2 σ H2 _ I2 L) λj s3 ⟨u,D,I3,pu,J⟩=>?_);rw[evalPart_none];refine ad ?_;have Z:Inv X pins σ D { s3 with heap:=s3.heap.push { cls:=.type "slice",data:=.fields #[B,j,.none] } }:=I3.kept (t':=s3.toks) λb ob q=>ag _ q
 obtain⟨T,id,Y,R,U⟩:=hr pins { s3 with heap:=s3.heap.push { cls:=.type "slice",data:=.fields #[B,j,.none] } } σ D x v B j l u s3.heap.objs.size Q Z G (bf.IsSliceOf.new ..) pl pu J;show aE (aJ X.prog X.w) X.A (subscriptTail e (.Slice lo hi none p2) v (.ref s3.heap.objs.size)) (EP X pins σ Q) X.xe { s3 with heap:=s3.heap.push { cls:=.type "slice",data:=.fields #[B,j,.none] } }
 exact tail_any (ops:=[.ref s3.heap.objs.size,v]) R Y U (by with_unfolding_all rfl)
def cutV (xs:List V) (lo hi:Option Int):List V:=(xs.drop (HT.sIx xs.length 0 lo)).take (HT.sIx xs.length xs.length hi - HT.sIx xs.length 0 lo)
theorem aJs (xs:List V) (lo hi:Option Int):(cutV xs lo hi).length<=xs.length:=by
 unfold cutV;rw[aK,bm];omega
def rSlT (K:az):V->Option Int->Option Int->Hp->VK->Prop:=λx lo hi H Q=>∃ a xs,x=.ref a/\SqT K H a xs /\
 ¬ (HT.sIx xs.length 0 lo=0/\HT.sIx xs.length xs.length hi=xs.length)/\∀ p,H p=none->Q (.ref p) (upd H p (.tup (cutV xs lo hi)))
theorem eJi:SlR X (rSlT X.K):=by
 intro pins s σ H x v O L lo hi sl Q I rx J pl pu h;obtain⟨a,xs,rfl,G,hw,q⟩:=h;cases rx;obtain⟨j,r,D,B⟩:=I.tuple G;have hlen:j.toArray.size=xs.length:=by rw[ar];exact r.length.symm
 refine⟨"tuple",_,cC.lookup,D.typeIs,?_⟩;refine HT.getItem_tuple_cut D J pl pu (by rw[hlen];exact hw) ?_ (by rw[hlen];exact B)
 rw[hlen];refine⟨.ref s.heap.objs.size,_,I.laid (t':=s.toks) (o:=.tup (cutV xs lo hi)) (λb R q=>ag _ q) (Nat.le_refl _) ?_,rfl,q _ (I.hok.fresh (Nat.le_refl _))⟩;exact⟨Nat.le_trans (aJs xs lo hi) B,_,(r.drop (HT.sIx xs.length 0 lo)).take (HT.sIx xs.length xs.length hi - HT.sIx xs.length 0 lo),jh.new _ _,bJu⟩
def dJq (K:az):R2:=λx y H Q=>∃ a b xs ys,x=.ref a/\y=.ref b/\SqT K H a xs/\SqT K H b ys/\xs≠[]/\xs.length + ys.length<=sizeLine /\
 (ys=[]->Q (.ref a) H)/\(ys≠[]->∀ p,H p=none->Q (.ref p) (upd H p (.tup (xs++ys))))
theorem Vals.nil_iff {xs:List V} {us:List ae} (r:Vals xs us):us=[]↔xs=[]:=by
 cases r with
 | nil=>simp
 | cons _ _=>simp
theorem dJr:OpR X (eH .Add) (dJq X.K):=by
 intro pins s σ H x y v u Q I rx ry h;obtain⟨a,b,xs,ys,rfl,rfl,Z,Y,U,G,L,J⟩:=h;cases rx;cases ry;obtain⟨R,B,O,_⟩:=I.tuple Z;obtain⟨D,j,p2,_⟩:=I.tuple Y;refine HT.cat_tup O p2 (λz=>U (B.nil_iff.mp z)) (λz=>⟨.ref a,H,I,rfl,L (j.nil_iff.mp z)⟩) (λz=>?_) (by rw[<- B.length,<- j.length];exact G)
 refine⟨.ref s.heap.objs.size,_,I.laid (t':=s.toks) (o:=.tup (xs++ys)) (λb ob q=>ag _ q) (Nat.le_refl _) ?_,rfl,J (λw=>z (j.nil_iff.mpr w)) _ (I.hok.fresh (Nat.le_refl _))⟩;exact⟨by rw[aq];exact G,_,B.append j,jh.new _ _,bJu⟩
end
def ixN (n:Nat) (i:Int):Option Nat:=if 0<=i then (if i < n then some i.toNat else none) else if -(n:Int)<=i then some (i + n).toNat else none
def atI {α:Type} (xs:List α) (i:Int):Option α:=(ixN xs.length i).bind λj=>xs[j]?
theorem bXx {n:Nat} {i:Int} {j:Nat} (h:ixN n i=some j):seqIndex? i n=some j/\j < n/\-(n:Int)<=i/\i < n:=by
 unfold ixN at h
 by_cases h0:0<=i
 ·rw[if_pos h0] at h
  by_cases h1:i < n
  ·rw[if_pos h1] at h;have e:i.toNat=j:=aM h;exact⟨by rw[seqIndex_of h0 h1,e],by omega,by omega,h1⟩
  ·rw[if_neg h1] at h;cases h
 ·rw[if_neg h0] at h
  by_cases h1:-(n:Int)<=i
  ·rw[if_pos h1] at h;have e:(i + n).toNat=j:=aM h;exact⟨by rw[seqIndex_neg (by omega) h1,e],by omega,h1,by omega⟩
  ·rw[if_neg h1] at h;cases h
theorem bXy {α:Type} {xs:List α} {i:Int} {v:α} (h:atI xs i=some v):∃ j,seqIndex? i xs.length=some j/\xs[j]?=some v/\j < xs.length/\-(xs.length:Int)<=i/\i < xs.length:=by
 unfold atI at h;cases e:ixN xs.length i with
 | none=>rw[e] at h;cases h
 | some j =>
  rw[e] at h;obtain⟨h1,h2,D,B⟩:=bXx e;exact⟨j,h1,h,h2,D,B⟩
theorem aXd {α:Type} {xs:List α} {j:Nat} {v:α} (h:xs[j]?=some v):atI xs (j:Int)=some v:=by
 have B:j < xs.length:=(aA.mp h).1;have e:ixN xs.length (j:Int)=some j:=by
  unfold ixN;rw[if_pos (by omega),if_pos (by omega)];simp
 unfold atI;rw[e];exact h
def PlainIx (b:Expr):Prop:=∀ o i,subscripted b false o i=operate [o,i] (j0 o i)
def IxR (X:Cx) (r:R2):Prop :=
 ∀ (value slice:Expr) (pins:List (Addr × Obj)) (s:ai) (σ:St) (H:Hp) (x y:V) (v u:ae) (Q:VK),Inv X pins σ H s->RelV x v->RelV y u->r x y H Q ->
  subscripted slice false v u=operate [v,u] (j0 v u)->aE (aJ X.prog X.w) X.A (subscriptTail value slice v u) (EP X pins σ Q) X.xe s
def MtR (X:Cx) (id:String) (r:V->List V->Hp->VK->Prop):Prop :=
 ∀ (pins:List (Addr × Obj)) (s:ai) (σ:St) (H:Hp) (x:V) (xs:List V) (v:ae) (us:List ae) (Q:VK),Inv X pins σ H s->RelV x v->Vals xs us->r x xs H Q ->
  aE (aJ X.prog X.w) X.A (call (.builtin id) (v::us)) (EP X pins σ Q) X.xe s
section
variable {X:Cx} {a b:Expr} {ta tb:TE} {pos:Pos}
theorem IxR.or {r r':R2} (h:IxR X r) (h':IxR X r'):IxR X (λx y H Q=>r x y H Q\/r' x y H Q):=by
 intro value slice pins s σ H x y v u Q I B j q D;rcases q with q | q
 ·exact h value slice pins s σ H x y v u Q I B j q D
 ·exact h' value slice pins s σ H x y v u Q I B j q D
theorem pe_ix {r:R2} (hr:IxR X r) (ha:PE X a ta) (hb:PE X b tb) (hs:PlainIx b):PE X (.Subscript a b pos) (tOp r ta tb):=by
 intro pins s σ H Q I h;exact Subscript_ (binT ha hb I h λv u s2 x y H2 D B j q=>hr a b pins s2 σ H2 x y v u Q D B j q (hs _ _))
def rIxL (K:az):R2:=λx y H Q=>∃ p xs i v,x=.ref p/\y=.int i/\SqL K H p xs/\atI xs i=some v/\Q v H
def rIxT (K:az):R2:=λx y H Q=>∃ p xs i v,x=.ref p/\y=.int i/\SqT K H p xs/\atI xs i=some v/\Q v H
def rIxS:R2:=λx y H Q=>∃ z i c,x=.str z/\y=.int i/\z.length<=sizeLine/\atI z.cps.toList i=some c/\Q (.str ⟨#[c]⟩) H
theorem ix_list:IxR X (rIxL X.K):=by
 intro value slice pins s σ H x y v u Q I rx O h J;obtain⟨p,xs,i,z,rfl,rfl,R,he,q⟩:=h;cases rx;obtain⟨t,rfl⟩:=O;obtain⟨D,r,pl,hz⟩:=I.list R;obtain⟨j,h1,h2,h3,Z,Y⟩:=bXy he;obtain⟨w,L,B⟩:=r.get h2;have U:=r.length;have hn:=bQi;have fin:EP X pins σ Q w s:=⟨z,H,I,B,q⟩
 by_cases h0:0<=i
 ·have G:i.toNat=j:=by
   rw[seqIndex_of h0 Y] at h1;exact aM h1
  exact item_listR pl.isList h0 (by omega) (by rw[G];simpa using L) fin J
 ·have G:(i + (D.toArray.size:Int)).toNat=j:=by
   rw[seqIndex_neg (by omega) Z] at h1
   rw[ar,<- U];exact aM h1
  exact subscriptTail_builtinR (x:=w) pl.isList.typeIs slot_list_getitem.lookup
   (wpAny_getItem_list_neg (Q:=λr s'=>r=w/\EP X pins σ Q r s') pl.isList (by omega) (by rw[ar] <;> omega) (by omega) (by rw[G];simpa using L) ⟨rfl,fin⟩) J
theorem ix_tup:IxR X (rIxT X.K):=by
 intro value slice pins s σ H x y v u Q I rx D h J;obtain⟨p,xs,i,z,rfl,rfl,L,he,q⟩:=h;cases rx;obtain⟨t,rfl⟩:=D;obtain⟨G,r,pl,U⟩:=I.tuple L;obtain⟨j,h1,h2,h3,h4,Z⟩:=bXy he;obtain⟨w,R,B⟩:=r.get h2;have O:=r.length;have Y:=bQi;have fin:EP X pins σ Q w s:=⟨z,H,I,B,q⟩;exact subscriptTail_builtinR (x:=w) pl.typeIs slot_tuple_getitem.lookup
  (getItem_tuple (j:=j) (Q:=λr s'=>r=w/\EP X pins σ Q r s') pl (by omega) (by omega) (by rw[ar,<- O];exact h1) (by simpa using R) ⟨rfl,fin⟩) J
theorem eJj:IxR X rIxS:=by
 intro value slice pins s σ H x y v u Q I D B h G;obtain⟨z,i,c,rfl,rfl,Z,he,q⟩:=h;obtain⟨t,rfl⟩:=D;obtain⟨Y,rfl⟩:=B;obtain⟨j,h1,h2,h3,O,L⟩:=bXy he;have J:z.cps.toList.length=z.length:=by simp[Str.length]
 rw[J] at h1 O L;have hn:=bQi;exact tail_any (typeIs_str s z t) slot_str_getitem.lookup (getItem_str (c:=c) (by
  have U:decide (i < -(2 ^ 63:Int))=false:=decide_eq_false (by omega)
  have R:decide (i >= 2 ^ 63)=false:=decide_eq_false (by omega)
  rw[U,R,Bool.or_false]) (by rw[h1];simpa using h2) ⟨.str ⟨#[c]⟩,H,I.tok _,⟨_,rfl⟩,q⟩) G
def rIx (K:az):R2:=λx y H Q=>rIxL K x y H Q\/rIxT K x y H Q\/rIxS x y H Q
theorem eJk:IxR X (rIx X.K):=ix_list.or (ix_tup.or eJj)
theorem cZh (its:List ae) (n j:Nat) (u:ae):bX (·.setIfInBounds j u) { cls:=.type "list",data:=.seq its.toArray n }={ cls:=.type "list",data:=.seq (its.set j u).toArray n }:=by
 simp[bX]
theorem Inv.lst {pins:List (Addr × Obj)} {σ:St} {H:Hp} {s:ai} {p:Addr} {xs:List V} (I:Inv X pins σ H s) (h:H p=some (.lst xs)) :
  ∃ (its:List ae) (n:Nat),Vals xs its/\s.heap.get? p=some { cls:=.type "list",data:=.seq its.toArray n }/\xs.length<=sizeLine:=by
 obtain⟨z,its,n,r,e⟩:=I.hok p _ h;exact⟨its,n,r,e,z⟩
theorem Inv.lstUpd {pins:List (Addr × Obj)} {σ:St} {H:Hp} {s:ai} {p:Addr} {xs ys:List V} {its its':List ae} {n n':Nat} {f:Obj->Obj} (I:Inv X pins σ H s) (h:H p=some (.lst xs))
  (ho:s.heap.get? p=some { cls:=.type "list",data:=.seq its.toArray n }) (hf:f { cls:=.type "list",data:=.seq its.toArray n }={ cls:=.type "list",data:=.seq its'.toArray n' }) (r:Vals ys its') (hz:ys.length<=sizeLine) (t:Nat) :
  Inv X pins σ (upd H p (.lst ys)) { s with heap:=s.heap.update p f,toks:=t }:=by
 have e:(s.heap.update p f).get? p=some { cls:=.type "list",data:=.seq its'.toArray n' }:=by
  rw[cD f ho (by rw[hf] <;> rfl),hf]
 refine I.write (x:=p) (e:=p) (by rw[h];trivial) (.inl rfl) (λb u j q=>(cN _ _ (b8 j)).trans q) ⟨_,e⟩ ?_
 exact⟨hz,its',n',r,e⟩
def fXy:V->V->V->Hp->(Hp->Prop)->Prop:=λo i v H Q=>∃ p xs k j,o=.ref p/\i=.int k/\H p=some (.lst xs)/\ixN xs.length k=some j/\Q (upd H p (.lst (xs.set j v)))
theorem dQt:PSet X fXy:=by
 intro pins s σ H o i v ov iv u Q I ro Z Y h;obtain⟨p,xs,k,j,rfl,rfl,L,hj,q⟩:=h;cases ro;obtain⟨t,rfl⟩:=Z;obtain⟨B,n,r,D,hz⟩:=I.lst L;obtain⟨h1,h2,R,O⟩:=bXx hj;have G:=r.length;have hn:=bQi;have U:Inv X pins σ (upd H p (.lst (xs.set j v))) { s with heap:=s.heap.update p (bX (·.setIfInBounds j u)) } :=
  I.lstUpd L D (cZh B n j u) (r.set Y j) (by rw[List.length_set];exact hz) s.toks
 by_cases h0:0<=k
 ·have J:k.toNat=j:=by
   rw[seqIndex_of h0 O] at h1;exact aM h1
  exact PySem.W.ki_setAt D h0 (by omega) (by rw[ar,<- G];exact O) (by rw[J];exact⟨_,U,q⟩)
 ·have J:(k + (B.toArray.size:Int)).toNat=j:=by
   rw[seqIndex_neg (by omega) R] at h1
   rw[ar,<- G];exact aM h1
  exact PySem.W.ki_setBack D (by omega) (by rw[ar,<- G];exact R) (by omega) (by rw[J];exact⟨_,U,q⟩)
theorem aJd (lo hi:Option Int) (n:Nat):(ft lo hi none n).1=((HT.sIx n 0 lo:Nat):Int)/\(ft lo hi none n).2.1=((HT.sIx n n hi:Nat):Int)/\(ft lo hi none n).2.2=1:=by
 refine⟨?_,?_,rfl⟩
 ·cases lo with
  | none=>simp[ft,HT.sIx]
  | some i =>
   simp only[ft,HT.sIx,jH,show(1:Int) > 0 by decide,if_true]
   by_cases h:i < 0
   ·simp only[h,if_true] <;> omega
   ·simp only[h,if_false] <;> omega
 ·cases hi with
  | none=>simp[ft,HT.sIx]
  | some i =>
   simp only[ft,HT.sIx,jH,show(1:Int) > 0 by decide,if_true]
   by_cases h:i < 0
   ·simp only[h,if_true] <;> omega
   ·simp only[h,if_false] <;> omega
theorem bQy (its:List ae) (lo hi:Option Int):slicePick its.toArray lo hi none=((its.drop (HT.sIx its.length 0 lo)).take (HT.sIx its.length its.length hi - HT.sIx its.length 0 lo)).toArray:=by
 obtain⟨h1,h2,j⟩:=aJd lo hi its.toArray.size;unfold slicePick;rw[h1,h2,j];simp only[sliceRange_one,pick_run,ar] <;> rfl
def rSlL (K:az):V->Option Int->Option Int->Hp->VK->Prop:=λx lo hi H Q=>∃ a xs,x=.ref a/\SqL K H a xs/\∀ p,H p=none->Q (.ref p) (upd H p (.lst (cutV xs lo hi)))
theorem dJs:SlR X (rSlL X.K):=by
 intro pins s σ H x v O L lo hi sl Q I rx J pl pu h;obtain⟨a,xs,rfl,G,q⟩:=h;cases rx;obtain⟨B,r,j,D⟩:=I.list G;have hlen:=r.length;refine⟨"list",_,slot_list_getitem.lookup,j.isList.typeIs,?_⟩;refine wpAny_getItem_list_slice j.isList J pl pu .none (by simp) ?_ (by rw[ar] <;> omega)
 rw[bQy,<- hlen];refine⟨.ref s.heap.objs.size,_,I.laid (t':=s.toks) (o:=.lst (cutV xs lo hi)) (λb R q=>ag _ q) (Nat.le_refl _) ?_,rfl,q _ (I.hok.fresh (Nat.le_refl _))⟩;exact⟨Nat.le_trans (aJs xs lo hi) D,_,0,(r.drop (HT.sIx xs.length 0 lo)).take (HT.sIx xs.length xs.length hi - HT.sIx xs.length 0 lo),au _ rfl⟩
theorem CallR.or {f:ae} {r r':List V->Hp->VK->Prop} (h:CallR X f r) (h':CallR X f r'):CallR X f (λxs H Q=>r xs H Q\/r' xs H Q):=by
 intro pins s σ H xs us Q I rs q;rcases q with q | q
 ·exact h pins s σ H xs us Q I rs q
 ·exact h' pins s σ H xs us Q I rs q
theorem call_tuple_of:CallR X (.type "tuple") (λxs H Q=>∃ p ys,xs=[.ref p]/\((SqL X.K H p ys/\∀ l,H l=none->Q (.ref l) (upd H l (.tup ys)))\/(SqT X.K H p ys/\Q (.ref p) H))):=by
 intro pins s σ H xs us Q I r h;obtain⟨p,ys,rfl,h⟩:=h;obtain⟨u,rfl,rx⟩:=aZo r;cases rx;rcases h with⟨D,q⟩ | ⟨D,q⟩
 ·obtain⟨j,B,pl,G⟩:=I.list D;have hlen:=B.length;refine call_tuple_list pl.isList (λh' kp=>?_) (by simp only[ar] <;> omega)
  have J:Inv X pins σ H { s with heap:=h' }:=I.kept (t':=s.toks) kp
  have L:Inv X pins σ (upd H h'.objs.size (.tup ys)) { s with heap:=h'.push { cls:=.type "tuple",data:=.seq j.toArray } } :=
   J.laid (t':=s.toks) (λb o e=>ag _ e) (Nat.le_refl _) (show ObjOk X.prog X.w _ _ _ (.tup ys) from⟨G,j,B,jh.new _ _,bJu⟩)
  exact⟨.ref h'.objs.size,_,L,rfl,q _ (J.hok.fresh (Nat.le_refl _))⟩
 ·obtain⟨j,B,pl,G⟩:=I.tuple D;exact call_tuple_same pl ⟨.ref p,H,I,rfl,q⟩
def tyV (K:az) (T:String) (x:V) (H:Hp):Prop:=match x with
 | .str _=>T = "str"
 | .int _=>T = "int"
 | .ref p=>(T = "list"/\∃ xs,SqL K H p xs)\/(T = "tuple"/\∃ o,K.lookup p=some o/\o.cls=.type "tuple"/\o.dict=none) \/
   (T = "dict"/\((∃ kvs,H p=some (.dK kvs))\/∃ kvs,H p=some (.dT kvs)))\/(T = "set"/\∃ S n,H p=some (.set S n))
 | _=>False
theorem eJl {pins:List (Addr × Obj)} {σ:St} {H:Hp} {s:ai} {T:String} {x:V} {v:ae} (I:Inv X pins σ H s) (r:RelV x v) (ty:tyV X.K T x H) :
  s.TypeIs v T/\∀ a,v=.ref a->∃ ob,s.heap.get? a=some ob/\ob.dict=none:=by
 cases x with
 | str z =>
  obtain⟨t,rfl⟩:=r;cases (show T = "str" from ty)
  exact⟨typeIs_str s z t,λ_ e=>nomatch e⟩
 | int i =>
  obtain⟨t,rfl⟩:=r;cases (show T = "int" from ty)
  exact⟨typeIs_int s i t,λ_ e=>nomatch e⟩
 | ref p =>
  cases r;rcases ty with⟨rfl,xs,G⟩ | ⟨rfl,o,j,J,hd⟩ | ⟨rfl,j⟩ | ⟨rfl,S,n,j⟩
  ·obtain⟨D,_,pl,_⟩:=I.list G;refine⟨pl.isList.typeIs,λa e=>?_⟩;cases e;obtain⟨o,n,e,c,hd,_⟩:=pl;exact⟨o,e,hd⟩
  ·refine⟨⟨o,I.kIn p o j,J⟩,λa e=>?_⟩;cases e;exact⟨o,I.kIn _ o j,hd⟩
  ·have z:∃ o,s.heap.get? p=some o/\o.ExactDict:=by
    rcases j with⟨B,j⟩ | ⟨B,j⟩
    ·obtain⟨_,_,_,_,o,_,_,e,ex,_⟩:=I.hok p _ j;exact⟨o,e,ex⟩
    ·obtain⟨_,_,_,_,o,_,_,e,ex,_⟩:=I.hok p _ j;exact⟨o,e,ex⟩
   obtain⟨o,e,ex⟩:=z;refine⟨⟨o,e,ex.1⟩,λa e2=>?_⟩;cases e2;exact⟨o,e,ex.2.1⟩
  ·obtain⟨o,_,_,_,e,ex,_⟩:=I.hok p _ j;refine⟨⟨o,e,ex.1⟩,λa e2=>?_⟩;cases e2;exact⟨o,e,ex.2.1⟩
 | _=>exact eF ty
def tBM (K:az) (T:String) (r:V->List V->Hp->VK->Prop) (to:TE) (t:TA):TE:=fun σ H Q=>to σ H λx H1=>tyV K T x H1/\t σ H1 λxs H2=>r x xs H2 Q
variable {o e:Expr} {es:List Expr} {to:TE} {t:TA} {name:Str} {apos cpos:Pos} {T id:String} {r:V->List V->Hp->VK->Prop}
theorem fXz (pa:PlainAttrs T) (slot:Slot T name id) (hty:typeOf (.builtin id)=pure (.type "method_descriptor")) (hm:MtR X id r) (ho:PE X o to) (ha:PA X (e::es) t)
  (hbase:d8 o name X.env (eval o X.env)=eval o X.env:=by rfl)
  (hfew:((cz cpos (av (e::es) X.env)).all (λx=>!x.1) && (iU cpos (fP [] X.env)).all (λx=>x.1.isSome)
   && decide ((e::es).length + ([]:List fy).length + (if ([]:List fy).isEmpty then 0 else 1) < 30))=true:=by rfl)
  (hline:(apos.endLine == cpos.line)=true:=by rfl) (hs:av (e::es) X.env=(false,eval e X.env)::av es X.env:=by rfl) (hplain:(cz cpos (av es X.env)).any (·.1)=false:=by rfl) :
  PE X (.Call (.Attribute o name apos) (e::es) [] cpos) (tBM X.K T r to t):=by
 intro pins s σ H Q I h;refine wpAny_Call_method_late hbase hfew hline rfl (thn (ho pins s σ H _ I h) λv s1 ⟨x,H1,D,j,ty,L⟩=>?_);obtain⟨h1,h2⟩:=eJl D j ty;refine⟨T,id,pa,slot,hty,h1,h2,?_⟩;have B:=ha cpos pins s1 σ H1 _ D L;rw[hs] at B ⊢;refine gL (by show(false || (cz cpos (av es X.env)).any (·.1))=false;rw[hplain] <;> rfl) (Calls.evalArgs_plain ?_)
 exact thn B λus s2 ⟨vs,H2,O,G,J⟩=>hm pins s2 σ H2 x vs v us Q O j G J
end
def MtM (X:Cx) (id:String) (r:V->List V->Hp->VK->Prop):Prop :=
 ∀ (pins:List (Addr × Obj)) (s:ai) (σ:St) (H:Hp) (x:V) (xs:List V) (v:ae) (us:List ae) (Q:VK),Inv X pins σ H s->RelV x v->Vals xs us->r x xs H Q ->
  aE (aJ X.prog X.w) X.A (call (.builtin id) (v::us)) (EP X pins σ Q) X.xe s
theorem Vals.one:∀ {x:V} {us:List ae},Vals [x] us->∃ u,us=[u]/\RelV x u:=by
 intro x us h;cases h with
 | cons r t=>cases t;exact⟨_,rfl,r⟩
theorem Vals.two:∀ {x y:V} {us:List ae},Vals [x,y] us->∃ u v,us=[u,v]/\RelV x u/\RelV y v:=by
 intro x y us h;cases h with
 | cons r t =>
  cases t with
  | cons q t=>cases t;exact⟨_,_,rfl,r,q⟩
theorem Vals.eraseIdx:∀ {xs:List V} {us:List ae} (i:Nat),Vals xs us->Vals (xs.eraseIdx i) (us.eraseIdx i)
 | _,_,_,.nil=>.nil
 | _,_,0,.cons _ t=>t
 | _,_,i + 1,.cons r t=>.cons r (Vals.eraseIdx i t)
theorem bX2 {α:Type}:∀ (l:List α) (i:Nat),(l.eraseIdx i).length<=l.length
 | [],_=>Nat.le_refl _
 | _::_,0=>Nat.le_succ _
 | _::r,i + 1=>Nat.succ_le_succ (bX2 r i)
section
variable {X:Cx} {pins:List (Addr × Obj)} {σ:St} {H:Hp} {s:ai} {l b:Addr} {xs ys zs:List V}
theorem Inv.lset {its its':List ae} {n:Nat} {f:Array ae->Array ae} {t':Nat} (I:Inv X pins σ H s) (hH:H l=some (.lst xs))
  (e:s.heap.get? l=some { cls:=.type "list",data:=.seq its.toArray n }) (hf:f its.toArray=its'.toArray) (hv:Vals ys its') (hz:ys.length<=sizeLine) :
  Inv X pins σ (upd H l (.lst ys)) { s with heap:=s.heap.update l (bX f),toks:=t' }:=by
 have q:=PySem.IsL.update e f;rw[hf] at q;refine I.write (x:=l) (e:=l) (by rw[hH];exact trivial) (.inl rfl) (λD u B j=>(cN s.heap (bX f) (b8 B)).trans j) ⟨_,q⟩ ?_
 exact⟨hz,its',_,hv,q⟩
theorem Inv.lnew {its:List ae} {t':Nat} (I:Inv X pins σ H s) (hv:Vals ys its) (hz:ys.length<=sizeLine) :
  Inv X pins σ (upd H s.heap.objs.size (.lst ys)) { s with heap:=s.heap.push { cls:=.type "list",data:=.seq its.toArray },toks:=t' } :=
 I.laid (λ_ _ q=>ag _ q) (Nat.le_refl _) ⟨hz,its,0,hv,au _ rfl⟩
theorem Inv.fresh (I:Inv X pins σ H s):H s.heap.objs.size=none:=I.hok.fresh (Nat.le_refl _)
theorem Inv.lstM (I:Inv X pins σ H s) (hH:H l=some (.lst xs)):xs.length<=sizeLine/\∃ (its:List ae) (n:Nat),Vals xs its/\xs.length=its.length/\s.heap.get? l=some { cls:=.type "list",data:=.seq its.toArray n }:=by
 obtain⟨z,its,n,r,e⟩:=I.hok l _ hH;exact⟨z,its,n,r,r.length,e⟩
theorem bJy {n:Nat} (h:n<=sizeLine):d9 n=false:=by
 unfold d9;exact decide_eq_false (by omega)
end
section
variable {X:Cx}
def cXa:V->List V->Hp->VK->Prop:=λx vs H Q=>∃ l xs y,x=.ref l/\vs=[y]/\H l=some (.lst xs)/\xs.length < sizeLine/\Q .non (upd H l (.lst (xs++[y])))
theorem bX3:MtM X "list.append" cXa:=by
 intro pins s σ H x vs v us Q I rx D h;obtain⟨l,xs,y,rfl,rfl,B,J,q⟩:=h;cases rx;obtain⟨u,rfl,G⟩:=D.one;obtain⟨z,j,n,r,L,e⟩:=I.lstM B;refine j4 F.slot_list_append ⟨_,e,rfl⟩ F.entry_list_append (F.args_list_append_2 _ _) (PySem.list_append l j.toArray n u (by rw[ar];omega)) ⟨e,?_⟩
 refine⟨.non,_,I.lset (its':=j++[u]) B e (by simp) (r.append (.cons G .nil)) ?_,rfl,q⟩
 rw[aq,dX];omega
def cXb:V->List V->Hp->VK->Prop:=λx vs H Q=>∃ l b xs zs,x=.ref l/\vs=[.ref b]/\H l=some (.lst xs)/\H b=some (.lst zs)/\xs.length + zs.length<=sizeLine/\Q .non (upd H l (.lst (xs++zs)))
theorem cXc:MtM X "list.extend" cXb:=by
 intro pins s σ H x vs v us Q I rx L h;obtain⟨l,b,xs,zs,rfl,rfl,J,Y,hz,q⟩:=h;cases rx;obtain⟨u,rfl,ru⟩:=L.one;cases ru;obtain⟨z,B,n,r,hl,e⟩:=I.lstM J;obtain⟨z2,j,R,O,U,Z⟩:=I.lstM Y;have G:B.toArray.size + j.toArray.size<=sizeLine:=by rw[ar,ar];omega
 have D:¬ (!B.toArray.isEmpty && d9 (B.toArray.size + j.toArray.size))=true:=by
  rw[bJy G,fQ];exact a9
 refine j4 F.slot_list_extend ⟨_,e,rfl⟩ F.entry_list_extend (F.args_list_extend_2 _ _)
  (AutoSeq1.list_extend_list_list_0 l B.toArray n b j.toArray R D (by rw[ar];omega) (by omega)) ⟨e,Z,?_⟩
 refine⟨.non,_,I.lset (its':=B++j) J e (by simp) (r.append O) ?_,rfl,q⟩
 rw[aq];omega
def dXa:V->List V->Hp->VK->Prop:=λx vs H Q=>∃ l xs i k y,x=.ref l/\vs=[.int i]/\H l=some (.lst xs)/\-(2 ^ 63)<=i/\i < 2 ^ 63/\seqIndex? i xs.length=some k/\xs[k]?=some y/\Q y (upd H l (.lst (xs.eraseIdx k)))
theorem dQu:MtM X "list.pop" dXa:=by
 intro pins s σ H x vs v us Q I rx G h;obtain⟨l,xs,i,k,y,rfl,rfl,D,h1,h2,R,L,q⟩:=h;cases rx;obtain⟨u,rfl,J⟩:=G.one;obtain⟨t,rfl⟩:=J;obtain⟨z,j,n,r,O,e⟩:=I.lstM D;obtain⟨w,hw,B⟩:=r.get L;refine j4 F.slot_list_pop ⟨_,e,rfl⟩ F.entry_list_pop (F.args_list_pop_2 _ _)
  (MeetsSeq.list_pop_at l j.toArray n i t k w (fitsIndex_both h1 h2) (by rw[ar,<- O];exact R) (by rw[<- aT];exact hw) (by rw[ar];omega)) ⟨e,?_⟩
 refine⟨y,_,I.lset (its':=j.eraseIdx k) D e ?_ (r.eraseIdx k) ?_,B,q⟩
 ·show j.toArray.eraseIdxIfInBounds k=(j.eraseIdx k).toArray;rw[List.eraseIdxIfInBounds_toArray]
 ·have:=bX2 xs k
  omega
end
section
variable {prog:aC} {w:aR} {A:a7} {E:ae->ai->Prop} {s:ai}
set_option maxRecDepth 100000 in
end
end L2
namespace Att
open PySem PySem.W PySem.Calls PyProof.Rows
theorem aJt {P:Params} {h:bf}:∀ (ns:List Int) (vs:List ae),WellAll P h vs (ns.map WData.int)->iI vs ns:=by
 intro ns
 induction ns with
 | nil =>
  intro vs w;rw[fx] at w;cases w;exact .nil
 | cons n ns j =>
  intro vs w;rw[aL] at w;cases w with
  | cons a b =>
   cases a;exact .cons _ _ (j _ b)
theorem cXd {l:OpenLaw} {n:Nat} (hn:l.most=some n) {P:Params} {h:bf} {args:List WData} {vals:List ae}
  (hpre:l.row.toRowW.claim.pre args=true) (hwl:WellAll P h vals args) :
  ∃ a vs ns,vals=[cr a]/\args=[WData.list (ns.map WData.int)]/\h.get? a=some { cls:=.type "list",data:=.seq vs.toArray }/\iI vs ns/\ns.length<=n:=by
 have G:WShape.hasAll [] args [.list .int]=true:=(pre_splitW hpre).1;have I:l.pre.holds [] { args:=args }=true:=(pre_splitW hpre).2;obtain⟨d,r,rfl,h1,h2⟩:=hasAllW_cons G;obtain rfl:=hasAllW_nil h2;obtain⟨xs,rfl,O⟩:=hasW_list h1;obtain⟨ns,rfl⟩:=items_int O;have hlen:ns.length<=n:=by
  unfold OpenLaw.pre at I;have D:(WTm.not (.lt (.lit (.int (n:Int))) (.len (.arg 0)))).holds [] { args:=[.list (ns.map .int)] }=true:=by
   have D:=(holds_andW I).1;rw[hn] at D;exact D
  have B:=condW_of D (w_not (w_lt w_lit (w_len_list (w_arg rfl))));rw[af] at B;refine Nat.le_of_not_lt λq=>?_;have J:(n:Int) < ((ns.length:Nat):Int):=by omega
  first
   | (rw[decide_eq_true J] at B;exact absurd B (by decide))
   | (simp at B;omega)
 cases hwl with
 | cons w1 w2 =>
  cases w2;cases w1 with
  | list L j=>exact⟨_,_,ns,rfl,rfl,L,aJt ns _ j,hlen⟩
theorem cXe (l:OpenLaw) (args:List WData):l.row.toRowW.claim.post args (.bool true) args=true :=
 postW_of (r:=l.row.toRowW) (X:=(true == true))
  (show WShape.has [] (.bool true) .bool=true by first | rfl | decide | simp[WShape.has,WShape.arms,WShape.armsAll])
  (show(WTm.eq .res (.lit (.bool true))).value [] { args:=args,res:=some (.bool true),after:=args }=some (.bool (true == true)) from w_eq_bool (w_res rfl) w_lit) rfl
end Att
namespace L2
open PySem PySem.Spec PyProof.Rows
theorem aJu:∀ {vs:List ae} {ns:List Int},iI vs ns->Vals (ns.map V.int) vs
 | _,_,.nil=>.nil
 | _,_,.cons n t h=>.cons ⟨t,rfl⟩ (aJu h)
def Only (H:Hp):Prop:=∀ b,H b=none\/∃ o xs,H b=some (.frz o (.lst xs))
theorem dQv {P:aC} {w:aR} {K:az} {mg mb:Str->Option ae} {CX:CXT} {k:Nat} {fa a:Addr} {fd:eA} {x:Str} {sp:Sp} {s₁:ai} {vs:List ae} {ns:List Int}
  (KX:K.In s₁.heap) (hns:s₁.heap.Ns bn mg) (hb:s₁.heap.Ns builtinsNs mb) (hbb:∀ x:Str,x ≠ "__name__"->mb x=bQ x) (hlim:s₁.heap.NoLimit) (hg:s₁.gens=#[])
  (ha:s₁.heap.get? a=some { cls:=.type "list",data:=.seq vs.toArray }) (hi:iI vs ns) (hl:ns.length<=sizeLine) (hr:Room k callerA)
  (F:∀ base:bf,K.In base->base.Ns bn mg->FnOk P w K mg base CX k fa fd [x] sp) (hbind:∀ (s:ai) (u:ae),BindsTo s fd ⟨[u],[]⟩ [(x,u)])
  (hsp:∀ H:Hp,Only H->SqL K H a (ns.map V.int)->sp [.ref a] H (λv _=>v=.bl true) λ_ _ _=>False)
  (hCX:∀ H e s',CX [] H s₁ (λ_ _ _=>False) e s'->False) :
  jm (aJ P w) callerA (.call (.ref fa) ⟨[.ref a],[]⟩) (λr s'=>r=.ok (.ret (.bool true))/\OldK s₁.heap s'.heap/\s'.os=s₁.os/\jj s'.gens) s₁:=by
 have O:=aJu hi;have D:=hi.length;have core:∀ H:Hp,Only H->SqL K H a (ns.map V.int)->HOk P w H s₁.heap->(∀ b,H b≠none->b=a)->(H a≠none->K.lookup a=none) ->
   jm (aJ P w) callerA (.call (.ref fa) ⟨[.ref a],[]⟩) (λr s'=>r=.ok (.ret (.bool true))/\OldK s₁.heap s'.heap/\s'.os=s₁.os/\jj s'.gens) s₁:=by
  intro H R hS hok U hK;have j:∀ {b:Addr} {o:Obj},s₁.heap.get? b=some o->H b=none->(hidT s₁.heap H).get? b=some o:=λe n=>dQl e n;have J:∀ {b:Addr} {o:Obj} {es:Array jF} {ep:Nat},s₁.heap.get? b=some o->o.data=.dict es ep->H b=none:=λ{b o es ep} e d=>by
   cases q:H b with
   | none=>rfl
   | some u =>
    have L:b=a:=U b (by rw[q];simp)
    subst L;rw[ha] at e;cases e;have d':Data.seq vs.toArray _=Data.dict es ep:=d;cases d'
  have B:∀ {b:Addr} {m:Str->Option ae},s₁.heap.Ns b m->(hidT s₁.heap H).Ns b m:=λ{b m} ⟨o,es,ep,e,d,r⟩=>⟨o,es,ep,j e (J e d),d,r⟩;have I:K.In (hidT s₁.heap H):=λb o e=>j (KX b o e) (by
   cases q:H b with
   | none=>rfl
   | some u =>
    have L:b=a:=U b (by rw[q];simp)
    subst L;rw[hK (by rw[q];simp)] at e;cases e)
  have hM:Mod K mg (hidT s₁.heap H):=⟨I,B hns,⟨mb,B hb,hbb⟩,let ⟨mc,h1,h2⟩:=hlim;⟨mc,B h1,h2⟩⟩
  have e0:Env0 P w K mg (hidT s₁.heap H) callerA [] s₁ H:=⟨rfl,rfl,hM,λb o e=>dJc e,Nat.le_of_eq (cZz _ _),trivial,λb hb=>absurd (show b∈([]:List Addr) from hb) (by simp),hok,.of_eq hg⟩
  refine fW ((F _ I (B hns)).run callerA [] s₁ H ⟨[.ref a],[]⟩ [.ref a] [.ref a] _ _ hr e0 (hbind s₁ (.ref a)) (.cons rfl .nil) (hsp H R hS)) λr s' h=>?_;cases r with
  | error e=>exact(hCX H e s' h).elim
  | ok fl =>
   cases fl with
   | next=>exact eF h
   | brk=>exact eF h
   | cont=>exact eF h
   | ret u =>
    obtain⟨v,H',os,bare,un,G,Z,q⟩:=h;have q':v=.bl true:=q;subst q';obtain rfl:u=jX true:=Z;refine⟨rfl,OldK.of_keep λb o e=>?_,os,bare⟩;cases q:H b with
    | none=>exact un.keep b o e q (by intro z;exact absurd (show b∈([]:List Addr) from z) (by simp)) (by simp)
    | some u =>
     rcases R b with z | ⟨ob,xs,z⟩
     ·rw[q] at z;cases z
     ·have Y:=un.frzs b ob _ z;obtain⟨e1,_⟩:=hok b _ z;obtain⟨e2,_⟩:=G b _ Y;rw[e] at e1;cases e1;exact e2
 cases hk:K.lookup a with
 | some o =>
  have e:=KX a o hk;rw[ha] at e;cases e;refine core (λ_=>none) (λ_=>.inl rfl) (.inr ⟨_,vs.toArray,_,hk,rfl,rfl,rfl,by rw[ar,D];exact hl,by simpa using O⟩) (λb u z=>by have z':(none:Option HO)=some u:=z;cases z') (λb z=>absurd rfl z) λz=>absurd rfl z
 | none =>
  refine core (λb=>if b=a then some (.frz { cls:=.type "list",data:=.seq vs.toArray } (.lst (ns.map V.int))) else none) (λb=>?_) (.inl (.inr ⟨{ cls:=.type "list",data:=.seq vs.toArray },if_pos rfl⟩)) (λb u z=>?_) (λb z=>?_) λ_=>hk
  ·by_cases hb:b=a
   ·exact .inr ⟨_,_,if_pos hb⟩
   ·exact .inl (if_neg hb)
  ·by_cases hb:b=a
   ·have z':=(if_pos hb).symm.trans z;cases z';subst hb;exact⟨ha,by rw[af];exact hl,vs,_,O,ha⟩
   ·have z':=(if_neg hb).symm.trans z;cases z'
  ·by_cases hb:b=a
   ·exact hb
   ·exact absurd (if_neg hb) z
abbrev KOf {K:az} {h:bf} (_:K.In h):az:=K
def aXe (s:Stmt):Arguments:=match s with
 | .FunctionDef _ a _ _ _ _ _ _ _ _=>a
 | _=>{ posonlyargs:=[],args:=[],vararg:=none,kwonlyargs:=[],kw_defaults:=[],kwarg:=none,defaults:=[] }
def aZh (s:Stmt):List Stmt:=match s with
 | .FunctionDef _ _ b _ _ _ _ _ _ _=>b
 | _=>[]
def aQ8 (s:Stmt):Scope:=match s with
 | .FunctionDef _ _ _ _ _ _ sc _ _ _=>sc
 | _=>{ kind:=.function,names:=[],isGenerator:=false,isCoroutine:=false }
abbrev CX0:CXT:=λ_ _ _ _ _ _=>False
abbrev E0:XK:=λ_ _ _=>False
theorem fJ0 {X:Cx}:cX7 CX0 X E0:=λ_ _ _ _ _ _ _ h=>h.elim
structure Fun (K:az) (x qual:Str) (st:Stmt) (f:Addr) (fd:eA):Prop where
 ex:∃ (oc:ae) (od:Option Addr) (kV doc pm:ae) (an:Option Addr) (cdv ct:ae) (osl:Array (Option ae)),
  fd=eW x qual (aXe st) (aZh st) (aQ8 st) .none kV doc pm an cdv ct/\K.lookup f=some ⟨oc,od,.func fd,osl⟩/\gI K cdv qual=true
 kp:fL K (.ref f)=true
section
variable {P:aC} {w:aR} {K:az} {mg:Str->Option ae} {base:bf}
theorem Fun.ok {x qual:Str} {st:Stmt} {f:Addr} {fd:eA} {N ps:List Str} {k:Nat} {sp:Sp} (F:Fun K x qual st f fd) (S:FnScope N ps (aQ8 st)) (len:∀ vs H Q E,sp vs H Q E->vs.length=ps.length)
  (hbody:∀ (cdv:ae) (A:a7) (outer:List Env) (s:ai) (H:Hp) (vs:List V) (Q:VK) (E:XK),Room k (A.deeper (jt qual (aQ8 st) s.heap.objs.size f cdv))->sp vs H Q E ->
   ∃ t,PSs (cxOf CX0 P w K mg base N qual (aQ8 st) f cdv A outer s H E).nox (aZh st) t/\t { nx:=λ_ H'=>Q .non H',rt:=Q } (start N vs) H):FnOk P w K mg base CX0 (k + 1) f fd ps sp:=by
 obtain⟨oc,I,kV,doc,pm,an,cdv,ct,D,rfl,lk,B⟩:=F.ex;refine fXw lk B S len λA outer s H vs Q E G j=>?_;obtain⟨t,h,q⟩:=hbody cdv A outer s H vs Q E G j;exact⟨t,h.nox,q⟩
theorem Fun.binds {x qual:Str} {st:Stmt} {f:Addr} {fd:eA} {ps:List Str} (F:Fun K x qual st f fd)
  (h:∀ (kV doc pm:ae) (an:Option Addr) (cdv ct:ae) (us:List ae),us.length=ps.length->bindArgs (eW x qual (aXe st) (aZh st) (aQ8 st) .none kV doc pm an cdv ct) ⟨us,[]⟩=pure (ps.zip us)):Binds K fd ps []:=by
 obtain⟨oc,D,kV,doc,pm,an,cdv,ct,j,rfl,lk,B⟩:=F.ex;exact .all (h kV doc pm an cdv ct)
theorem dXb {x qual:Str} {st:Stmt} {f:Addr} {oc:ae} {od an:Option Addr} {osl:Array (Option ae)} {kV doc pm cdv ct:ae} (l:K.lookup f=some ⟨oc,od,.func (eW x qual (aXe st) (aZh st) (aQ8 st) .none kV doc pm an cdv ct),osl⟩)
  (c:gI K cdv qual=true) (k:fL K (.ref f)=true):Fun K x qual st f (eW x qual (aXe st) (aZh st) (aQ8 st) .none kV doc pm an cdv ct):=⟨⟨oc,od,kV,doc,pm,an,cdv,ct,osl,rfl,l,c⟩,k⟩
end
theorem ite2 {c A B:Prop} [Decidable c] (h1:c->A) (h2:¬ c->B):if c then A else B:=by
 by_cases h:c
 ·rw[if_pos h];exact h1 h
 ·rw[if_neg h];exact h2 h
def Same (H H':Hp):Prop:=∀ b o,H b=some o->H' b=some o
end L2
set_option maxHeartbeats 4000000
namespace L2
open PySem PySem.Spec PyProof.Rows
theorem aJ3 (env:Env):∀ (names:List (Str × fB)) (acc:List (Str × Addr)),(∀ x,(x,be)∈names->∃ c,env.cells.lookup x=some c)->(∀ x c,acc.lookup x=some c->env.cells.lookup x=some c) ->
  ∃ cl,(forIn names acc λ(y:Str × fB) (cs:List (Str × Addr))=>(if (y.2 == be)=true then do let a <- cellOf env y.1;pure (bC ((y.1,a)::cs)) else pure (bC cs):Sem (ForInStep (List (Str × Addr)))))=pure cl /\
   (∀ x c,cl.lookup x=some c->env.cells.lookup x=some c)/\(∀ x,((x,be)∈names\/(acc.lookup x).isSome=true)->(cl.lookup x).isSome=true)
 | [],acc,_,B=>⟨acc,by rfl,B,λx h=>by
   rcases h with h | h
   ·cases h
   ·exact h⟩
 | (n,k)::rest,acc,D,B=>by
  by_cases hk:(k == be)=true
  ·have G:k=be:=by cases k <;> first | rfl | cases hk
   subst G;obtain⟨c,I⟩:=D n am;obtain⟨cl,e,h1,h2⟩:=aJ3 env rest ((n,c)::acc) (λx hx=>D x (ao _ hx)) (λx d hx=>by
    simp only[da] at hx
    by_cases j:(x == n)=true
    ·rw[j] at hx;cases hx;rw[hJ j];exact I
    ·rw[eX.mpr j] at hx;exact B x d hx)
   refine⟨cl,?_,h1,λx hx=>h2 x ?_⟩
   ·rw[cZ];have J:cellOf env n=pure c:=by unfold cellOf;rw[I]
    simp only[hk,if_true,J,pure_bind];exact e
   ·rcases hx with hx | hx
    ·rcases aB.mp hx with hx | hx
     ·cases hx;right;simp
     ·exact .inl hx
    ·right
     simp only[da];cases x == n <;> simp[hx]
  ·obtain⟨cl,e,h1,h2⟩:=aJ3 env rest acc (λx hx=>D x (ao _ hx)) B;refine⟨cl,?_,h1,λx hx=>h2 x ?_⟩
   ·rw[cZ];simp only[hk,if_false,pure_bind,aS];exact e
   ·rcases hx with hx | hx
    ·rcases aB.mp hx with hx | hx
     ·cases hx;exact absurd rfl hk
     ·exact .inl hx
    ·exact .inr hx
inductive Cap (N:List Str) (sc:Scope):List Str->List (Option Nat)->Prop
 | nil:Cap N sc [] []
 | own {x xs is}:Cap N sc xs is->Cap N sc (x::xs) (none::is)
 | cap {x xs is i}:N[i]?=some x->(x,be)∈sc.names->Cap N sc xs is->Cap N sc (x::xs) (some i::is)
theorem Cap.length {N:List Str} {sc:Scope} {xs:List Str} {is:List (Option Nat)} (c:Cap N sc xs is):xs.length=is.length:=by
 induction c with
 | nil=>rfl
 | own _ j=>simp[j]
 | cap _ _ _ j=>simp[j]
theorem Cap.get {N:List Str} {sc:Scope} {xs:List Str} {is:List (Option Nat)} (c:Cap N sc xs is):∀ {j i:Nat} {x:Str},xs[j]?=some x->is[j]?=some (some i)->N[i]?=some x/\(x,be)∈sc.names:=by
 induction c with
 | nil=>intro j i x h;simp at h
 | own _ B =>
  intro j i x h1 h2;cases j with
  | zero=>simp at h2
  | succ j=>exact B (by simpa using h1) (by simpa using h2)
 | cap D hf _ B =>
  intro j i x h1 h2;cases j with
  | zero=>simp at h1 h2;subst h1;subst h2;exact⟨D,hf⟩
  | succ j=>exact B (by simpa using h1) (by simpa using h2)
def capt (is:List (Option Nat)) (σ:St):St:=is.map λo=>o.bind λi=>(σ[i]?).join
theorem aX0 {sc:Scope} {env:Env}:∀ {names:List (Str × fB)} {x:Str},(names.lookup x=some .cell\/names.lookup x=some .free)->((names.map λ(n,k)=>if (k == be && env.scope.kind == .function && env.kindOf n == some .cell) then (n,ip) else (n,k)).lookup x=some .cell\/(names.map λ(n,k)=>if (k == be && env.scope.kind == .function && env.kindOf n == some .cell) then (n,ip) else (n,k)).lookup x=some .free)
 | [],x,h=>by simp at h
 | (n,k)::r,x,h=>by
  simp only[aL]
  by_cases j:(k == be && env.scope.kind == .function && env.kindOf n == some .cell)=true
  ·rw[if_pos j];simp only[da] at h ⊢;cases hx:x == n with
   | true=>exact .inl rfl
   | false=>rw[hx] at h;exact aX0 (sc:=sc) h
  ·rw[if_neg j];simp only[da] at h ⊢;cases hx:x == n with
   | true=>rw[hx] at h;exact h
   | false=>rw[hx] at h;exact aX0 (sc:=sc) h
theorem aJ4 {sc:Scope} {env:Env}:∀ {names:List (Str × fB)} {x:Str},((names.map λ(n,k)=>if (k == be && env.scope.kind == .function && env.kindOf n == some .cell) then (n,ip) else (n,k)).lookup x=some .cell\/(names.map λ(n,k)=>if (k == be && env.scope.kind == .function && env.kindOf n == some .cell) then (n,ip) else (n,k)).lookup x=some .free)->names.lookup x=some .cell\/names.lookup x=some .free
 | [],x,h=>by simp at h
 | (n,k)::r,x,h=>by
  simp only[aL] at h
  by_cases j:(k == be && env.scope.kind == .function && env.kindOf n == some .cell)=true
  ·rw[if_pos j] at h;simp only[da] at h ⊢;cases hx:x == n with
   | true =>
    right
    have:k == be:=by
     simp only[aQ] at j;exact j.1.1
    cases k <;> first | rfl | cases this
   | false=>rw[hx] at h;exact aJ4 (sc:=sc) h
  ·rw[if_neg j] at h;simp only[da] at h ⊢;cases hx:x == n with
   | true=>rw[hx] at h;exact h
   | false=>rw[hx] at h;exact aJ4 (sc:=sc) h
theorem aJv {α β:Type} [BEq α] [LawfulBEq α]:∀ {l:List (α × β)} {x:α} {k:β},l.lookup x=some k->(x,k)∈l
 | (n,j)::r,x,k,h=>by
  simp only[da] at h;cases hx:x == n with
  | true=>rw[hx] at h;cases h;rw[hJ hx];exact am
  | false=>rw[hx] at h;exact ao _ (aJv h)
def PTs (X:Cx) (ifs:List Expr) (t:TT):Prop :=
 ∀ (pins:List (Addr × Obj)) (s:ai) (σ:St) (H:Hp) (Q:Bool->Hp->Prop),Inv X pins σ H s->t σ H Q ->
  aE (aJ X.prog X.w) X.A (forIn ifs true λc r=>if r=true then do let ok <- isTrue c X.env (eval c X.env);pure (bC ok) else pure (bC r)) (TP X pins σ Q) X.xe s
def tYes:TT:=λ_ H Q=>Q true H
theorem dJt {X:Cx}:PTs X [] tYes:=λpins s σ H Q I h=>wpAny_tests_nil ⟨H,I,h⟩
theorem dJu {X:Cx} {c:Expr} {t:TT} (h:PT X c t):PTs X [c] t:=λpins s σ H Q I q=>wpAny_tests_one (h pins s σ H Q I q)
def Wk (σ0 σ2:St):Prop:=σ2.length=σ0.length/\∀ (j:Nat) v,σ0[j]?=some (some v)->σ2[j]?=some (some v)
def okV (names outer:List (Str × fB)):Bool:=names.all λy=>match y.2 with
 | .free=>match outer.lookup y.1 with
  | some .cell=>true
  | some .free=>true
  | _=>false
 | _=>true
theorem eJm {names:List (Str × fB)} {sc:Scope} (h:okV names sc.names=true):∀ y∈names,y.2=.free->Vis sc y.1/\sc.names.lookup y.1≠some .local:=λy j hf=>by
 have:=bF.mp h y j
 rw[hf] at this;unfold Vis;cases q:sc.names.lookup y.1 with
 | none=>rw[q] at this;cases this
 | some k=>rw[q] at this;cases k <;> first | (simp;done) | cases this
structure Bs (mg:Str->Option ae):Prop where
 len:mg "len" = none
 range:mg "range" = none
 sorted:mg "sorted" = none
 tuple:mg "tuple" = none
 list:mg "list" = none
 set:mg "set" = none
 sum:mg "sum" = none
 min:mg "min" = none
 max:mg "max" = none
 all:mg "all" = none
 any:mg "any" = none
 isinstance:mg "isinstance" = none
 int:mg "int" = none
 str:mg "str" = none
 bool:mg "bool" = none
 zip:mg "zip" = none
 enumerate:mg "enumerate" = none
theorem eJn:bQ "len" = some (.builtin "len"):=by decide +kernel
theorem aX1:bQ "sorted" = some (.builtin "sorted"):=by decide +kernel
theorem eJo:bQ "sum" = some (.builtin "sum"):=by decide +kernel
theorem eJp:bQ "all" = some (.builtin "all"):=by decide +kernel
theorem eJq:bQ "any" = some (.builtin "any"):=by decide +kernel
theorem bQz:bQ "isinstance" = some (.builtin "isinstance"):=by decide +kernel
theorem bZ0:bQ "tuple" = some (.type "tuple"):=by decide +kernel
theorem bJz:bQ "set" = some (.type "set"):=by decide +kernel
theorem dXc:bQ "int" = some (.type "int"):=by decide +kernel
theorem dXd:bQ "str" = some (.type "str"):=by decide +kernel
theorem dJv:bQ "bool" = some (.type "bool"):=by decide +kernel
structure Df (P:aC) (w:aR) (K:az) (mg:Str->Option ae) (base:bf) (k:Nat) (x:Str) (ps:List Str) (sp:Sp):Prop where
 ex:∃ (f:Addr) (fd:eA),FnOk P w K mg base CX0 k f fd ps sp/\Binds K fd ps []/\fL K (.ref f)=true/\mg x=some (.ref f)
theorem Df.mono {P:aC} {w:aR} {K:az} {mg:Str->Option ae} {base:bf} {j k:Nat} {x:Str} {ps:List Str} {sp:Sp} (D:Df P w K mg base j x ps sp) (h:j<=k):Df P w K mg base k x ps sp:=by
 obtain⟨f,fd,a,b,c,d⟩:=D.ex;exact⟨f,fd,a.mono h,b,c,d⟩
theorem dQw {X:Cx} {k:Nat} {x:Str} {ps:List Str} {sp:Sp} {p pos:Pos} {e:Expr} {es:List Expr} {t:TA} (D:Df X.prog X.w X.K X.mg X.base k x ps sp) (hr:Room k X.A) (hg:Gl X x) (ha:PA X (e::es) t)
  (hdb:(x == ("__debug__" : Str))=false:=by decide) (he:av (e::es) X.env=(false,eval e X.env)::av es X.env:=by rfl) (hpl:(cz pos (av es X.env)).any (·.1)=false:=by rfl) :
  PE X (.Call (.Name x p) (e::es) [] pos) (eJg sp [] E0 t):=by
 obtain⟨f,fd,F,B,j,hm⟩:=D.ex;exact dJm F hr hg hm j B .nil fJ0 ha hdb he hpl
structure Tx (K:az) (mg:Str->Option ae) (x:Str) (st:Stmt):Prop where
 ex:∃ (f:Addr) (fd:eA),Fun K x x st f fd/\mg x=some (.ref f)
theorem Tx.df {P:aC} {w:aR} {K:az} {mg:Str->Option ae} {base:bf} {k:Nat} {x:Str} {st:Stmt} {ps:List Str} {sp:Sp} (T:Tx K mg x st)
  (b:∀ {f:Addr} {fd:eA},Fun K x x st f fd->Binds K fd ps []) (h:∀ {f:Addr} {fd:eA},Fun K x x st f fd->FnOk P w K mg base CX0 k f fd ps sp):Df P w K mg base k x ps sp:=by
 obtain⟨f,fd,F,m⟩:=T.ex;exact⟨f,fd,h F,b F,F.kp,m⟩
theorem tx_mk {K:az} {h:bf} {mg:Str->Option ae} {x:Str} {st:Stmt} {f:Addr} {od an:Option Addr} {sl:Array (Option ae)} {oc kV dc pm cd ct:ae} (X:K.In h) (G:h.Ns bn mg)
  (a:bS K bn x=some (some (.ref f))) (l:K.lookup f=some ⟨oc,od,.func (eW x x (aXe st) (aZh st) (aQ8 st) .none kV dc pm an cd ct),sl⟩) (c:gI K cd x=true) (k:fL K (.ref f)=true):Tx K mg x st :=
 ⟨f,_,dXb (st:=st) l c k,PySem.W.mg_of X G a⟩
theorem bs_mk {K:az} {h:bf} {mg:Str->Option ae} (X:K.In h) (G:h.Ns bn mg) (a:∀ x∈(["len", "range", "sorted", "tuple", "list", "set", "sum", "min", "max", "all", "any", "isinstance", "int", "str", "bool", "zip", "enumerate"]:List Str),bS K bn x=some none):Bs mg:=by
 have q:∀ x∈(["len", "range", "sorted", "tuple", "list", "set", "sum", "min", "max", "all", "any", "isinstance", "int", "str", "bool", "zip", "enumerate"]:List Str),mg x=none:=λx j=>PySem.W.mg_none_of X G (a x j);constructor <;> exact q _ (by decide +kernel)
theorem bs_all {K:az} (z1:bS K bn "len" = some none) (z2:bS K bn "range" = some none) (z3:bS K bn "sorted" = some none) (z4:bS K bn "tuple" = some none) (z5:bS K bn "list" = some none) (z6:bS K bn "set" = some none)
  (z7:bS K bn "sum" = some none) (z8:bS K bn "min" = some none) (z9:bS K bn "max" = some none) (z10:bS K bn "all" = some none) (z11:bS K bn "any" = some none) (z12:bS K bn "isinstance" = some none)
  (z13:bS K bn "int" = some none) (z14:bS K bn "str" = some none) (z15:bS K bn "bool" = some none) (z16:bS K bn "zip" = some none) (z17:bS K bn "enumerate" = some none) :
  ∀ x∈(["len", "range", "sorted", "tuple", "list", "set", "sum", "min", "max", "all", "any", "isinstance", "int", "str", "bool", "zip", "enumerate"]:List Str),bS K bn x=some none:=λx j=>by
 simp only[aB,db,or_false] at j;rcases j with rfl | rfl | rfl | rfl | rfl | rfl | rfl | rfl | rfl | rfl | rfl | rfl | rfl | rfl | rfl | rfl | rfl <;> assumption
theorem fJ1 {X:Cx} {x:Str} {n:String} {pos:Pos} (hg:Gl X x) (hm:X.mg x=none) (hv:bQ x=some (.type n)) (hn:x ≠ "__name__":=by decide) (hd:(x == ("__debug__" : Str))=false:=by decide):PE X (.Name x pos) (tC (.ty n)) :=
 dJd hg hm hv (show RelV (.ty n) (.type n) from rfl) hn hd
def subT (t T : String) : Option Bool := if t = T then some true else
  (([("bool", "int", true), ("int", "bool", false), ("str", "int", false), ("str", "bool", false), ("str", "tuple", false), ("tuple", "str", false), ("tuple", "int", false), ("tuple", "bool", false), ("NoneType", "str", false), ("NoneType", "tuple", false), ("NoneType", "int", false), ("NoneType", "bool", false),
    ("int", "str", false), ("int", "tuple", false), ("bool", "str", false), ("bool", "tuple", false), ("list", "tuple", false), ("list", "str", false), ("tuple", "list", false), ("int", "list", false), ("str", "list", false), ("list", "int", false), ("list", "bool", false)] : List (String × String × Bool)).find? λr => r.1 == t && r.2.1 == T).map (·.2.2)
theorem cXf {K:az} {t T:String} {b:Bool} (h:subT t T=some b):iR K (.type t) (.type T)=some b:=by
 unfold subT at h
 by_cases e:t=T
 ·rw[if_pos e] at h;cases h;subst e;unfold iR;rw[if_pos (by exact beq_self_eq_true _)]
 ·rw[if_neg e] at h;rw[a6] at h;obtain⟨r,j,rfl⟩:=h;have h1:=List.find?_some j;have h2:=List.mem_of_find?_eq_some j;simp only[aQ,beq_iff_eq] at h1;obtain⟨rfl,rfl⟩:=h1;simp only[aB,db,or_false] at h2;rcases h2 with rfl | rfl | rfl | rfl | rfl | rfl | rfl | rfl | rfl | rfl | rfl | rfl | rfl | rfl | rfl | rfl | rfl | rfl | rfl | rfl | rfl | rfl | rfl <;> first | rfl | (unfold iR PySem.W.kitCls PySem.W.subIn;kernel_rfl) | kernel_rfl
def rIsi (K:az):List V->Hp->VK->Prop:=λxs H Q=>∃ x T t b,xs=[x,.ty T]/\TyOf K H x (.type t)/\subT t T=some b/\Q (.bl b) H
theorem call_isi {X:Cx}:CallR X (.builtin "isinstance") (rIsi X.K):=by
 intro pins s σ H xs us Q I B h;obtain⟨x,T,t,b,rfl,ty,e,q⟩:=h;obtain⟨u,c,rfl,D,rc⟩:=B.two;cases rc;exact cX6 I D ty (cXf e) λj=>⟨.bl b,H,I.tok j,rfl,q⟩
end L2
set_option maxHeartbeats 1000000
namespace L2
open PySem PySem.Spec PyProof.Rows
def cXg (ifs:List Expr) (env:Env):Sem Bool:=forIn ifs true λc r=>if r=true then do let ok <- isTrue c env (eval c env);pure (bC ok) else pure (bC r)
def aXp (target:Expr) (ifs:List Expr) (at0:Pos) (m:Sem Unit) (c:Code) (it:ae) (env:Env):Sem Fin :=
 standAt at0 >>= λ_=>fh it >>= λr=>match r with
  | none=>pure (.done .next)
  | some v=>iz target it v >>= λ_=>assign target env v >>= λ_=>cXg ifs env >>= λok=>if ok=true then m >>= λ_=>again c else again c
def emitOf (elt:Expr) (acc:ae) (env:Env):Sem Unit:=eval elt env >>= λx=>call (.builtin "list.append") [acc,x] >>= λ_=>pure ()
theorem aQc (elt target iter:Expr) (ifs:List Expr) (scope:Scope) (pos:Pos) (it acc:ae) (env:Env) :
  iV (.ListComp elt [⟨target,iter,ifs,0⟩] scope pos) 0 it acc env=aXp target ifs iter.pos (emitOf elt acc env) (.compLoop (.ListComp elt [⟨target,iter,ifs,0⟩] scope pos) 0 it acc env) it env:=by
 rw[compTurn_list];unfold aXp cXg emitOf;refine congrArg _ (funext λ_=>congrArg _ (funext λr=>?_));cases r with
 | none=>rfl
 | some v =>
  refine congrArg _ (funext λ_=>congrArg _ (funext λ_=>congrArg _ (funext λok=>?_)));cases ok <;> rfl
abbrev TB:=St->Hp->(Hp->Prop)->Prop
def PB (X:Cx) (m:Sem Unit) (t:TB):Prop :=
 ∀ (pins:List (Addr × Obj)) (s:ai) (σ:St) (H:Hp) (N:Hp->Prop),Inv X pins σ H s->t σ H N ->
  aE (aJ X.prog X.w) X.A m (λ_ s'=>∃ σ' H',Inv X pins σ' H' s'/\Wk σ σ'/\N H') (λ_ _=>False) s
def eJr (D:Addr) (te:TE):TB:=fun σ H N=>te σ H λy H4=>∃ zs,H4 D=some (.lst zs)/\zs.length < sizeLine/\N (upd H4 D (.lst (zs++[y])))
def dJw (J:It) (σ0:St) (g:TG) (tt:TT) (tb:TB) (Q:Hp->Prop) (H:Hp):Prop :=
 ∃ W:Nat->Nat->Hp->Prop,(∃ m,W 0 m H)/\∀ i m H,W i m H ->
  (J.stop i H/\Q H)\/(J.go i H/\∃ N:Hp->Prop,(∀ H',N H'->∃ m',m' < m/\W (i + 1) m' H') /\
   ∀ x H',J.yld i H x H'->g x σ0 H' fun σ2 H2=>Wk σ0 σ2/\tt σ2 H2 λb H3=>if b=true then tb σ2 H3 N else N H3)
def cQ0 (is:List (Option Nat)) (wi:TI) (g:TG) (tt:TT) (tb:Addr->TB):TE:=fun σ H Q=>wi σ H λJ H1=>∀ D,H1 D=none->dJw J (capt is σ) g tt (tb D) (Q (.ref D)) (upd H1 D (.lst []))
theorem Wk.refl (σ:St):Wk σ σ:=⟨rfl,λ_ _ h=>h⟩
theorem Wk.trans {a b c:St} (h:Wk a b) (k:Wk b c):Wk a c:=⟨k.1.trans h.1,λj v e=>k.2 j v (h.2 j v e)⟩
theorem cZi {σ:St} {i:Nat} {v:V} (h:σ[i]?=some none):Wk σ (σ.set i (some v)):=by
 refine⟨List.length_set,λj u e=>?_⟩
 by_cases B:j=i
 ·subst B;rw[h] at e;cases e
 ·rw[fK (b8 B)];exact e
section
variable {X:Cx}
theorem aQe {elt:Expr} {te:TE} {D:Addr} (hxe:X.xe=λ_ _=>False) (he:PE X elt te):PB X (emitOf elt (.ref D) X.env) (eJr D te):=by
 intro pins s σ H N I h;unfold emitOf;have h1:=he pins s σ H _ I h;rw[hxe] at h1;refine aa (thn h1 λy s1 ⟨v,H1,O,B,zs,J,j,n⟩=>aa ?_);have h2:=bX3 pins s1 σ H1 (.ref D) [v] (.ref D) [y] (λu R=>u=.non/\N R) O rfl (.cons B .nil) ⟨D,zs,v,rfl,rfl,J,j,rfl,n⟩;rw[hxe] at h2;exact thn h2 λ_ s2 ⟨u,H2,L,_,_,G⟩=>ad ⟨σ,H2,L,Wk.refl σ,G⟩
theorem dQx {e target:Expr} {ifs:List Expr} {at0:Pos} {d:Nat} {acc:ae} {it:Addr} {m:Sem Unit} {g:TG} {tt:TT} {tb:TB} {J:It} {fp:List Addr} {tn:Nat->bf->Prop} {Q:Hp->Prop} {R:Result->ai->Prop} {pins:List (Addr × Obj)} {s:ai} {σ:St} {H:Hp}
  (hcalm:X.calm=true) (hxe:X.xe=λ_ _=>False) (hturn:iV e d (.ref it) acc X.env=aXp target ifs at0 m (.compLoop e d (.ref it) acc X.env) (.ref it) X.env)
  (hfr:(kI e d (.ref it) acc X.env).isFrame=false) (hA:X.A.under (kI e d (.ref it) acc X.env)=X.A)
  (T:Turn X.prog X.w X.K target J fp it tn) (hg:PG X target g) (ht:PTs X ifs tt) (hb:PB X m tb)
  (I:Inv X pins σ H s) (st:tn 0 s.heap) (f:∀ b∈fp,FpOk X pins H b) (h:dJw J σ g tt tb Q H)
  (fin:∀ H' s',Inv X pins σ H' s'->(∀ b∈fp,FpOk X pins H' b)->Q H'->R (.ok .next) s') :
  jm (aJ X.prog X.w) X.A (.compLoop e d (.ref it) acc X.env) R s:=by
 obtain⟨W,⟨m0,w0⟩,turn⟩:=h;have j:∀ {H':Hp},(∀ b∈fp,H' b=none)->∀ b∈fp,FpOk X pins H' b:=λhn b hb=>⟨hn b hb,(f b hb).2⟩;refine codeAny_loop rfl (λn s'=>∃ i H',Inv X pins σ H' s'/\tn i s'.heap/\(∀ b∈fp,H' b=none)/\W i n H') ?_ m0 ⟨0,H,I,st,λb hb=>(f b hb).1,w0⟩;rintro n s3 ⟨i,H3,I3,U,G,w3⟩;have eden:(aJ X.prog X.w).den (.compLoop e d (.ref it) acc X.env)=(iV e d (.ref it) acc X.env).onRaise (λx=>do noteFrame x X.env;theTreesLotGoes x):=by
  show(if (kI e d (.ref it) acc X.env).isFrame=true then _ else _)=_
  rw[hfr];rfl
 rw[eden,hturn,hA];refine wpAny_noted ?_;unfold aXp;refine aa (js ?_);rcases turn i n H3 w3 with⟨stop,qn⟩ | ⟨go,N,hN,step⟩
 ·refine aa (thn (T.done X rfl rfl rfl hcalm i pins s3 σ H3 _ I3 (j G) U stop) λr s4 ⟨hr,I4⟩=>?_);subst hr;exact ad (fin H3 s4 I4 (j G) qn)
 ·refine aa (thn (T.item X rfl rfl rfl hcalm i pins s3 σ H3 _ I3 (j G) U go) λr s4 ⟨u,hr,h4⟩=>?_);subst hr;refine aa (thn h4 λ_ s5 ⟨x,H5,I5,r5,y5,D,fr5⟩=>?_);have I5':=I5.pinned (j fr5) (T.obj _ _ D);have q5:=hg _ s5 σ H5 x u _ I5' r5 (step x H5 y5);rw[hxe] at q5;refine aa (e9 q5 (λ_ s6 ⟨σ6,H6,I6,O,q6⟩=>?_) λ_ _ z=>z.elim);have Z:=ht _ s6 σ6 H6 _ I6 q6;rw[hxe] at Z;refine aa (e9 Z (λok s7 ⟨H7,I7,Z⟩=>?_) λ_ _ z=>z.elim);have B:∀ {σ8:St} {L:Hp} {Y:ai},Inv X (pins++bZz fp s5.heap) σ8 L Y->Wk σ σ8->N L->∃ m,m < n/\∃ i H',Inv X pins σ H' Y/\tn i Y.heap/\(∀ b∈fp,H' b=none)/\W i m H':=λ{σ8 L Y} I8 wk n8=>by
   obtain⟨m',hm,w8⟩:=hN L n8;refine⟨m',hm,i + 1,L,I8.unpinned.weak wk.1.symm wk.2,T.keep _ _ _ D λb hb o e=>(I8.pin (b,o) (bi _ (bi _ (aX7 hb e)))).1,λb hb=>?_,w8⟩;obtain⟨o,e,_⟩:=T.obj _ _ D b hb;exact(I8.pin (b,o) (bi _ (bi _ (aX7 hb e)))).2.1
  cases ok with
  | false=>exact ad ⟨rfl,B I7 O Z⟩
  | true =>
   refine aa (e9 (hb _ s7 σ6 H7 N I7 Z) (λ_ Y ⟨σ8,L,I8,wk8,n8⟩=>?_) λ_ _ z=>z.elim);exact ad ⟨rfl,B I8 (O.trans wk8) n8⟩
end
theorem aJ5 (env:Env):∀ (names:List (Str × fB)) (acc:List (Str × Addr)),(∀ x,(x,be)∈names->∃ c,env.cells.lookup x=some c) ->
  ∃ cl,(forIn names acc λ(y:Str × fB) (cs:List (Str × Addr))=>(if (y.2 == be)=true then do let a <- cellOf env y.1;pure (bC ((y.1,a)::cs)) else pure (bC cs):Sem (ForInStep (List (Str × Addr)))))=pure cl /\
   (∀ x c,cl.lookup x=some c->(x,be)∈names\/acc.lookup x=some c)
 | [],acc,_=>⟨acc,by rfl,λ_ _ h=>.inr h⟩
 | (n,k)::rest,acc,B=>by
  by_cases hk:(k == be)=true
  ·have D:k=be:=by cases k <;> first | rfl | cases hk
   subst D;obtain⟨c,G⟩:=B n am;obtain⟨cl,e,h1⟩:=aJ5 env rest ((n,c)::acc) (λx j=>B x (ao _ j));refine⟨cl,?_,λx d j=>?_⟩
   ·rw[cZ];have I:cellOf env n=pure c:=by unfold cellOf;rw[G]
    simp only[hk,if_true,I,pure_bind];exact e
   ·rcases h1 x d j with z | z
    ·exact .inl (ao _ z)
    ·simp only[da] at z;cases hxn:x == n with
     | true=>rw[hJ hxn];exact .inl am
     | false=>rw[hxn] at z;exact .inr z
  ·obtain⟨cl,e,h1⟩:=aJ5 env rest acc (λx j=>B x (ao _ j));refine⟨cl,?_,λx d j=>?_⟩
   ·rw[cZ];simp only[hk,if_false,pure_bind,aS];exact e
   ·rcases h1 x d j with z | z
    ·exact .inl (ao _ z)
    ·exact .inr z
theorem bQa {env:Env} {scope:Scope} (hn:∀ x,(x,be)∈scope.names->∃ c,env.cells.lookup x=some c) :
  ∃ cl,closureFor scope env=pure cl/\(∀ x c,cl.lookup x=some c->env.cells.lookup x=some c)/\(∀ x,(x,be)∈scope.names->(cl.lookup x).isSome=true)/\∀ x c,cl.lookup x=some c->(x,be)∈scope.names:=by
 obtain⟨cl,e,h1,h2⟩:=aJ3 env scope.names [] hn (λx c h=>by cases h)
 obtain⟨cl',G,B⟩:=aJ5 env scope.names [] hn;have D:cl=cl':=by
  have:=e.symm.trans G
  injection this
 subst D;refine⟨cl,?_,h1,λx j=>h2 x (.inl j),λx c j=>(B x c j).elim id λz=>by cases z⟩
 have q:closureFor scope env=(forIn scope.names ([]:List (Str × Addr)) λ(y:Str × fB) (cs:List (Str × Addr))=>(if (y.2 == be)=true then do let a <- cellOf env y.1;pure (bC ((y.1,a)::cs)) else pure (bC cs):Sem (ForInStep (List (Str × Addr))))):=by
  unfold closureFor;exact bind_pure _
 rw[q,e]
def ocl (oc:Option Str) (c:Addr) (cl:List (Str × Addr)):List (Str × Addr):=match oc with
 | none=>cl
 | some x=>(x,c)::cl
def ohp (oc:Option Str) (h:bf):bf:=match oc with
 | none=>h
 | some _=>h.push { cls:=.type "cell",data:=.cell none }
theorem aJw {oc:Option Str} {c d:Addr} {cl:List (Str × Addr)} {x:Str} (h:(ocl oc c cl).lookup x=some d):(oc=some x/\d=c)\/cl.lookup x=some d:=by
 cases oc with
 | none=>exact .inr h
 | some z =>
  unfold ocl at h;simp only[da] at h;cases hx:x == z with
  | true=>rw[hx] at h;cases h;rw[hJ hx];exact .inl ⟨rfl,rfl⟩
  | false=>rw[hx] at h;exact .inr h
theorem cQ1 {oc:Option Str} {c:Addr} {cl:List (Str × Addr)} {x:Str} (h:(cl.lookup x).isSome=true):∃ d,(ocl oc c cl).lookup x=some d:=by
 cases oc with
 | none=>exact cR.mp h
 | some z =>
  unfold ocl;simp only[da];cases hx:x == z with
  | true=>exact⟨_,rfl⟩
  | false=>exact cR.mp h
theorem dJx {c:Addr} {cl:List (Str × Addr)} {x:Str}:(ocl (some x) c cl).lookup x=some c:=by unfold ocl;simp
theorem bZ1 {oc:Option Str} {h:bf} {b:Addr} {o:Obj} (e:h.get? b=some o):(ohp oc h).get? b=some o:=by
 cases oc with
 | none=>exact e
 | some _=>exact ag _ e
def aQi (X:Cx) (N':List Str) (scope:Scope) (cl:List (Str × Addr)) (C:Addr) (fp:List Addr) (s:ai) (H:Hp) (oc:Option Str):Cx :=
 { X with N:=N',s₀:=s,H₀:=H,env:=kz scope cl C X.env,outer:=X.stack,ex:=fp,fn:=λx=>decide (oc=some x),pn:=[],xe:=λ_ _=>False }
theorem dJy {scope:Scope} {env:Env} {cl:List (Str × Addr)} {M:Model} {A:a7} {E:ae->ai->Prop} {s:ai} {Q:Env->ai->Prop}
  (h:Q { scope:=scope,locals:=s.heap.objs.size,globals:=env.globals,cells:=gD (s.heap.objs.size + 1) scope.names cl,qual:=env.qual,func:=none,code:=env.code,frame:=env.frame,builtins:=env.builtins } { s with heap:=jI (s.heap.push { cls:=.type "dict",data:=.dict #[] }) scope.names }) :
  aE M A (newFunctionEnv scope env.globals cl [] env.qual none .none (some env)) Q E s:=by
 unfold newFunctionEnv;simp only[Option.isSome_some,if_true];refine aa (wpAny_alloc ?_);refine aa (wpAny_layCells _ (λname kind cells=>by cases hkc:kind == ip <;> simp[hkc]) _ _ _ _ ?_)
 rw[show({ s with heap:=s.heap.push { cls:=.type "dict",data:=.dict #[] } }:ai).heap.objs.size=s.heap.objs.size + 1 from b5 ..]
 exact aa (ad (ad h))
section
variable {X:Cx} {pins:List (Addr × Obj)} {σ:St} {H H':Hp} {s s2:ai}
theorem cZj {N':List Str} {scope:Scope} {cl:List (Str × Addr)} {fp:List Addr} {oc:Option Str} (I:Inv X pins σ H s) (hf:∀ b∈fp,FpOk X pins H b) (hfl:∀ b∈fp,b < s.heap.objs.size) (hkind:scope.kind=.function)
  (c1:∀ x c,cl.lookup x=some c->X.env.cells.lookup x=some c) (c2:∀ x,(x,be)∈scope.names->(cl.lookup x).isSome=true) (hcell:∀ y∈scope.names,y.2=.cell->oc=some y.1) (hun:∀ x,oc=some x->cl.lookup x=none) :
  (aQi X N' scope (ocl oc (s.heap.objs.size + 1) cl) s.heap.objs.size fp s H oc).Ok where
 mod:=I.ok.mod
 kind:=hkind
 glob:=I.ok.glob
 blt:=I.ok.blt
 above:=Nat.le_refl _
 inj:=λx y c h1 h2=>by
  have old:∀ z,cl.lookup z=some (s.heap.objs.size + 1)->False:=λz e=>by
   obtain⟨v,q⟩:=I.cell z _ (c1 z _ e);exact absurd (show s.heap.objs.size + 1 < s.heap.objs.size from q.lt) (Nat.not_lt.mpr (Nat.le_succ _))
  rcases aJw h1 with⟨G,rfl⟩ | G <;> rcases aJw h2 with⟨D,e⟩ | D
  ·rw[G] at D;exact aM D
  ·exact(old y D).elim
  ·subst e;exact(old x G).elim
  ·exact I.ok.inj x y c (c1 x c G) (c1 y c D)
 has:=λx J=>by
  have j:scope.names.lookup x=some .cell\/scope.names.lookup x=some .free:=aJ4 (sc:=scope) J;rcases j with j | j
  ·have e:=hcell _ (aJv j) rfl;subst e;exact⟨_,dJx⟩
  ·exact cQ1 (c2 x (aJv j))
 cab:=λx c h L=>by
  have h':oc=some x:=of_decide_eq_true h;rcases aJw L with⟨_,rfl⟩ | e
  ·exact Nat.le_succ _
  ·rw[hun x h'] at e;cases e
 hd:=I.ok.hd
 frames:=I.ok.frames
 gd:=I.ok.gd
 stk:=.inl rfl
 exf:=λb B=>⟨Nat.ne_of_lt (hfl b B),λx c e=>by
  rcases aJw e with⟨_,rfl⟩ | e
  ·intro z;exact absurd (show s.heap.objs.size + 1 < s.heap.objs.size from z ▸ hfl b B) (Nat.not_lt.mpr (Nat.le_succ _))
  ·exact(hf b B).2.2.2.2.1 x c (c1 x c e)⟩
 bs:=I.bs
 bsz:=Nat.le_trans I.ok.bsz I.sz
 noex:=λb o e B=>by
  rcases(hf b B).2.2.2.1 with z | z
  ·exact I.ok.noex b o e z
  ·have q:=I.ok.bs b o e;exact absurd (Nat.lt_of_lt_of_le (ay q.1) z) (Nat.lt_irrefl _)
 exfs:=λb B z=>by
  rcases aB.mp (I.stkSub b z) with e | e
  ·exact(hf b B).2.1 e
  ·exact(hf b B).2.2.1 e
 funs:=I.stack
 frf:=I.stkFree
theorem bXz {N':List Str} {is:List (Option Nat)} {scope:Scope} {cl:List (Str × Addr)} {fp:List Addr} {oc:Option Str} (I:Inv X pins σ H s) (ok:(aQi X N' scope (ocl oc (s.heap.objs.size + 1) cl) s.heap.objs.size fp s H oc).Ok) (hN:X.N.Nodup)
  (c1:∀ x c,cl.lookup x=some c->X.env.cells.lookup x=some c) (c2:∀ x,(x,be)∈scope.names->(cl.lookup x).isSome=true) (hu:∀ x,(x,be)∈scope.names->scope.names.lookup x=some .free) (cp:Cap X.N scope N' is)
  (hV:∀ x,(x,be)∈scope.names->Vis X.env.scope x/\X.env.scope.names.lookup x≠some .local) (hun:∀ x,oc=some x->cl.lookup x=none) :
  Inv (aQi X N' scope (ocl oc (s.heap.objs.size + 1) cl) s.heap.objs.size fp s H oc) [] (capt is σ) H { s with heap:=ohp oc (s.heap.push { cls:=.type "dict",data:=.dict #[] }) }:=by
 have kp:∀ b o,s.heap.get? b=some o->(ohp oc (s.heap.push { cls:=.type "dict",data:=.dict #[] })).get? b=some o:=λb o e=>bZ1 (ag _ e);exact {
 ok:=ok
 os:=rfl
 bare:=I.bare
 base:=Un.kept kp
 loc:=by
  refine⟨_,(bf.Ns.new s.heap (.type "dict")).keeps λb o e=>bZ1 e,λj x v e1 e2 e3=>?_⟩;have U:N'[j]?=some x:=e1;unfold capt at e2;rw[aF] at e2;cases hi:is[j]? with
  | none=>rw[hi] at e2;cases e2
  | some o =>
   rw[hi] at e2;cases o with
   | none=>cases e2
   | some i =>
    obtain⟨Z,B⟩:=cp.get U hi;have e2':(σ[i]?).join=some v:=aM e2;have e4:σ[i]?=some (some v):=by
     cases q:σ[i]? with
     | none=>rw[q] at e2';cases e2'
     | some z=>rw[q] at e2';cases z with
      | none=>cases e2'
      | some z=>cases e2';rfl
    obtain⟨m,hn,hl⟩:=I.loc;obtain⟨G,R⟩:=hV x B;obtain⟨u,r,l⟩:=hl i x v Z e4 G;refine⟨u,r,.inr ⟨aX0 (sc:=scope) (.inr (hu x B)),?_⟩⟩;rcases l with⟨k,_⟩ | ⟨k,c,e,z⟩
    ·exact absurd k R
    ·obtain⟨J,Y⟩:=cQ1 (oc:=oc) (c:=s.heap.objs.size + 1) (c2 x B);have ee:J=c:=by
      rcases aJw Y with⟨L,_⟩ | L
      ·have:=c2 x B;rw[hun x L] at this;cases this
      ·have:=c1 x J L;rw[e] at this;exact(aM this).symm
     subst ee;obtain⟨D,O,hd⟩:=z;exact⟨J,Y,D,kp J D O,hd⟩
 cell:=λx c e=>by
  rcases aJw (show(ocl oc (s.heap.objs.size + 1) cl).lookup x=some c from e) with⟨z,rfl⟩ | e
  ·subst z;refine⟨none,{ cls:=.type "cell",data:=.cell none },?_,rfl⟩;show((s.heap.push _).push _).get? _=_;rw[<- b5 s.heap { cls:=.type "dict",data:=.dict #[] }];exact au _ rfl
  ·obtain⟨v,o,ho,hd⟩:=I.cell x c (c1 x c e);exact⟨v,o,kp c o ho,hd⟩
 free:=I.hok.fresh (Nat.le_refl _)
 freeC:=λx c e=>by
  rcases aJw (show(ocl oc (s.heap.objs.size + 1) cl).lookup x=some c from e) with⟨z,rfl⟩ | e
  ·exact I.hok.fresh (Nat.le_succ _)
  ·exact I.freeC x c (c1 x c e)
 pin:=λp hp=>absurd (show p∈([]:List (Addr × Obj)) from hp) (by simp)
 hok:=I.hok.kept kp
 len:=by
  show(capt is σ).length=N'.length;unfold capt;rw[af,cp.length] }
def FrC (X:Cx) (pins:List (Addr × Obj)) (C:Addr) (H:Hp):Prop:=H C=none/\C≠X.env.locals/\X.s₀.heap.objs.size<=C/\(∀ x c,X.env.cells.lookup x=some c->c≠C)/\∀ p∈X.pn++pins,p.1≠C
theorem FrC.gone {C:Addr} {h':bf} (f:FrC X pins C H) (I:Inv X pins σ H s) (sb:c8 C s.heap h'):Inv X pins σ H { s with heap:=h' } :=
 I.turned (t':=s.toks) (λb o j e=>(sb.2 b j).trans e) f.1 f.2.1 (.inr f.2.2.1) f.2.2.2.1 f.2.2.2.2
theorem comp_gen {elt target iter:Expr} {ifs:List Expr} {gs:List ju} {scope:Scope} {pos:Pos} {N':List Str} {is:List (Option Nat)} {wi:TI} {g:TG} {tt:TT} {tb:Addr->TB} {oc:Option Str} {m:ae->Env->Sem Unit} (hcalm:X.calm=true) (hN:X.N.Nodup)
  (hturn:∀ it acc env,iV (.ListComp elt (⟨target,iter,ifs,0⟩::gs) scope pos) 0 it acc env=aXp target ifs iter.pos (m acc env) (.compLoop (.ListComp elt (⟨target,iter,ifs,0⟩::gs) scope pos) 0 it acc env) it env)
  (cp:Cap X.N scope N' is) (hi:PI X target iter wi)
  (hg:∀ cl C fp s H,PG (aQi X N' scope cl C fp s H oc) target g) (ht:∀ cl C fp s H,PTs (aQi X N' scope cl C fp s H oc) ifs tt) (hb:∀ cl C fp s H D,PB (aQi X N' scope cl C fp s H oc) (m (.ref D) (kz scope cl C X.env)) (tb D))
  (hcf:∀ n acc,gD n scope.names acc=ocl oc n acc) (hpc:∀ h,jI h scope.names=ohp oc h)
  (hkind:scope.kind=.function) (hcell:∀ y∈scope.names,y.2=.cell->oc=some y.1)
  (hu:∀ y∈scope.names,scope.names.lookup y.1=some y.2) (hoc:∀ x,oc=some x->scope.names.lookup x=some .cell)
  (hVb:okV scope.names X.env.scope.names=true)
  (hs:∀ x,eE iter X.env x=pure x)
  {use:Option (ae->Sem Unit)} {Q:VK} {Qv:ae->ai->Prop} (I:Inv X pins σ H s) (h:cQ0 is wi g tt tb σ H Q)
  (fin:∀ D C H5 s6,Inv X pins σ H5 s6->(∃ m,s6.heap.Ns C m)->FrC X pins C H5->Q (.ref D) H5->compPost (aJ X.prog X.w) X.A X.xe use Qv (.ref D) C (.ok .next) s6) :
  aE (aJ X.prog X.w) X.A (comprehension (.ListComp elt (⟨target,iter,ifs,0⟩::gs) scope pos) scope X.env (firstIterPos (⟨target,iter,ifs,0⟩::gs) pos) (newList []) (firstAsync (⟨target,iter,ifs,0⟩::gs)) (firstIter (⟨target,iter,ifs,0⟩::gs) X.env) use) Qv X.xe s:=by
 have hV:=eJm hVb;have hV':∀ x,(x,be)∈scope.names->Vis X.env.scope x/\X.env.scope.names.lookup x≠some .local:=λx j=>hV (x,.free) j rfl;have hu':∀ x,(x,be)∈scope.names->scope.names.lookup x=some .free:=λx j=>hu (x,.free) j;have B:∀ x∈scope.names,x.2=.local->scope.names.lookup x.1=some .local:=λx j hl=>by rw[hu x j,hl]
 obtain⟨cl,L,c1,c2,c3⟩:=bQa (env:=X.env) (scope:=scope) λx j=>I.ok.has x (by
  obtain⟨v,n⟩:=hV' x j;rcases v with v | v | v
  ·exact absurd v n
  ·exact .inl v
  ·exact .inr v)
 have hun:∀ x,oc=some x->cl.lookup x=none:=λx j=>by
  cases e:cl.lookup x with
  | none=>rfl
  | some c =>
   have:=hu' x (c3 x c e)
   rw[hoc x j] at this;cases this
 refine wpAny_comprehension_free (use:=use) rfl hs L hkind B (thn (hi pins s σ H _ I h) λv s1 h1=>thn h1 λitv s2 h2=>?_);obtain⟨it,fp,tn,J,H2,rfl,I2,T,st2,f2,q2⟩:=h2;refine bA ?_;have hD:H2 s2.heap.objs.size=none:=I2.hok.fresh (Nat.le_refl _);have fpl:∀ b∈fp,b < s2.heap.objs.size:=λb hb=>by obtain⟨o,e,_⟩:=T.obj _ _ st2 b hb;exact ay e
 have O:Inv X pins σ (upd H2 s2.heap.objs.size (.lst [])) { s2 with heap:=s2.heap.push { cls:=.type "list",dict:=none,data:=.seq ([]:List ae).toArray } } :=
  I2.laid (t':=s2.toks) (λb u e=>ag _ e) (Nat.le_refl _) ⟨Nat.zero_le _,[],0,.nil,au _ rfl⟩
 have st3:tn 0 (s2.heap.push { cls:=.type "list",dict:=none,data:=.seq ([]:List ae).toArray }):=T.keep _ _ _ st2 λb hb o e=>ag _ e;have U:∀ b∈fp,FpOk X pins (upd H2 s2.heap.objs.size (.lst [])) b:=λb hb=>⟨by rw[upd_ne (Nat.ne_of_lt (fpl b hb))];exact(f2 b hb).1,(f2 b hb).2⟩
 have G:∀ b∈fp,b < (s2.heap.push { cls:=.type "list",dict:=none,data:=.seq ([]:List ae).toArray }).objs.size:=λb hb=>by rw[b5];exact Nat.lt_succ_of_lt (fpl b hb)
 have q3:=q2 _ hD;generalize hDe:s2.heap.objs.size=D at *
 generalize hs3:({ s2 with heap:=s2.heap.push { cls:=.type "list",dict:=none,data:=.seq ([]:List ae).toArray } }:ai)=s3 at *
 have hsh:s3.heap=s2.heap.push { cls:=.type "list",dict:=none,data:=.seq ([]:List ae).toArray }:=by rw[<- hs3]
 rw[<- hsh] at st3 G;have ok:=cZj (N':=N') (cl:=cl) (oc:=oc) O U G hkind c1 c2 hcell hun;have I4:=bXz O ok hN c1 c2 hu' cp hV' hun;refine dJy ?_;rw[hcf,hpc];have kp:∀ b o,s3.heap.get? b=some o->(ohp oc (s3.heap.push { cls:=.type "dict",data:=.dict #[] })).get? b=some o:=λb o e=>bZ1 (ag _ e);have Z:tn 0 (ohp oc (s3.heap.push { cls:=.type "dict",data:=.dict #[] })):=T.keep _ _ _ st3 λb _ o e=>kp b o e;have f4:∀ b∈fp,FpOk (aQi X N' scope (ocl oc (s3.heap.objs.size + 1) cl) s3.heap.objs.size fp s3 (upd H2 D (.lst [])) oc) [] (upd H2 D (.lst [])) b:=λb hb =>
  ⟨(U b hb).1,(ok.exf b hb).1,ok.exfs b hb,.inl hb,(ok.exf b hb).2,λp hp=>absurd (show p∈([]:List (Addr × Obj)) from hp) (by simp)⟩
 have loop:=dQx (X:=aQi X N' scope (ocl oc (s3.heap.objs.size + 1) cl) s3.heap.objs.size fp s3 (upd H2 D (.lst [])) oc) (e:=.ListComp elt (⟨target,iter,ifs,0⟩::gs) scope pos) (d:=0) (acc:=.ref D)
  (R:=compPost (aJ X.prog X.w) X.A X.xe use Qv (.ref D) s3.heap.objs.size) hcalm rfl (hturn _ _ _) rfl rfl T (hg _ _ _ _ _) (ht _ _ _ _ _) (hb _ _ _ _ _ D) I4 Z f4 q3 (by
   intro H5 s6 Y _ qn;obtain⟨m6,n6,_⟩:=id Y.loc;have un:Un (frs X.stack) fp (upd H2 D (.lst [])) H5 s3.heap s6.heap:=Y.base;have hok':HOk X.prog X.w H5 s6.heap:=Y.hok;refine fin D s3.heap.objs.size H5 s6 (O.call' (s':=s6) (ch:=fp) Y.os un hok' Y.bare λb hb=>⟨(U b hb).2.2.2.1,(U b hb).2.1,(U b hb).2.2.2.2.1,(U b hb).2.2.2.2.2⟩) ⟨m6,n6⟩ ⟨Y.free,Nat.ne_of_gt O.lt,O.sz,λx c e z=>?_,λp hp z=>?_⟩ qn
   ·obtain⟨v,q⟩:=O.cell x c e;exact absurd q.lt (by rw[z];exact Nat.lt_irrefl _)
   ·exact absurd (ay (O.pin p hp).1) (by rw[z];exact Nat.lt_irrefl _))
 exact codeAny_compStart_list loop (T.self _ 0 _ _ _ Z loop)
theorem dQy {elt target iter:Expr} {ifs:List Expr} {gs:List ju} {scope:Scope} {pos:Pos} {N':List Str} {is:List (Option Nat)} {wi:TI} {g:TG} {tt:TT} {tb:Addr->TB} {oc:Option Str} {m:ae->Env->Sem Unit} (hcalm:X.calm=true) (hN:X.N.Nodup)
  (hturn:∀ it acc env,iV (.ListComp elt (⟨target,iter,ifs,0⟩::gs) scope pos) 0 it acc env=aXp target ifs iter.pos (m acc env) (.compLoop (.ListComp elt (⟨target,iter,ifs,0⟩::gs) scope pos) 0 it acc env) it env)
  (cp:Cap X.N scope N' is) (hi:PI X target iter wi)
  (hg:∀ cl C fp s H,PG (aQi X N' scope cl C fp s H oc) target g) (ht:∀ cl C fp s H,PTs (aQi X N' scope cl C fp s H oc) ifs tt) (hb:∀ cl C fp s H D,PB (aQi X N' scope cl C fp s H oc) (m (.ref D) (kz scope cl C X.env)) (tb D))
  (hcf:∀ n acc,gD n scope.names acc=ocl oc n acc:=by intro _ _;rfl) (hpc:∀ h,jI h scope.names=ohp oc h:=by intro _;rfl)
  (hkind:scope.kind=.function:=by rfl) (hcell:∀ y∈scope.names,y.2=.cell->oc=some y.1:=by decide +kernel)
  (hu:∀ y∈scope.names,scope.names.lookup y.1=some y.2:=by decide +kernel) (hoc:∀ x,oc=some x->scope.names.lookup x=some .cell:=by intro x h;cases h <;> rfl)
  (hVb:okV scope.names X.env.scope.names=true:=by first | rfl | kernel_rfl)
  (hs:∀ x,eE iter X.env x=pure x:=by intro _;rfl) :
  PE X (.ListComp elt (⟨target,iter,ifs,0⟩::gs) scope pos) (cQ0 is wi g tt tb):=by
 intro pins s σ H Q I h;rw[eval_ListComp];refine comp_gen hcalm hN hturn cp hi hg ht hb hcf hpc hkind hcell hu hoc hVb hs I h λD C L O J ⟨m,n⟩ G B=>?_;exact⟨m,n,λh' j=>⟨.ref D,L,G.gone J j,rfl,B⟩⟩
theorem dJz {x:Str} {i:Nat} {pos' spos:Pos} (hix:X.N[i]?=some x) (hx:Loc X.env.scope x) {elt target iter:Expr} {ifs:List Expr} {gs:List ju} {scope:Scope} {pos:Pos} {N':List Str} {is:List (Option Nat)} {wi:TI} {g:TG} {tt:TT} {tb:Addr->TB} {oc:Option Str} {m:ae->Env->Sem Unit} (hcalm:X.calm=true) (hN:X.N.Nodup)
  (hturn:∀ it acc env,iV (.ListComp elt (⟨target,iter,ifs,0⟩::gs) scope pos) 0 it acc env=aXp target ifs iter.pos (m acc env) (.compLoop (.ListComp elt (⟨target,iter,ifs,0⟩::gs) scope pos) 0 it acc env) it env)
  (cp:Cap X.N scope N' is) (hi:PI X target iter wi)
  (hg:∀ cl C fp s H,PG (aQi X N' scope cl C fp s H oc) target g) (ht:∀ cl C fp s H,PTs (aQi X N' scope cl C fp s H oc) ifs tt) (hb:∀ cl C fp s H D,PB (aQi X N' scope cl C fp s H oc) (m (.ref D) (kz scope cl C X.env)) (tb D))
  (hcf:∀ n acc,gD n scope.names acc=ocl oc n acc:=by intro _ _;rfl) (hpc:∀ h,jI h scope.names=ohp oc h:=by intro _;rfl)
  (hkind:scope.kind=.function:=by rfl) (hcell:∀ y∈scope.names,y.2=.cell->oc=some y.1:=by decide +kernel)
  (hu:∀ y∈scope.names,scope.names.lookup y.1=some y.2:=by decide +kernel) (hoc:∀ x,oc=some x->scope.names.lookup x=some .cell:=by intro x h;cases h <;> rfl)
  (hVb:okV scope.names X.env.scope.names=true:=by first | rfl | kernel_rfl)
  (hs:∀ x,eE iter X.env x=pure x:=by intro _;rfl)
  (hsw:g9 (.ListComp elt (⟨target,iter,ifs,0⟩::gs) scope pos) (some (.Name x pos')) spos.line X.env=pure true:=by first | rfl | kernel_rfl) (hf:X.fn x=true\/X.env.scope.names.lookup x=some .local:=by first | exact .inl rfl | exact .inr rfl | assumption) :
  PS X (.Assign [.Name x pos'] (.ListComp elt (⟨target,iter,ifs,0⟩::gs) scope pos) spos) (tAsg (cQ0 is wi g tt tb) (bQ9 i)):=by
 intro pins s σ H D I h;rw[exec_Assign_Name_used _ _ _ _ hsw];refine aa (js (aa ?_));show aE _ _ (comprehension _ _ _ _ _ _ _ (some _) >>= λ_=>pure ()) _ _ _;refine aa (comp_gen (Qv:=λ_ s'=>aE (aJ X.prog X.w) X.A (pure ()) _ X.xe s') hcalm hN hturn cp hi hg ht hb hcf hpc hkind hcell hu hoc hVb hs I h λE C Y s6 U ⟨m,n⟩ G L=>?_);refine wpAny_assign_Name (bZy U hN hix hx (show RelV (.ref E) (.ref E) from rfl) (λZ R ⟨a,J,O⟩=>?_) hf)
 have B:C≠a:=by
  rintro rfl;rcases O with z | z
  ·exact G.2.1 z
  ·exact G.2.2.2.1 x C z rfl
 refine⟨m,n.sameBut J B,λh' j=>ad (ad ?_)⟩;exact⟨_,Y,G.gone R j,L⟩
end
end L2
set_option maxHeartbeats 4000000
namespace L2
open PySem PySem.Spec PyProof.Rows
abbrev Dn (α:Type):=Hp->V->α->Prop
abbrev Fg:=az
def dS:Dn Str:=λ_ v x=>v=.str x
def dB:Dn Bool:=λ_ v b=>v=.bl b
def dT {α:Type} (K:Fg) (R:Dn α):Dn (List α):=λH v ds=>∃ a xs,v=.ref a/\SqT K H a xs/\a8 (R H) xs ds
def dL {α:Type} (K:Fg) (R:Dn α):Dn (List α):=λH v ds=>∃ a xs,v=.ref a/\SqL K H a xs/\a8 (R H) xs ds
def SameT (H H':Hp):Prop:=∀ a xs,Rd H a (.tup xs)->Rd H' a (.tup xs)
theorem Same.t {H H':Hp} (h:Same H H'):SameT H H':=λa xs r=>by
 rcases r with r | ⟨o,r⟩
 ·exact .inl (h _ _ r)
 ·exact .inr ⟨o,h _ _ r⟩
theorem aQo {H:Hp} {p:Addr} {o:HO} (h:H p=none):Same H (upd H p o):=λb o' e=>by
 rw[upd_ne (by rintro rfl;rw[h] at e;cases e)];exact e
theorem SqT.stay {K:Fg} {H H':Hp} {a:Addr} {xs:List V} (h:SqT K H a xs) (s:SameT H H'):SqT K H' a xs:=h.elim (λr=>.inl (s a xs r)) .inr
class Im {α:Type} (R:Dn α):Prop where
 im:∀ {H H' v d},SameT H H'->R H v d->R H' v d
class Mo {α:Type} (R:Dn α):Prop where
 mo:∀ {H H' v d},Same H H'->R H v d->R H' v d
instance (priority:=low) {α:Type} {R:Dn α} [Im R]:Mo R:=⟨λs r=>Im.im s.t r⟩
theorem Paired.imp {α β:Type} {F G:α->β->Prop} (h:∀ a b,F a b->G a b):∀ {l:List α} {m:List β},a8 F l m->a8 G l m
 | _,_,.nil=>.nil
 | _,_,.cons p q=>.cons (h _ _ p) (Paired.imp h q)
instance:Im dS:=⟨λ_ h=>h⟩
instance {α:Type} {K:Fg} {R:Dn α} [Im R]:Im (dT K R):=⟨λs ⟨a,xs,e,q,p⟩=>⟨a,xs,e,q.stay s,Paired.imp (λ_ _ r=>Im.im s r) p⟩⟩
theorem beq_dec {α:Type} [DecidableEq α] [BEq α] [LawfulBEq α] (a b:α):(a == b)=decide (a=b):=by
 by_cases h:a=b
 ·subst h;simp
 ·simp[h]
theorem Paired.get' {α β:Type} {F:α->β->Prop}:∀ {l:List α} {m:List β} {i:Nat} {a:α},a8 F l m->l[i]?=some a->∃ b,m[i]?=some b/\F a b
 | _,_,_,_,.nil,h=>by simp at h
 | _,_,0,_,.cons p _,h=>by simp at h;subst h;exact⟨_,rfl,p⟩
 | _,_,i + 1,a,.cons _ q,h=>by
  obtain⟨b,e,f⟩:=Paired.get' (i:=i) (a:=a) q (by simpa using h)
  exact⟨b,by simpa using e,f⟩
theorem eJs {α:Type} [DecidableEq α]:∀ (ds es:List α),((aH (min ds.length es.length)).all λj=>decide (ds[j]?=es[j]?))=true->ds.length=es.length->ds=es:=λds es h B=>by
 apply gM;intro i
 by_cases hi:i < ds.length
 ·have:=bF.mp h i (bu.mpr (by lia))
  exact of_decide_eq_true this
 ·rw[ci (by lia),ci (by lia)]
theorem cXh {α:Type} [DecidableEq α] (ds es:List α) (n m:Nat) (hn:n=ds.length) (hm:m=es.length):((aH (min n m)).all (λj=>decide (ds[j]?=es[j]?)) && (n == m))=decide (ds=es):=by
 subst hn;subst hm
 by_cases h:ds=es
 ·subst h;simp
 ·rw[decide_eq_false h,Bool.and_eq_false_iff]
  by_cases B:ds.length=es.length
  ·left
   cases q:(aH (min ds.length es.length)).all λj=>decide (ds[j]?=es[j]?) with
   | false=>rfl
   | true=>exact absurd (eJs ds es q B) h
  ·right;simpa using B
variable {α β γ:Type}
end L2
namespace ST
open PySem PySem.SetTable
def step (mask:Nat) (p:Probe):Probe :=
 if p.more > 0 then { p with j:=p.j + 1,more:=p.more - 1 } else
 { p with j:=(leap mask p.i p.perturb).1,more:=runEnd mask (leap mask p.i p.perturb).1 - (leap mask p.i p.perturb).1,i:=(leap mask p.i p.perturb).1,perturb:=(leap mask p.i p.perturb).2 }
theorem bQl (t:aX) (p:Probe):t.advance p=step t.mask p:=by
 unfold aX.advance step
 split <;> rfl
def road (mask:Nat):Nat->Probe->Probe
 | 0,p=>p
 | m + 1,p=>road mask m (step mask p)
theorem aJx (mask:Nat):∀ (m:Nat) (p:Probe),road mask (m + 1) p=step mask (road mask m p)
 | 0,_=>rfl
 | m + 1,p=>by
  show road mask (m + 1) (step mask p)=step mask (road mask m (step mask p));exact aJx mask m (step mask p)
theorem aQs (mask:Nat):∀ (a b:Nat) (p:Probe),road mask (a + b) p=road mask b (road mask a p)
 | 0,b,p=>by rw[Nat.zero_add];rfl
 | a + 1,b,p=>by
  rw[Nat.add_right_comm];show road mask (a + b) (step mask p)=road mask b (road mask a (step mask p));exact aQs mask a b _
theorem bQm (mask:Nat) (p:Probe):(step mask p).dummy=p.dummy:=by unfold step;split <;> rfl
theorem aJy (mask i:Nat) (h:i<=mask):i<=runEnd mask i/\runEnd mask i<=mask/\runEnd mask i<=i + 9:=by
 unfold runEnd;split <;> lia
structure PV (mask:Nat) (p:Probe):Prop where
 more:p.more<=9
 i:p.i<=mask
 j:p.j + p.more<=mask
 pt:p.perturb < 2 ^ 64
theorem bJ0 (mask i pt:Nat):(leap mask i pt).1<=mask:=by
 unfold leap
 have:=Nat.mod_lt (i * 5 + 1 + pt / 32) (show 0 < mask + 1 by lia)
 show(i * 5 + 1 + pt / 32) % (mask + 1)<=mask;lia
theorem PV.step {mask:Nat} {p:Probe} (v:PV mask p):PV mask (ST.step mask p):=by
 unfold ST.step;have h1:=v.more;have h2:=v.i;have D:=v.j;have B:=v.pt
 split
 ·exact⟨by dsimp only;lia,h2,by dsimp only;lia,B⟩
 ·have l:=bJ0 mask p.i p.perturb;have r:=aJy mask _ l;refine⟨by dsimp only;lia,l,by dsimp only;lia,?_⟩
  show p.perturb / 32 < 2 ^ 64;exact Nat.lt_of_le_of_lt (Nat.div_le_self _ _) B
theorem PV.road {mask:Nat}:∀ (m:Nat) {p:Probe},PV mask p->PV mask (ST.road mask m p)
 | 0,_,v=>v
 | m + 1,_,v=>PV.road m v.step
theorem eQ0 (h:Int):bits h < 2 ^ 64:=by
 unfold bits;have h1:=iA h (show(2 ^ 64:Int)≠0 by decide)
 have h2:=gz h (show(0:Int) < 2 ^ 64 by decide)
 have:(2:Int) ^ 64=18446744073709551616:=by decide
 have:(2:Nat) ^ 64=18446744073709551616:=by decide
 lia
def start (mask:Nat) (h:Int):Probe:={ j:=bits h % (mask + 1),more:=runEnd mask (bits h % (mask + 1)) - bits h % (mask + 1),i:=bits h % (mask + 1),perturb:=bits h,dummy:=none }
theorem aXq (mask:Nat) (h:Int):PV mask (start mask h):=by
 have l:bits h % (mask + 1)<=mask:=Nat.le_of_lt_succ (Nat.mod_lt _ (Nat.succ_pos mask));have r:=aJy mask _ l;exact⟨by show _ - _<=9;lia,l,by show bits h % (mask + 1) + (runEnd mask (bits h % (mask + 1)) - bits h % (mask + 1))<=mask;lia,eQ0 h⟩
theorem cXi (mask:Nat):∀ (k:Nat) (p:Probe),k<=p.more->road mask k p={ p with j:=p.j + k,more:=p.more - k }
 | 0,p,_=>rfl
 | k + 1,p,h=>by
  show road mask k (step mask p)=_;have e:step mask p={ p with j:=p.j + 1,more:=p.more - 1 }:=by unfold step;rw[if_pos (by lia)]
  rw[e,cXi mask k _ (by show k<=p.more - 1;lia)]
  show({ j:=p.j + 1 + k,more:=p.more - 1 - k,i:=p.i,perturb:=p.perturb,dummy:=p.dummy }:Probe)={ j:=p.j + (k + 1),more:=p.more - (k + 1),i:=p.i,perturb:=p.perturb,dummy:=p.dummy };rw[show p.j + 1 + k=p.j + (k + 1) by lia,show p.more - 1 - k=p.more - (k + 1) by lia]
theorem cXj (mask:Nat) (p:Probe):road mask (p.more + 1) p={ p with j:=(leap mask p.i p.perturb).1,more:=runEnd mask (leap mask p.i p.perturb).1 - (leap mask p.i p.perturb).1,i:=(leap mask p.i p.perturb).1,perturb:=(leap mask p.i p.perturb).2 }:=by
 rw[aJx,cXi mask p.more p (Nat.le_refl _)];unfold step;rw[if_neg (by show ¬ p.more - p.more > 0;lia)]
def aZi (mask:Nat):Nat->Nat × Nat->Nat × Nat
 | 0,s=>s
 | l + 1,s=>aZi mask l (leap mask s.1 s.2)
theorem aZm (mask:Nat):∀ (l:Nat) (s:Nat × Nat),aZi mask (l + 1) s=leap mask (aZi mask l s).1 (aZi mask l s).2
 | 0,_=>rfl
 | l + 1,s=>by
  show aZi mask (l + 1) (leap mask s.1 s.2)=_;exact aZm mask l _
theorem bZ2 (mask:Nat):∀ (l:Nat) (s:Nat × Nat),(aZi mask l s).2=s.2 / 32 ^ l
 | 0,s=>by simp[aZi]
 | l + 1,s=>by
  rw[aZm];show(aZi mask l s).2 / 32=_;rw[bZ2 mask l s,Nat.div_div_eq_div_mul,Nat.pow_succ]
theorem far (mask:Nat):∀ (l:Nat) (p:Probe),PV mask p->∃ m,m<=10 * l/\(road mask m p).i=(aZi mask l (p.i,p.perturb)).1/\(road mask m p).perturb=(aZi mask l (p.i,p.perturb)).2/\(0 < l->(road mask m p).j=(road mask m p).i)
 | 0,p,_=>⟨0,Nat.le_refl _,rfl,rfl,λh=>absurd h (Nat.lt_irrefl _)⟩
 | l + 1,p,v=>by
  obtain⟨m,h1,h2,D,G⟩:=far mask l p v;have B:=PV.road m v;refine⟨m + ((road mask m p).more + 1),?_,?_⟩
  ·have:=B.more;lia
  ·rw[aQs,cXj,aZm,<- h2,<- D];exact⟨rfl,rfl,λ_=>rfl⟩
def f5 (N x:Nat):Nat:=(x * 5 + 1) % N
def f5s (N:Nat):Nat->Nat->Nat
 | 0,x=>x
 | a + 1,x=>f5s N a (f5 N x)
theorem bZ3 (N:Nat):∀ (a b x:Nat),f5s N (a + b) x=f5s N b (f5s N a x)
 | 0,b,x=>by rw[Nat.zero_add];rfl
 | a + 1,b,x=>by rw[Nat.add_right_comm];exact bZ3 N a b _
def eQ1 (N:Nat):Nat->Nat->List Nat->List Nat
 | 0,_,acc=>acc
 | a + 1,x,acc=>eQ1 N a (f5 N x) (x::acc)
theorem bX4 (N:Nat):∀ (a x:Nat) (acc:List Nat) (y:Nat),y∈eQ1 N a x acc->y∈acc\/∃ b,b < a/\f5s N b x=y
 | 0,_,_,_,h=>.inl h
 | a + 1,x,acc,y,h=>by
  rcases bX4 N a (f5 N x) (x::acc) y h with h | ⟨b,j,e⟩
  ·rcases aB.mp h with h | h
   ·exact .inr ⟨0,Nat.succ_pos _,h.symm⟩
   ·exact .inl h
  ·exact .inr ⟨b + 1,Nat.succ_lt_succ j,e⟩
def Full (N:Nat):Prop:=f5s N N 0=0/\∀ y,y < N->∃ b,b < N/\f5s N b 0=y
theorem bZ4 {N:Nat} (h:(f5s N N 0 == 0 && (aH N).all λy=>(eQ1 N N 0 []).contains y)=true):Full N:=by
 simp only[aQ,beq_iff_eq,bF,bu] at h;refine⟨h.1,λy j=>?_⟩;have q:=h.2 y j;rcases bX4 N N 0 [] y (by simpa using q) with z | z
 ·cases z
 ·exact z
theorem Full.from {N:Nat} (F:Full N) {x y:Nat} (hx:x < N) (hy:y < N):∃ a,a < N/\f5s N a x=y:=by
 obtain⟨b,G,B⟩:=F.2 x hx;obtain⟨c,D,j⟩:=F.2 y hy
 by_cases h:b<=c
 ·refine⟨c - b,by lia,?_⟩
  rw[<- B,<- bZ3,show b + (c - b)=c by lia,j]
 ·refine⟨N - b + c,by lia,?_⟩
  rw[<- B,<- bZ3,show b + (N - b + c)=N + c by lia,bZ3,F.1,j]
theorem fJ2:Full 8:=bZ4 (by decide +kernel)
theorem eJt:Full 32:=bZ4 (by decide +kernel)
theorem eQ2:Full 128:=bZ4 (by decide +kernel)
theorem eQ3:Full 512:=bZ4 (by decide +kernel)
def Mask (mask:Nat):Prop:=mask=7\/mask=31\/mask=127\/mask=511
theorem Mask.full {mask:Nat} (h:Mask mask):Full (mask + 1):=by
 rcases h with rfl | rfl | rfl | rfl
 ·exact fJ2
 ·exact eJt
 ·exact eQ2
 ·exact eQ3
theorem bZ5 {mask:Nat}:∀ (a:Nat) (s:Nat × Nat),s.2 < 32->(aZi mask a s).1=f5s (mask + 1) a s.1
 | 0,_,_=>rfl
 | a + 1,s,h=>by
  show(aZi mask a (leap mask s.1 s.2)).1=f5s (mask + 1) a (f5 (mask + 1) s.1);have e:s.2 / 32=0:=Nat.div_eq_of_lt h;have j:(leap mask s.1 s.2).1=f5 (mask + 1) s.1:=by
   show(s.1 * 5 + 1 + s.2 / 32) % (mask + 1)=_;rw[e];rfl
  rw[bZ5 a _ (by show s.2 / 32 < 32;lia),j]
theorem aJz (mask:Nat):∀ (a b:Nat) (s:Nat × Nat),aZi mask (a + b) s=aZi mask b (aZi mask a s)
 | 0,b,s=>by rw[Nat.zero_add];rfl
 | a + 1,b,s=>by rw[Nat.add_right_comm];exact aJz mask a b _
theorem eJu {mask:Nat} (hm:Mask mask) {p:Probe} (v:PV mask p) {y:Nat} (hy:y<=mask):∃ m,m < 10 * (mask + 15)/\(road mask m p).j=y:=by
 have B:(aZi mask 12 (p.i,p.perturb)).1 < mask + 1:=by
  rw[aZm mask 11];exact Nat.lt_succ_of_le (bJ0 _ _ _)
 have D:(aZi mask 12 (p.i,p.perturb)).2 < 32:=by
  rw[bZ2]
  have:=v.pt
  show p.perturb / 32 ^ 12 < 32;have e:(2:Nat) ^ 64=18446744073709551616:=by decide
  have J:(32:Nat) ^ 12=1152921504606846976:=by decide
  rw[J];lia
 obtain⟨a,L,I⟩:=hm.full.from B (Nat.lt_succ_of_le hy)
 obtain⟨m,h1,h2,_,G⟩:=far mask (12 + a) p v;refine⟨m,by lia,?_⟩
 rw[G (by lia),h2,aJz,bZ5 a _ D,I]
def Ris (xs:List Nat):Prop:=xs.Pairwise (· < ·)
theorem bZ6 (xs:Array Nat) (j:Nat) (hr:Ris xs.toList):∀ (fuel lo hi:Nat),hi - lo<=fuel->lo<=hi->hi<=xs.size->(∀ i,i < lo->xs.getD i j < j)->(∀ i,hi<=i->i < xs.size->j<=xs.getD i j) ->
  below.go xs j fuel lo hi<=xs.size/\(∀ i,i < below.go xs j fuel lo hi->xs.getD i j < j)/\∀ i,below.go xs j fuel lo hi<=i->i < xs.size->j<=xs.getD i j
 | 0,lo,hi,hf,R,G,h1,h2=>by
  have e:lo=hi:=by lia
  subst e;exact⟨G,h1,h2⟩
 | fuel + 1,lo,hi,hf,R,G,h1,h2=>by
  unfold below.go
  by_cases B:lo < hi
  ·rw[if_pos B];have mlt:(lo + hi) / 2 < xs.size:=by lia
   have mono:∀ a b,a<=b->b < xs.size->xs.getD a j<=xs.getD b j:=λa b O J=>by
    rcases Nat.lt_or_eq_of_le O with h | h
    ·have q:=(de.mp hr) a b (by simpa using Nat.lt_trans h J) (by simpa using J) h
     simp only[hU,J,Nat.lt_trans h J,dif_pos];simpa using Nat.le_of_lt q
    ·subst h;exact Nat.le_refl _
   show(if xs.getD ((lo + hi) / 2) j < j then _ else _)<=_/\_
   by_cases I:xs.getD ((lo + hi) / 2) j < j
   ·simp only[I,if_true];exact bZ6 xs j hr fuel _ hi (by lia) (by lia) G (λi D=>Nat.lt_of_le_of_lt (mono i ((lo + hi) / 2) (by lia) mlt) I) h2
   ·simp only[I,if_false];exact bZ6 xs j hr fuel lo _ (by lia) (by lia) (by lia) h1 (λi D L=>Nat.le_trans (Nat.le_of_not_lt I) (mono _ i D L))
  ·rw[if_neg B];have e:lo=hi:=by lia
   subst e;exact⟨G,h1,h2⟩
theorem bQn {xs:Array Nat} (hr:Ris xs.toList) (j:Nat):below xs j<=xs.size/\(∀ i,i < below xs j->xs.getD i j < j)/\∀ i,below xs j<=i->i < xs.size->j<=xs.getD i j :=
 bZ6 xs j hr xs.size 0 xs.size (by lia) (by lia) (Nat.le_refl _) (λi h=>absurd h (Nat.not_lt_zero _)) (λi h h'=>absurd h' (Nat.not_lt.mpr h))
theorem dQz {xs:Array Nat} (hr:Ris xs.toList) {i j:Nat} (h:xs[i]?=some j):below xs j=i:=by
 obtain⟨hi,e⟩:=dH.mp h;obtain⟨Y,J,I⟩:=bQn hr j;have U:∀ k,k < xs.size->xs.getD k j=xs.getD k 0:=λk G=>by simp[hU,G]
 have R:xs.getD i j=j:=by simp[hU,hi,e]
 have inc:∀ a b,a < b->b < xs.size->xs.getD a j < xs.getD b j:=λa b B D=>by
  have q:=(de.mp hr) a b (by simpa using Nat.lt_trans B D) (by simpa using D) B
  simp only[hU,D,Nat.lt_trans B D,dif_pos];simpa using q
 rcases Nat.lt_trichotomy (below xs j) i with h | h | h
 ·have O:=inc _ _ h hi;have L:=I _ (Nat.le_refl _) (Nat.lt_trans h hi);lia
 ·exact h
 ·have q:=J i h;lia
structure Tab (t:aX):Prop where
 mask:Mask t.mask
 nodum:t.dummies=#[]
 ris:Ris t.place.toList
 top:∀ j∈t.place.toList,j<=t.mask
theorem bJ1 {t:aX} (T:Tab t) {j i:Nat} (h:t.place[i]?=some j):t.slot j=.live i:=by
 unfold aX.slot;dsimp only;rw[dQz T.ris h,h];simp
theorem cXk {t:aX} (T:Tab t) {j:Nat} (h:j∉t.place.toList):t.slot j=.empty:=by
 unfold aX.slot;dsimp only;have e:(t.place[below t.place j]? == some j)=false:=by
  cases q:t.place[below t.place j]? == some j with
  | false=>rfl
  | true =>
   have:=hJ q
   obtain⟨hi,e⟩:=dH.mp this;exact absurd (by rw[<- e];simp) h
 rw[e];simp only[aS,if_false];have B:has t.dummies j=false:=by rw[T.nodum];unfold has;simp
 rw[B];simp
theorem cZk {t:aX} (T:Tab t) (j:Nat):(∃ i,t.slot j=.live i/\t.place[i]?=some j)\/(t.slot j=.empty/\j∉t.place.toList):=by
 by_cases h:j∈t.place.toList
 ·obtain⟨i,hi,e⟩:=bO h;have q:t.place[i]?=some j:=by
   rw[dH];exact⟨by simpa using hi,by simpa using e⟩
  exact .inl ⟨i,bJ1 T q,q⟩
 ·exact .inr ⟨cXk T h,h⟩
theorem cXl {t : aX} (T : Tab t) (hashAt : Nat -> Int) (h : Int) : ∀ (fuel : Nat) (p : Probe), p.dummy = none -> (∃ m, m < fuel /\ (road t.mask m p).j ∉ t.place.toList) ->
    ∃ m, m < fuel /\ (∀ m', m' < m -> ∃ i, t.place[i]? = some (road t.mask m' p).j /\ hashAt i ≠ h) /\
      (((road t.mask m p).j ∉ t.place.toList /\ probe.go t hashAt h fuel p = some (.empty (road t.mask m p).j none)) \/
       ∃ i, t.place[i]? = some (road t.mask m p).j /\ t.slot (road t.mask m p).j = .live i /\ hashAt i = h /\ probe.go t hashAt h fuel p = some (.candidate (road t.mask m p).j i (road t.mask (m + 1) p)))
  | 0, p, _, ⟨m, hm, _⟩ => absurd hm (Nat.not_lt_zero _)
  | fuel + 1, p, hd, ⟨m, hm, hf⟩ => by
    unfold probe.go;rcases cZk T p.j with⟨i, e, q⟩ | ⟨e, q⟩
    · rw [e]
      dsimp only
      by_cases B : hashAt i = h
      · refine⟨0, Nat.succ_pos _, λ_ h' => absurd h' (Nat.not_lt_zero _), .inr ⟨i, q, e, B, ?_⟩⟩
        rw [if_pos (by simpa using B), bQl]
        rfl
      · rw [if_neg (by simpa using B), bQl]
        cases m with
        | zero => exact absurd (dE.mpr (fH q)) hf
        | succ m =>
          obtain⟨D, h1, h2, I⟩ := cXl T hashAt h fuel (step t.mask p) (by rw [bQm]; exact hd) ⟨m, by lia, hf⟩
          refine⟨D + 1, by lia, λm' G => ?_, I⟩
          cases m' with
          | zero => exact⟨i, q, B⟩
          | succ m' => exact h2 m' (by lia)
    · rw [e]
      exact⟨0, Nat.succ_pos _, λ_ h' => absurd h' (Nat.not_lt_zero _), .inl ⟨q, by rw [hd]; rfl⟩⟩
theorem bQo {t:aX} (T:Tab t) (hn:t.place.size<=t.mask):∃ y,y<=t.mask/\y∉t.place.toList:=by
 apply bj;intro B;have all:∀ y,y < t.mask + 1->y∈t.place.toList:=λy j=>bj λh=>B ⟨y,Nat.le_of_lt_succ j,h⟩;have D:(aH (t.mask + 1)).length<=t.place.toList.length:=by
  apply iW.length_le_of_subset jJ;intro y j;exact all y (bu.mp j)
 rw[dl] at D
 have:t.place.toList.length=t.place.size:=by simp
 lia
theorem cZl {t : aX} (T : Tab t) (hn : t.place.size <= t.mask) (hashAt : Nat -> Int) (h : Int) {p : Probe} (v : PV t.mask p) (hd : p.dummy = none) :
    ∃ m, (∀ m', m' < m -> ∃ i, t.place[i]? = some (road t.mask m' p).j /\ hashAt i ≠ h) /\
      (((road t.mask m p).j ∉ t.place.toList /\ t.probe hashAt h p = some (.empty (road t.mask m p).j none)) \/
       ∃ i, t.place[i]? = some (road t.mask m p).j /\ t.slot (road t.mask m p).j = .live i /\ hashAt i = h /\ t.probe hashAt h p = some (.candidate (road t.mask m p).j i (road t.mask (m + 1) p))) := by
  obtain⟨y, D, hf⟩ := bQo T hn;obtain⟨m, hm, e⟩ := eJu T.mask v D;obtain⟨B, _, h2, G⟩ := cXl T hashAt h (10 * turns t.mask) p hd ⟨m, hm, by rw [e]; exact hf⟩
  exact⟨B, h2, G⟩
end ST
set_option autoImplicit false
namespace ST
open PySem PySem.SetTable
theorem aXr {α:Type} (xs:Array α) (p:Nat) (x:α) (h:p<=xs.size):(insertAt xs p x).toList=xs.toList.take p++x::xs.toList.drop p:=by
 unfold insertAt;simp only[bJ,cx,Array.toList_extract,aY,List.singleton_append];simp only[List.extract,iX,Nat.sub_zero];rw[bG (l:=List.drop p xs.toList) (by simp)]
theorem aX8 {α:Type} {l:List α} {p i:Nat} {x y:α} (hp:p<=l.length) (h:(l.take p++x::l.drop p)[i]?=some y):(i < p/\l[i]?=some y)\/(i=p/\y=x)\/(p < i/\l[i - 1]?=some y):=by
 have j:(l.take p).length=p:=by rw[aK];lia
 rcases Nat.lt_trichotomy i p with c | c | c
 ·left
  rw[dU (by lia),gk c] at h
  exact⟨c,h⟩
 ·right;left
  subst c;rw[cg (by lia),j,Nat.sub_self] at h
  simp at h;exact⟨rfl,h.symm⟩
 ·right;right
  rw[cg (by lia),j] at h
  rw[show i - p=(i - 1 - p) + 1 by lia,jK,iY] at h
  rw[show p + (i - 1 - p)=i - 1 by lia] at h
  exact⟨c,h⟩
structure SetI (es:Array (Int × ae)) (t:aX):Prop where
 tab:Tab t
 size:t.place.size=es.size
 room:es.size * 5 < t.mask * 3
 reach:∀ (i j:Nat) (e:Int × ae),t.place[i]?=some j->es[i]?=some e->∃ r,(road t.mask r (start t.mask e.1)).j=j/\∀ r',r' < r->(road t.mask r' (start t.mask e.1)).j∈t.place.toList
theorem SetI.le {es:Array (Int × ae)} {t:aX} (I:SetI es t):t.place.size<=t.mask:=by have:=I.size;have:=I.room;lia
theorem SetI.fits {es:Array (Int × ae)} {t:aX} (I:SetI es t):t.fits es.size=true:=by
 unfold kJ kK;rw[I.tab.nodum,I.size]
 have:=I.room
 simp only[aQ,beq_iff_eq,decide_eq_true_eq];refine⟨trivial,?_⟩;simp;lia
theorem SetI.way {es:Array (Int × ae)} {t:aX} (I:SetI es t):t.gaveWay=false:=by
 unfold aX.gaveWay;rcases I.tab.mask with e | e | e | e <;> rw[e] <;> rfl
theorem dZ0 (f m:Nat) (led:Bool):SetI #[] (kA f m led) where
 tab:=⟨.inl rfl,rfl,.nil,λj h=>by simp[kA] at h⟩
 size:=rfl
 room:=by show 0 * 5 < 7 * 3;decide
 reach:=λi j e h=>by simp[kA] at h
structure Put (t t':aX) (j p:Nat):Prop where
 tab:Tab t'
 mask:t'.mask=t.mask
 le:p<=t.place.size
 place:t'.place.toList=t.place.toList.take p++j::t.place.toList.drop p
theorem eJv {t:aX} (T:Tab t) {j:Nat} (hj:j<=t.mask) (hf:j∉t.place.toList):Put t (t.put j).1 j (t.put j).2:=by
 obtain⟨R,Z,Y⟩:=bQn T.ris j;have e:(t.put j).1.place.toList=t.place.toList.take (below t.place j)++j::t.place.toList.drop (below t.place j):=aXr _ _ _ R;have U:(t.put j).1.dummies=#[]:=by
  show(if has t.dummies j=true then _ else t.dummies)=#[]
  have q:has t.dummies j=false:=by rw[T.nodum];unfold has;simp
  rw[q];simp[T.nodum]
 refine⟨⟨T.mask,U,?_,?_⟩,rfl,R,e⟩
 ·unfold Ris;rw[e,bB,bb];have L:=T.ris;unfold Ris at L;have G:∀ a∈t.place.toList.take (below t.place j),a < j:=λa B=>by
   obtain⟨i,hi,J⟩:=bO B;rw[aK] at hi;have D:i < t.place.size:=by (have:t.place.toList.length=t.place.size:=by simp);lia
   have q:=Z i (by lia)
   simp only[hU,D,dif_pos] at q;rw[gN] at J;rw[<- J];simpa using q
  have I:∀ a∈t.place.toList.drop (below t.place j),j < a:=λa B=>by
   obtain⟨i,hi,J⟩:=bO B;rw[bm] at hi;have hl:t.place.toList.length=t.place.size:=by simp
   have D:below t.place j + i < t.place.size:=by lia
   have q:=Y (below t.place j + i) (by lia) D
   simp only[hU,D,dif_pos] at q;rw[gO] at J;have ne:a≠j:=λz=>hf (by rw[<- z];exact cI B)
   have q':j<=a:=by rw[<- J];simpa using q
   lia
  refine⟨L.sublist (gH _ _),⟨I,L.sublist (jn _ _)⟩,λa B b O=>?_⟩;rcases aB.mp O with rfl | O
  ·exact G a B
  ·exact Nat.lt_trans (G a B) (I b O)
 ·intro a B;rw[e] at B;rcases aN.mp B with B | B
  ·exact T.top a (cJ B)
  ·rcases aB.mp B with rfl | B
   ·exact hj
   ·exact T.top a (cI B)
theorem put_set {es:Array (Int × ae)} {t:aX} (I:SetI es t) {j r:Nat} {h:Int} {x:ae} (hj:j<=t.mask) (hf:j∉t.place.toList) (e:(road t.mask r (start t.mask h)).j=j) (hr:∀ r',r' < r->(road t.mask r' (start t.mask h)).j∈t.place.toList) :
  ∀ b,(insertAt es (t.put j).2 (h,x)).toList=es.toList.take (t.put j).2++(h,x)::es.toList.drop (t.put j).2/\(insertAt es (t.put j).2 (h,x)).size=es.size + 1 /\
   Tab { (t.put j).1 with plain:=b }/\(t.put j).1.place.size=es.size + 1/\(t.put j).1.mask=t.mask /\
   ∀ (i j':Nat) (e':Int × ae),(t.put j).1.place[i]?=some j'->(insertAt es (t.put j).2 (h,x))[i]?=some e'->∃ r,(road t.mask r (start t.mask e'.1)).j=j'/\∀ r',r' < r->(road t.mask r' (start t.mask e'.1)).j∈(t.put j).1.place.toList:=by
 intro b;have P:=eJv I.tab hj hf;have hle:(t.put j).2<=es.size:=by rw[<- I.size];exact P.le
 have el:=aXr es (t.put j).2 (h,x) hle;have sz:(insertAt es (t.put j).2 (h,x)).size=es.size + 1:=by
  have q:=congrArg eM el;rw[aq,aV,aK,bm] at q
  have:es.toList.length=es.size:=by simp
  rw[show(insertAt es (t.put j).2 (h,x)).toList.length=(insertAt es (t.put j).2 (h,x)).size by simp] at q
  lia
 have U:(t.put j).1.place.size=es.size + 1:=by
  have q:=congrArg eM P.place;rw[aq,aV,aK,bm] at q
  have:t.place.toList.length=t.place.size:=by simp
  have:=I.size
  have:=P.le
  rw[show(t.put j).1.place.toList.length=(t.put j).1.place.size by simp] at q
  lia
 refine⟨el,sz,⟨P.tab.mask,P.tab.nodum,P.tab.ris,P.tab.top⟩,U,P.mask,λi j' e' h1 h2=>?_⟩;have sub:∀ a∈t.place.toList,a∈(t.put j).1.place.toList:=λa O=>by
  rw[P.place];rw[<- bL (t.put j).2 t.place.toList] at O;rcases aN.mp O with O | O
  ·exact cH _ O
  ·exact bi _ (ao _ O)
 have old:∀ R,t.place.toList[R]?=some j'->es.toList[R]?=some e'->∃ r,(road t.mask r (start t.mask e'.1)).j=j'/\∀ r',r' < r->(road t.mask r' (start t.mask e'.1)).j∈(t.put j).1.place.toList:=λR a b=>by
  obtain⟨r,G,B⟩:=I.reach R j' e' (by rw[<- aT];exact a) (by rw[<- aT];exact b)
  exact⟨r,G,λr' J=>sub _ (B r' J)⟩
 have Y:(t.place.toList.take (t.put j).2++j::t.place.toList.drop (t.put j).2)[i]?=some j':=by rw[<- P.place];simpa using h1
 have L:(es.toList.take (t.put j).2++(h,x)::es.toList.drop (t.put j).2)[i]?=some e':=by rw[<- el];simpa using h2
 rcases aX8 (by simpa using P.le) Y with⟨Z,G⟩ | ⟨Z,G⟩ | ⟨Z,G⟩
 ·rcases aX8 (by simpa using hle) L with⟨D,B⟩ | ⟨D,B⟩ | ⟨D,B⟩
  ·exact old i G B
  ·lia
  ·lia
 ·rcases aX8 (by simpa using hle) L with⟨D,B⟩ | ⟨D,B⟩ | ⟨D,B⟩
  ·lia
  ·subst G B;exact⟨r,e,λr' J=>sub _ (hr r' J)⟩
  ·lia
 ·rcases aX8 (by simpa using hle) L with⟨D,B⟩ | ⟨D,B⟩ | ⟨D,B⟩
  ·lia
  ·lia
  ·exact old (i - 1) G B
abbrev Own:=Array (Option Nat)
def liveOf (mask:Nat) (owner:Own):List (Nat × Nat):=(aH (mask + 1)).filterMap λj=>(owner.getD j none).map (j,·)
theorem aZ4 {α β:Type} {f g:α->Option β}:∀ {l:List α},(∀ a∈l,f a=g a)->l.filterMap f=l.filterMap g
 | [],_=>rfl
 | a::l,h=>by
  rw[cE,cE,h a am,aZ4 λb j=>h b (ao _ j)]
theorem dZ1 {mask:Nat} {owner:Own} {j k:Nat} (hs:owner.size=mask + 1) (hj:j<=mask) (hn:owner.getD j none=none):(liveOf mask (owner.setIfInBounds j (some k))).Perm ((j,k)::liveOf mask owner):=by
 unfold liveOf;obtain⟨s,u,e⟩:=List.append_of_mem (bu.mpr (Nat.lt_succ_of_le hj));have nd:(aH (mask + 1)).Nodup:=jJ;rw[e] at nd ⊢;have h1:j∉s:=λh=>by
  have:=dq.mp nd
  exact absurd rfl (this.2.2 j h j am)
 have h2:j∉u:=λh=>by
  have:=dq.mp nd
  exact(bN.mp this.2.1).1 h
 have g:∀ a,a≠j->(owner.setIfInBounds j (some k)).getD a none=owner.getD a none:=λa B=>by
  rw[b9,b9,gX (b8 B)]
 have D:(owner.setIfInBounds j (some k)).getD j none=some k:=by
  rw[b9,fJ (by lia)];rfl
 rw[gZ,gZ,cE,cE,D,hn];simp only[Option.map_some,Option.map_none];rw[aZ4 (l:=s) (g:=λj=>(owner.getD j none).map (j,·)) λa B=>by rw[g a λz=>h1 (z ▸ B)],aZ4 (l:=u) (g:=λj=>(owner.getD j none).map (j,·)) λa B=>by rw[g a λz=>h2 (z ▸ B)]]
 exact fX
theorem cQ2 {owner:Own} {j:Nat} (h:j < owner.size) (d:Option Nat):owner.getD j d=owner[j]:=by simp[hU,h]
theorem bX5 {mask:Nat} {owner:Own} (hs:owner.size=mask + 1):∀ (fuel:Nat) (p:Probe),PV mask p->p.j=p.i->p.more=runEnd mask p.i - p.i->(∃ l,l < fuel/\owner.getD (aZi mask l (p.i,p.perturb)).1 none=none) ->
  ∃ r j,layClean.free mask owner fuel p.i p.perturb=some j/\(road mask r p).j=j/\j<=mask/\owner.getD j none=none/\∀ r',r' < r->(owner.getD (road mask r' p).j none).isSome=true
 | 0,p,_,_,_,⟨l,h,_⟩=>absurd h (Nat.not_lt_zero _)
 | fuel + 1,p,v,L,hm,⟨l,Z,hf⟩=>by
  have re:=aJy mask p.i v.i;have Y:=v.j;have D:∀ k,k<=p.more->p.i + k<=mask:=λk B=>by lia
  have gd:∀ k,k<=p.more->owner.getD (p.i + k) (some 0)=owner.getD (p.i + k) none:=λk B=>by
   have:p.i + k < owner.size:=by have:=D k B;lia
   rw[cQ2 this,cQ2 this]
  have rd:∀ k,k<=p.more->(road mask k p).j=p.i + k:=λk B=>by rw[cXi mask k p B,<- L]
  unfold layClean.free;have U:runEnd mask p.i + 1 - p.i=p.more + 1:=by lia
  rw[U];cases hq:(aH (p.more + 1)).find? λk=>(owner.getD (p.i + k) (some 0)).isNone with
  | some k =>
   rw[List.find?_range_eq_some] at hq;obtain⟨h1,h2,O⟩:=hq;have B:k<=p.more:=Nat.le_of_lt_succ (bu.mp h2);refine⟨k,p.i + k,rfl,rd k B,D k B,?_,λr' G=>?_⟩
   ·rw[gd k B] at h1;exact Option.isNone_iff_eq_none.mp h1
   ·have q:=O r' G;rw[gd r' (by lia)] at q
    rw[rd r' (by lia)]
    cases e:owner.getD (p.i + r') none with
    | none=>rw[e] at q;cases q
    | some z=>rfl
  | none =>
   rw[List.find?_eq_none] at hq;have taken:∀ k,k<=p.more->(owner.getD (p.i + k) none).isSome=true:=λk B=>by
    have q:=hq k (bu.mpr (Nat.lt_succ_of_le B));rw[gd k B] at q;cases e:owner.getD (p.i + k) none with
    | none=>rw[e] at q;exact absurd rfl q
    | some z=>rfl
   cases l with
   | zero =>
    have q:=taken 0 (Nat.zero_le _);have I:owner.getD p.i none=none:=hf;rw[Nat.add_zero,I] at q;cases q
   | succ l =>
    have e:=cXj mask p;have J:PV mask (road mask (p.more + 1) p):=PV.road _ v;obtain⟨r,j,f1,f2,R,f4,f5⟩:=bX5 hs fuel (road mask (p.more + 1) p) J (by rw[e]) (by rw[e]) ⟨l,by lia,by rw[e];exact hf⟩
    refine⟨p.more + 1 + r,j,?_,by rw[aQs];exact f2,R,f4,λr' G=>?_⟩
    ·rw[e] at f1;exact f1
    ·by_cases c:r'<=p.more
     ·rw[rd r' c];exact taken r' c
     ·have q:=f5 (r' - (p.more + 1)) (by lia)
      rw[<- aQs,show p.more + 1 + (r' - (p.more + 1))=r' by lia] at q
      exact q
structure OwnI (mask:Nat) (owner:Own) (hs:List Int):Prop where
 size:owner.size=mask + 1
 perm:((liveOf mask owner).map (·.2)).Perm (aH hs.length)
 reach:∀ (j k:Nat),owner.getD j none=some k->∃ h,hs[k]?=some h/\∃ r,(road mask r (start mask h)).j=j/\∀ r',r' < r->(owner.getD (road mask r' (start mask h)).j none).isSome=true
theorem OwnI.free {mask:Nat} (hm:Mask mask) {owner:Own} {hs:List Int} (I:OwnI mask owner hs) (hl:hs.length<=mask):∃ y,y<=mask/\owner.getD y none=none:=by
 apply bj;intro D;have all:∀ y,y < mask + 1->(owner.getD y none).isSome=true:=λy B=>by
  cases e:owner.getD y none with
  | none=>exact absurd ⟨y,Nat.le_of_lt_succ B,e⟩ D
  | some z=>rfl
 have len:((aH (mask + 1)).filterMap λj=>(owner.getD j none).map (j,·)).length=mask + 1:=by
  have gen:∀ l:List Nat,(∀ y∈l,(owner.getD y none).isSome=true)->(l.filterMap λj=>(owner.getD j none).map (j,·)).length=l.length:=by
   intro l
   induction l with
   | nil=>intro _;rfl
   | cons a l G =>
    intro h;obtain⟨z,e⟩:=cR.mp (h a am);rw[cE,e];simp only[Option.map_some,aV];rw[G λy B=>h y (ao _ B)]
  rw[gen _ λy B=>all y (bu.mp B),dl]
 have q:=I.perm.length_eq;rw[af,dl] at q;unfold liveOf at q;lia
theorem cXm {mask:Nat} (hm:Mask mask) {owner:Own} {y:Nat} (hy:y<=mask) (hf:owner.getD y none=none) (p:Probe) (v:PV mask p):∃ l,l < turns mask/\owner.getD (aZi mask l (p.i,p.perturb)).1 none=none:=by
 have j:(aZi mask 12 (p.i,p.perturb)).1 < mask + 1:=by rw[aZm mask 11];exact Nat.lt_succ_of_le (bJ0 _ _ _)
 have B:(aZi mask 12 (p.i,p.perturb)).2 < 32:=by
  rw[bZ2]
  have:=v.pt
  show p.perturb / 32 ^ 12 < 32;have e:(2:Nat) ^ 64=18446744073709551616:=by decide
  have G:(32:Nat) ^ 12=1152921504606846976:=by decide
  rw[G];lia
 obtain⟨a,I,D⟩:=hm.full.from j (Nat.lt_succ_of_le hy)
 refine⟨12 + a,by unfold turns;lia,?_⟩
 rw[aJz,bZ5 a _ B,D];exact hf
def cXn (mask:Nat) (acc:Option (Own × Nat)) (h:Int):Option (Own × Nat):=do
 let (owner,k) <- acc
 let j <- layClean.free mask owner (turns mask) (bits h % (mask + 1)) (bits h)
 pure (owner.setIfInBounds j (some k),k + 1)
theorem cQ3 {mask:Nat} (hm:Mask mask):∀ (hs done:List Int) (owner:Own),OwnI mask owner done->done.length + hs.length<=mask ->
  ∃ owner',hs.foldl (cXn mask) (some (owner,done.length))=some (owner',(done++hs).length)/\OwnI mask owner' (done++hs)
 | [],done,owner,I,_=>⟨owner,by rw[bz];rfl,by rw[bz];exact I⟩
 | h::hs,done,owner,I,hl=>by
  rw[aV] at hl;obtain⟨y,Z,hf⟩:=I.free hm (by lia)
  have v:=aXq mask h;obtain⟨r,j,f1,f2,f3,f4,f5⟩:=bX5 I.size (turns mask) (start mask h) v rfl rfl (cXm hm Z hf _ v);have O:j < owner.size:=by have:=I.size;lia
  have B:∀ a,a≠j->(owner.setIfInBounds j (some done.length)).getD a none=owner.getD a none:=λa R=>by
   rw[b9,b9,gX (b8 R)]
  have Y:(owner.setIfInBounds j (some done.length)).getD j none=some done.length:=by
   rw[b9,fJ O];rfl
  have more:∀ a,(owner.getD a none).isSome=true->((owner.setIfInBounds j (some done.length)).getD a none).isSome=true:=λa R=>by
   by_cases c:a=j
   ·rw[c,Y];rfl
   ·rw[B a c];exact R
  have I':OwnI mask (owner.setIfInBounds j (some done.length)) (done++[h]):=by
   refine⟨by rw[Array.size_setIfInBounds];exact I.size,?_,λa k e=>?_⟩
   ·have q:=(dZ1 (k:=done.length) I.size f3 f4).map (·.2);rw[aL] at q;refine q.trans ?_;rw[aq,dX,fC];exact(I.perm.cons _).trans (iZ _ _).symm
   ·by_cases c:a=j
    ·subst c;rw[Y] at e;cases e;refine⟨h,by simp,r,f2,λJ L=>more _ (f5 J L)⟩
    ·rw[B a c] at e;obtain⟨h',D,J,G,e3⟩:=I.reach a k e;exact⟨h',by rw[dU (aA.mp D).1];exact D,J,G,λx hx=>more _ (e3 x hx)⟩
  obtain⟨owner',D,G⟩:=cQ3 hm hs (done++[h]) _ I' (by rw[aq,dX];lia)
  refine⟨owner',?_,by rw[aY] at G;exact G⟩
  rw[kf];have es:cXn mask (some (owner,done.length)) h=some (owner.setIfInBounds j (some done.length),done.length + 1):=by
   show(do let j <- layClean.free mask owner (turns mask) (bits h % (mask + 1)) (bits h);pure (owner.setIfInBounds j (some done.length),done.length + 1))=_
   have U:layClean.free mask owner (turns mask) (bits h % (mask + 1)) (bits h)=some j:=f1;rw[U]
   rfl
  rw[es];rw[aq,dX,aY] at D;exact D
theorem cXo (mask:Nat):OwnI mask (gw (mask + 1) none) [] where
 size:=by simp
 perm:=by
  have e:liveOf mask (gw (mask + 1) none)=[]:=by
   unfold liveOf;rw[List.filterMap_eq_nil_iff];intro a B
   have:(gw (mask + 1) (none:Option Nat)).getD a none=none:=by
    rw[b9,jv];split <;> rfl
   rw[this];rfl
  rw[e];exact dI _
 reach:=λj k e=>by
  have:(gw (mask + 1) (none:Option Nat)).getD j none=none:=by
   rw[b9,jv];split <;> rfl
  rw[this] at e;cases e
theorem bJ2 {mask:Nat} (hm:Mask mask) (hs:Array Int) (hl:hs.size<=mask):∃ owner,layClean mask hs=some owner/\OwnI mask owner hs.toList:=by
 obtain⟨owner,D,B⟩:=cQ3 hm hs.toList [] _ (cXo mask) (by simpa using hl)
 refine⟨owner,?_,by simpa using B⟩
 unfold layClean
 have:hs.foldl (init:=some (gw (mask + 1) (none:Option Nat),0)) (λacc h=>do
  let (owner,k) <- acc
  let j <- layClean.free mask owner (turns mask) (bits h % (mask + 1)) (bits h)
  pure (owner.setIfInBounds j (some k),k + 1))=some (owner,hs.size):=by
  rw[<- Array.foldl_toList];have q:=D;simp only[bY,cu] at q;rw[show hs.toList.length=hs.size by simp] at q
  exact q
 rw[this]
 rfl
theorem cQ4 {α β:Type} {f:α->Option β}:∀ {l:List α},(∀ a∈l,(f a).isSome=true)->(l.filterMap f).length=l.length/\∀ i:Nat,(l.filterMap f)[i]?=(l[i]?).bind f
 | [],_=>⟨rfl,λi=>by simp⟩
 | a::l,h=>by
  obtain⟨z,e⟩:=cR.mp (h a am);obtain⟨h1,h2⟩:=cQ4 (l:=l) (f:=f) λb j=>h b (ao _ j);rw[cE,e];refine⟨by simp[h1],λi=>?_⟩
  cases i with
  | zero=>simp[e]
  | succ i=>simpa using h2 i
theorem cQ5 {mask:Nat} {owner:Own} {j k:Nat} (h:(j,k)∈liveOf mask owner):j<=mask/\owner.getD j none=some k:=by
 unfold liveOf at h;obtain⟨a,B,e⟩:=fw.mp h;cases q:owner.getD a none with
 | none=>rw[q] at e;cases e
 | some z=>rw[q] at e;cases e;exact⟨Nat.le_of_lt_succ (bu.mp B),q⟩
theorem dZ2 {mask:Nat} {owner:Own} {j k:Nat} (h1:j<=mask) (h2:owner.getD j none=some k):(j,k)∈liveOf mask owner :=
 fw.mpr ⟨j,bu.mpr (Nat.lt_succ_of_le h1),by rw[h2];rfl⟩
theorem dZ3 (mask:Nat) (owner:Own):Ris ((liveOf mask owner).map (·.1)):=by
 unfold Ris liveOf;rw[eY];refine List.Pairwise.filterMap _ ?_ (List.pairwise_lt_range (n:=mask + 1));intro a B j b hb G hb';cases q:owner.getD a none with
 | none=>rw[q] at hb;cases hb
 | some z =>
  rw[q] at hb;cases hb;cases q':owner.getD B none with
  | none=>rw[q'] at hb';cases hb'
  | some D=>rw[q'] at hb';cases hb';exact j
theorem cQ6 {α:Type} (es:Array α):((aH es.size).filterMap λk=>es[k]?)=es.toList:=by
 apply gM;intro i;have h:=cQ4 (l:=aH es.size) (f:=λk=>es[k]?) (λa j=>by
  have:=bu.mp j
  simp[this])
 rw[h.2 i]
 by_cases c:i < es.size
 ·rw[List.getElem?_range c];simp
 ·rw[ci (by simpa using c)];simp[c]
theorem cXp {es:Array (Int × ae)} {mask' wanted:Nat} (t:aX) (hm:Mask mask') (hw:sizeAbove wanted - 1=mask') (hsz:es.size * 5 < mask' * 3) :
  ∃ t' order,t.relaid (es.map (·.1)) wanted=some (t',order)/\(order.filterMap (es[·]?)).size=es.size/\SetI (order.filterMap (es[·]?)) t'/\(order.filterMap (es[·]?)).toList.Perm es.toList:=by
 obtain⟨owner,e1,I⟩:=bJ2 hm (es.map (·.1)) (by rw[kB];lia)
 have el:(es.map (·.1)).toList.length=es.size:=by simp
 have G:=I.perm;rw[el] at G;have ks:∀ k∈(liveOf mask' owner).map (·.2),(es[k]?).isSome=true:=λk hk=>by
  have:=bu.mp (G.mem_iff.mp hk)
  simp[this]
 obtain⟨f1,f2⟩:=cQ4 (f:=λk=>es[k]?) ks;have D:(kg (es[·]?) ((liveOf mask' owner).map (·.2)).toArray).toList=((liveOf mask' owner).map (·.2)).filterMap (λk=>es[k]?):=by simp
 have perm:(kg (es[·]?) ((liveOf mask' owner).map (·.2)).toArray).toList.Perm es.toList:=by
  rw[D,<- cQ6 es];exact G.filterMap _
 have size:(kg (es[·]?) ((liveOf mask' owner).map (·.2)).toArray).size=es.size:=by
  have:=perm.length_eq
  simpa using this
 refine⟨{ mask:=mask',place:=((liveOf mask' owner).map (·.1)).toArray,dummies:=#[],finger:=t.finger,led:=t.led,moves:=t.movedTo mask',plain:=t.plain },((liveOf mask' owner).map (·.2)).toArray,?_,size,?_,perm⟩
 ·unfold relaid laid;rw[hw,e1]
  rfl
 ·refine⟨⟨hm,rfl,?_,λj hj=>?_⟩,?_,?_,λi j e h1 h2=>?_⟩
  ·show Ris ((liveOf mask' owner).map (·.1)).toArray.toList;exact dZ3 _ _
  ·have L:j∈(liveOf mask' owner).map (·.1):=hj;obtain⟨⟨a,k⟩,h,rfl⟩:=bD.mp L;exact(cQ5 h).1
  ·rw[size];show((liveOf mask' owner).map (·.1)).toArray.size=es.size
   have:=G.length_eq
   simpa using this
  ·rw[size];exact hsz
  ·have h1':((liveOf mask' owner).map (·.1))[i]?=some j:=by simpa using h1
   have B:(((liveOf mask' owner).map (·.2)).filterMap (λk=>es[k]?))[i]?=some e:=by
    rw[<- D,aT];exact h2
   rw[f2 i] at B;rw[aF] at h1' B;cases q:(liveOf mask' owner)[i]? with
   | none=>rw[q] at h1';cases h1'
   | some jk =>
    obtain⟨a,k⟩:=jk;rw[q] at h1' B;have ea:a=j:=aM h1';subst ea;have ek:es[k]?=some e:=B;obtain⟨_,ow⟩:=cQ5 (ak q);obtain⟨h,U,r,Z,Y⟩:=I.reach a k ow;have O:e.1=h:=by
     have:(es.map (·.1)).toList[k]?=some e.1:=by
      rw[aT,Array.getElem?_map,ek];rfl
     rw[this] at U;exact aM U
    rw[O];refine⟨r,Z,λR J=>?_⟩;obtain⟨z,ez⟩:=cR.mp (Y R J);have pv:=PV.road R (aXq mask' h)
    have:=pv.j
    show _∈((liveOf mask' owner).map (·.1)).toArray.toList;exact bD.mpr ⟨_,dZ2 (by lia) ez,rfl⟩
theorem grow {mask n:Nat} (hm:Mask mask) (h1:n * 5 < mask * 3) (h2:(n + 1) * 5 >= mask * 3) (hn:n + 1<=300):∃ mask',Mask mask'/\sizeAbove (grown (n + 1)) - 1=mask'/\(n + 1) * 5 < mask' * 3/\¬ sizeAbove (grown (n + 1)) > sizeLine:=by
 rcases hm with rfl | rfl | rfl | rfl
 ·have e:n=4:=by lia
  subst e;exact⟨31,.inr (.inl rfl),by decide +kernel,by decide,by decide +kernel⟩
 ·have e:n=18:=by lia
  subst e;exact⟨127,.inr (.inr (.inl rfl)),by decide +kernel,by decide,by decide +kernel⟩
 ·have e:n=76:=by lia
  subst e;exact⟨511,.inr (.inr (.inr rfl)),by decide +kernel,by decide,by decide +kernel⟩
 ·lia
open PySem.Spec PyProof.Rows
section
variable {prog:aC} {w:aR} {A:a7} {E:ae->ai->Prop} {s:ai}
def TK (prog:aC) (w:aR) (h:bf) (k:List Str) (v:ae):Prop:=∃ b,v=.ref b/\j5 (strKind prog w) h k b
theorem TK.inj {h:bf} {k k':List Str} {v:ae} (a:TK prog w h k v) (b:TK prog w h k' v):k=k':=by
 obtain⟨B,rfl,h1⟩:=a;obtain⟨j,e,h2⟩:=b;cases e;exact h1.inj h2
abbrev aZ0 (prog:aC) (w:aR) (k:List Str):Int:=tupleKeyHash (strKind prog w) k
theorem bZ7 {k:List Str} {vs:List ae} (h:ItemsAre (strKind prog w) k vs):∀ v∈vs,∃ x t,v=jE x t:=by
 induction h with
 | nil=>intro v hv;cases hv
 | cons h1 _ j =>
  intro v hv;rcases aB.mp hv with rfl | hv
  ·obtain⟨t,e⟩:=f8 h1;exact⟨_,t,e⟩
  ·exact j v hv
theorem cQ7 {k:List Str} {v:ae} {Q:Bool->ai->Prop} (hk:TK prog w s.heap k v) (h:Q false s):aE (aJ prog w) A (fI 8 v) Q E s:=by
 obtain⟨b,rfl,hk⟩:=hk;have I:=hk.typeIs;obtain⟨o,items,n,G,_,hd,hi⟩:=hk;unfold fI;refine aa (gK I ?_);dsimp only;simp only[beq_self_eq_true,if_true];refine aa (ad ?_);simp only[fF,aS,if_false];refine aa (cP G hd ?_);dsimp only;refine aa ?_;show aE _ _ (forIn items _ _) _ _ s;rw[<- gA];refine hW _ (λrest r s'=>r.1=none/\s'=s/\∀ v∈rest,∃ x t,v=jE x t) _ ?_ ?_ _ _ ⟨rfl,rfl,bZ7 hi⟩
 ·rintro x rest r s' ⟨B,rfl,j⟩;obtain⟨y,t,rfl⟩:=j x am;unfold fI;refine aa (ad ?_);simp only[aS,if_false];exact ad ⟨rfl,rfl,λu D=>j u (ao _ D)⟩
 ·rintro⟨L,J⟩ s' ⟨B,rfl,_⟩;simp only at B;subst B;exact ad h
theorem dXe {k:List Str} {v:ae} {Q:Bool->ai->Prop} (hk:TK prog w s.heap k v) (h:Q true s):aE (aJ prog w) A (eqIsQuiet 8 v) Q E s:=by
 obtain⟨b,rfl,hk⟩:=hk;exact wpAny_eqIsQuiet_tuple hk h
theorem eQ4 {k:List Str} {x:ae} {stored:List ae} {Q:Bool->ai->Prop} (hx:TK prog w s.heap k x) (hs:∀ y∈stored,∃ k',TK prog w s.heap k' y) (h:Q false s) :
  aE (aJ prog w) A (searchCouldBeSeen x stored) Q E s:=by
 unfold searchCouldBeSeen;refine aa (hW _ (λrest r s'=>r.1=none/\s'=s/\∀ y∈rest,∃ k',TK prog w s.heap k' y) _ ?_ ?_ _ _ ⟨rfl,rfl,hs⟩)
 ·rintro y rest r s' ⟨J,rfl,j⟩;obtain⟨k',I⟩:=j y am;have fin:∀ y∈rest,∃ k',TK prog w s'.heap k' y:=λz O=>j z (ao _ O);obtain⟨L,ex,_⟩:=id hx;obtain⟨D,R,_⟩:=id I
  have main:∀ c:Bool,aE (aJ prog w) A (if c=true then pure (bC ((none,()):Option Bool × Unit)) else do
    if !(<- eqIsQuiet 8 x) then pure (bo (some true,())) else
    if !(<- eqIsQuiet 8 y) then pure (bo (some true,())) else
    if <- fI 8 x then pure (bo (some true,())) else
    if <- fI 8 y then pure (bo (some true,())) else pure (bC (none,())))
    (λr B=>match r with
     | bC G=>G.fst=none/\B=s'/\∀ (y:ae),y∈rest->∃ k',TK prog w s'.heap k' y
     | bo G=>False) E s':=by
   intro c;cases c with
   | true=>exact ad ⟨rfl,rfl,fin⟩
   | false =>
    simp only[aS,if_false];refine aa (dXe hx ?_);simp only[fF,aS,if_false];refine aa (dXe I ?_);simp only[fF,aS,if_false];refine aa (cQ7 hx ?_);simp only[aS,if_false];refine aa (cQ7 I ?_);simp only[aS,if_false];exact ad ⟨rfl,rfl,fin⟩
  rw[ex,R] at main ⊢;dsimp only;refine e9 (main ((L == D) || (i4 (.ref L) && i4 (.ref D)))) (λr s1 h=>?_) (λ_ _ e=>e)
  cases r with
  | yield G=>exact h
  | done G=>exact h.elim
 ·rintro⟨Y,U⟩ s' ⟨J,rfl,_⟩;simp only at J;subst J;exact ad h
def ElT (prog:aC) (w:aR) (h:bf) (es:List (Int × ae)):Prop:=∀ e∈es,∃ k,TK prog w h k e.2/\e.1=aZ0 prog w k
structure SetAt (h:bf) (a:Addr) (es:Array (Int × ae)) (ep:Nat) (t:aX):Prop where
 obj:h.get? a=some { cls:=.type "set",dict:=none,data:=.set es ep t }
 inv:SetI es t
theorem SetAt.state {a:Addr} {es:Array (Int × ae)} {ep:Nat} {t:aX} {Q:(Array (Int × ae) × Nat × aX)->ai->Prop} (S:SetAt s.heap a es ep t) (h:Q (es,ep,t) s):aE (aJ prog w) A (setState a) Q E s :=
 dJ S.obj rfl S.inv.fits h
theorem bJ3 {a:Addr} {es:Array (Int × ae)} {ep:Nat} {t:aX} {k:List Str} {x:ae} {adding:Bool} (S:SetAt s.heap a es ep t) (hu:A.units < cb) (hel:ElT prog w s.heap es.toList) (hx:TK prog w s.heap k x)
  {M0:Nat} (hM:(road t.mask M0 (start t.mask (aZ0 prog w k))).j∉t.place.toList) {Q:SetFound->ai->Prop}
  (hfound:∀ i?,(adding=true\/i?.isSome=true)->(∃ e∈es.toList,TK prog w s.heap k e.2)->Q (.there i?) s)
  (hfree:∀ j r,j<=t.mask->j∉t.place.toList->(road t.mask r (start t.mask (aZ0 prog w k))).j=j->(∀ r',r' < r->(road t.mask r' (start t.mask (aZ0 prog w k))).j∈t.place.toList)->(¬ ∃ e∈es.toList,TK prog w s.heap k e.2)->Q (.free j false) s) :
  ∀ (fuel m:Nat) (stand:Option Probe),M0 < fuel + m->stand.getD (t.probeStart (aZ0 prog w k))=road t.mask m (start t.mask (aZ0 prog w k)) ->
   (∀ m',m' < m->∃ (i:Nat) (e:Int × ae),t.place[i]?=some (road t.mask m' (start t.mask (aZ0 prog w k))).j/\es[i]?=some e/\¬ TK prog w s.heap k e.2)->m<=M0 ->
   aE (aJ prog w) A (setSearchFrom a x (aZ0 prog w k) adding fuel stand) Q E s
 | 0,m,stand,hf,_,_,hm=>by lia
 | fuel + 1,m,stand,hf,hst,U,hm=>by
  unfold setSearchFrom;refine aa (S.state ?_);dsimp only;rw[S.inv.way];simp only[aS,if_false];have v:=PV.road m (aXq t.mask (aZ0 prog w k));have dn:∀ m,(road t.mask m (start t.mask (aZ0 prog w k))).dummy=none:=λm=>by
   induction m with
   | zero=>rfl
   | succ m ih=>rw[aJx,bQm];exact ih
  obtain⟨I,p1,p2⟩:=cZl S.inv.tab S.inv.le (λi=>(es[i]?.map (·.1)).getD 0) (aZ0 prog w k) v (dn m);rw[hst];have ahead:∀ r,r < m + I->∃ (i:Nat) (e:Int × ae),t.place[i]?=some (road t.mask r (start t.mask (aZ0 prog w k))).j/\es[i]?=some e/\¬ TK prog w s.heap k e.2:=λr hr=>by
   by_cases c:r < m
   ·exact U r c
   ·obtain⟨i,G,q2⟩:=p1 (r - m) (by lia)
    rw[<- aQs,show m + (r - m)=r by lia] at G
    obtain⟨hi,_⟩:=dH.mp G;have L:i < es.size:=by rw[<- S.inv.size];exact hi
    have O:es[i]?=some es[i]:=by simp[L]
    refine⟨i,es[i],G,O,λz=>q2 ?_⟩;obtain⟨J,z',eh⟩:=hel es[i] (by simp)
    rw[O];show es[i].1=_;rw[eh,z'.inj z]
  have inplace:∀ r,r < m + I->(road t.mask r (start t.mask (aZ0 prog w k))).j∈t.place.toList:=λr hr=>by
   obtain⟨i,e,q,_⟩:=ahead r hr;exact dE.mpr (fH q)
  have hmM:m + I<=M0:=by
   rcases Nat.lt_or_ge M0 (m + I) with c | c
   ·exact absurd (inplace M0 c) hM
   ·exact c
  rcases p2 with⟨G,q2⟩ | ⟨i,G,q2,q3,q4⟩
  ·generalize hP:aX.probe t _ (aZ0 prog w k) (road t.mask m (start t.mask (aZ0 prog w k)))=pr;have e2:pr=some (.empty (road t.mask I (road t.mask m (start t.mask (aZ0 prog w k)))).j none):=by rw[<- hP];exact q2
   rw[e2];dsimp only;rw[<- aQs] at G ⊢;have pv:=(PV.road (m + I) (aXq t.mask (aZ0 prog w k))).j;refine ad (hfree _ (m + I) (by lia) G rfl inplace ?_)
   rintro⟨e,he,hke⟩;obtain⟨i,hi,ei⟩:=bO he;have O:es[i]?=some e:=by
    have h2:i < es.size:=by simpa using hi
    rw[<- ei];simp[h2]
   have L:i < t.place.size:=by rw[S.inv.size];simpa using hi
   obtain⟨r,r1,r2⟩:=S.inv.reach i t.place[i] e (by simp[L]) O
   obtain⟨J,z',eh⟩:=hel e he;have hk':J=k:=z'.inj hke;rw[eh,hk'] at r1 r2;rcases Nat.lt_or_ge r (m + I) with c | c
   ·obtain⟨i',e',a1,a2,a3⟩:=ahead r c;rw[r1] at a1;have s1:=bJ1 S.inv.tab a1;have s2:=bJ1 (j:=t.place[i]) (i:=i) S.inv.tab (by simp[L])
    rw[s1] at s2;cases s2;rw[O] at a2;cases a2;exact a3 hke
   ·rcases Nat.lt_or_eq_of_le c with c | c
    ·exact G (r2 _ c)
    ·rw[c,r1] at G;exact G (by simp)
  ·generalize hP:aX.probe t _ (aZ0 prog w k) (road t.mask m (start t.mask (aZ0 prog w k)))=pr;have e2:pr=some (.candidate (road t.mask I (road t.mask m (start t.mask (aZ0 prog w k)))).j i (road t.mask (I + 1) (road t.mask m (start t.mask (aZ0 prog w k))))):=by rw[<- hP];exact q4
   rw[e2];dsimp only;have L:i < es.size:=by
    obtain⟨hi,_⟩:=dH.mp G;rw[<- S.inv.size];exact hi
   have O:es[i]?=some es[i]:=by simp[L]
   obtain⟨J,hy,eh⟩:=hel es[i] (by simp)
   by_cases R:t.led=true
   ·rw[R];simp only[fF,aS,if_false];rw[O];obtain⟨b,eb,hb⟩:=hy;obtain⟨bx,ex,Z⟩:=id hx;have D:es[i]=(es[i].1,cr b):=by rw[<- eb]
    rw[D];dsimp only;refine aa (bW ?_);rw[ex];refine i5 hu hb Z ?_;refine aa (S.state ?_);dsimp only;have yes:J=k->∃ e∈es.toList,TK prog w s.heap k e.2:=λc=>⟨es[i],by simp,⟨b,eb,c ▸ hb⟩⟩
    by_cases B:(adding && decide (J=k))=true
    ·rw[if_pos B];have c:J=k:=by
      simp only[aQ,decide_eq_true_eq] at B;exact B.2
     exact ad (hfound none (.inl (by simp only[aQ] at B;exact B.1)) (yes c))
    ·rw[if_neg B];have sm:t.sameMemory t.moves t.mask=some true:=by unfold sameMemory;rw[if_pos (by simp)]
     rw[sm];dsimp only;rw[if_pos rfl,q2];dsimp only;rw[O,D];dsimp only;refine aa (wpAny_isSame_ref_self ?_);rw[if_pos rfl];refine aa (ad ?_);dsimp only
     by_cases c:J=k
     ·rw[decide_eq_true c,if_pos rfl];exact ad (hfound _ (.inr rfl) (yes c))
     ·rw[decide_eq_false c,if_neg a9];rw[<- ex];refine bJ3 S hu hel hx hM hfound hfree fuel (m + I + 1) _ (by lia) ?_ (λr hr=>?_) ?_
      ·show road t.mask (I + 1) (road t.mask m _)=_;rw[<- aQs,Nat.add_assoc]
      ·rcases Nat.lt_or_eq_of_le (Nat.le_of_lt_succ hr) with d | d
       ·exact ahead r d
       ·rw[d];rw[<- aQs] at G;refine⟨i,es[i],G,O,λz=>c ?_⟩;exact TK.inj ⟨b,eb,hb⟩ z
      ·rcases Nat.lt_or_eq_of_le hmM with d | d
       ·exact d
       ·rw[<- aQs] at G;rw[d] at G;exact absurd (dE.mpr (fH G)) hM
   ·have Y:t.led=false:=eX.mpr R;rw[Y];simp only[kC,if_true];refine aa (eQ4 hx (λy hy'=>?_) ?_)
    ·obtain⟨e,he,rfl⟩:=bD.mp hy';have he':e∈es.toList:=by
      have:=dE.mp he
      exact dE.mpr (Array.mem_filter.mp this).1
     obtain⟨J,z,_⟩:=hel e he';exact⟨J,z⟩
    ·simp only[aS,if_false];rw[O];obtain⟨b,eb,hb⟩:=hy;obtain⟨bx,ex,Z⟩:=id hx;have D:es[i]=(es[i].1,cr b):=by rw[<- eb]
     rw[D];dsimp only;refine aa (bW ?_);rw[ex];refine i5 hu hb Z ?_;refine aa (S.state ?_);dsimp only;have yes:J=k->∃ e∈es.toList,TK prog w s.heap k e.2:=λc=>⟨es[i],by simp,⟨b,eb,c ▸ hb⟩⟩
     by_cases B:(adding && decide (J=k))=true
     ·rw[if_pos B];have c:J=k:=by
       simp only[aQ,decide_eq_true_eq] at B;exact B.2
      exact ad (hfound none (.inl (by simp only[aQ] at B;exact B.1)) (yes c))
     ·rw[if_neg B];have sm:t.sameMemory t.moves t.mask=some true:=by unfold sameMemory;rw[if_pos (by simp)]
      rw[sm];dsimp only;rw[if_pos rfl,q2];dsimp only;rw[O,D];dsimp only;refine aa (wpAny_isSame_ref_self ?_);rw[if_pos rfl];refine aa (ad ?_);dsimp only
      by_cases c:J=k
      ·rw[decide_eq_true c,if_pos rfl];exact ad (hfound _ (.inr rfl) (yes c))
      ·rw[decide_eq_false c,if_neg a9];rw[<- ex];refine bJ3 S hu hel hx hM hfound hfree fuel (m + I + 1) _ (by lia) ?_ (λr hr=>?_) ?_
       ·show road t.mask (I + 1) (road t.mask m _)=_;rw[<- aQs,Nat.add_assoc]
       ·rcases Nat.lt_or_eq_of_le (Nat.le_of_lt_succ hr) with d | d
        ·exact ahead r d
        ·rw[d];rw[<- aQs] at G;refine⟨i,es[i],G,O,λz=>c ?_⟩;exact TK.inj ⟨b,eb,hb⟩ z
       ·rcases Nat.lt_or_eq_of_le hmM with d | d
        ·exact d
        ·rw[<- aQs] at G;rw[d] at G;exact absurd (dE.mpr (fH G)) hM
end
section
variable {prog:aC} {w:aR} {A:a7} {E:ae->ai->Prop} {s:ai}
theorem bJ4 (a:Addr) (wanted:Nat):setRelay a wanted=(do
 let (es,_,t) <- setState a
 if aX.sizeAbove wanted > sizeLine then fu "set:memory"
 let (es,t) <- (do
  let some (t,order):=t.relaid (es.map (·.1)) wanted | fu "internal:set-table-without-room"
  let es':=order.filterMap (es[·]?)
  if es'.size != es.size then fu "internal:set-table-lost-an-element"
  pure (es',t))
 storeSet a es t):=by rfl
theorem hbvT {k:List Str} {v:ae} {Q:Bool->ai->Prop} (hk:TK prog w s.heap k v) (h:Q (decide (k=[])) s):aE (aJ prog w) A (hashByValue 8 v) Q E s:=by
 obtain⟨b,rfl,hk⟩:=hk;have D:=hk.typeIs;obtain⟨o,items,n,B,_,hd,hi⟩:=hk;unfold hashByValue;refine aa (wpAny_specialOf D PySem.F.slot_tuple_hash.lookup ?_);dsimp only;refine aa (cP B hd ?_);refine aa ?_;show aE _ _ (forIn items _ _) _ _ s;rw[<- gA];generalize hits:items.toList=j at hi;cases hi with
 | nil =>
  rw[fR];exact ad (ad h)
 | cons h1 h2 =>
  obtain⟨t,e⟩:=f8 h1;subst e;rw[cZ];have G:∀ n x t,hashByValue n (jE x t)=pure false:=λn x t=>by unfold hashByValue;rfl
  rw[G];refine aa (aa (ad ?_));simp only[kC,if_true];refine ad ?_;exact ad (ad (by simpa using h))
def bQp (prog:aC) (w:aR) (h:bf) (es:List (Int × ae)) (t:aX):Prop:=t.plain=true->∀ e∈es,TK prog w h [] e.2
theorem addT {a:Addr} {es:Array (Int × ae)} {ep:Nat} {t:aX} {k:List Str} {x:ae} (S:SetAt s.heap a es ep t) (hu:A.units < cb) (hel:ElT prog w s.heap es.toList) (hpl:bQp prog w s.heap es.toList t) (hx:TK prog w s.heap k x) (hn:es.size + 1<=300) {Q:Bool->ai->Prop}
  (h:∀ h' es' ep' t' added,SetAt h' a es' ep' t'->c8 a s.heap h'->bQp prog w s.heap es'.toList t'->t'.led=t.led ->
   ((added=false/\es'=es/\∃ e∈es.toList,TK prog w s.heap k e.2)\/(added=true/\es'.toList.Perm ((aZ0 prog w k,x)::es.toList)/\¬ ∃ e∈es.toList,TK prog w s.heap k e.2))->Q added { s with heap:=h' }) :
  aE (aJ prog w) A (j6 a x (aZ0 prog w k)) Q E s:=by
 unfold j6 setAddHashedIn;refine bW (aa (S.state ?_));dsimp only;have hbs:byScan x es=false:=by
  obtain⟨b,rfl,_⟩:=hx
  rfl
 rw[hbs];simp only[aS,if_false];obtain⟨y,hy,hf⟩:=bQo S.inv.tab S.inv.le;obtain⟨m,hm,e⟩:=eJu S.inv.tab.mask (aXq t.mask (aZ0 prog w k)) hy;have hm':m < 100000 + 0:=by
  have:=S.inv.tab.mask
  have:t.mask<=511:=by rcases this with z | z | z | z <;> lia
  lia
 refine aa ?_;unfold setSearch;refine bJ3 S hu hel hx (M0:=m) (by rw[e];exact hf) (λi? _ hyes=>?_) (λj r hj hfj ej hrj hno=>?_) 100000 0 none hm' rfl (λm' h'=>absurd h' (Nat.not_lt_zero _)) (Nat.zero_le _)
 ·dsimp only;have q:=h s.heap es ep t false S (kN a s.heap) hpl rfl (.inl ⟨rfl,rfl,hyes⟩);exact ad q
 ·dsimp only;refine aa (S.state ?_);dsimp only;have P:=put_set (x:=x) S.inv hj hfj ej hrj true;obtain⟨p1,p2,p3,p4,p5,p6⟩:=P;have Y:(t.put j).1.dummies=#[]:=p3.nodum;have p3r:Ris (t.put j).1.place.toList:=p3.ris;have p3t:∀ a∈(t.put j).1.place.toList,a<=(t.put j).1.mask:=p3.top;generalize hes:aX.insertAt es (t.put j).2 (aZ0 prog w k,x)=B at p1 p2 p6 ⊢;have D:B.toList.Perm ((aZ0 prog w k,x)::es.toList):=by
   rw[p1];refine fX.trans ?_;rw[bL]
  have rest:∀ tt:aX,tt.place=(t.put j).1.place->tt.dummies=#[]->tt.mask=t.mask->tt.led=t.led->(tt.plain=true->t.plain=true/\k=[])->aE (aJ prog w) A (do
    storeSet a B tt
    if (!false && tt.tooFull)=true then do
     setRelay a (dM (es.size + 1))
     pure true
    else pure true) Q E s:=by
   intro tt h1 h2 h3 h4 h5;have T':Tab tt:=⟨by rw[h3];exact S.inv.tab.mask,h2,by rw[h1];exact p3r,λa ha=>by rw[h1] at ha;rw[h3,<- p5];exact p3t a ha⟩
   have I:∀ J:List (Int × ae),J.Perm ((aZ0 prog w k,x)::es.toList)->∀ t2:aX,t2.plain=tt.plain->bQp prog w s.heap J t2:=by
    intro J hp t2 ht2 hpt ee hee;rw[ht2] at hpt;obtain⟨q1,q2⟩:=h5 hpt;rcases aB.mp (hp.mem_iff.mp hee) with q | q
    ·rw[q,<- q2];exact hx
    ·exact hpl q1 ee q
   have hz:B.size<=sizeLine:=by rw[p2,bh];lia
   refine aa (gP S.obj rfl ?_ hz);have O:(s.heap.update a (dZ B tt)).get? a=some { cls:=.type "set",dict:=none,data:=.set B (ep + 1) tt }:=by
    have:=cD (dZ B tt) S.obj (by rw[hX _ _ rfl];rfl)
    rw[hX _ _ rfl] at this;exact this
   have R:=b6 s.heap a (dZ B tt);have tf:tt.tooFull=decide ((es.size + 1) * 5 >= t.mask * 3):=by
    unfold aX.tooFull kK;rw[h2,h1,p4,h3]
    rfl
   have room:=S.inv.room
   by_cases G:(es.size + 1) * 5 >= t.mask * 3
   ·rw[tf,decide_eq_true G];simp only[kC,Bool.and_self,if_true];obtain⟨mask',hm1,hm2,hm3,hm4⟩:=grow S.inv.tab.mask room G hn;obtain⟨t',order,r1,r2,r3,r4⟩:=cXp (es:=B) tt hm1 hm2 (by rw[p2];exact hm3)
    have U:t'.led=tt.led/\t'.plain=tt.plain:=by
     unfold relaid laid at r1;cases hq:layClean (sizeAbove (grown (es.size + 1)) - 1) (Array.map (·.1) B) with
     | none=>rw[hq] at r1;cases r1
     | some ow=>rw[hq] at r1;cases r1;exact⟨rfl,rfl⟩
    have Z:tt.fits B.size=true:=by
     unfold kJ kK
     have:t.mask >= 7:=by rcases S.inv.tab.mask with z | z | z | z <;> lia
     simp only[aQ,beq_iff_eq,decide_eq_true_eq];rw[h2,h1,p4,p2,h3];refine⟨rfl,?_⟩;show es.size + 1 + 0<=t.mask;lia
    refine aa ?_;rw[bJ4];refine aa (dJ O rfl Z ?_);dsimp only;rw[if_neg hm4,r1];dsimp only;rw[r2];simp only[bne_self_eq_false,aS,if_false,pure_bind];have hz2:(order.filterMap (B[·]?)).size<=sizeLine:=by rw[r2];exact hz
    refine gP O rfl ?_ hz2;have ho2:((s.heap.update a (dZ B tt)).update a (dZ (order.filterMap (B[·]?)) t')).get? a=some { cls:=.type "set",dict:=none,data:=.set (order.filterMap (B[·]?)) (ep + 1 + 1) t' }:=by
     have:=cD (dZ (order.filterMap (B[·]?)) t') O (by rw[hX _ _ rfl];rfl)
     rw[hX _ _ rfl] at this;exact this
    have hsb2:=R.trans (b6 (s.heap.update a (dZ B tt)) a (dZ (order.filterMap (B[·]?)) t'));exact ad (h _ _ _ _ true ⟨ho2,r3⟩ hsb2 (I _ (r4.trans D) _ U.2) (U.1.trans h4) (.inr ⟨rfl,r4.trans D,hno⟩))
   ·rw[tf,decide_eq_false G];simp only[fQ,aS,if_false];have I':SetI B tt:=by
     refine⟨T',by rw[h1,p4,p2],by rw[h3,p2];lia,λi j' e' q1 q2=>?_⟩
     rw[h1] at q1;obtain⟨r,r1,r2⟩:=p6 i j' e' q1 q2;rw[h3,h1];exact⟨r,r1,r2⟩
    exact ad (h _ _ (ep + 1) _ true ⟨O,I'⟩ R (I _ D _ rfl) h4 (.inr ⟨rfl,D,hno⟩))
  by_cases hp:t.plain=true
  ·have L:(t.put j).1.plain=true:=hp;rw[L];simp only[if_true];refine aa (hbvT hx ?_)
   by_cases hk:k=[]
   ·rw[decide_eq_true hk];simp only[if_true];exact rest (t.put j).1 rfl Y p5 rfl (λ_=>⟨hp,hk⟩)
   ·rw[decide_eq_false hk];simp only[aS,if_false];exact rest { (t.put j).1 with plain:=false } rfl Y p5 rfl (λz=>nomatch z)
  ·have L:(t.put j).1.plain=false:=eX.mpr hp;rw[L];simp only[aS,if_false];refine aa (ad ?_);simp only[if_true];exact rest (t.put j).1 rfl Y p5 rfl (λz=>by rw[L] at z;cases z)
theorem eQ5 {a:Addr} {es:Array (Int × ae)} {ep:Nat} {t:aX} {k:List Str} {x:ae} (S:SetAt s.heap a es ep t) (hu:A.units < cb) (hel:ElT prog w s.heap es.toList) (hpl:bQp prog w s.heap es.toList t) (hx:TK prog w s.heap k x) (hn:es.size + 1<=300) {Q:Bool->ai->Prop}
  (h:∀ h' tk es' ep' t' added,SetAt h' a es' ep' t'->c8 a s.heap h'->bQp prog w s.heap es'.toList t'->t'.led=t.led->s.toks<=tk ->
   ((added=false/\es'=es/\∃ e∈es.toList,TK prog w s.heap k e.2)\/(added=true/\es'.toList.Perm ((aZ0 prog w k,x)::es.toList)/\¬ ∃ e∈es.toList,TK prog w s.heap k e.2))->Q added { s with heap:=h',toks:=tk }) :
  aE (aJ prog w) A (setAdd a x) Q E s:=by
 obtain⟨b,rfl,j⟩:=id hx;unfold setAdd;refine bW (aa (wpAny_pyHash_tuple hu j ?_));exact addT (s:={ s with toks:=s.toks + (k.length + 1) }) S hu hel hpl hx hn λh' es' ep' t' added h1 h2 G D B=>h h' _ es' ep' t' added h1 h2 G D (Nat.le_add_right _ _) B
end
def TupKeep (h h':bf):Prop:=∀ b o,h.get? b=some o->o.cls=.type "tuple"->h'.get? b=some o
theorem TupKeep.trans {a b c:bf} (x:TupKeep a b) (y:TupKeep b c):TupKeep a c:=λd o e h=>y d o (x d o e h) h
def setOb (es:Array (Int × ae)) (ep:Nat) (t:aX):Obj:={ cls:=.type "set",dict:=none,data:=.set es ep t }
structure SetKd (prog:aC) (w:aR) (κ:Type) where
 is:bf->κ->ae->Prop
 I:bf->Addr->Array (Int × ae)->Nat->aX->Prop
 inj:∀ {h:bf} {k k':κ} {v:ae},is h k v->is h k' v->k=k'
 obj:∀ {h:bf} {a:Addr} {es:Array (Int × ae)} {ep:Nat} {t:aX},I h a es ep t->h.get? a=some (setOb es ep t)
 fits:∀ {h:bf} {a:Addr} {es:Array (Int × ae)} {ep:Nat} {t:aX},I h a es ep t->t.fits es.size=true
 few:∀ {h:bf} {a:Addr} {es:Array (Int × ae)} {ep:Nat} {t:aX} {ks:List κ},I h a es ep t->a8 (λ(e:Int × ae) k=>is h k e.2) es.toList ks->ks.Nodup->t.plain=true->es.size<=1
 fresh:∀ {h:bf} {a:Addr} {led:Bool},h.get? a=some (setOb #[] 0 (.fresh 0 0 led))->I h a #[] 0 (.fresh 0 0 led)
 keepIs:∀ {h h':bf} {k:κ} {v:ae},is h k v->TupKeep h h'->is h' k v
 keepI:∀ {h h':bf} {a:Addr} {es:Array (Int × ae)} {ep:Nat} {t:aX},I h a es ep t->h'.get? a=h.get? a->TupKeep h h'->I h' a es ep t
 add:∀ {A:a7} {E:ae->ai->Prop} {s:ai} {a:Addr} {es:Array (Int × ae)} {ep:Nat} {t:aX} {k:κ} {x:ae} {Q:Bool->ai->Prop},A.units < cb->I s.heap a es ep t->is s.heap k x->es.size + 1<=300 ->
  (∀ h' tk es' ep' t' added,I h' a es' ep' t'->c8 a s.heap h'->t'.led=t.led->s.toks<=tk ->
   ((added=false/\es'=es/\∃ e∈es.toList,is s.heap k e.2)\/(added=true/\(∃ hh,es'.toList.Perm ((hh,x)::es.toList))/\¬ ∃ e∈es.toList,is s.heap k e.2))->Q added { s with heap:=h',toks:=tk }) ->
  aE (aJ prog w) A (setAdd a x) Q E s
theorem aXf {h h':bf} {a:Addr} {es:Array (Int × ae)} {ep:Nat} {t:aX} (ho:h.get? a=some (setOb es ep t)) (sb:c8 a h h'):TupKeep h h':=λb o e c=>by
 refine(sb.2 b ?_).trans e;rintro rfl;rw[ho] at e;have B:o=setOb es ep t:=(aM e).symm;rw[B] at c;have D:dg "set" = dg "tuple":=c;injection D with j
 exact absurd j (by decide)
section
variable {prog:aC} {w:aR}
theorem TK.keep {h h':bf} {k:List Str} {v:ae} (x:TK prog w h k v) (kp:TupKeep h h'):TK prog w h' k v:=by
 obtain⟨b,rfl,o,items,n,B,j,hd,hi⟩:=x;exact⟨b,rfl,o,items,n,kp b o B j,j,hd,hi⟩
theorem bQq {α β:Type} {R:α->β->Prop}:∀ {l:List α} {m:List β},a8 R l m->∀ a∈l,∃ b∈m,R a b
 | _,_,.nil,a,h=>nomatch h
 | _,_,.cons r t,a,h=>by
  rcases aB.mp h with rfl | h
  ·exact⟨_,am,r⟩
  ·obtain⟨b,j,q⟩:=bQq t a h;exact⟨b,ao _ j,q⟩
theorem paired_mem' {α β:Type} {R:α->β->Prop}:∀ {l:List α} {m:List β},a8 R l m->∀ b∈m,∃ a∈l,R a b
 | _,_,.nil,a,h=>nomatch h
 | _,_,.cons r t,a,h=>by
  rcases aB.mp h with rfl | h
  ·exact⟨_,am,r⟩
  ·obtain⟨b,j,q⟩:=paired_mem' t a h;exact⟨b,ao _ j,q⟩
theorem paired_perm {α β:Type} {R:α->β->Prop} {l l':List α} (p:l'.Perm l):∀ {m:List β},a8 R l m->∃ m',m'.Perm m/\a8 R l' m':=by
 have gen:∀ {l l':List α},l.Perm l'->∀ {m:List β},a8 R l m->∃ m',m'.Perm m/\a8 R l' m':=by
  intro l l' p
  induction p with
  | nil=>intro m h;cases h;exact⟨[],dI _,.nil⟩
  | cons x _ I =>
   intro m h;cases h with
   | cons r t =>
    obtain⟨m',h1,h2⟩:=I t;exact⟨_,h1.cons _,.cons r h2⟩
  | swap x y l =>
   intro m h;cases h with
   | cons r t =>
    cases t with
    | cons D t2=>exact⟨_,kF.swap _ _ _,.cons D (.cons r t2)⟩
  | trans _ _ B j =>
   intro m h;obtain⟨O,a1,L⟩:=B h;obtain⟨G,a2,J⟩:=j L;exact⟨G,a2.trans a1,J⟩
 intro m h;exact gen p.symm h
theorem few_aux {α β:Type} {R:α->β->Prop} {k0:β} {l:List α} {m:List β} (hp:a8 R l m) (h0:∀ a∈l,R a k0) (inj:∀ a b b',R a b->R a b'->b=b') (nd:m.Nodup):l.length<=1:=by
 cases hp with
 | nil=>exact Nat.zero_le _
 | cons B t1 =>
  cases t1 with
  | nil=>exact Nat.le_refl _
  | cons j t2 =>
   have G:=inj _ _ _ (h0 _ am) B;have D:=inj _ _ _ (h0 _ (ao _ am)) j
   have:=(bN.mp nd).1
   exact absurd (by rw[<- G,D];exact am) this
theorem bZ8 {P:Int × ae->Prop}:∀ e∈(#[]:Array (Int × ae)).toList,P e:=λe he=>absurd he (by simp)
def tupKd (prog:aC) (w:aR):SetKd prog w (List Str) where
 is:=TK prog w
 I:=λh a es ep t=>SetAt h a es ep t/\ElT prog w h es.toList/\bQp prog w h es.toList t
 inj:=λa b=>a.inj b
 obj:=λx=>x.1.obj
 fits:=λx=>x.1.inv.fits
 few:=λ{h a es ep t ks} x hp nd hpl=>by
  have q:=few_aux hp (x.2.2 hpl) (λ_ _ _ r1 r2=>r1.inj r2) nd;simpa using q
 fresh:=λho=>⟨⟨ho,dZ0 _ _ _⟩,bZ8,λ_=>bZ8⟩
 keepIs:=λx kp=>x.keep kp
 keepI:=λx e kp=>⟨⟨by rw[e];exact x.1.obj,x.1.inv⟩,λe he=>by
  obtain⟨k,q1,q2⟩:=x.2.1 e he;exact⟨k,q1.keep kp,q2⟩,λhp e he=>(x.2.2 hp e he).keep kp⟩
 add:=λ{A E s a es ep t k x Q} hu hI hx hn h=>by
  obtain⟨S,hel,hpl⟩:=hI;refine eQ5 S hu hel hpl hx hn λh' tk es' ep' t' added h1 h2 h3 h4 h5 h6=>?_;have kp:=aXf S.obj h2;refine h h' tk es' ep' t' added ⟨h1,?_,λhp e he=>(h3 hp e he).keep kp⟩ h2 h4 h5 ?_
  ·intro e he;rcases h6 with⟨_,rfl,_⟩ | ⟨_,hp,_⟩
   ·obtain⟨k,q1,q2⟩:=hel e he;exact⟨k,q1.keep kp,q2⟩
   ·rcases aB.mp (hp.mem_iff.mp he) with q | q
    ·rw[q];exact⟨k,hx.keep kp,rfl⟩
    ·obtain⟨k,q1,q2⟩:=hel e q;exact⟨k,q1.keep kp,q2⟩
  ·rcases h6 with q | ⟨q1,q2,q3⟩
   ·exact .inl q
   ·exact .inr ⟨q1,⟨_,q2⟩,q3⟩
theorem bJ5 (t:aX) (n:Nat):(t.orStandIn n).led=t.led:=by unfold aX.orStandIn;split <;> rfl
theorem addS {A : a7} {E : ae -> ai -> Prop} {s : ai} {a : Addr} {es : Array (Int × ae)} {ep : Nat} {t : aX} {k : Str} {x : ae} {Q : Bool -> ai -> Prop} (ho : s.heap.get? a = some (setOb es ep t)) (hf : t.fits es.size = true) (hel : ElemsOf (strKind prog w) es.toList)
    (hpl : t.plain = true -> es = #[]) (hx : (strKind prog w).is k x = true) (hn : es.size + 1 <= 300)
    (h : ∀ h' es' ep' t' added, h'.get? a = some (setOb es' ep' t') -> t'.fits es'.size = true -> ElemsOf (strKind prog w) es'.toList -> (t'.plain = true -> es' = #[]) -> c8 a s.heap h' -> t'.led = t.led ->
      ((added = false /\ es' = es /\ ∃ e ∈ es.toList, (strKind prog w).is k e.2 = true) \/ (added = true /\ es'.toList.Perm (((strKind prog w).hash k, x) :: es.toList) /\ ¬ ∃ e ∈ es.toList, (strKind prog w).is k e.2 = true)) -> Q added { s with heap := h' }) :
    aE (aJ prog w) A (j6 a x ((strKind prog w).hash k)) Q E s := by
  obtain⟨tok, rfl⟩ := f8 hx;have hb : es.size < scanBound := by unfold scanBound; lia
  unfold j6 setAddHashedIn;refine bW (aa (dJ ho rfl hf ?_));dsimp only;rw [byScan_of rfl hb hel];simp only [↓reduceIte];unfold setAddByScan;refine aa ?_;refine aa (dN ?_);refine aa (wpAny_setScan_of hx ho rfl hf hel ?_);cases hr : List.findIdx? (λe => (strKind prog w).is k e.2) es.toList with
  | some j =>
    dsimp only;obtain⟨hj, hpj, _⟩ := List.findIdx?_eq_some_iff_getElem.mp hr;refine ad (ad ?_);exact h s.heap es ep t false ho hf hel hpl (kN a s.heap) rfl (.inl ⟨rfl, rfl, es.toList[j], cS hj, hpj⟩)
  | none =>
    dsimp only;have hno : ¬ ∃ e ∈ es.toList, (strKind prog w).is k e.2 = true := by
      rintro⟨e, he, Z⟩;have := List.findIdx?_eq_none_iff.mp hr e he;rw [Z] at this; exact Bool.noConfusion this
    have hgw : ∀ (b : Bool) {s1 : ai} {Q' : Unit -> ai -> Prop}, Q' () s1 -> aE (aJ prog w) A (match b with | true => rule "set.scan.the-table-gave-way" | false => pure ()) Q' E s1 :=
      λb s1 Q' hq => by cases b <;> first | exact ad hq | exact dN hq
    have B := layNew_perm t es ((strKind prog w).hash k) (.str k tok);have G := layNew_fits t es ((strKind prog w).hash k) (.str k tok);have I : (layNew t es ((strKind prog w).hash k) (.str k tok)).2.1.led = t.led := by
      unfold layNew
      split
      · exact bJ5 _ _
      · rfl
    generalize hL : layNew t es ((strKind prog w).hash k) (.str k tok) = L at B G I ⊢;obtain⟨es1, t1, J, gave⟩ := L;dsimp only at B G I ⊢;rw [cx] at B;have D : es1.toList.Perm (((strKind prog w).hash k, .str k tok) :: es.toList) := B.trans (iZ _ _);have Y : ElemsOf (strKind prog w) es1.toList := (hel.push hx rfl).perm B;have hsz1 : es1.size = es.size + 1 := by
      have := D.length_eq;simpa using this
    have hz1 : es1.size <= sizeLine := by rw [hsz1, bh]; lia
    refine aa (hgw _ ?_)
    have rest : ∀ t2 : aX, t2.fits es1.size = true -> t2.plain = false -> t2.led = t.led -> aE (aJ prog w) A (do
        storeSet a es1 t2
        if (!J && t2.tooFull) = true then do
            (match (jL t2 es1 (dM es1.size)).2.2 with | true => rule "set.scan.the-table-gave-way" | false => pure ())
            storeSet a (jL t2 es1 (dM es1.size)).1 (jL t2 es1 (dM es1.size)).2.1
            pure (some true)
          else pure (some true)) (λr s' => aE (aJ prog w) A (match r with | some added => pure added | none => setAddHashedIn a (.str k tok) ((strKind prog w).hash k) 99999) Q E s') E s := by
      intro t2 q1 q2 q3;refine aa (gP ho rfl ?_ hz1);have ho1 : (s.heap.update a (dZ es1 t2)).get? a = some (setOb es1 (ep + 1) t2) := by
        have := cD (dZ es1 t2) ho (by rw [hX _ _ rfl]; rfl)
        rw [hX _ _ rfl] at this; exact this
      have U := b6 s.heap a (dZ es1 t2)
      split
      · have Z := relayAll_perm t2 es1 (dM es1.size)
        have hfr := relayAll_fits t2 es1 (dM es1.size);have R : (jL t2 es1 (dM es1.size)).2.1.led = t2.led /\ (jL t2 es1 (dM es1.size)).2.1.plain = false := by
          unfold jL
          split
          · rename_i t' order hq
            have : t'.led = t2.led /\ t'.plain = t2.plain := by
              unfold relaid laid at hq;cases hc : layClean (sizeAbove (dM es1.size) - 1) (Array.map (·.1) es1) with
              | none => rw [hc] at hq; cases hq
              | some ow => rw [hc] at hq; cases hq; exact⟨rfl, rfl⟩
            dsimp only
            split
            · exact⟨this.1, this.2.trans q2⟩
            · exact⟨rfl, rfl⟩
          · exact⟨rfl, rfl⟩
        generalize hRl : jL t2 es1 (dM es1.size) = Rl at Z hfr R ⊢;obtain⟨O, t3, gave2⟩ := Rl;dsimp only at Z hfr R ⊢;have hsz2 : O.size = es1.size := by
          have := Z.length_eq;simpa using this
        refine aa (hgw _ ?_);refine aa (gP ho1 rfl ?_ (by rw [hsz2]; exact hz1))
        have ho2 : ((s.heap.update a (dZ es1 t2)).update a (dZ O t3)).get? a = some (setOb O (ep + 1 + 1) t3) := by
          have := cD (dZ O t3) ho1 (by rw [hX _ _ rfl]; rfl)
          rw [hX _ _ rfl] at this; exact this
        refine ad (ad ?_);exact h _ O _ t3 true ho2 hfr (Y.perm Z) (λz => by rw [R.2] at z; cases z) (U.trans (b6 _ a _)) (R.1.trans q3) (.inr ⟨rfl, Z.trans D, hno⟩)
      · refine ad (ad ?_)
        exact h _ es1 _ t2 true ho1 q1 Y (λz => by rw [q2] at z; cases z) U q3 (.inr ⟨rfl, D, hno⟩)
    split
    · refine aa ?_
      rw [hashByValue_scannable 8 rfl];refine ad ?_;exact rest _ (aX.fits_plain_off G) rfl I
    · rename_i hnp
      refine aa (ad ?_);simp only [↓reduceIte];exact rest t1 G (eX.mpr hnp) I
end
section
variable {prog:aC} {w:aR}
def strKd (prog:aC) (w:aR):SetKd prog w Str where
 is:=λ_ k v=>(eg prog w).is k v=true
 I:=λh a es ep t=>h.get? a=some (setOb es ep t)/\t.fits es.size=true/\ElemsOf (eg prog w) es.toList/\(t.plain=true->es=#[])
 inj:=λa b=>(eg prog w).inj _ _ _ a b
 obj:=λx=>x.1
 fits:=λx=>x.2.1
 few:=λx _ _ hp=>by rw[x.2.2.2 hp];exact Nat.zero_le _
 fresh:=λho=>⟨ho,rfl,bZ8,λ_=>rfl⟩
 keepIs:=λx _=>x
 keepI:=λx e _=>⟨by rw[e];exact x.1,x.2⟩
 add:=λ{A E s a es ep t k x Q} hu hI hx hn h=>by
  obtain⟨ho,hf,hel,hpl⟩:=hI;unfold setAdd;refine bW (aa ((eg prog w).pyHash hx ?_));exact addS (s:={ s with toks:=s.toks + 1 }) ho hf hel hpl hx hn λh' es' ep' t' added h1 h2 h3 h4 h5 h6 h7=>h h' _ es' ep' t' added ⟨h1,h2,h3,h4⟩ h5 h6 (Nat.le_succ _) (by
   rcases h7 with q | ⟨q1,q2,q3⟩
   ·exact .inl q
   ·exact .inr ⟨q1,⟨_,q2⟩,q3⟩)
structure Mem {κ:Type} (D:SetKd prog w κ) (h:bf) (a:Addr) (done:List κ) (led:Bool) (ks:List κ):Prop where
 ex:∃ es ep t,D.I h a es ep t/\t.led=led/\a8 (λ(e:Int × ae) k=>D.is h k e.2) es.toList ks
 nd:ks.Nodup
 mem:∀ k,k∈ks↔k∈done
theorem Mem.keep {κ:Type} {D:SetKd prog w κ} {h h':bf} {a:Addr} {done:List κ} {led:Bool} {ks:List κ} (M:Mem D h a done led ks) (e:h'.get? a=h.get? a) (kp:TupKeep h h'):Mem D h' a done led ks:=by
 obtain⟨es,ep,t,h1,h2,j⟩:=M.ex;exact⟨⟨es,ep,t,D.keepI h1 e kp,h2,L2.Paired.mapP j λ_ _ q=>D.keepIs q kp⟩,M.nd,M.mem⟩
theorem Mem.size {κ:Type} {D:SetKd prog w κ} {h:bf} {a:Addr} {done:List κ} {led:Bool} {ks:List κ} (M:Mem D h a done led ks):ks.length<=done.length :=
 M.nd.length_le_of_subset λk j=>(M.mem k).mp j
theorem addM {κ:Type} [DecidableEq κ] (D:SetKd prog w κ) {A:a7} {E:ae->ai->Prop} {s:ai} {a:Addr} {done:List κ} {led:Bool} {ks:List κ} {k:κ} {x:ae} {Q:Bool->ai->Prop} (hu:A.units < cb) (M:Mem D s.heap a done led ks) (hx:D.is s.heap k x) (hn:ks.length + 1<=300)
  (h:∀ h' tk ks',Mem D h' a (done++[k]) led ks'->c8 a s.heap h'->TupKeep s.heap h'->s.toks<=tk->Q (decide (k∉ks)) { s with heap:=h',toks:=tk }) :
  aE (aJ prog w) A (setAdd a x) Q E s:=by
 obtain⟨es,ep,t,h1,h2,L⟩:=M.ex;have hl:es.size=ks.length:=by have:=bP L;simpa using this
 refine D.add hu h1 hx (by lia) λh' tk G I t' added q1 Z q3 q4 q5=>?_
 have kp:=aXf (D.obj h1) Z;have B:a8 (λ(e:Int × ae) k=>D.is h' k e.2) es.toList ks:=L2.Paired.mapP L λ_ _ q=>D.keepIs q kp;have isin:(∃ e∈es.toList,D.is s.heap k e.2)↔k∈ks:=by
  constructor
  ·rintro⟨e,he,q⟩;obtain⟨J,hk',q'⟩:=bQq L e he;rw[D.inj q q'];exact hk'
  ·intro j;obtain⟨e,he,q⟩:=paired_mem' L k j;exact⟨e,he,q⟩
 rcases q5 with⟨Y,U,O⟩ | ⟨Y,⟨hh,U⟩,O⟩
 ·have j:=isin.mp O;have q:=h h' tk ks ⟨⟨G,I,t',q1,q3.trans h2,by rw[U];exact B⟩,M.nd,λJ=>by
   rw[M.mem J,aN,aI];exact⟨.inl,λz=>z.elim id λz=>by rw[z];exact(M.mem k).mp j⟩⟩ Z kp q4
  rw[decide_eq_false (λz=>z j)] at q;rw[Y];exact q
 ·have j:k∉ks:=λz=>O (isin.mpr z);obtain⟨ks',p1,p2⟩:=paired_perm U (R:=λ(e:Int × ae) k=>D.is h' k e.2) (m:=k::ks) (.cons (D.keepIs hx kp) B);have q:=h h' tk ks' ⟨⟨G,I,t',q1,q3.trans h2,p2⟩,p1.nodup_iff.mpr (bN.mpr ⟨j,M.nd⟩),λJ=>by
   rw[p1.mem_iff,aB,aN,aI,M.mem J];exact⟨λz=>z.symm,λz=>z.symm⟩⟩ Z kp q4
  rw[decide_eq_true j] at q;rw[Y];exact q
theorem dZ4 {κ:Type} [DecidableEq κ] (D:SetKd prog w κ) {A:a7} {R:Result->ai->Prop} {I S l:Addr} {items:Array ae} {ks:List κ} {led:Bool} (hh:A.in1.handled=none) (hu:A.in1.units < cb) (hne:l≠I) (hSI:S≠I) (hSl:S≠l) {cs:List κ} (hcs:∀ k∈ks,k∈cs) (hn:cs.length + 1<=300) :
  ∀ (j i:Nat) (s:ai),items.size - i=j->i<=items.size->s.heap.IsListIter I l i->s.heap.IsList l items->a8 (λv k=>D.is s.heap k v) items.toList ks->(∃ ms,Mem D s.heap S (ks.take i) led ms) ->
   (∀ h' tk ms,Mem D h' S ks led ms->TupKeep s.heap h'->(∀ b o,b≠S->b≠I->s.heap.get? b=some o->h'.get? b=some o)->R (.ok (.ret .none)) { s with heap:=h',toks:=tk }) ->
   jm (aJ prog w) A (.builtin "set.update.loop" ⟨[.ref S,.ref I],[]⟩) R s:=by
 have itk:∀ {h h':bf} {i:Nat},h.IsListIter I l i->(∀ b o,b≠I->h.get? b=some o->h'.get? b=some o)->TupKeep h h':=λst k b o e c=>k b o (by
  rintro rfl;obtain⟨o',e',c',_⟩:=st;rw[e] at e';cases e';rw[c] at c';injection c' with c''
  exact absurd c'' (by decide)) e
 intro j
 induction j with
 | zero =>
  intro i s hj hi B hl O hM hR;have hin:i=items.size:=by lia
  subst hin;refine c5 dh ?_;rw[cK b7 _];show aE _ A.in1 (fh (.ref I) >>= _) _ _ s;refine aa (wpAny_pyNext_list_end hh B hl (by simp) λh' eb=>?_)
  show aE _ A.in1 (ret bM) _ _ _;have kp:=itk B λb o hb e=>eb b o hb e;obtain⟨ms,M⟩:=hM;have hlen:ks.length=items.size:=by have:=bP O;simpa using this.symm
  rw[bG (by lia)] at M
  obtain⟨es,ep,t,h1,_⟩:=id M.ex;have hS:=D.obj h1;exact ad (hR h' s.toks ms (M.keep (by rw[hS];exact eb S _ hSI hS) kp) kp λb o _ hb e=>eb b o hb e)
 | succ j ih =>
  intro i s hj hi B hl O hM hR;have U:i < items.size:=by lia
  refine c5 dh ?_;rw[cK b7 _];show aE _ A.in1 (fh (.ref I) >>= _) _ _ s;refine aa (wpAny_pyNext_list_item B hl (x:=items[i]) (by simp[U]) λh1 st1 G=>?_)
  have J:=itk B λb o hb e=>(G.2 b hb).trans e;obtain⟨ms,M⟩:=hM;obtain⟨es,ep,t,q1,_⟩:=id M.ex;have hS:=D.obj q1;have M1:=M.keep (h':=h1) (by rw[G.2 S hSI]) J
  have hlen:ks.length=items.size:=by have:=bP O;simpa using this.symm
  have hki:ks[i]?=some ks[i]:=ah (by lia)
  have hx:D.is s.heap ks[i] items[i]:=by
   have gen:∀ {l:List ae} {m:List κ},a8 (λv k=>D.is s.heap k v) l m->∀ (n:Nat) (v:ae) (k:κ),l[n]?=some v->m[n]?=some k->D.is s.heap k v:=by
    intro l m O
    induction O with
    | nil=>intro n v k h;simp at h
    | cons r _ ih =>
     intro n v k h1 h2;cases n with
     | zero=>simp at h1 h2;subst h1;subst h2;exact r
     | succ n=>exact ih n v k (by simpa using h1) (by simpa using h2)
   exact gen O i _ _ (by simp[U]) hki
  show aE _ A.in1 (io [items[i]] (setAdd S items[i]) >>= _) _ _ _;refine aa (bW ?_);have hms:ms.length<=cs.length:=M1.nd.length_le_of_subset λk hk=>hcs k (cJ ((M1.mem k).mp hk));refine addM D (s:={ s with heap:=h1 }) hu M1 (D.keepIs hx J) (by lia) λh2 tk ms' M2 L Z htk=>?_
  have hl2:h2.IsList l items:=by
   obtain⟨o,e,r⟩:=hl;exact⟨o,(L.2 l (b8 hSl)).trans ((G.2 l hne).trans e),r⟩
  have st2:h2.IsListIter I l (i + 1):=by
   obtain⟨o,e,r⟩:=st1;exact⟨o,(L.2 I (b8 hSI)).trans e,r⟩
  refine ad ⟨gp b7 _,ih (i + 1) _ (by lia) U st2 hl2 (L2.Paired.mapP O λ_ _ q=>D.keepIs q (J.trans Z)) ⟨ms',?_⟩ λh' tk' Y a1 a2 a3=>?_⟩
  ·have et:ks.take (i + 1)=ks.take i++[ks[i]]:=by rw[bT,hki];rfl
   rw[et];exact M2
  ·exact hR h' tk' Y a1 ((J.trans Z).trans a2) λb o hb1 hb2 e=>a3 b o hb1 hb2 ((L.2 b hb1).trans ((G.2 b hb2).trans e))
abbrev ledOf (w:aR):Bool:=!(w.params.followText "set-order")
theorem cQ8 {A:a7} {E:ae->ai->Prop} {s:ai} (a:ae) {Q1:ae->ai->Prop}
  (h:Q1 (.ref s.heap.objs.size) { s with heap:=s.heap.push (setOb #[] 0 (.fresh 0 0 (ledOf w))) }) :
  jm (aJ prog w) A (.call (.builtin "set.__new__") ⟨[.type "set",a],[]⟩) (wants Q1 E) s:=by
 refine codeAny_of_tree ?_;show aE _ A.in1 (do checkBuiltinCall "set.__new__" ⟨[.type "set",a],[]⟩;again (.builtin "set.__new__" ⟨[.type "set",a],[]⟩)) _ _ s
 refine aa (wpAny_of_eq (PySem.F.newCall_set_1 a) (ad ⟨gp ko _,c5 PySem.F.entry_set_new ?_⟩));rw[cK ko _];unfold b4.«set.__new__» b4.Frozenset.newClass;have j:=sub_set_self;obtain⟨D,g,d,B,os⟩:=s;dsimp only
 wp_walk
 refine fj (ad ?_);dsimp only;simp only[newObj];refine aa (wpAny_alloc (ad ?_));exact ad h
end
section
variable {prog:aC} {w:aR}
theorem call_setKM {κ:Type} [DecidableEq κ] (D:SetKd prog w κ) {A:a7} {E:ae->ai->Prop} {s:ai} {l:Addr} {items:Array ae} {ks:List κ} {Q:ae->ai->Prop}
  (hh:A.handled=none) (hu:A.units + 8 < cb) (hl:s.heap.IsList l items) (hi:a8 (λv k=>D.is s.heap k v) items.toList ks) {cs:List κ} (hcs:∀ k∈ks,k∈cs) (hb:cs.length + 1<=300)
  (h:∀ (h':bf) (tk:Nat) ms,Mem D h' s.heap.objs.size ks (ledOf w) ms->TupKeep s.heap h' ->
   (∀ b o,b < s.heap.objs.size->s.heap.get? b=some o->h'.get? b=some o)->Q (.ref s.heap.objs.size) { s with heap:=h',toks:=tk }) :
  aE (aJ prog w) A (call (.type "set") [.ref l]) Q E s:=by
 obtain⟨c,tl,hmro⟩:=bE.mro;have hmade:=bE.made;have hsub:=bE.sub;refine wpAny_call (codeAny_of_tree ?_);show aE _ _ (callAny (.type "set") _) _ _ _;refine ad ⟨Code.quiet_builtin _ (by decide +kernel),c5 jM ?_⟩
 rw[Around.under_plain (weight_type_call_type "set" [.ref l] []) rfl];have h1:=bE.notType;have h2:=bE.canCreate;have hct:=j7 (.ref l)
 repeat (any_goals (first | assumption | wp_step))
 refine fW (cQ8 (.ref l) (E:=E) (Q1:=λobj s1=>obj=.ref s.heap.objs.size/\s1={ s with heap:=s.heap.push (setOb #[] 0 (.fresh 0 0 (ledOf w))) }) ⟨rfl,rfl⟩) λr s1 hr=>?_
 cases r with
 | error e=>exact hr
 | ok fl =>
  cases fl with
  | ret obj =>
   obtain⟨rfl,rfl⟩:=hr;have hS:(s.heap.push (setOb #[] 0 (.fresh 0 0 (ledOf w)))).get? s.heap.objs.size=some (setOb #[] 0 (.fresh 0 0 (ledOf w))):=au _ rfl;have hT:jw { s with heap:=s.heap.push (setOb #[] 0 (.fresh 0 0 (ledOf w))) } (.ref s.heap.objs.size) "set":=⟨_,hS,rfl⟩
   have hli:=bE.init.lookup;have hbi:=bE.init.bind (.ref s.heap.objs.size)
   repeat (any_goals (first | assumption | wp_step))
   refine fW (codeAny_call_builtin (R:=wants (λr s2=>r=.none/\∃ h' tk ms,s2={ s with heap:=h',toks:=tk }/\Mem D h' s.heap.objs.size ks (ledOf w) ms/\TupKeep s.heap h' /\
     (∀ b o,b < s.heap.objs.size->s.heap.get? b=some o->h'.get? b=some o)) E) bE.init.plain j8 (check_set_init_1 hT ?_)) λr2 s2 I=>?_
   ·obtain⟨ol,O,hcl,nl,hdl⟩:=hl;obtain⟨ocls,B,odata,j⟩:=ol;simp only at hcl hdl;subst hcl;subst hdl;have L:(s.heap.push (setOb #[] 0 (.fresh 0 0 (ledOf w)))).get? l=some { cls:=.type "list",dict:=B,data:=.seq items nl,slots:=j }:=ag _ O;have hsls:=PySem.F.sub_list_set;have hslf:=PySem.F.sub_list_frozenset;have hne:(dg "list" == dg "dict")=false:=by decide
    have Z:(s.heap.push (setOb #[] 0 (.fresh 0 0 (ledOf w)))).IsList l items:=⟨_,L,rfl,nl,rfl⟩;unfold b4.«set.__init__» noKeywords iB;generalize hPI:pyIter=PI;unfold setOb at *
    wp_walk
    subst hPI;refine gQ Z ?_;refine aa (wpAny_runValue ?_);have Y:l < s.heap.objs.size:=ay O;have hh3:A.in1.in1.in1.handled=none:=by simp[hh]
    have hu3:A.in1.in1.in1.units < cb:=by show A.units + 1 + 1 + 1 < cb;lia
    have U:l≠(s.heap.push { cls:=.type "set",dict:=none,data:=.set #[] 0 (.fresh 0 0 (ledOf w)) }).objs.size:=by
     rw[b5];exact Nat.ne_of_lt (Nat.lt_succ_of_lt Y)
    have hSI:s.heap.objs.size≠(s.heap.push { cls:=.type "set",dict:=none,data:=.set #[] 0 (.fresh 0 0 (ledOf w)) }).objs.size:=by
     rw[b5];exact Nat.ne_of_lt (Nat.lt_succ_self _)
    have kp:TupKeep s.heap ((s.heap.push { cls:=.type "set",dict:=none,data:=.set #[] 0 (.fresh 0 0 (ledOf w)) }).push { cls:=.type "list_iterator",data:=.fields #[.ref l,.int 0 0] }):=λb o e _=>ag _ (ag _ e)
    have hget:((s.heap.push { cls:=.type "set",dict:=none,data:=.set #[] 0 (.fresh 0 0 (ledOf w)) }).push { cls:=.type "list_iterator",data:=.fields #[.ref l,.int 0 0] }).get? s.heap.objs.size
       = some (setOb #[] 0 (.fresh 0 0 (ledOf w))):=ag _ hS
    refine dZ4 D hh3 hu3 U hSI (b8 (Nat.ne_of_lt Y)) hcs hb (items.size - 0) 0 _ (by lia) (Nat.zero_le _) ⟨_,au _ rfl,rfl,rfl⟩ (Z.push _) (L2.Paired.mapP hi λ_ _ q=>D.keepIs q kp)
     ⟨[],⟨⟨#[],0,.fresh 0 0 (ledOf w),D.fresh hget,rfl,.nil⟩,eB,λk=>by simp⟩⟩ ?hR
    case hR =>
     intro h' tk' ms hM G J;show aE _ _ _ _ _ _;refine ad ?_;show aE _ _ (ret bM) _ _ _;refine ad ⟨rfl,h',tk',ms,rfl,hM,kp.trans G,λb o hb e=>?_⟩;exact J b o (Nat.ne_of_lt hb) (by rw[b5];exact Nat.ne_of_lt (Nat.lt_succ_of_lt hb)) (ag _ (ag _ e))
   ·cases r2 with
    | error e=>exact I
    | ok fl2 =>
     cases fl2 with
     | ret r =>
      obtain⟨rfl,h',tk,ms,rfl,hM,G,J⟩:=I
      repeat (any_goals (first | assumption | wp_step))
      exact h _ _ _ hM G J
     | _=>exact I.elim
  | _=>exact hr.elim
theorem call_setK {κ:Type} [DecidableEq κ] (D:SetKd prog w κ) {A:a7} {E:ae->ai->Prop} {s:ai} {l:Addr} {items:Array ae} {ks:List κ} {Q:ae->ai->Prop}
  (hh:A.handled=none) (hu:A.units + 8 < cb) (hl:s.heap.IsList l items) (hi:a8 (λv k=>D.is s.heap k v) items.toList ks) (hb:items.size + 1<=300)
  (h:∀ (h':bf) (tk:Nat) ms,Mem D h' s.heap.objs.size ks (ledOf w) ms->TupKeep s.heap h' ->
   (∀ b o,b < s.heap.objs.size->s.heap.get? b=some o->h'.get? b=some o)->Q (.ref s.heap.objs.size) { s with heap:=h',toks:=tk }) :
  aE (aJ prog w) A (call (.type "set") [.ref l]) Q E s :=
 call_setKM D hh hu hl hi (cs:=ks) (λ_ h=>h) (by have:=bP hi;simp at this;lia) h
end
section
variable {prog:aC} {w:aR}
theorem cXq {κ:Type} [DecidableEq κ] (D:SetKd prog w κ) {A:a7} {R:Result->ai->Prop} {I S l:Addr} {items:Array ae} {ks:List κ} {led:Bool} (hh:A.in1.handled=none) (hu:A.in1.units < cb) (hne:l≠I) (hSI:S≠I) (hSl:S≠l) (hn:items.size + 1<=300) :
  ∀ (j i:Nat) (s:ai),items.size - i=j->i<=items.size->s.heap.IsTupleIter I l i->s.heap.IsTuple l items->a8 (λv k=>D.is s.heap k v) items.toList ks->(∃ ms,Mem D s.heap S (ks.take i) led ms) ->
   (∀ h' tk ms,Mem D h' S ks led ms->TupKeep s.heap h'->(∀ b o,b≠S->b≠I->s.heap.get? b=some o->h'.get? b=some o)->R (.ok (.ret .none)) { s with heap:=h',toks:=tk }) ->
   jm (aJ prog w) A (.builtin "set.update.loop" ⟨[.ref S,.ref I],[]⟩) R s:=by
 have itk:∀ {h h':bf} {i:Nat},h.IsTupleIter I l i->(∀ b o,b≠I->h.get? b=some o->h'.get? b=some o)->TupKeep h h':=λst k b o e c=>k b o (by
  rintro rfl;obtain⟨o',e',c',_⟩:=st;rw[e] at e';cases e';rw[c] at c';injection c' with c''
  exact absurd c'' (by decide)) e
 intro j
 induction j with
 | zero =>
  intro i s hj hi B hl O hM hR;have hin:i=items.size:=by lia
  subst hin;refine c5 dh ?_;rw[cK b7 _];show aE _ A.in1 (fh (.ref I) >>= _) _ _ s;refine aa (wpAny_pyNext_tuple_end hh B hl (by simp) λh' eb=>?_)
  show aE _ A.in1 (ret bM) _ _ _;have kp:=itk B λb o hb e=>eb b o hb e;obtain⟨ms,M⟩:=hM;have hlen:ks.length=items.size:=by have:=bP O;simpa using this.symm
  rw[bG (by lia)] at M
  obtain⟨es,ep,t,h1,_⟩:=id M.ex;have hS:=D.obj h1;exact ad (hR h' s.toks ms (M.keep (by rw[hS];exact eb S _ hSI hS) kp) kp λb o _ hb e=>eb b o hb e)
 | succ j ih =>
  intro i s hj hi B hl O hM hR;have U:i < items.size:=by lia
  refine c5 dh ?_;rw[cK b7 _];show aE _ A.in1 (fh (.ref I) >>= _) _ _ s;refine aa (wpAny_pyNext_tuple_item B hl (x:=items[i]) (by simp[U]) λh1 st1 G=>?_)
  have J:=itk B λb o hb e=>(G.2 b hb).trans e;obtain⟨ms,M⟩:=hM;obtain⟨es,ep,t,q1,_⟩:=id M.ex;have hS:=D.obj q1;have M1:=M.keep (h':=h1) (by rw[G.2 S hSI]) J
  have hlen:ks.length=items.size:=by have:=bP O;simpa using this.symm
  have hki:ks[i]?=some ks[i]:=ah (by lia)
  have hx:D.is s.heap ks[i] items[i]:=by
   have gen:∀ {l:List ae} {m:List κ},a8 (λv k=>D.is s.heap k v) l m->∀ (n:Nat) (v:ae) (k:κ),l[n]?=some v->m[n]?=some k->D.is s.heap k v:=by
    intro l m O
    induction O with
    | nil=>intro n v k h;simp at h
    | cons r _ ih =>
     intro n v k h1 h2;cases n with
     | zero=>simp at h1 h2;subst h1;subst h2;exact r
     | succ n=>exact ih n v k (by simpa using h1) (by simpa using h2)
   exact gen O i _ _ (by simp[U]) hki
  show aE _ A.in1 (io [items[i]] (setAdd S items[i]) >>= _) _ _ _;refine aa (bW ?_);refine addM D (s:={ s with heap:=h1 }) hu M1 (D.keepIs hx J) (by have:=M1.size;rw[aK] at this;lia) λh2 tk ms' M2 L Z htk=>?_
  have hl2:h2.IsTuple l items:=by
   obtain⟨o,e,r⟩:=hl;exact⟨o,(L.2 l (b8 hSl)).trans ((G.2 l hne).trans e),r⟩
  have st2:h2.IsTupleIter I l (i + 1):=by
   obtain⟨o,e,r⟩:=st1;exact⟨o,(L.2 I (b8 hSI)).trans e,r⟩
  refine ad ⟨gp b7 _,ih (i + 1) _ (by lia) U st2 hl2 (L2.Paired.mapP O λ_ _ q=>D.keepIs q (J.trans Z)) ⟨ms',?_⟩ λh' tk' Y a1 a2 a3=>?_⟩
  ·have et:ks.take (i + 1)=ks.take i++[ks[i]]:=by rw[bT,hki];rfl
   rw[et];exact M2
  ·exact hR h' tk' Y a1 ((J.trans Z).trans a2) λb o hb1 hb2 e=>a3 b o hb1 hb2 ((L.2 b hb1).trans ((G.2 b hb2).trans e))
theorem call_setT {κ:Type} [DecidableEq κ] (D:SetKd prog w κ) {A:a7} {E:ae->ai->Prop} {s:ai} {l:Addr} {items:Array ae} {ks:List κ} {Q:ae->ai->Prop}
  (hh:A.handled=none) (hu:A.units + 8 < cb) (hl:s.heap.IsTuple l items) (hi:a8 (λv k=>D.is s.heap k v) items.toList ks) (hb:items.size + 1<=300)
  (h:∀ (h':bf) (tk:Nat) ms,Mem D h' s.heap.objs.size ks (ledOf w) ms->TupKeep s.heap h' ->
   (∀ b o,b < s.heap.objs.size->s.heap.get? b=some o->h'.get? b=some o)->Q (.ref s.heap.objs.size) { s with heap:=h',toks:=tk }) :
  aE (aJ prog w) A (call (.type "set") [.ref l]) Q E s:=by
 obtain⟨c,tl,hmro⟩:=bE.mro;have hmade:=bE.made;have hsub:=bE.sub;refine wpAny_call (codeAny_of_tree ?_);show aE _ _ (callAny (.type "set") _) _ _ _;refine ad ⟨Code.quiet_builtin _ (by decide +kernel),c5 jM ?_⟩
 rw[Around.under_plain (weight_type_call_type "set" [.ref l] []) rfl];have h1:=bE.notType;have h2:=bE.canCreate;have hct:=j7 (.ref l)
 repeat (any_goals (first | assumption | wp_step))
 refine fW (cQ8 (.ref l) (E:=E) (Q1:=λobj s1=>obj=.ref s.heap.objs.size/\s1={ s with heap:=s.heap.push (setOb #[] 0 (.fresh 0 0 (ledOf w))) }) ⟨rfl,rfl⟩) λr s1 hr=>?_
 cases r with
 | error e=>exact hr
 | ok fl =>
  cases fl with
  | ret obj =>
   obtain⟨rfl,rfl⟩:=hr;have hS:(s.heap.push (setOb #[] 0 (.fresh 0 0 (ledOf w)))).get? s.heap.objs.size=some (setOb #[] 0 (.fresh 0 0 (ledOf w))):=au _ rfl;have hT:jw { s with heap:=s.heap.push (setOb #[] 0 (.fresh 0 0 (ledOf w))) } (.ref s.heap.objs.size) "set":=⟨_,hS,rfl⟩
   have hli:=bE.init.lookup;have hbi:=bE.init.bind (.ref s.heap.objs.size)
   repeat (any_goals (first | assumption | wp_step))
   refine fW (codeAny_call_builtin (R:=wants (λr s2=>r=.none/\∃ h' tk ms,s2={ s with heap:=h',toks:=tk }/\Mem D h' s.heap.objs.size ks (ledOf w) ms/\TupKeep s.heap h' /\
     (∀ b o,b < s.heap.objs.size->s.heap.get? b=some o->h'.get? b=some o)) E) bE.init.plain j8 (check_set_init_1 hT ?_)) λr2 s2 I=>?_
   ·obtain⟨ol,O,hcl,nl,hdl⟩:=hl;obtain⟨ocls,B,odata,j⟩:=ol;simp only at hcl hdl;subst hcl;subst hdl;have L:(s.heap.push (setOb #[] 0 (.fresh 0 0 (ledOf w)))).get? l=some { cls:=.type "tuple",dict:=B,data:=.seq items nl,slots:=j }:=ag _ O;have hsls:=PySem.F.sub_tuple_set;have hslf:=PySem.F.sub_tuple_frozenset;have hne:(dg "tuple" == dg "dict")=false:=by decide
    have Z:(s.heap.push (setOb #[] 0 (.fresh 0 0 (ledOf w)))).IsTuple l items:=⟨_,L,rfl,nl,rfl⟩;unfold b4.«set.__init__» noKeywords iB;generalize hPI:pyIter=PI;unfold setOb at *
    wp_walk
    subst hPI;refine eN Z ?_;refine aa (wpAny_runValue ?_);have Y:l < s.heap.objs.size:=ay O;have hh3:A.in1.in1.in1.handled=none:=by simp[hh]
    have hu3:A.in1.in1.in1.units < cb:=by show A.units + 1 + 1 + 1 < cb;lia
    have U:l≠(s.heap.push { cls:=.type "set",dict:=none,data:=.set #[] 0 (.fresh 0 0 (ledOf w)) }).objs.size:=by
     rw[b5];exact Nat.ne_of_lt (Nat.lt_succ_of_lt Y)
    have hSI:s.heap.objs.size≠(s.heap.push { cls:=.type "set",dict:=none,data:=.set #[] 0 (.fresh 0 0 (ledOf w)) }).objs.size:=by
     rw[b5];exact Nat.ne_of_lt (Nat.lt_succ_self _)
    have kp:TupKeep s.heap ((s.heap.push { cls:=.type "set",dict:=none,data:=.set #[] 0 (.fresh 0 0 (ledOf w)) }).push { cls:=.type "tuple_iterator",data:=.fields #[.ref l,.int 0 0] }):=λb o e _=>ag _ (ag _ e)
    have hget:((s.heap.push { cls:=.type "set",dict:=none,data:=.set #[] 0 (.fresh 0 0 (ledOf w)) }).push { cls:=.type "tuple_iterator",data:=.fields #[.ref l,.int 0 0] }).get? s.heap.objs.size
       = some (setOb #[] 0 (.fresh 0 0 (ledOf w))):=ag _ hS
    refine cXq D hh3 hu3 U hSI (b8 (Nat.ne_of_lt Y)) hb (items.size - 0) 0 _ (by lia) (Nat.zero_le _) ⟨_,au _ rfl,rfl,rfl⟩ (Z.push _) (L2.Paired.mapP hi λ_ _ q=>D.keepIs q kp)
     ⟨[],⟨⟨#[],0,.fresh 0 0 (ledOf w),D.fresh hget,rfl,.nil⟩,eB,λk=>by simp⟩⟩ ?hR
    case hR =>
     intro h' tk' ms hM G J;show aE _ _ _ _ _ _;refine ad ?_;show aE _ _ (ret bM) _ _ _;refine ad ⟨rfl,h',tk',ms,rfl,hM,kp.trans G,λb o hb e=>?_⟩;exact J b o (Nat.ne_of_lt hb) (by rw[b5];exact Nat.ne_of_lt (Nat.lt_succ_of_lt hb)) (ag _ (ag _ e))
   ·cases r2 with
    | error e=>exact I
    | ok fl2 =>
     cases fl2 with
     | ret r =>
      obtain⟨rfl,h',tk,ms,rfl,hM,G,J⟩:=I
      repeat (any_goals (first | assumption | wp_step))
      exact h _ _ _ hM G J
     | _=>exact I.elim
  | _=>exact hr.elim
end
end ST
set_option maxHeartbeats 1000000
namespace L2
open PySem PySem.Spec PyProof.Rows
variable {α β:Type}
theorem cXr {H:Hp} {xs:List V} {us:List ae} {bs:List Bool} (p:a8 (dB H) xs bs) (r:Vals xs us) {i:Nat} {v:ae} (h:us[i]?=some v):∃ b,bs[i]?=some b/\v=.bool b:=by
 have G:=r.length;have hi:i < xs.length:=by
  rcases Nat.lt_or_ge i us.length with z | z
  ·omega
  ·rw[ci z] at h;cases h
 obtain⟨b,e,D⟩:=Paired.get' p (ah hi);obtain⟨u,eu,B⟩:=r.get (ah hi);rw[h] at eu;cases eu;have j:xs[i]=V.bl b:=D;rw[j] at B;exact⟨b,e,B⟩
theorem cQ9 {h h':bf} {o:Obj} (hk:∀ b x,b∉[h.objs.size]->(h.push o).get? b=some x->h'.get? b=some x):∀ b x,h.get? b=some x->h'.get? b=some x:=λb x e =>
 hk b x (λz=>by have:=aI.mp z;subst this;exact Nat.lt_irrefl _ (ay e)) (ag _ e)
theorem cZm (bs:List Bool):∀ n,n=bs.length->((aH n).all λi=>(bs[i]?).getD true)=bs.all id:=by
 rintro n rfl;rw[eG,bF,bF];refine⟨λh b B=>?_,λh i hi=>?_⟩
 ·obtain⟨i,hi,rfl⟩:=bO B
  have:=h i (bu.mpr hi)
  rwa [ah hi] at this
 ·have j:=bu.mp hi;rw[ah j];exact h _ (cS j)
theorem cZn (bs:List Bool):∀ n,n=bs.length->((aH n).any λi=>(bs[i]?).getD false)=bs.any id:=by
 rintro n rfl;rw[eG,jN,jN];refine⟨λ⟨i,hi,h⟩=>?_,λ⟨b,B,h⟩=>?_⟩
 ·have j:=bu.mp hi;rw[ah j] at h;exact⟨_,cS j,h⟩
 ·obtain⟨i,hi,rfl⟩:=bO B;exact⟨i,bu.mpr hi,by rw[ah hi];exact h⟩
section
variable {X:Cx}
theorem cXs (hc:X.calm=true):CallR X (.builtin "all") (λxs H Q=>∃ x bs,xs=[x]/\dL X.K dB H x bs/\Q (.bl (bs.all id)) H):=by
 intro pins s σ H xs us Q I r h;obtain⟨x,bs,rfl,⟨a,ys,rfl,J,p⟩,q⟩:=h;obtain⟨u,rfl,rx⟩:=aZo r;cases rx;obtain⟨j,B,pl,_⟩:=I.list J;obtain⟨o,L,_⟩:=id pl.isList;refine PySem.call_all_walk (gQ pl.isList ⟨_,_,_,_,_,_,λi=>(bs[i]?).getD true,rfl,PySem.Walks.list (A:=X.A.in1) (by have:=I.ok.hd hc;simp[this]) _ a (Nat.ne_of_lt (ay L)) j.toArray,⟨⟨_,au _ rfl,rfl,rfl⟩,pl.isList.push _⟩,λi v s' U Y R D=>?_,λh' G O=>?_⟩)
 ·obtain⟨b,e,rfl⟩:=cXr p B (show j[i]?=some v by simpa using R)
  simp only[e,Option.getD_some] at D;exact eD D
 ·rw[cZm bs _ (by rw[ar,<- B.length,p.length])]
  exact⟨.bl _,H,I.kept (t':=G) (cQ9 O),rfl,q⟩
theorem cXt (hc:X.calm=true):CallR X (.builtin "any") (λxs H Q=>∃ x bs,xs=[x]/\dL X.K dB H x bs/\Q (.bl (bs.any id)) H):=by
 intro pins s σ H xs us Q I r h;obtain⟨x,bs,rfl,⟨a,ys,rfl,J,p⟩,q⟩:=h;obtain⟨u,rfl,rx⟩:=aZo r;cases rx;obtain⟨j,B,pl,_⟩:=I.list J;obtain⟨o,L,_⟩:=id pl.isList;refine PySem.call_any_walk (gQ pl.isList ⟨_,_,_,_,_,_,λi=>(bs[i]?).getD false,rfl,PySem.Walks.list (A:=X.A.in1) (by have:=I.ok.hd hc;simp[this]) _ a (Nat.ne_of_lt (ay L)) j.toArray,⟨⟨_,au _ rfl,rfl,rfl⟩,pl.isList.push _⟩,λi v s' U Y R D=>?_,λh' G O=>?_⟩)
 ·obtain⟨b,e,rfl⟩:=cXr p B (show j[i]?=some v by simpa using R)
  simp only[e,Option.getD_some] at D;exact eD D
 ·rw[cZn bs _ (by rw[ar,<- B.length,p.length])]
  exact⟨.bl _,H,I.kept (t':=G) (cQ9 O),rfl,q⟩
def SzOk (ds:List α) (n:Nat):Prop:=n<=ds.length/\(n=ds.length↔ds.Nodup)
theorem aJe [DecidableEq α]:∀ (ds ms:List α),ms.Nodup->ms ⊆ ds->ds.length<=ms.length->ds.Nodup
 | [],_,_,_,_=>eB
 | x::xs,ms,nd,sub,le=>by
  have B:x∉xs:=λB=>by
   have:ms ⊆ xs:=λk D=>by
    rcases aB.mp (sub D) with rfl | z
    ·exact B
    ·exact z
   have:=nd.length_le_of_subset this
   simp only[aV] at le;omega
  refine bN.mpr ⟨B,aJe xs (ms.erase x) (nd.erase x) (λk D=>?_) ?_⟩
  ·have j:=(iW.mem_erase_iff nd).mp D;exact(aB.mp (sub j.2)).resolve_left j.1
  ·simp only[aV] at le
   have:=List.length_erase (a:=x) (l:=ms)
   split at this <;> omega
theorem cXu [DecidableEq α] {ds ms:List α} (nd:ms.Nodup) (h:∀ k,k∈ms↔k∈ds):SzOk ds ms.length:=by
 have sub:ms ⊆ ds:=λk B=>(h k).mp B;have le:ms.length<=ds.length:=nd.length_le_of_subset sub;refine⟨le,λe=>?_,λj=>Nat.le_antisymm le (j.length_le_of_subset λk B=>(h k).mpr B)⟩;exact aJe ds ms nd sub (by omega)
theorem eJw {P:aC} {w:aR} {h:bf} {H:Hp} {K:Fg} {b:Addr} {xs:List V} {its:List ae} {k:List Str} (p:a8 (dS H) xs k) (r:Vals xs its) (t:jh h b its.toArray):ST.TK P w h k (.ref b):=by
 obtain⟨o,B,D,n,hd⟩:=t;refine⟨b,rfl,o,its.toArray,n,B,D,hd,?_⟩;show ItemsAre (eg P w) k its;have go:∀ {xs:List V} {its:List ae} {k:List Str},a8 (dS H) xs k->Vals xs its->ItemsAre (eg P w) k its:=by
  intro xs its k p r
  induction p generalizing its with
  | nil=>cases r;first | exact trivial | exact .nil
  | cons e _ j =>
   cases r with
   | cons r t =>
    cases e;obtain⟨G,rfl⟩:=r
    first
     | exact⟨by simp[eg,ik],j t⟩
     | exact .cons (by simp[eg,ik]) (j t)
 exact go p r
theorem cXv {P:aC} {w:aR} {H:Hp} {h:bf}:∀ {xs:List V} {us:List ae} {ds:List Str},a8 (dS H) xs ds->Vals xs us->a8 (λv k=>(ST.strKd P w).is h k v) us ds
 | _,_,_,.nil,.nil=>.nil
 | _,_,_,.cons p q,.cons r t=>by
  refine .cons ?_ (cXv q t);cases p;obtain⟨j,rfl⟩:=r;unfold ST.strKd;simp[eg,ik]
end
end L2
set_option maxHeartbeats 4000000
namespace L2
open PySem PySem.Spec PyProof.Rows
section
variable {prog:aC} {w:aR} {A:a7} {E:ae->ai->Prop} {s:ai}
theorem bZ9 {it t:Addr} {i:Nat} {items:Array ae} {x:ae} {Q:ae->ai->Prop} (hit:s.heap.IsTupleIter it t i) (ht:s.heap.IsTuple t items) (hx:items[i]?=some x)
  (hQ:∀ h',h'.IsTupleIter it t (i + 1)->c8 it s.heap h'->Q x { s with heap:=h' }):aE (aJ prog w) A (cM (.ref it)) Q E s:=by
 obtain⟨o,j,G,hd⟩:=id hit;obtain⟨ol,B,_,nl,D⟩:=ht;have ne:¬ ((cr t == bM)=true):=a9;refine aa (bK (name:=aG "__next__") hit.typeIs F.slot_tuple_iterator_next (bI F.slot_tuple_iterator_next hit.typeIs F.entry_tuple_iterator_next ?_ (F.args_tuple_iterator_next_1 _)));refine aa (m:=field (.ref it) 0) (cj j hd (x:=.ref t) rfl ?_);refine(if_neg ne).symm ▸ (aa (m:=field (.ref it) 1) (cj j hd (x:=.int i 0) rfl ?_));refine aa (m:=seqItems? (.ref t)) (cP B D ?_);simp only[ce,hx];refine aa (wpAny_setField j hd (by simp) (ad ⟨x,rfl,ad (hQ _ ⟨_,cD _ j (Obj.isFreed_of_fields (Obj.data_mapFields hd _)),(Obj.cls_mapFields ..).trans G,?_⟩ (b6 ..))⟩))
 rw[Obj.data_mapFields hd];simp[eR]
theorem cQa {it t:Addr} {i:Nat} {items:Array ae} {Q:ae->ai->Prop} (hh:A.handled=none) (hit:s.heap.IsTupleIter it t i) (ht:s.heap.IsTuple t items) (hx:items[i]?=none)
  (hE:∀ h' e,bf.ExtBut it s.heap h'->(∃ o,h'.get? e=some o/\o.cls=.type "StopIteration")->E (.ref e) { s with heap:=h' }):aE (aJ prog w) A (cM (.ref it)) Q E s:=by
 obtain⟨o,B,G,hd⟩:=id hit;obtain⟨ol,j,_,nl,D⟩:=ht;have ne:¬ ((cr t == bM)=true):=a9;refine aa (bK (name:=aG "__next__") hit.typeIs F.slot_tuple_iterator_next (bI F.slot_tuple_iterator_next hit.typeIs F.entry_tuple_iterator_next ?_ (F.args_tuple_iterator_next_1 _)));refine aa (m:=field (.ref it) 0) (cj B hd (x:=.ref t) rfl ?_);refine(if_neg ne).symm ▸ (aa (m:=field (.ref it) 1) (cj B hd (x:=.int i 0) rfl ?_));refine aa (m:=seqItems? (.ref t)) (cP j D ?_);simp only[ce,hx];refine aa (dN (aa (wpAny_setField B hd (by simp) (aa (m:=newExc (.type "StopIteration") []) ?_))))
 simp only[newExc,newTuple];refine aa (bA (aa (m:=i6 _ _) (wpAny_of_eq (a:=bM) (by first | rfl | (simp only[i6];rfl)) (bA ?_ (by size_fits)))) (by size_fits))
 simp only[raiseNew];refine aa (wpAny_handled ?_)
 first | rw[show A.in1.handled=none from hh] | rw[hh]
 exact aa (ad (wpAny_throw (hE _ _ (((b6 ..).extBut.push _).push _) ⟨_,au _ rfl,rfl⟩)))
theorem cXw (hh:A.handled=none) (it l:Addr) (hne:l≠it) (items:Array ae):Draws prog w A it [it,l] items.size (λi v=>items[i]?=some v) (λi h=>h.IsTupleIter it l i/\h.IsTuple l items) where
 live:=λ_ _ st=>let ⟨o,B,_⟩:=st.1;⟨o,B⟩
 frame:=λ_ _ _ st G=>⟨let ⟨o,B,r⟩:=st.1;⟨o,G it (by simp) o B,r⟩,let ⟨o,B,r⟩:=st.2;⟨o,G l (by simp) o B,r⟩⟩
 item:=λi s Q E hi st I=>bZ9 st.1 st.2 (x:=items[i]) (by simp[hi]) λh' D j=>I _ h' s.toks (by simp[hi]) ⟨D,st.2.extBut j.extBut hne⟩ j
 done:=λs Q E st J=>cQa hh st.1 st.2 (by simp) J
theorem eJx (l:Addr) (items:Array ae) (n:Nat) (dct:Option Addr) (sl:Array (Option ae)) :
  Meets (b4.«enumerate.__new__» ⟨[.type "enumerate",.ref l],[]⟩) (λ_ R s=>s.heap.get? l=some { cls:=.type "tuple",dict:=dct,data:=.seq items n,slots:=sl } /\
   R (.ok (.ret (.ref (s.heap.push { cls:=.type "tuple_iterator",data:=.fields #[.ref l,.int 0 0] }).objs.size)))
    { s with heap:=(s.heap.push { cls:=.type "tuple_iterator",data:=.fields #[.ref l,.int 0 0] }).push { cls:=.type "enumerate",data:=.fields #[.none,.bool false,.ref s.heap.objs.size,eR 0,.none,.none] } }) :=
 .of_wp λprog w A R s h=>by
  obtain⟨I,g,d,G,os⟩:=s;obtain⟨j,h⟩:=h;have B:=sub_enumerate;have D:j9 (ai.heap ⟨I,g,d,G,os⟩) l items:=⟨_,j,rfl,n,rfl⟩
  wp_walk using eV j
  refine wpAny_stack_any λst=>ad ?_
  split
  ·rename_i c _ _ _ _ _;cases (c == dg "enumerate") <;>
   ·wp_walk using eV j,eN D
    exact⟨_,rfl,h⟩
  ·wp_walk using eV j,eN D
   exact⟨_,rfl,h⟩
theorem eQ6 {l:Addr} {items:Array ae} {Q:ae->ai->Prop} (hT:s.heap.IsTuple l items)
  (h:∀ h',IsEnum h' (s.heap.objs.size + 1) s.heap.objs.size 0 .none->h'.IsTupleIter s.heap.objs.size l 0->(∀ b o,s.heap.get? b=some o->h'.get? b=some o)->Q (.ref (s.heap.objs.size + 1)) { s with heap:=h' }) :
  aE (aJ prog w) A (call (.type "enumerate") [.ref l]) Q E s:=by
 obtain⟨⟨c,D,dt,sl⟩,I,B,n,hd⟩:=hT;replace B:c=.type "tuple":=B;replace hd:dt=.seq items n:=hd;subst B hd;refine callType_new F.called_enumerate (by decide) (F.typeCall_enumerate_1 _) (F.newCall_enumerate_1 _) (λobj=>F.args_object_init_2 obj _) F.entry_enumerate_new (eJx l items n D sl) ⟨I,?_⟩
 generalize j:({ cls:=.type "tuple_iterator",data:=.fields #[.ref l,.int 0 0] }:Obj)=o1;have G:(s.heap.push o1).objs.size=s.heap.objs.size + 1:=b5 ..;have he:=au (s.heap.push o1) (o:={ cls:=.type "enumerate",data:=.fields #[.none,.bool false,.ref s.heap.objs.size,eR 0,.none,.none] }) rfl;have hi:(s.heap.push o1).get? s.heap.objs.size=some o1:=au _ (by rw[<- j];rfl)
 show _/\_;rw[G] at he ⊢;exact⟨⟨_,he,rfl⟩,h _ he ⟨o1,ag _ hi,by rw[<- j],by rw[<- j];rfl⟩ λb o x=>ag _ (ag _ x)⟩
end
def Ite (K:Fg) (a:Addr):It:=⟨λi H=>∃ xs x,SqT K H a xs/\xs[i]?=some x,λi H x H'=>∃ p y,H p=none/\x=.ref p/\H'=upd H p (.tup [.int i,y])/\∀ xs,SqT K H a xs->xs[i]?=some y,λi H=>∃ xs,SqT K H a xs/\xs.length<=i⟩
theorem eQ7 {P:aC} {w:aR} {K:Fg} {elts:List Expr} {x1:Nat} {pos:Pos} (a it e:Addr) (hei:e≠it) (hae:a≠e) (hai:a≠it):Turn P w K (.Tuple elts x1 pos) (Ite K a) [e,it] e (λi h=>(∃ old,IsEnum h e it i old)/\h.IsTupleIter it a i) where
 mem:=by simp
 obj:=λi h st b B=>by
  obtain⟨⟨old,he⟩,o,O,hc,hd⟩:=st;rcases aB.mp B with rfl | B
  ·exact⟨_,he,λv z=>by cases z⟩
  ·have:=aI.mp B
   subst this;exact⟨o,O,λv z=>by rw[hd] at z;cases z⟩
 keep:=λi h h' st k=>by
  obtain⟨⟨old,he⟩,o,O,r⟩:=st;exact⟨⟨old,k e (by simp) _ he⟩,o,k it (by simp) _ O,r⟩
 item:=by
  intro X hP hw hK hc i pins s σ H E I hf st hg;subst hP hw hK;obtain⟨xs,x,hq,hx⟩:=hg;obtain⟨its,rv,p,hz⟩:=I.tuple hq;obtain⟨u,hu,ru⟩:=rv.get hx;obtain⟨⟨old,he⟩,G⟩:=st;have hi:i < its.toArray.size:=by
   rcases Nat.lt_or_ge i its.toArray.size with z | z
   ·exact z
   ·rw[ar] at z;rw[ci z] at hu;cases hu
  have hh:X.A.in1.handled=none:=by have:=I.ok.hd hc;simp[this]
  have hT:s.heap.IsTuple a its.toArray:=p;refine wpAny_pyNext_enum_itemD (cXw hh it a hai its.toArray) he ⟨G,hT⟩ hi hei (by simp;exact⟨hei,λz=>hae z.symm⟩) λy h' U hy O hs' hT' hsz hk=>⟨_,rfl,?_⟩
  have hy':y=u:=by
   have:its[i]?=some y:=by simpa using hy
   rw[hu] at this;exact(aM this).symm
  subst hy';refine wpAny_letOwnedTupleGo_enum O λh2 he2 L=>?_;have fe:=hf e (by simp)
  have fi:=hf it (by simp)
  have Y:∀ b o,b≠e->b≠it->s.heap.get? b=some o->h2.get? b=some o:=λb o n1 n2 g=>(L.2 b n1).trans (hk b o n1 n2 g);have Z:e < s.heap.objs.size:=ay he;have j:H s.heap.objs.size=none:=I.hok.fresh (Nat.le_refl _);have nT:∀ b o,s.heap.get? b=some o->b≠s.heap.objs.size:=λb o g=>Nat.ne_of_lt (ay g);have nH:∀ b u,H b=some u->b≠e/\b≠it:=λb u g=>⟨λz=>(by rw[z,fe.1] at g;cases g),λz=>(by rw[z,fi.1] at g;cases g)⟩
  have J:h2.get? s.heap.objs.size=some { cls:=.type "tuple",data:=.seq #[.int i U,y] }:=(L.2 _ (Nat.ne_of_gt Z)).trans hT';have hok:HOk X.prog X.w (upd H s.heap.objs.size (.tup [.int i,x])) h2:=λb ob g=>by
   by_cases B:b=s.heap.objs.size
   ·subst B;rw[aQa] at g;cases g;refine⟨by rw[bh];show 2<=_;decide,[.int i U,y],.cons ⟨U,rfl⟩ (.cons ru .nil),⟨_,J,rfl,0,rfl⟩,λo e=>by rw[J] at e;cases e;rfl⟩
   ·rw[upd_ne B] at g;refine(I.hok b ob g).stay (λc w' D q=>?_) (λc q=>?_) λc ys q=>?_
    ·rcases D with rfl | D
     ·exact Y _ _ (nH _ _ g).1 (nH _ _ g).2 q
     ·exact Y _ _ (nH _ _ D).1 (nH _ _ D).2 q
    ·rw[upd_ne (aQ6 q j)];exact q
    ·rw[upd_ne (aQ6 q j)];exact q
  have un:Un (frs X.stack) [e,it] H (upd H s.heap.objs.size (.tup [.int i,x])) s.heap h2:=by
   have R:∀ {b:Addr},b∉[e,it]->b≠e/\b≠it:=λB=>⟨λz=>B (by simp[z]),λz=>B (by simp[z])⟩
   exact⟨λb o g _ _ B=>Y b o (R B).1 (R B).2 g,λb o g _ _ B=>⟨o.slots,Y b o (R B).1 (R B).2 g⟩,λb o g n _=>by rw[upd_ne (nT b o g)];exact n,λb o g B=>⟨o,Y b o (R B).1 (R B).2 g⟩,
    λb ys g=>by rw[upd_ne (aQ6 g j)];exact g,λb o v g=>by rw[upd_ne (aQ6 g j)];exact g,λb ps g=>⟨#[],by rw[upd_ne (aQ6 g j),g];simp⟩⟩
  have I2:Inv X pins σ (upd H s.heap.objs.size (.tup [.int i,x])) { s with heap:=h2,toks:=U + 1 }:=I.call' (s':={ s with heap:=h2,toks:=U + 1 }) rfl un hok I.bare λb B=>by
   rcases aB.mp B with rfl | B
   ·exact⟨fe.2.2.2.1,fe.2.1,fe.2.2.2.2.1,fe.2.2.2.2.2⟩
   ·have:=aI.mp B
    subst this;exact⟨fi.2.2.2.1,fi.2.1,fi.2.2.2.2.1,fi.2.2.2.2.2⟩
  refine⟨.ref s.heap.objs.size,_,I2,rfl,⟨_,x,j,rfl,rfl,λys hy=>by rw[I.tuple_inj hy hq];exact hx⟩,⟨⟨_,by simpa using he2⟩,?_⟩,λb B=>?_⟩
  ·obtain⟨o,g,r⟩:=hs'.1;exact⟨o,(L.2 it (b8 hei)).trans g,r⟩
  ·have hb':b < s.heap.objs.size:=by
    rcases aB.mp B with rfl | B
    ·exact Z
    ·have:=aI.mp B
     subst this;obtain⟨o,g,_⟩:=G;exact ay g
   rw[upd_ne (Nat.ne_of_lt hb')];exact(hf b B).1
 done:=by
  intro X hP hw hK hc i pins s σ H E I hf st hg;subst hP hw hK;obtain⟨xs,hq,hx⟩:=hg;obtain⟨its,rv,p,hz⟩:=I.tuple hq;obtain⟨⟨old,he⟩,G⟩:=st;have hl:=rv.length;have hh:X.A.in1.handled=none:=by have:=I.ok.hd hc;simp[this]
  have hT:s.heap.IsTuple a its.toArray:=p;obtain⟨f0,f1,f2,f3,f4,f5⟩:=hf it (by simp)
  have hT2:s.TypeIs (.ref e) "enumerate":=⟨_,he,rfl⟩;unfold fh;refine aa (fc (bK (name:=aG "__next__") hT2 F.slot_enumerate_next (bI F.slot_enumerate_next hT2 F.entry_enumerate_next ?_ (F.args_enumerate_next_1 _))));refine aa (m:=field (.ref e) 2) (cj he rfl (x:=.ref it) rfl (aa (cQa hh G hT (by simp;lia) λh' x he' hx'=>?_)))
  obtain⟨o,O,D⟩:=hx';refine aa (fk (T := "StopIteration") (b:=true) ⟨o,O,D⟩ i7 ?_);exact ad ⟨rfl,I.turned (t':=s.toks) (λb o B g=>he' b o B g) f0 f1 f3 f4 f5⟩
 self:=λA i s Q E st h=>by
  obtain⟨⟨old,he⟩,_⟩:=st;exact gR he h
section
variable {X:Cx}
def iEnT (K:Fg) (ta:TA):TI:=fun σ H R=>ta σ H λvs H1=>∃ a,vs=[.ref a]/\(∃ xs,SqT K H1 a xs)/\R (Ite K a) H1
theorem fJ3 {e:Expr} {ta:TA} {p pos:Pos} {elts:List Expr} {x1:Nat} {tpos:Pos} (hg:Gl X "enumerate") (hm:X.mg "enumerate" = none) (ha:PA X [e] ta) (hs:av [e] X.env=[(false,eval e X.env)]:=by rfl) :
  PI X (.Tuple elts x1 tpos) (.Call (.Name "enumerate" p) [e] [] pos) (iEnT X.K ta):=by
 intro pins s σ H R I h;refine Call_ (ld_blt I hg hm iJ (cT (thn (ha pos pins s σ H _ I h) λus s1 ⟨vs,H1,j,J,L⟩=>?_) hs rfl));obtain⟨a,rfl,⟨xs,O⟩,q⟩:=L;obtain⟨u,rfl,rx⟩:=aZo J;cases rx;obtain⟨D,Y,pl,Z⟩:=j.tuple O;have B:a < s1.heap.objs.size:=by obtain⟨o,e,_⟩:=id pl;exact ay e
 refine eQ6 (show s1.heap.IsTuple a D.toArray from pl) λh' he hi U=>gR he ?_
 refine⟨s1.heap.objs.size + 1,[s1.heap.objs.size + 1,s1.heap.objs.size],_,_,H1,rfl,j.kept (t':=s1.toks) U,eQ7 a s1.heap.objs.size (s1.heap.objs.size + 1) (Nat.succ_ne_self _) (Nat.ne_of_lt (Nat.lt_succ_of_lt B)) (Nat.ne_of_lt B),⟨⟨_,he⟩,hi⟩,λb G=>?_,q⟩;rcases aB.mp G with rfl | G
 ·exact j.fpOk (Nat.le_succ _) (j.hok.fresh (Nat.le_succ _))
 ·have:=aI.mp G
  subst this;exact j.fpOk (Nat.le_refl _) (j.hok.fresh (Nat.le_refl _))
end
end L2
namespace HT
open PySem PyProof.Rows
def ltS (a b:Str):Bool:=decide (a.cps.toList < b.cps.toList)
def lexS:List Str->List Str->Bool
 | [],[]=>false
 | [],_::_=>true
 | _::_,[]=>false
 | x::xs,y::ys=>if x=y then lexS xs ys else ltS x y
theorem lexS_cons (x y:Str) (xs ys:List Str):lexS (x::xs) (y::ys)=if x=y then lexS xs ys else ltS x y:=rfl
theorem aJf:lexS [] []=false:=rfl
theorem lexS_nil_cons (y:Str) (ys:List Str):lexS [] (y::ys)=true:=rfl
theorem lexS_cons_nil (x:Str) (xs:List Str):lexS (x::xs) []=false:=rfl
abbrev SAre:List ae->List Str->Prop:=a8 λv x=>∃ t,v=.str x t
theorem SAre.len {l:List ae} {m:List Str} (h:SAre l m):l.length=m.length:=bP h
theorem cXx (A:a7) (s:ai) (a:Str) (t:Tok) (c:Str) (u:Tok):∃ e,dD A s (.str a t) (.str c u) e/\(e=true↔a=c) :=
 ⟨(a == c),i8 a t c u,by simp⟩
theorem eQ8 (A:a7) (s:ai) (a:Str) (t:Tok) (c:Str) (u:Tok) (prog:aC) (w:aR) (E:ae->ai->Prop) (Q:ae->ai->Prop) (h:Q (.bool (ltS a c)) s) :
  aE (aJ prog w) A (richCompare .Lt (.str a t) (.str c u)) Q E s :=
 (kG h:aE (aJ prog w) A (cQ .Lt (.str a t) (.str c u)) Q E s)
section
open PySem.SeqAt
open PySem.AutoSeq1 (wpAny_loadPart')
open PySem.MeetsSeq PySem.MeetsSeq2 PySem.MeetsSeq3
theorem tuple_lt_strs (l b:Addr) (items items2:Array ae) (n n2:Nat) (dd dd2:Option Addr) (sl sl2:Array (Option ae)) (ns ms:List Str) (hi:SAre items.toList ns) (hj:SAre items2.toList ms) :
  Meets (b4.«tuple.__lt__» ⟨[.ref l,.ref b],[]⟩)
   (λ_ R s=>s.heap.get? l=some { cls:=.type "tuple",dict:=dd,data:=.seq items n,slots:=sl }/\s.heap.get? b=some { cls:=.type "tuple",dict:=dd2,data:=.seq items2 n2,slots:=sl2 } /\
    R (.ok (.ret (.bool (lexS ns ms)))) s) :=
 .of_wp λprog w A R s h=>by
  obtain⟨Y,g,d,U,os⟩:=s;obtain⟨hl,hb,h⟩:=h;have f2:=gq;have z1:items.size=ns.length:=by rw[<- hi.len];simp
  have z2:items2.size=ms.length:=by rw[<- hj.len];simp
  wp_walk using eV hl,eV hb,hW _ (λrest b s'=>b.1=none/\s'=⟨Y,g,d,U,os⟩/\∃ (vs ws:List ae) (j B:List Str),rest=vs.zip ws /\
   SAre vs j/\SAre ws B/\j.length + items2.size=B.length + items.size/\R (.ok (.ret (.bool (lexS j B)))) ⟨Y,g,d,U,os⟩) _
  case turn =>
   rintro⟨y,x⟩ rest b s' ⟨J,rfl,vs,ws,j,B,hz,hvi,hwi,hlen,G⟩;cases hvi with
   | nil=>rw[jo] at hz;cases hz
   | @cons va a _ _ ha O =>
    obtain⟨t,rfl⟩:=ha;cases hwi with
    | nil=>rw[eO] at hz;cases hz
    | @cons vc c _ _ hc L =>
     obtain⟨u,rfl⟩:=hc;rw[d0] at hz;injection hz with Z I
     injection Z with hy hx
     subst hy hx;rw[lexS_cons] at G;simp only[aV] at hlen;obtain⟨e,he,D⟩:=cXx A.in1 ⟨Y,g,d,U,os⟩ a t c u;refine aa (he prog w _ _ ?_);cases e with
     | true =>
      rw[if_pos (D.mp rfl)] at G
      wp_walk
      exact⟨rfl,rfl,_,_,_,_,I,O,L,by lia,G⟩
     | false =>
      rw[if_neg (λq=>absurd (D.mpr q) a9)] at G;have hri:=eQ8 A.in1 ⟨Y,g,d,U,os⟩ a t c u prog w
      wp_walk using hri
      exact⟨_,rfl,by simpa using G⟩
  case fin =>
   rintro⟨b1,b2⟩ s' ⟨J,rfl,vs,ws,j,B,hz,hvi,hwi,hlen,G⟩;simp only at J;subst J;have hv:lexS j B=decide (items.size < items2.size):=by
    cases hvi with
    | nil =>
     cases hwi with
     | nil =>
      simp only[cu] at hlen;rw[aJf];exact(decide_eq_false (by lia)).symm
     | cons hc hw =>
      simp only[cu,aV] at hlen;rw[lexS_nil_cons];exact(decide_eq_true (by lia)).symm
    | cons ha hv =>
     cases hwi with
     | nil =>
      simp only[cu,aV] at hlen;rw[lexS_cons_nil];exact(decide_eq_false (by lia)).symm
     | cons hc hw =>
      rw[d0] at hz;cases hz
   rw[hv] at G
   wp_walk
   exact⟨_,rfl,by simpa [gY] using G⟩
  case h =>
   exact⟨rfl,rfl,items.toList,items2.toList,ns,ms,rfl,hi,hj,by lia,h⟩
end
section
variable {prog:aC} {w:aR} {A:a7} {E:ae->ai->Prop} {s:ai}
theorem lt_tupStrs {l b:Addr} {items items2:Array ae} {ns ms:List Str} {Q:ae->ai->Prop} (hl:jh s.heap l items) (hb:jh s.heap b items2) (hi:SAre items.toList ns) (hj:SAre items2.toList ms)
  (hu:A.units < cb) (h:Q (.bool (lexS ns ms)) s):aE (aJ prog w) A (cQ .Lt (.ref l) (.ref b)) Q E s:=by
 obtain⟨⟨cls,dd,data,sl⟩,I,J,n,hd⟩:=id hl;obtain⟨⟨L,G,data2,D⟩,j,B,O,hd2⟩:=id hb;simp only at J hd B hd2;subst J hd B hd2;exact richCompare_meets_room (op:=.Lt) ⟨_,I,rfl⟩ ⟨_,j,rfl⟩ g6 ka (jO _ _) (tuple_lt_strs l b items items2 n O dd G sl D ns ms hi hj)
  ⟨I,j,show jX (lexS ns ms)≠Value.notImplemented/\Q (.bool (lexS ns ms)) s from⟨(λx=>nomatch x),h⟩⟩ hu
end
end HT
namespace L2
open PySem PySem.Spec PyProof.Rows
theorem aXg {H:Hp}:∀ {xs:List V} {us:List ae} {ds:List Str},a8 (dS H) xs ds->Vals xs us->HT.SAre us ds
 | _,_,_,.nil,.nil=>.nil
 | _,_,_,.cons p q,.cons r t=>by
  cases p;exact .cons r (aXg q t)
def rLtS (K:Fg):R2:=λx y H Q=>∃ d e,dT K dS H x d/\dT K dS H y e/\Q (.bl (HT.lexS d e)) H
theorem eJy {X:Cx} (hu:X.A.units < cb):OpR X (cQ .Lt) (rLtS X.K):=by
 intro pins s σ H x y v u Q I rx ry h;obtain⟨d,e,⟨a,xs,rfl,U,J⟩,⟨b,ys,rfl,R,G⟩,q⟩:=h;cases rx;cases ry;obtain⟨O,D,L,_⟩:=I.tuple U;obtain⟨j,B,p2,_⟩:=I.tuple R;exact HT.lt_tupStrs L p2 (aXg J D) (aXg G B) hu ⟨.bl (HT.lexS d e),H,I,rfl,q⟩
end L2
set_option maxHeartbeats 1000000
namespace L2
open PySem PySem.Spec PyProof.Rows
variable {α β γ:Type}
theorem fJ4 (l:List α) (h:l≠[]):atI l (-1)=some (l.getLast h):=by
 unfold atI ixN;have j:0 < l.length:=dj.mpr h;have e:(-1 + (l.length:Int)).toNat=l.length - 1:=by omega
 rw[if_neg (by decide),if_pos (by omega),e]
 show l[l.length - 1]?=_;rw[List.getLast_eq_getElem,ah (by omega)]
theorem nd_ (l:List Str) (h:l.Nodup:=by decide +kernel):l.Nodup:=h
theorem lt64 {k n:Nat} {A:a7} (r:Room k A) (h:n<=64:=by decide):A.units + n < cb:=by have:=r.units;omega
section
variable {X:Cx} {K:Fg} {tg:Expr} {a:Expr} {ta:TE}
theorem eQ9 (hK:X.K=K:=by rfl):SlR X (rSlT K):=hK ▸ eJi
theorem dZ5 (hK:X.K=K:=by rfl):SlR X (rSlL K):=hK ▸ dJs
theorem dZ6 (hK:X.K=K:=by rfl):OpR X (eH .Add) (dJq K):=hK ▸ dJr
theorem bJ6 (hK:X.K=K:=by rfl):CallR X (.type "tuple") (λxs H Q=>∃ p ys,xs=[.ref p]/\((SqL K H p ys/\∀ l,H l=none->Q (.ref l) (upd H l (.tup ys)))\/(SqT K H p ys/\Q (.ref p) H))):=hK ▸ call_tuple_of
theorem cXy (hK:X.K=K:=by rfl) (hc:X.calm=true:=by rfl):CallR X (.builtin "all") (λxs H Q=>∃ x bs,xs=[x]/\dL K dB H x bs/\Q (.bl (bs.all id)) H):=hK ▸ cXs hc
theorem cXz (hK:X.K=K:=by rfl) (hc:X.calm=true:=by rfl):CallR X (.builtin "any") (λxs H Q=>∃ x bs,xs=[x]/\dL K dB H x bs/\Q (.bl (bs.any id)) H):=hK ▸ cXt hc
theorem eQa (hu:X.A.units < cb) (hK:X.K=K:=by rfl):OpR X (cQ .Lt) (rLtS K):=hK ▸ eJy hu
theorem cJ0 (ha:PE X a ta) (he:∀ whole,isTrue a X.env whole=(do let v <- whole;standAt a.pos;io [v] (truthy v))) (hK:X.K=K:=by rfl):PT X a (fun σ H Q=>ta σ H λx H'=>∃ k,TruV K x H' k/\Q k H'):=by subst hK;exact dQo ha he
theorem eJz {e:Expr} {ta:TA} {p pos:Pos} {elts:List Expr} {x1:Nat} {tpos:Pos} (hg:Gl X "enumerate") (hm:X.mg "enumerate" = none) (ha:PA X [e] ta) (hs:av [e] X.env=[(false,eval e X.env)]:=by rfl) (hK:X.K=K:=by rfl) :
  PI X (.Tuple elts x1 tpos) (.Call (.Name "enumerate" p) [e] [] pos) (iEnT K ta):=by subst hK;exact fJ3 hg hm ha hs
end
end L2
set_option maxHeartbeats 4000000
namespace KS
open PySem PySem.W PyProof.Rows
variable {lt:Nat->Nat->Bool} {n:Nat}
end KS
set_option maxHeartbeats 1000000
namespace ST
open PySem PySem.SetTable PySem.Spec PyProof.Rows
theorem bQb:entryFor table "set.__iter__" = some b4.«frozenset.__iter__»:=entryFor_alias (id' := "frozenset.__iter__") (by kernel_rfl) rfl (by decide +kernel) (by kernel_rfl)
theorem slot_setit_next:Slot "set_iterator" "__next__" "set_iterator.__next__" :=
 .of (owner := "set_iterator") (n := "__next__") (by rw[typeLookup_type,builtinLookup_eq_fast];kernel_rfl) (by decide +kernel) (by decide +kernel) (by decide +kernel)
  (by first | exact .inl (by decide +kernel) | exact .inr (by decide +kernel)) (by rw[isSubtype_type];kernel_rfl)
theorem aJi:entryFor table "set_iterator.__next__" = some b4.«set_iterator.__next__»:=entryFor_of_tree (by kernel_rfl)
theorem bQ0 (a:ae):argsOk "set_iterator.__next__" ⟨[a],[]⟩:=by unfold argsOk;kernel_rfl
theorem dZ7:typeLookup (.type "set") "__len__" = pure (some (.builtin "set.__len__")):=by rw[typeLookup_type,builtinLookup_eq_fast];kernel_rfl
section
variable {prog:aC} {w:aR} {A:a7} {E:ae->ai->Prop} {s:ai}
theorem eQb {p:Addr} {es:Array (Int × ae)} {ep:Nat} {t:aX} {Q:Bool->ai->Prop} (ho:s.heap.get? p=some (setOb es ep t)) (h:Q false s):aE (aJ prog w) A (iK (.ref p)) Q E s:=by
 have j:s.TypeIs (.ref p) "set":=⟨_,ho,rfl⟩;unfold iK;refine aa (wpAny_specialOf j dZ7 ?_);dsimp only;have D:splitId "set.__len__" = some ("set", "__len__"):=by decide +kernel
 rw[D];dsimp only;refine aa (fk (b:=true) j (by rw[isSubtype_type];kernel_rfl) ?_)
 rw[if_neg (show ¬ ((!true)=true) by decide)]
 refine iC (λB=>?_) (λB=>absurd (by decide +kernel) B)
 refine aa (gK j ?_);exact ad h
theorem bQr {α:Type} {l:List α} {i:Nat} (h:i < l.length):(l[i]::l.eraseIdx i).Perm l:=by
 have e:l=l.take i++l[i]::l.drop (i + 1):=by
  rw[<- dW h,bL]
 rw[List.eraseIdx_eq_take_drop_succ];refine fX.symm.trans ?_;rw[<- e]
theorem eQc {n:Nat} {Q:Nat->ai->Prop} (hn:n≠0) (h:∀ i,i < n->Q i { s with drawn:=s.drawn.bump .order }):aE (aJ prog w) A (choose .order n) Q E s:=fun Γ p hΓ=>by
 show Sem.wp _ _ (.choose .order n .pure) _ _ _ _;rw[Sem.wp_choose];exact⟨hn,h _ (Nat.mod_lt _ (Nat.pos_of_ne_zero hn))⟩
theorem fQ0 {α:Type}:∀ (n:Nat) (xs:List α) {s:ai} {Q:List α->ai->Prop},xs.length=n->(∀ ys d,ys.Perm xs->Q ys { s with drawn:=d })->aE (aJ prog w) A (drawOrder n xs) Q E s
 | 0,xs,s,Q,hl,h=>by
  have e:xs=[]:=gF.mp hl;subst e;unfold drawOrder;exact ad (h [] s.drawn (dI _))
 | n + 1,xs,s,Q,hl,h=>by
  cases xs with
  | nil=>cases hl
  | cons x r =>
   unfold drawOrder;refine aa ?_;have j:(x::r).length≠0:=by simp
   refine eQc j λi hi=>?_;have D:(x::r)[i]?=some (x::r)[i]:=ah hi;rw[D];dsimp only;refine aa (fQ0 n ((x::r).eraseIdx i) (s:={ s with drawn:=s.drawn.bump .order }) (by rw[i9 hi];simp at hl ⊢;omega) λys d B=>?_)
   refine ad (h _ d ?_);refine(B.cons _).trans ?_;exact bQr hi
theorem bX6 {α:Type} (next:Nat->Nat):∀ (fuel k:Nat) (left:List α) (out:Array α),left.length=fuel->(kO next fuel k left out).toList.Perm (out.toList++left)
 | 0,k,left,out,j=>by
  have e:left=[]:=gF.mp j;subst e;unfold kO;rw[bz]
 | fuel + 1,k,left,out,j=>by
  unfold kO;have hi:next k % left.length < left.length:=Nat.mod_lt _ (by omega)
  rw[ah hi];dsimp only;refine(bX6 next fuel (k + 1) _ _ (by rw[i9 hi];omega)).trans ?_
  rw[cx,aY];exact eQ _ (bQr hi)
theorem bQc {α:Type} (next:Nat->Nat) (xs:Array α):(iO next xs).toList.Perm xs.toList:=by
 have:=bX6 next xs.size 0 xs.toList #[] (by simp)
 simpa [iO] using this
def itOb (first:ae) (i:Nat) (p:Addr) (n ep:Nat):Obj:={ cls:=.type "set_iterator",dict:=none,data:=.fields #[first,.int i 0,.ref p,.int n 0,.int ep 0],slots:=#[] }
theorem stopT {I:Addr} {Q:Option ae->ai->Prop} {s:ai} (hh:A.in1.handled=none) (h:∀ h',(∀ b o,s.heap.get? b=some o->h'.get? b=some o)->Q none { s with heap:=h' }) :
  aE (aJ prog w) A.in1 (newExc (.type "StopIteration") [] >>= λe=>(raiseNew e:Sem Fin)) (λfin s'=>∃ r,fin=.done (.ret r)/\aE (aJ prog w) A (pure (some r)) Q E s') (λe s'=>aE (aJ prog w) A (do if <- isInstance e (.type "StopIteration") then pure none else throw e) Q E s') s:=by
 refine aa ?_;simp only[newExc,newTuple];refine aa (bA ?_ (by size_fits))
 refine aa (m:=i6 _ _) (wpAny_of_eq (a:=bM) (by first | rfl | (simp only[i6];rfl)) ?_)
 refine bA ?_ (by size_fits)
 simp only[raiseNew];refine aa (wpAny_handled ?_);rw[hh];refine aa (ad (wpAny_throw ?_));refine aa (fk (T := "StopIteration") (b:=true) ⟨_,au _ rfl,rfl⟩ i7 ?_);exact ad (h _ λb o e=>ag _ (ag _ e))
theorem aJ6 {I p:Addr} {es:Array (Int × ae)} {ep:Nat} {t:aX} {first:ae} {i:Nat} {Q:Option ae->ai->Prop} (hp:s.heap.get? p=some (setOb es ep t)) (hf:t.fits es.size=true) (hI:s.heap.get? I=some (itOb first i p es.size ep))
  (h:aE (aJ prog w) A.in1 (if let .int slot _:=first then do
    match <- setNext p slot.toNat (i:Int).toNat (ep:Int).toNat with
    | some (x,next)=>do
     iw (.ref I) 0 (eR next)
     iw (.ref I) 1 (eR ((i:Int) + 1))
     ret x
    | none=>do iw (.ref I) 2 .none;raiseNew (<- newExc (.type "StopIteration") [])
   else do
    let some places <- seqItems? first | fu "internal:set_iterator"
    match places[(i:Int).toNat]? with
    | some (.int place _)=>do
     let x <- setNextDrawn p place.toNat (ep:Int).toNat
     iw (.ref I) 1 (eR ((i:Int) + 1))
     ret x
    | some _=>fu "internal:set_iterator"
    | none=>do iw (.ref I) 0 (eR 0);iw (.ref I) 2 .none;raiseNew (<- newExc (.type "StopIteration") []))
   (λfin s'=>∃ r,fin=.done (.ret r)/\aE (aJ prog w) A (pure (some r)) Q E s') (λe s'=>aE (aJ prog w) A (do if <- isInstance e (.type "StopIteration") then pure none else throw e) Q E s') s) :
  aE (aJ prog w) A (fh (.ref I)) Q E s:=by
 have j:s.TypeIs (.ref I) "set_iterator":=⟨_,hI,rfl⟩;unfold fh;refine aa (fc (bK (name:=aG "__next__") j slot_setit_next
  (bI slot_setit_next j aJi ?_ (bQ0 _))))
 unfold b4.«set_iterator.__next__» slotArgs;simp only[List.isEmpty_nil,fF,aS,↓reduceIte,bind_assoc,cu,bne_self_eq_false];refine aa (ad ?_)
 try dsimp only
 refine aa (gS hI rfl ?_);dsimp only;refine aa (wpAny_setEntries_of hp rfl hf ?_);rw[if_neg (by simp)]
 exact h
structure Gives (prog:aC) (w:aR) (A:a7) (I:Addr) (fp:List Addr) (vals:List ae) (St:Nat->bf->Prop):Prop where
 mem:I∈fp
 frame:∀ i h h',St i h->(∀ b∈fp,∀ o,h.get? b=some o->h'.get? b=some o)->St i h'
 item:∀ (i:Nat) (s:ai) (v:ae) (Q:Option ae->ai->Prop) (E:ae->ai->Prop),vals[i]?=some v->St i s.heap ->
  (∀ h',St (i + 1) h'->(∀ b o,b≠I->s.heap.get? b=some o->h'.get? b=some o)->Q (some v) { s with heap:=h' })->aE (aJ prog w) A (fh (.ref I)) Q E s
 done:∀ (s:ai) (Q:Option ae->ai->Prop) (E:ae->ai->Prop),St vals.length s.heap ->
  (∀ h',(∀ b o,b≠I->s.heap.get? b=some o->h'.get? b=some o)->Q none { s with heap:=h' })->aE (aJ prog w) A (fh (.ref I)) Q E s
theorem cQb {p:Addr} {es:Array (Int × ae)} {ep i:Nat} {t:aX} {Q:Option (ae × Nat)->ai->Prop} (hp:s.heap.get? p=some (setOb es ep t)) (hf:t.fits es.size=true) (hw:w.params.followText "set-order" = true)
  (h:Q (((iO (w.params.setOrder p ep) es)[i]?).map λe=>(e.2,0)) s):aE (aJ prog w) A (setNext p (0:Int).toNat (i:Int).toNat (ep:Int).toNat) Q E s:=by
 unfold setNext;refine aa (dJ hp rfl hf ?_);dsimp only;unfold setsByText;refine aa (aa (fj (ad ?_)));have j:(aJ prog w).w.params.followText "set-order" = true:=hw;rw[j,if_pos rfl,if_neg (by simp)]
 unfold setWalk;refine aa (aa (dJ hp rfl hf ?_));dsimp only;unfold setsByText;refine aa (aa (fj (ad ?_)));rw[j,if_pos rfl];refine aa (fj ?_);refine ad (ad ?_);rw[ce];exact h
theorem fQ1 {p I T:Addr} {es:Array (Int × ae)} {ep:Nat} {t:aX} {vals:List ae} {places:Array ae} (hh:A.in1.handled=none) (hTI:T≠I) (hpI:p≠I) (hl:places.size=vals.length)
  (hpl:∀ (j:Nat) (pl:ae),places[j]?=some pl->∃ q:Nat,pl=g8 (q:Int) 0/\∃ e,es[q]?=some e/\vals[j]?=some e.2) :
  Gives prog w A I [I,p,T] vals (λi h=>h.get? p=some (setOb es ep t)/\t.fits es.size=true/\h.get? I=some (itOb (.ref T) i p es.size ep)/\∃ o c,h.get? T=some o/\o.data=.seq places c) where
 mem:=by simp
 frame:=λi h h' st k=>by
  obtain⟨h1,h2,B,o,c,G,D⟩:=st;exact⟨k p (by simp) _ h1,h2,k I (by simp) _ B,o,c,k T (by simp) _ G,D⟩
 item:=λi s v Q E U st L=>by
  obtain⟨h1,h2,B,o,c,G,D⟩:=st;refine aJ6 h1 h2 B ?_;dsimp only;refine aa (cP G D ?_);dsimp only;have hi:i < places.size:=by rw[hl];exact(aA.mp U).1
  obtain⟨q,e1,e,e2,Y⟩:=hpl i places[i] (by simp[hi])
  have R:places[(i:Int).toNat]?=some (g8 (q:Int) 0):=by rw[ce,<- e1];simp[hi]
  rw[R];dsimp only;have ev:e.2=v:=by rw[U] at Y;exact(aM Y).symm
  refine aa ?_;unfold setNextDrawn;refine aa (dJ h1 rfl h2 ?_);dsimp only;rw[if_neg (by simp),ce,e2]
  dsimp only;refine ad ?_;refine aa (bd B (by show 1 < 5;decide) λh' g1 g2=>?_)
  rw[ev];refine ad ⟨v,rfl,ad (L h' ⟨?_,h2,?_,o,c,?_,D⟩ λb o' J e=>(g2.2 b J).trans e)⟩
  ·exact(g2.2 p hpI).trans h1
  ·exact g1
  ·exact(g2.2 T hTI).trans G
 done:=λs Q E st L=>by
  obtain⟨h1,h2,B,o,c,G,D⟩:=st;refine aJ6 h1 h2 B ?_;dsimp only;refine aa (cP G D ?_);dsimp only;have R:places[(vals.length:Int).toNat]?=none:=by rw[ce,<- hl];simp
  rw[R];dsimp only;refine aa (bd B (by show 0 < 5;decide) λh' g1 g2=>?_)
  refine aa (bd g1 (by show 2 < 5;decide) λZ g3 g4=>?_)
  exact stopT (I:=I) hh λO k=>L O λb o' J e=>k b o' ((g4.2 b J).trans ((g2.2 b J).trans e))
theorem fQ2 {p I:Addr} {es:Array (Int × ae)} {ep:Nat} {t:aX} {vals:List ae} (hh:A.in1.handled=none) (hpI:p≠I) (hw:w.params.followText "set-order" = true) (hv:vals=(iO (w.params.setOrder p ep) es).toList.map (·.2)) :
  Gives prog w A I [I,p] vals (λi h=>h.get? p=some (setOb es ep t)/\t.fits es.size=true/\h.get? I=some (itOb (.int 0 0) i p es.size ep)) where
 mem:=by simp
 frame:=λi h h' st k=>by
  obtain⟨h1,h2,j⟩:=st;exact⟨k p (by simp) _ h1,h2,k I (by simp) _ j⟩
 item:=λi s v Q E hv' st J=>by
  obtain⟨h1,h2,j⟩:=st;refine aJ6 h1 h2 j ?_;dsimp only;refine aa (cQb h1 h2 hw ?_);have O:((iO (w.params.setOrder p ep) es)[i]?).map (λe=>(e.2,0))=some (v,0):=by
   rw[hv,aF,aT] at hv';cases q:(iO (w.params.setOrder p ep) es)[i]? with
   | none=>rw[q] at hv';cases hv'
   | some e=>rw[q] at hv';cases hv';rfl
  rw[O];dsimp only;refine aa (bd j (by show 0 < 5;decide) λh' g1 g2=>?_)
  refine aa (bd g1 (by show 1 < 5;decide) λB g3 G=>?_)
  refine ad ⟨v,rfl,ad (J B ⟨?_,h2,g3⟩ λb o' D e=>(G.2 b D).trans ((g2.2 b D).trans e))⟩;exact(G.2 p hpI).trans ((g2.2 p hpI).trans h1)
 done:=λs Q E st J=>by
  obtain⟨h1,h2,j⟩:=st;refine aJ6 h1 h2 j ?_;dsimp only;refine aa (cQb h1 h2 hw ?_);have O:(iO (w.params.setOrder p ep) es)[vals.length]?=none:=by
   rw[hv];simp
  rw[O];dsimp only[Option.map];refine aa (bd j (by show 2 < 5;decide) λB g3 G=>?_)
  exact stopT (I:=I) hh λL k=>J L λb o' D e=>k b o' ((G.2 b D).trans e)
end
end ST
set_option maxHeartbeats 4000000
namespace ST
open PySem PySem.SetTable PySem.Spec PyProof.Rows
section
variable {prog:aC} {w:aR} {A:a7} {E:ae->ai->Prop} {s:ai}
theorem bX7 {p:Addr} {es:Array (Int × ae)} {ep i sl:Nat} {t:aX} {Q:Option (ae × Nat)->ai->Prop} (hp:s.heap.get? p=some (setOb es ep t)) (hf:t.fits es.size=true) (hw:w.params.followText "set-order" = false) (hled:t.led=true) (h1:es.size<=1)
  (h:Q (match es[below t.place sl]?,t.place[below t.place sl]? with | some (_,x),some j=>some (x,j + 1) | _,_=>none) s):aE (aJ prog w) A (setNext p (sl:Int).toNat (i:Int).toNat (ep:Int).toNat) Q E s:=by
 unfold setNext;refine aa (dJ hp rfl hf ?_);dsimp only;unfold setsByText;refine aa (aa (fj (ad ?_)));have B:(aJ prog w).w.params.followText "set-order" = false:=hw;rw[B,if_neg a9];refine iC (λG=>?_) (λ_=>?_)
 ·have D:(!t.plain && decide (es.size > 1))=true:=G;simp only[aQ,decide_eq_true_eq] at D;lia
 ·refine aa ?_;show aE _ _ (if (!t.led && !es.isEmpty)=true then fu "set:maker-not-led" else pure ()) _ _ _
  rw[hled,if_neg (by simp)]
  refine ad ?_;refine ad ?_;rw[ce];exact h
theorem bX8 (j sl:Nat):below #[j] sl=if j < sl then 1 else 0:=by
 unfold below;simp only[ar,dX];unfold below.go;simp only[Nat.lt_irrefl,if_true,Nat.zero_lt_one]
 split
 ·rename_i h;have h':j < sl:=by simpa using h
  rw[if_pos h'];rfl
 ·rename_i h;have h':¬ j < sl:=by simpa using h
  rw[if_neg h'];rfl
theorem cQc {es:Array (Int × ae)} {t:aX} (hf:t.fits es.size=true):t.place.size=es.size:=by
 unfold kJ at hf;simp only[aQ,beq_iff_eq] at hf;exact hf.1
theorem fQ3 {p I:Addr} {es:Array (Int × ae)} {ep:Nat} {t:aX} {vals:List ae} (hh:A.in1.handled=none) (hpI:p≠I) (hw:w.params.followText "set-order" = false) (hled:t.led=true) (h1s:es.size<=1) (hv:vals=es.toList.map (·.2)) :
  Gives prog w A I [I,p] vals (λi h=>h.get? p=some (setOb es ep t)/\t.fits es.size=true/\∃ sl:Nat,h.get? I=some (itOb (.int sl 0) i p es.size ep)/\(i=0->sl=0)/\(i=1->∀ j,t.place=#[j]->sl=j + 1)) where
 mem:=by simp
 frame:=λi h h' st k=>by
  obtain⟨h1,h2,sl,D,R⟩:=st;exact⟨k p (by simp) _ h1,h2,sl,k I (by simp) _ D,R⟩
 item:=λi s v Q E B st hQ=>by
  obtain⟨h1,h2,sl,D,R,h5⟩:=st;refine aJ6 h1 h2 D ?_;dsimp only;refine aa (bX7 h1 h2 hw hled h1s ?_);have hi:i < es.size:=by
   have:=(aA.mp B).1
   rw[hv] at this;simpa using this
  have i0:i=0:=by lia
  subst i0;have Y:=R rfl;subst Y;have Z:=cQc h2;obtain⟨j,L⟩:∃ j,t.place=#[j]:=by
   have:t.place.size=1:=by lia
   exact⟨t.place[0],Array.ext (by simp[this]) λk hk1 hk2=>by
    have:k=0:=by lia
    subst this;simp⟩
  rw[L,bX8,if_neg (Nat.not_lt_zero _)];have ee:es[0]?=some es[0]:=by simp[hi]
  have e0:es[0].2=v:=by
   rw[hv,aF,aT,ee] at B;exact aM B
  have e1:es[0]?=some (es[0].1,v):=by rw[ee,<- e0]
  have e2:(#[j]:Array Nat)[0]?=some j:=rfl;rw[e1,e2];dsimp only;refine aa (bd D (by show 0 < 5;decide) λh' g1 g2=>?_)
  refine aa (bd g1 (by show 1 < 5;decide) λG g3 U=>?_)
  refine ad ⟨v,rfl,ad (hQ G ⟨?_,h2,j + 1,g3,(λz=>nomatch z),λ_ j' J=>?_⟩ λb o' O e=>(U.2 b O).trans ((g2.2 b O).trans e))⟩
  ·exact(U.2 p hpI).trans ((g2.2 p hpI).trans h1)
  ·rw[L] at J
   have:=congrArg (λa:Array Nat=>a[0]?) J
   simp at this;rw[this]
 done:=λs Q E st hQ=>by
  obtain⟨h1,h2,sl,D,R,h5⟩:=st;refine aJ6 h1 h2 D ?_;dsimp only;refine aa (bX7 h1 h2 hw hled h1s ?_);have hlen:vals.length=es.size:=by rw[hv];simp
  have Z:=cQc h2;have nn:es[below t.place sl]?=none:=by
   by_cases c:es.size=0
   ·simp[c]
   ·have c1:es.size=1:=by lia
    obtain⟨j,L⟩:∃ j,t.place=#[j]:=by
     have:t.place.size=1:=by lia
     exact⟨t.place[0],Array.ext (by simp[this]) λk hk1 hk2=>by
      have:k=0:=by lia
      subst this;simp⟩
    have:=h5 (by lia) j L
    rw[L,bX8,if_pos (by lia)]
    simp[c1]
  rw[nn];dsimp only;refine aa (bd D (by show 2 < 5;decide) λG g3 U=>?_)
  exact stopT (I:=I) hh λh3' k=>hQ h3' λb o' O e=>k b o' ((U.2 b O).trans e)
theorem fJ5 {p:Addr} {es:Array (Int × ae)} {ep:Nat} {t:aX} {Q:ae->ai->Prop} (hh:A.in1.handled=none) (hp:s.heap.get? p=some (setOb es ep t)) (hf:t.fits es.size=true) (hled:t.led=ledOf w) (hpl:t.plain=true->es.size<=1) (hn:es.size<=300)
  (h:∀ I fp vals St h' d,vals.Perm (es.toList.map (·.2))->Gives prog w A I fp vals St->St 0 h'->s.heap.objs.size<=I->(∀ b∈fp,b=p\/s.heap.objs.size<=b)->(∀ b o,s.heap.get? b=some o->h'.get? b=some o)->Q (.ref I) { s with heap:=h',drawn:=d }) :
  aE (aJ prog w) A (pyIter (.ref p)) Q E s:=by
 have hT:s.TypeIs (.ref p) "set":=⟨_,hp,rfl⟩;have Y:p < s.heap.objs.size:=ay hp;refine wpAny_pyIter_slot hT kr (bI kr hT bQb ?_ (PySem.F.args_set_iter_1 _));unfold b4.«frozenset.__iter__» b4.Frozenset.slot0 slotArgs;simp only[List.isEmpty_nil,fF,aS,↓reduceIte,bind_assoc,cu,bne_self_eq_false];unfold b4.Frozenset.addrOf b4.Frozenset.sizeOf;refine aa (ad ?_)
 try dsimp only
 refine aa (ad ?_);refine aa (aa (wpAny_setEntries_of hp rfl hf (ad ?_)));unfold setDrawn setsByText;refine aa (aa (dJ hp rfl hf ?_));dsimp only;refine aa (aa (fj (ad ?_)));refine ad ?_;have fin:∀ (first:ae) (h1:bf) (d:Drawn) (Q':Fin->ai->Prop),h1.get? p=some (setOb es ep t) ->
   Q' (.done (.ret (.ref h1.objs.size))) { s with heap:=h1.push (itOb first 0 p es.size ep),drawn:=d } ->
   aE (aJ prog w) A.in1 (do
    let e <- setEpoch p
    let v <- newFields "set_iterator" [first,eR 0,.ref p,eR es.size,eR e]
    ret v) Q' E { s with heap:=h1,drawn:=d }:=by
  intro first h1 d Q' ho hQ';refine aa (wpAny_setEpoch_of (s:={ s with heap:=h1,drawn:=d }) ho rfl hf ?_)
  exact aa (bA (ad hQ'))
 refine iC (λhc=>?_) (λhc=>?_)
 ·refine aa (fQ0 es.size (aH es.size) (by simp) λys d B=>?_)
  have yl:ys.length=es.size:=by have:=B.length_eq;simpa using this
  have yr:∀ q∈ys,q < es.size:=λq hq=>bu.mp (B.mem_iff.mp hq);obtain⟨f1,f2⟩:=cQ4 (l:=ys) (f:=λq=>(es[q]?).map (·.2)) (λq hq=>by have:=yr q hq;simp[this])
  refine aa (bA ?_ (by show(ys.map λ(i:Nat)=>eR i).toArray.size<=sizeLine;rw[ar,af,yl,bh];lia))
  generalize O:s.heap.push _=h1;have D:h1.objs.size=s.heap.objs.size + 1:=by rw[<- O,b5]
  have old:∀ b o,s.heap.get? b=some o->h1.get? b=some o:=λb o e=>by rw[<- O];exact ag _ e
  have hTup:h1.get? s.heap.objs.size=some { cls:=.type "tuple",dict:=none,data:=.seq (ys.map λ(i:Nat)=>eR i).toArray }:=by rw[<- O];exact au _ rfl
  refine fin (.ref s.heap.objs.size) h1 d _ (old p _ hp) ?_;have G:=fQ1 (prog:=prog) (w:=w) (A:=A) (p:=p) (I:=h1.objs.size) (T:=s.heap.objs.size) (es:=es) (ep:=ep) (t:=t) (vals:=ys.filterMap λq=>(es[q]?).map (·.2)) (places:=(ys.map λ(i:Nat)=>eR i).toArray) hh (by rw[D];exact Nat.ne_of_lt (Nat.lt_succ_self _)) (by rw[D];exact Nat.ne_of_lt (Nat.lt_succ_of_lt Y)) (by simp[f1]) (λj pl hj=>by
   have hj':(ys.map λ(i:Nat)=>eR i)[j]?=some pl:=by simpa using hj
   rw[aF] at hj';cases q:ys[j]? with
   | none=>rw[q] at hj';cases hj'
   | some z =>
    rw[q] at hj';have hz:=yr z (ak q);refine⟨z,(aM hj').symm,es[z],by simp[hz],?_⟩
    rw[f2 j,q];simp[hz])
  refine⟨_,rfl, "set_iterator",_,⟨_,au _ rfl,rfl⟩,slot_setit_next.lookup,h _ _ _ _ _ d ?_ G ⟨ag _ (old p _ hp),hf,au _ rfl,_,_,ag _ hTup,rfl⟩ (by rw[D];exact Nat.le_succ _) (λb Z=>?_) λb o e=>ag _ (old b o e)⟩
  ·refine(B.filterMap _).trans ?_;have e:(aH es.size).filterMap (λq=>(es[q]?).map (·.2))=es.toList.map (·.2):=by
    rw[<- cQ6 es,List.map_filterMap]
   rw[e]
  ·simp only[aB,db,or_false] at Z;rcases Z with e | e | e
   ·right;rw[e,D];exact Nat.le_succ _
   ·exact .inl e
   ·right;rw[e];exact Nat.le_refl _
 ·refine aa (ad ?_);refine fin (eR 0) s.heap s.drawn _ hp ?_;have R:p≠s.heap.objs.size:=Nat.ne_of_lt Y;have small:∀ b∈[s.heap.objs.size,p],b=p\/s.heap.objs.size<=b:=λb Z=>by
   simp only[aB,db,or_false] at Z;rcases Z with e | e
   ·right;rw[e];exact Nat.le_refl _
   ·exact .inl e
  by_cases hw:w.params.followText "set-order" = true
  ·have G:=fQ2 (prog:=prog) (w:=w) (A:=A) (p:=p) (I:=s.heap.objs.size) (es:=es) (ep:=ep) (t:=t) hh R hw rfl;exact⟨_,rfl, "set_iterator",_,⟨_,au _ rfl,rfl⟩,slot_setit_next.lookup,h _ _ _ _ _ s.drawn ((bQc _ _).map _) G ⟨ag _ hp,hf,au _ rfl⟩ (Nat.le_refl _) small λb o e=>ag _ e⟩
  ·have L:w.params.followText "set-order" = false:=eX.mpr hw;have h1:es.size<=1:=by
    have J:¬ ((!(w.params.followText "set-order") && (!t.plain && decide (es.size > 1)))=true):=hc;rw[L] at J
    by_cases U:t.plain=true
    ·exact hpl U
    ·have:t.plain=false:=eX.mpr U
     rw[this] at J;simp at J;exact J
   have hl':t.led=true:=by rw[hled];show(!(w.params.followText "set-order"))=true;rw[L];rfl
   have G:=fQ3 (prog:=prog) (w:=w) (A:=A) (p:=p) (I:=s.heap.objs.size) (es:=es) (ep:=ep) (t:=t) hh R L hl' h1 rfl;exact⟨_,rfl, "set_iterator",_,⟨_,au _ rfl,rfl⟩,slot_setit_next.lookup,h _ _ _ _ _ s.drawn (dI _) G ⟨ag _ hp,hf,0,au _ rfl,λ_=>rfl,(λz=>nomatch z)⟩ (Nat.le_refl _) small λb o e=>ag _ e⟩
theorem dZ8 {I S:Addr} {fp:List Addr} {vals:List ae} {St:Nat->bf->Prop} {R:Result->ai->Prop} (G:Gives prog w A.in1 I fp vals St) (hn:vals.length<=300) (hSf:S∉fp) (res:ae) :
  ∀ (k i:Nat) (s:ai) (c:Nat),vals.length - i=k->i<=vals.length->St i s.heap->s.heap.get? S=some { cls:=.type "list",dict:=none,data:=.seq (vals.take i).toArray c,slots:=#[] } ->
  (∀ h' c',(∀ b o,b≠S->b≠I->s.heap.get? b=some o->h'.get? b=some o)->h'.get? S=some { cls:=.type "list",dict:=none,data:=.seq vals.toArray c',slots:=#[] }->R (.ok (.ret res)) { s with heap:=h' }) ->
  jm (aJ prog w) A (.builtin "list.extend.loop" ⟨[.ref S,.ref I,res],[]⟩) R s:=by
 have U:S≠I:=λe=>hSf (e ▸ G.mem);intro k
 induction k with
 | zero =>
  intro i s c hk hi j hS hR;have hin:i=vals.length:=by lia
  subst hin;refine c5 jg ?_;rw[cK eT _];show aE _ A.in1 (fh (.ref I) >>= _) _ _ s;refine aa (G.done s _ _ j λh' J=>?_);rw[bG (Nat.le_refl _)] at hS;exact ad (hR h' c (λb o _ hb e=>J b o hb e) (J S _ U hS))
 | succ k ih =>
  intro i s c hk hi j hS hR;have D:i < vals.length:=by lia
  have hv:vals[i]?=some vals[i]:=ah D;refine c5 jg ?_;rw[cK eT _];show aE _ A.in1 (fh (.ref I) >>= _) _ _ s;refine aa (G.item i s _ _ _ hv j λh1 st1 k1=>?_);have Z:=k1 S _ U hS;have szl:=bh;have B:(vals.take i).toArray.size=i:=by rw[ar,aK];lia
  show aE _ A.in1 (updateSeq S (·.push vals[i]) >>= _) _ _ _;refine aa ?_;refine iD (s:={ s with heap:=h1 }) Z rfl (ad ⟨gp eT _,?_⟩) (by rw[B];lia) (by show((vals.take i).toArray.push vals[i]).size<=sizeLine + 1;rw[dQ,B];lia)
  have hS2:=cD (bX (·.push vals[i])) Z rfl;have et:(vals.take i).toArray.push vals[i]=(vals.take (i + 1)).toArray:=by
   rw[bT,hv];simp
  obtain⟨c1,Y⟩:∃ c1,(h1.update S (bX (·.push vals[i]))).get? S=some { cls:=.type "list",dict:=none,data:=.seq (vals.take (i + 1)).toArray c1,slots:=#[] }:=⟨_,by rw[<- et];exact hS2⟩
  refine ih (i + 1) { s with heap:=h1.update S (bX (·.push vals[i])) } c1 (by lia) D (G.frame _ _ _ st1 λb hb o e=>(cN _ _ (λh:S=b=>hSf (by rw[h];exact hb))).trans e) Y λh' c' a1 a2=>?_
  ·exact hR h' c' (λb o O L e=>a1 b o O L ((cN _ _ (b8 O)).trans (k1 b o L e))) a2
theorem collectT {p:Addr} {es:Array (Int × ae)} {ep:Nat} {t:aX} {Q:List ae->ai->Prop} (hh:A.handled=none) (hp:s.heap.get? p=some (setOb es ep t)) (hf:t.fits es.size=true) (hled:t.led=ledOf w) (hpl:t.plain=true->es.size<=1) (hn:es.size<=300)
  (h:∀ vals h' d,vals.Perm (es.toList.map (·.2))->(∀ b o,s.heap.get? b=some o->h'.get? b=some o)->Q vals { s with heap:=h',drawn:=d }):aE (aJ prog w) A (collect (.ref p)) Q E s:=by
 have O:p < s.heap.objs.size:=ay hp;have hT:∀ s':ai,s'.heap.get? p=some (setOb es ep t)->s'.TypeIs (.ref p) "set":=λs' e=>⟨_,e,rfl⟩;unfold collect;refine aa (wpAny_runValue (c5 PySem.F.entry_proto_collect ?_));rw[cK PySem.F.plain_proto_collect _];show aE _ A.in1 (newList [] >>= λl=>again (.builtin "list.__iadd__" ⟨[l,.ref p],[]⟩)) _ _ s;refine aa (bA ?_);refine ad ⟨gp jP _,c5 PySem.F.entry_list_iadd ?_⟩;rw[cK jP _];show aE _ A.in1 (iL (.ref s.heap.objs.size) (.ref p) (.ref s.heap.objs.size)) _ _ _;generalize J:s.heap.push _=h1;have old:∀ b o,s.heap.get? b=some o->h1.get? b=some o:=λb o e=>by rw[<- J];exact ag _ e
 have L:h1.objs.size=s.heap.objs.size + 1:=by rw[<- J,b5]
 have hS1:h1.get? s.heap.objs.size=some { cls:=.type "list",dict:=none,data:=.seq #[] 0,slots:=#[] }:=by rw[<- J];exact au _ rfl
 have D:=old p _ hp;unfold iL;refine aa (gK (hT { s with heap:=h1 } D) ?_)
 have e1:jx (.ref s.heap.objs.size) (.ref p)=false:=by simp[jx,Nat.ne_of_gt O]
 rw[if_neg (by rw[e1];decide)]
 refine aa (fJ5 (s:={ s with heap:=h1 }) hh D hf hled hpl hn λI fp vals St h2 d B G Z hI hfp k2=>?_)
 have hvl:vals.length=es.size:=by have:=B.length_eq;simpa using this
 have hI':h1.objs.size<=I:=hI;have hSI:s.heap.objs.size≠I:=by lia
 refine aa (bW (eQb (k2 p _ D) ?_));have R:s.heap.objs.size∉fp:=λz=>by
  have q:=hfp _ z;have q':s.heap.objs.size=p\/h1.objs.size<=s.heap.objs.size:=q;rcases q' with e | e
  ·exact absurd e (Nat.ne_of_gt O)
  ·rw[L] at e;exact absurd e (Nat.not_succ_le_self _)
 refine iC (λ_=>?_) (λhc=>absurd (by decide +kernel) hc)
 refine aa (dN ?_);refine aa ?_;have Y:=k2 _ _ hS1;show aE _ _ (updateSeq s.heap.objs.size (·.push .none) >>= λ_=>updateSeq s.heap.objs.size (·.pop)) _ _ _;refine aa (iD Y rfl ?_);have U:=cD (bX (·.push bM)) Y rfl;refine iD (hz:=by seq_fits) U rfl ?_
 have hS4:=cD (bX (·.pop)) U rfl;refine ad ⟨gp eT _,?_⟩;refine dZ8 G (by lia) R _ (vals.length - 0) 0 _ _ rfl (Nat.zero_le _) (G.frame _ _ _ Z λb hb o e=>?_) hS4 λh' c' a1 a2=>?_
 ·have j:b≠s.heap.objs.size:=λz=>R (z ▸ hb);exact(cN _ _ (b8 j)).trans ((cN _ _ (b8 j)).trans e)
 ·show aE _ A (load s.heap.objs.size >>= _) _ _ _;refine aa (wpAny_load a2 ?_)
  have:=h vals h' d B λb o e=>?_
  ·exact ad this
  ·have j:b≠s.heap.objs.size:=Nat.ne_of_lt (ay e);have hbI:b≠I:=Nat.ne_of_lt (Nat.lt_of_lt_of_le (ay e) (Nat.le_trans (by rw[L];exact Nat.le_succ _) hI'))
   exact a1 b o j hbI ((cN _ _ (b8 j)).trans ((cN _ _ (b8 j)).trans (k2 b o (old b o e))))
end
end ST
namespace KS
open PySem PySem.W PyProof.Rows
def TS (h:bf) (v:ae) (d:List Str):Prop:=∃ b items,v=.ref b/\jh h b items/\HT.SAre items.toList d
section
variable {prog:aC} {w:aR} {A:a7} {E:ae->ai->Prop} {s:ai}
theorem dXf {Q:Bool->ai->Prop}:∀ {us vs:List ae} {d e:List Str} (i:Nat) {fin:Bool},HT.SAre us d->HT.SAre vs e->fin=decide (d.length < e.length)->Q (HT.lexS d e) s->KatLex prog w A true fin Q (us.zip vs) i s
 | _,_,_,_,i,fin,.nil,.nil,hf,h=>by subst hf;exact kat_nil h
 | _,_,_,_,i,fin,.nil,.cons _ _,hf,h=>by
  subst hf;rw[jo];rw[HT.lexS_nil_cons] at h;exact kat_nil (by simpa using h)
 | _,_,_,_,i,fin,.cons _ _,.nil,hf,h=>by
  subst hf;rw[eO];rw[HT.lexS_cons_nil] at h;exact kat_nil (by simpa using h)
 | _,_,x::d,y::e,i,fin,.cons ⟨t,B⟩ p,.cons ⟨u,j⟩ q,hf,h=>by
  subst B j;rw[d0];rw[HT.lexS_cons] at h;refine kat_cons (i8 x t y u _ _ _ _ ?_);refine kat_go (λz=>kat_yes (dXf (i + 1) p q (by subst hf;simp) (by rw[if_pos (by simpa using z)] at h;exact h))) λz=>kat_no ?_
  rw[if_neg (by simpa using z)] at h
  cases i with
  | zero=>exact oneLt_str h
  | succ i =>
   show aE _ _ (oneLt' false _ _) _ _ _;exact kat_one _ _ (kG (show PySem.W.BoolBack Q (.bool (HT.ltS x y)) s from h))
theorem cJ1 {x y:ae} {d e:List Str} {Q:Bool->ai->Prop} (hx:TS s.heap x d) (hy:TS s.heap y e) (h:Q (HT.lexS d e) s):aE (aJ prog w) A (keyLt' (tuples' true) x y) Q E s:=by
 obtain⟨b,items,rfl,⟨o,I,_,n,hd⟩,p⟩:=hx;obtain⟨O,j,rfl,⟨J,B,_,L,hd2⟩,p2⟩:=hy;refine kat_lt I hd B hd2 (dXf 0 p p2 ?_ h);have G:=p.len;have D:=p2.len;simp only[aZ] at G D;rw[G,D]
theorem cZo {x y:ae} {d e:List Str} {Q:Bool->ai->Prop} (hu:A.units < cb) (hx:TS s.heap x d) (hy:TS s.heap y e) (h:Q (HT.lexS d e) s):aE (aJ prog w) A (keyLt' general' x y) Q E s:=by
 obtain⟨b,items,rfl,t1,p⟩:=hx;obtain⟨B,j,rfl,t2,p2⟩:=hy;show aE _ _ (oneLt' false _ _) _ _ _;exact kat_one _ _ (HT.lt_tupStrs t1 t2 p p2 hu (show PySem.W.BoolBack Q (.bool (HT.lexS d e)) s from h))
theorem fQ4 {x y:ae} {d e:List Str} {Q:Bool->ai->Prop} (hu:A.units < cb) (hx:TS s.heap x d) (hy:TS s.heap y e) (h:Q (HT.lexS d e) s):aE (aJ prog w) A (keyLt' oneType' x y) Q E s:=by
 obtain⟨b,items,rfl,t1,p⟩:=hx;obtain⟨U,j,rfl,t2,p2⟩:=hy;rw[keyLt'_oneType,oneLt'_eq];simp only[if_true];obtain⟨⟨cls,dd,data,sl⟩,I,L,n,hd⟩:=id t1;obtain⟨⟨O,J,data2,D⟩,G,B,R,hd2⟩:=id t2;simp only at L hd B hd2;subst L hd B hd2;refine aa (wpAny_cRoomFor hu ?_);refine aa (wpAny_callSpecialIfBound?_slot ⟨_,I,rfl⟩ g6 (j4 g6 ⟨_,I,rfl⟩ ka (jO _ _) (HT.tuple_lt_strs b U items j n R dd J sl D d e p p2) ⟨I,G,?_⟩));exact eD h
theorem bX9:∀ {vs:List ae} {ds:List (List Str)} {Q:List (Option ae)->ai->Prop},a8 (TS s.heap) vs ds->(∀ fs:List (Option ae),a8 (λf d=>match f with | none=>d=[] | some v=>∃ x r t,d=x::r/\v=.str x t) fs ds->Q fs s)->aE (aJ prog w) A (vs.mapM firstOfTuple') Q E s
 | _,_,_,.nil,h=>by rw[List.mapM_nil];exact ad (h [] .nil)
 | _,_,Q,.cons p q,h=>by
  obtain⟨b,items,rfl,⟨o,j,G,n,hd⟩,sa⟩:=p;rw[List.mapM_cons];refine aa ?_;rw[kas_first_eq];refine aa (Looks.here (show Looks (aJ prog w) s.heap (typeOf (.ref b)) o.cls from(Looks.ld j).andThen .now) ?_)
  rw[G,if_neg (by first | decide | simp)]
  refine aa (listItems_at j hd (ad ?_));refine aa (bX9 q λfs B=>ad (h _ (.cons ?_ B)));obtain⟨items⟩:=items;have sa:HT.SAre items _:=sa;have e:(Array.mk items)[0]?=items[0]?:=by simp
  rw[e];cases sa with
  | nil=>rfl
  | cons z _=>obtain⟨t,D⟩:=z;exact⟨_,_,t,rfl,D⟩
theorem eQd {vs:List ae} {ds:List (List Str)} {Q:fm->ai->Prop} (p:a8 (TS s.heap) vs ds) (hne:vs≠[]) (h:∀ κ,κ=tuples' true\/κ=general'\/κ=oneType'->Q κ s):aE (aJ prog w) A (keyKind' vs.toArray) Q E s:=by
 rw[kat_kind_eq,jp,map_eq_pure_bind];refine aa (aa (bX9 p λfs J=>ad ?_))
 by_cases j:(fs.toArray.all λx=>x.isSome)=true
 ·rw[if_pos j];refine aa (dN ?_);rw[oneTypeOnly'_eq];have I:∀ v∈(fs.toArray.filterMap id).toList,∃ x t,v=.str x t:=λv I=>by
   simp only[Array.toList_filterMap,fw,id] at I;obtain⟨f,hf,rfl⟩:=I
   have:∀ {fs:List (Option ae)} {ds:List (List Str)},a8 (λf d=>match f with | none=>d=[] | some v=>∃ x r t,d=x::r/\v=.str x t) fs ds->some v∈fs->∃ x t,v=.str x t:=by
    intro fs ds J
    induction J with
    | nil=>intro hm;cases hm
    | cons z _ L =>
     intro hm;rcases aB.mp hm with e | hm
     ·subst e;obtain⟨x,r,t,_,e⟩:=z;exact⟨x,t,e⟩
     ·exact L hm
   exact this J hf
  have B:(fs.toArray.filterMap id).toList≠[]:=by
   have R:fs.length=vs.length:=by have:=bP p;have:=bP J;lia
   cases fs with
   | nil=>exact absurd (cL (by simpa using R.symm)) hne
   | cons f fs =>
    simp only[List.all_toArray,iq,aQ] at j;obtain⟨v,rfl⟩:=cR.mp j.1;simp
  generalize (fs.toArray.filterMap id)=gs at I B;obtain⟨gs⟩:=gs;rw[jp,map_eq_pure_bind];refine aa (aa (aa (kas_mapM (r:=dg "str") gs (λv D Z O=>?_) (ad ?_))))
  ·obtain⟨x,t,rfl⟩:=I v D;exact ad O
  ·obtain⟨g,gr,rfl⟩:∃ g gr,gs=g::gr:=by
    cases gs with
    | nil=>exact absurd rfl B
    | cons g gr=>exact⟨g,gr,rfl⟩
   have h0:(List.map (λ_=>dg "str") (g::gr)).toArray[0]?=some (dg "str"):=by simp
   have G:((List.map (λ_=>dg "str") (g::gr)).toArray.all λx=>x == dg "str")=true:=by
    simp only[List.all_toArray,iM,bF];intro _ _;simp
   rw[h0];simp only[G,if_true];exact ad (ad (h _ (.inl rfl)))
 ·rw[if_neg j]
  by_cases h1:((fs.toArray[0]?.bind id).isSome)=true
  ·rw[if_pos h1];exact ad (h _ (.inr (.inl rfl)))
  ·rw[if_neg h1,oneTypeOnly'_eq,jp,map_eq_pure_bind];refine aa (aa (aa (kas_mapM (r:=dg "tuple") vs (λv D Z O=>?_) (ad ?_))))
   ·have:∀ {vs:List ae} {ds:List (List Str)},a8 (TS s.heap) vs ds->v∈vs->∃ d,TS s.heap v d:=by
     intro vs ds pp
     induction pp with
     | nil=>intro hm;cases hm
     | cons z _ L =>
      intro hm;rcases aB.mp hm with e | hm
      ·subst e;exact⟨_,z⟩
      ·exact L hm
    obtain⟨d,b,items,rfl,⟨o,U,Y,_⟩,_⟩:=this p D;refine Looks.here (show Looks (aJ prog w) s.heap (typeOf (.ref b)) (.type "tuple") from ?_) O
    rw[<- Y];exact(Looks.ld U).andThen .now
   ·generalize (List.map (λ_=>dg "tuple") vs).toArray=ts;cases ts[0]? with
    | none=>exact ad (ad (by first | exact h _ (.inr (.inl rfl)) | exact h _ (.inr (.inr rfl))))
    | some t =>
     by_cases h2:(ts.all (· == t))=true
     ·simp only[h2,if_true];exact ad (ad (h _ (.inr (.inr rfl))))
     ·simp only[h2,if_false];exact ad (ad (h _ (.inr (.inl rfl))))
end
end KS
namespace SF
open PySem PyProof.Rows
abbrev SM:=StateT cW Sem
def gal:Bool->aP->Array aP->Nat->Nat->Nat->SM (Option Nat):=sortPriv% PySem.Builtin.gallop
def mLo:Array aP->Array aP->SM (Array aP):=sortPriv% PySem.Builtin.mergeLo
def mHi:Array aP->Array aP->SM (Array aP):=sortPriv% PySem.Builtin.mergeHi
abbrev setG (st:cW) (g:Nat):cW:=ja (kindOf st) (aU st) (bR st) g (fS st)
def bey (lf:Bool) (key:aP) (arr:Array aP) (b0 i:Nat):SM (Option Bool):=do
 let x <- eP arr (b0 + i)
 if lf then lt' x key else return (<- lt' key x).map (!·)
theorem fQ5 (lf:Bool) (key:aP) (arr:Array aP) (b0 n at0:Nat):gal lf key arr b0 n at0=(do
 let mut lastofs:=0
 let mut ofs:=1
 let mut lo:=0
 let mut hi:=0
 let some rt <- bey lf key arr b0 at0 | return none
 if rt then
  let mx:=n - at0
  for _ in [0:n] do
   if ofs >= mx then break
   let some m1 <- bey lf key arr b0 (at0 + ofs) | return none
   if !m1 then break
   lastofs:=ofs
   ofs:=2 * ofs + 1
  lo:=at0 + lastofs + 1
  hi:=at0 + min ofs mx
 else
  let mx:=at0 + 1
  for _ in [0:n] do
   if ofs >= mx then break
   let some f1 <- bey lf key arr b0 (at0 - ofs) | return none
   if f1 then break
   lastofs:=ofs
   ofs:=2 * ofs + 1
  lo:=at0 + 1 - min ofs mx
  hi:=at0 - lastofs
 for _ in [0:n] do
  if lo >= hi then break
  let m:=lo + (hi - lo) / 2
  let some m2 <- bey lf key arr b0 m | return none
  if m2 then lo:=m + 1 else hi:=m
 return some hi):=rfl
theorem fQ6 (a b:Array aP):mLo a b=(do
 rule "list.sort.merge-lo"
 let total:=a.size + b.size
 let fin (o:Array aP) (ia ib:Nat):=o++a.extract ia a.size++b.extract ib b.size
 let lst (o:Array aP) (ia ib:Nat):=o++b.extract ib b.size++a.extract ia a.size
 let mut out:Array aP:=#[<- eP b 0]
 let mut ia:=0
 let mut ib:=1
 if ib == b.size then return fin out ia ib
 if ia + 1 == a.size then return lst out ia ib
 let mut minGallop:=gallopOf (<- get)
 for _ in [0:total] do
  let mut acount:=0
  let mut bcount:=0
  for _ in [0:total] do
   let some bw <- lt' (<- eP b ib) (<- eP a ia) | return fin out ia ib
   if bw then
    out:=out.push (<- eP b ib)
    ib:=ib + 1
    bcount:=bcount + 1
    acount:=0
    if ib == b.size then return fin out ia ib
    if bcount >= minGallop then break
   else
    out:=out.push (<- eP a ia)
    ia:=ia + 1
    acount:=acount + 1
    bcount:=0
    if ia + 1 == a.size then return lst out ia ib
    if acount >= minGallop then break
  rule "list.sort.gallop"
  minGallop:=minGallop + 1
  for _ in [0:total] do
   if minGallop > 1 then minGallop:=minGallop - 1
   modify (λs=>setG s minGallop)
   let some k <- gal false (<- eP b ib) a ia (a.size - ia) 0 | return fin out ia ib
   acount:=k
   if k > 0 then
    out:=out++a.extract ia (ia + k)
    ia:=ia + k
    if ia + 1 == a.size then return lst out ia ib
    if ia == a.size then return fin out ia ib
   out:=out.push (<- eP b ib)
   ib:=ib + 1
   if ib == b.size then return fin out ia ib
   let some k <- gal true (<- eP a ia) b ib (b.size - ib) 0 | return fin out ia ib
   bcount:=k
   if k > 0 then
    out:=out++b.extract ib (ib + k)
    ib:=ib + k
    if ib == b.size then return fin out ia ib
   out:=out.push (<- eP a ia)
   ia:=ia + 1
   if ia + 1 == a.size then return lst out ia ib
   if acount < 7 && bcount < 7 then break
  minGallop:=minGallop + 1
  modify (λs=>setG s minGallop)
 fu "internal:list.sort.merge-bound"):=rfl
structure Orc (prog:aC) (w:aR) (A:a7) (s:ai) (κ:fm) (P:aP->Prop) (lt:aP->aP->Bool):Prop where
 ask:∀ x y (Q:Bool->ai->Prop),P x->P y->Q (lt x y) s->aE (aJ prog w) A (keyLt' κ x.1 y.1) Q (λ_ _=>False) s
 as:∀ x y,P x->P y->lt x y=true->lt y x=false
 tr:∀ x y z,P x->P y->P z->lt y x=false->lt z y=false->lt z x=false
section
variable {prog:aC} {w:aR} {A:a7} {E:ae->ai->Prop} {s:ai} {κ:fm} {P:aP->Prop} {lt:aP->aP->Bool}
theorem cJ2 (o:Orc prog w A s κ P lt) {st:cW} {x y:aP} {Q:Option Bool->cW->Prop} (hk:kindOf st=κ) (hx:P x) (hy:P y) (h:Q (some (lt x y)) st):wpS (aJ prog w) A E s (lt' x y) Q st:=by
 rw[lt'_eq];refine ax (iN ?_);rw[hk];refine ax (jb (fc (e9 (o.ask x y (λb s'=>s'=s/\b=lt x y) hx hy ⟨rfl,rfl⟩) (λb s' j=>?_) λ_ _ B=>B.elim)));obtain⟨rfl,rfl⟩:=j;exact⟨rfl,aD h⟩
theorem aZ7 {st:cW} {arr:Array aP} {i:Nat} {x:aP} {Q:aP->cW->Prop} (hx:arr[i]?=some x) (h:Q x st):wpS (aJ prog w) A E s (eP arr i) Q st:=by
 rw[elem'_eq,hx];exact aD h
def bv (lt:aP->aP->Bool) (lf:Bool) (key x:aP):Bool:=if lf then lt x key else !lt key x
theorem bXa (o:Orc prog w A s κ P lt) {st:cW} {lf:Bool} {key x:aP} {arr:Array aP} {b0 i:Nat} {Q:Option Bool->cW->Prop} (hk:kindOf st=κ) (hkey:P key) (hx:arr[b0 + i]?=some x) (px:P x) (h:Q (some (bv lt lf key x)) st):wpS (aJ prog w) A E s (bey lf key arr b0 i) Q st:=by
 unfold bey;refine ax (aZ7 hx ?_);cases lf with
 | true=>exact cJ2 o hk px hkey h
 | false=>exact ax (cJ2 o hk hkey px (aD h))
theorem dXg {st:cW} {b:Nat->Bool} {n lo hi:Nat} {body:Nat->Option (Option Nat) × Nat × Nat->SM (ForInStep (Option (Option Nat) × Nat × Nat))} {Q:Option (Option Nat) × Nat × Nat->cW->Prop}
  (hb:∀ x lo hi (Q':ForInStep (Option (Option Nat) × Nat × Nat)->cW->Prop),hi<=n->(hi<=lo->Q' (.done (none,lo,hi)) st)->(lo < hi->b (lo + (hi - lo) / 2)=true->Q' (.yield (none,lo + (hi - lo) / 2 + 1,hi)) st)->(lo < hi->b (lo + (hi - lo) / 2)=false->Q' (.yield (none,lo,lo + (hi - lo) / 2)) st)->wpS (aJ prog w) A E s (body x (none,lo,hi)) Q' st)
  (mono:∀ i j,i<=j->j < n->b j=true->b i=true) (h1:lo<=hi) (h2:hi<=n) (h3:∀ i,i < lo->b i=true) (h4:∀ i,hi<=i->i < n->b i=false)
  (h:∀ k,k<=n->(∀ i,i < k->b i=true)->(∀ i,k<=i->i < n->b i=false)->Q (none,k,k) st):wpS (aJ prog w) A E s (forIn [0:n] ((none,lo,hi):Option (Option Nat) × Nat × Nat) body) Q st:=by
 refine dF (bU (I:=λx c B=>B=st/\∃ lo hi,c=(none,lo,hi)/\lo<=hi/\hi<=n/\hi + x<=lo + n/\(∀ i,i < lo->b i=true)/\∀ i,hi<=i->i < n->b i=false)
  (Q:=λc B=>B=st/\∃ lo hi,c=(none,lo,hi)/\hi<=lo/\lo<=hi/\hi<=n/\(∀ i,i < lo->b i=true)/\∀ i,hi<=i->i < n->b i=false) ?_ ?_ ⟨rfl,lo,hi,rfl,h1,h2,by omega,h3,h4⟩) ?_
 ·rintro x c B _ R ⟨rfl,lo,hi,rfl,a1,a2,O,G,D⟩;refine hb x lo hi _ a2 (λJ=>⟨rfl,lo,hi,rfl,J,a1,a2,G,D⟩) (λJ e=>⟨rfl,_,_,rfl,by omega,a2,by omega,λi L=>mono i _ (by omega) (by omega) e,D⟩) λJ e=>⟨rfl,_,_,rfl,by omega,by omega,by omega,G,λi h1 h2=>?_⟩
  cases e2:b i with
  | false=>rfl
  | true=>rw[mono _ i h1 h2 e2] at e;cases e
 ·rintro c B ⟨rfl,lo,hi,rfl,a1,a2,O,G,D⟩;exact⟨rfl,lo,hi,rfl,by omega,a1,a2,G,D⟩
 ·rintro c B ⟨rfl,lo,hi,rfl,a0,a1,a2,G,D⟩
  have:lo=hi:=by omega
  subst this;exact h lo a2 G D
theorem bQs (o:Orc prog w A s κ P lt) {st:cW} {lf:Bool} {key:aP} {arr:Array aP} {b0 n at0:Nat} {f:Nat->aP} {Q:Option Nat->cW->Prop} (hk:kindOf st=κ) (hkey:P key)
  (hf:∀ i,i < n->arr[b0 + i]?=some (f i)/\P (f i)) (mono:∀ i j,i<=j->j < n->bv lt lf key (f j)=true->bv lt lf key (f i)=true) (h0:at0 < n)
  (h:∀ k,k<=n->(∀ i,i < k->bv lt lf key (f i)=true)->(∀ i,k<=i->i < n->bv lt lf key (f i)=false)->Q (some k) st):wpS (aJ prog w) A E s (gal lf key arr b0 n at0) Q st:=by
 rw[fQ5];dsimp only;have up:∀ i j,i<=j->j < n->bv lt lf key (f i)=false->bv lt lf key (f j)=false:=λi j h1 h2 h3=>by
  cases e:bv lt lf key (f j) with
  | false=>rfl
  | true=>rw[mono i j h1 h2 e] at h3;cases h3
 refine ax (bXa o hk hkey (hf at0 h0).1 (hf at0 h0).2 ?_);dsimp only;cases e0:bv lt lf key (f at0) with
 | true =>
  rw[if_pos rfl];refine ax (dF (bU (I:=λx c D=>D=st/\∃ l B,c=(none,l,B)/\l < B/\x + 1<=B/\at0 + l < n/\bv lt lf key (f (at0 + l))=true)
   (Q:=λc D=>D=st/\∃ l B,c=(none,l,B)/\l < B/\at0 + l < n/\bv lt lf key (f (at0 + l))=true/\(n - at0<=B\/(at0 + B < n/\bv lt lf key (f (at0 + B))=false))) ?_ ?_ ⟨rfl,0,1,rfl,by decide,by decide,h0,e0⟩) ?_)
  ·rintro x c D _ hx ⟨rfl,l,B,rfl,a1,a2,L,J⟩;dsimp only
   by_cases G:B >= n - at0
   ·rw[if_pos G];exact aD ⟨rfl,l,B,rfl,a1,L,J,.inl G⟩
   ·rw[if_neg G];have hm:at0 + B < n:=by omega
    refine ax (bXa o hk hkey (hf _ hm).1 (hf _ hm).2 ?_);dsimp only;cases e:bv lt lf key (f (at0 + B)) with
    | true=>rw[if_neg (by simp)];exact aD ⟨rfl,B,_,rfl,by omega,by omega,hm,e⟩
    | false=>rw[if_pos (by rfl)];exact aD ⟨rfl,l,B,rfl,a1,L,J,.inr ⟨hm,e⟩⟩
  ·rintro c D ⟨rfl,l,B,rfl,a1,a2,L,J⟩;exact⟨rfl,l,B,rfl,a1,L,J,.inl (by omega)⟩
  ·rintro c D ⟨rfl,l,B,rfl,a1,L,J,a5⟩;have H4:∀ i,at0 + min B (n - at0)<=i->i < n->bv lt lf key (f i)=false:=λi h1 h2=>by
    rcases a5 with z | ⟨z1,O⟩
    ·omega
    ·exact up (at0 + B) i (by omega) h2 O
   refine ax (dXg (b:=λi=>bv lt lf key (f i)) (n:=n) (lo:=at0 + l + 1) (hi:=at0 + min B (n - at0)) (λx lo hi Q' hn Y U R=>?_) mono (by omega) (by omega) (λi hi=>mono i (at0 + l) (by omega) L J) H4 λk k1 k2 Z=>aD (h k k1 k2 Z))
   dsimp only
   by_cases G:lo >= hi
   ·rw[if_pos G];exact aD (Y G)
   ·rw[if_neg G];have hm:lo + (hi - lo) / 2 < n:=by omega
    refine ax (bXa o hk hkey (hf _ hm).1 (hf _ hm).2 ?_);dsimp only;cases e:bv lt lf key (f (lo + (hi - lo) / 2)) with
    | true=>rw[if_pos rfl];exact aD (U (by omega) e)
    | false=>rw[if_neg (by simp)];exact aD (R (by omega) e)
 | false =>
  rw[if_neg (by simp)]
  refine ax (dF (bU (I:=λx c D=>D=st/\∃ l B,c=(none,l,B)/\l < B/\x + 1<=B/\l<=at0/\bv lt lf key (f (at0 - l))=false)
   (Q:=λc D=>D=st/\∃ l B,c=(none,l,B)/\l < B/\l<=at0/\bv lt lf key (f (at0 - l))=false/\(at0 + 1<=B\/(B<=at0/\bv lt lf key (f (at0 - B))=true))) ?_ ?_ ⟨rfl,0,1,rfl,by decide,by decide,Nat.zero_le _,e0⟩) ?_)
  ·rintro x c D _ hx ⟨rfl,l,B,rfl,a1,a2,L,J⟩;dsimp only
   by_cases G:B >= at0 + 1
   ·rw[if_pos G];exact aD ⟨rfl,l,B,rfl,a1,L,J,.inl G⟩
   ·rw[if_neg G];have hm:at0 - B < n:=by omega
    refine ax (bXa o hk hkey (hf _ hm).1 (hf _ hm).2 ?_);dsimp only;cases e:bv lt lf key (f (at0 - B)) with
    | true=>rw[if_pos rfl];exact aD ⟨rfl,l,B,rfl,a1,L,J,.inr ⟨by omega,e⟩⟩
    | false=>rw[if_neg (by simp)];exact aD ⟨rfl,B,_,rfl,by omega,by omega,by omega,e⟩
  ·rintro c D ⟨rfl,l,B,rfl,a1,a2,L,J⟩;exact⟨rfl,l,B,rfl,a1,L,J,.inl (by omega)⟩
  ·rintro c D ⟨rfl,l,B,rfl,a1,L,J,a5⟩;have H3:∀ i,i < at0 + 1 - min B (at0 + 1)->bv lt lf key (f i)=true:=λi hi=>by
    rcases a5 with z | ⟨z1,O⟩
    ·omega
    ·exact mono i (at0 - B) (by omega) (by omega) O
   refine ax (dXg (b:=λi=>bv lt lf key (f i)) (n:=n) (lo:=at0 + 1 - min B (at0 + 1)) (hi:=at0 - l) (λx lo hi Q' hn Y U R=>?_) mono (by omega) (by omega) H3 (λi h1 h2=>up (at0 - l) i h1 h2 J) λk k1 k2 Z=>aD (h k k1 k2 Z))
   dsimp only
   by_cases G:lo >= hi
   ·rw[if_pos G];exact aD (Y G)
   ·rw[if_neg G];have hm:lo + (hi - lo) / 2 < n:=by omega
    refine ax (bXa o hk hkey (hf _ hm).1 (hf _ hm).2 ?_);dsimp only;cases e:bv lt lf key (f (lo + (hi - lo) / 2)) with
    | true=>rw[if_pos rfl];exact aD (U (by omega) e)
    | false=>rw[if_neg (by simp)];exact aD (R (by omega) e)
end
def Sd {α:Type} (lt:α->α->Bool) (l:List α):Prop:=l.Pairwise λx y=>lt y x=false
structure Iv {α:Type} (lt:α->α->Bool) (T out rest:List α):Prop where
 perm:(out++rest).Perm T
 sd:Sd lt out
 lo:∀ x∈out,∀ y∈rest,lt y x=false
section
variable {α:Type} {lt:α->α->Bool} {T out rest:List α}
theorem Iv.step (h:Iv lt T out rest) {xs rest':List α} (hp:rest.Perm (xs++rest')) (hs:Sd lt xs) (hl:∀ x∈xs,∀ y∈rest',lt y x=false):Iv lt T (out++xs) rest':=by
 refine⟨?_,bB.mpr ⟨h.sd,hs,λx B y j=>h.lo x B y (hp.mem_iff.mpr (cH _ j))⟩,λx B y j=>?_⟩
 ·rw[aY];exact(eQ out hp.symm).trans h.perm
 ·rcases aN.mp B with z | z
  ·exact h.lo x z y (hp.mem_iff.mpr (bi _ j))
  ·exact hl x z y j
theorem Iv.done (h:Iv lt T out rest) (hs:Sd lt rest):Sd lt (out++rest)/\(out++rest).Perm T:=⟨bB.mpr ⟨h.sd,hs,h.lo⟩,h.perm⟩
theorem Iv.perm' (h:Iv lt T out rest) {rest':List α} (hp:rest.Perm rest'):Iv lt T out rest':=⟨(eQ out hp.symm).trans h.perm,h.sd,λx B y j=>h.lo x B y (hp.mem_iff.mpr j)⟩
theorem Iv.size (h:Iv lt T out rest):out.length + rest.length=T.length:=by rw[<- aq];exact h.perm.length_eq
theorem bJ7 {l:List α} {i:Nat} {x:α} (h:l[i]?=some x):l.drop i=x::l.drop (i + 1):=by
 have hi:=(aA.mp h).1;rw[dW hi]
 congr 1
 exact(aA.mp h).2
theorem Sd.drop {l:List α} (h:Sd lt l) (i:Nat):Sd lt (l.drop i):=h.sublist (jn _ _)
theorem Sd.at {l:List α} (h:Sd lt l) {i j:Nat} {x y:α} (hij:i < j) (hx:l[i]?=some x) (hy:l[j]?=some y):lt y x=false:=by
 obtain⟨h1,D⟩:=aA.mp hx;obtain⟨h2,B⟩:=aA.mp hy
 have:=de.mp h i j h1 h2 hij
 rw[D,B] at this;exact this
theorem aQk {l:List α} {i:Nat} {y:α} (h:y∈l.drop i):∃ j,i<=j/\l[j]?=some y:=by
 obtain⟨k,B,e⟩:=bO h;rw[gO] at e;rw[bm] at B;exact⟨i + k,by omega,by rw[ah (by omega),e]⟩
end
section
variable {prog:aC} {w:aR} {A:a7} {s:ai} {κ:fm} {P:aP->Prop} {lt:aP->aP->Bool} {T out la lb:List aP} {ia ib:Nat} {x y:aP}
theorem bXb (o:Orc prog w A s κ P lt) {l:List aP} (hP:∀ z∈l,P z) (hs:Sd lt l) {i:Nat} {z:aP} (hz:P z) {y:aP} (hy:l[i]?=some y) (h:lt y z=false):∀ u∈l.drop i,lt u z=false:=λu D=>by
 obtain⟨j,G,e⟩:=aQk D;rcases Nat.eq_or_lt_of_le G with rfl | B
 ·rw[hy] at e;cases e;exact h
 ·exact o.tr z y u hz (hP y (ak hy)) (hP u (ak e)) h (hs.at B hy e)
theorem Iv.pushB (h:Iv lt T out (la.drop ia++lb.drop ib)) (sb:Sd lt lb) (hy:lb[ib]?=some y) (hl:∀ u∈la.drop ia,lt u y=false):Iv lt T (out++[y]) (la.drop ia++lb.drop (ib + 1)):=by
 refine h.step ?_ (cq _ _) λx B u D=>?_
 ·rw[bJ7 hy];exact fX
 ·rw[aI.mp B];rcases aN.mp D with z | z
  ·exact hl u z
  ·obtain⟨j,G,e⟩:=aQk z;exact sb.at (by omega) hy e
theorem Iv.pushA (h:Iv lt T out (la.drop ia++lb.drop ib)) (sa:Sd lt la) (hx:la[ia]?=some x) (hl:∀ u∈lb.drop ib,lt u x=false):Iv lt T (out++[x]) (la.drop (ia + 1)++lb.drop ib):=by
 refine h.step ?_ (cq _ _) λz B u D=>?_
 ·rw[bJ7 hx];exact dI _
 ·rw[aI.mp B];rcases aN.mp D with z | z
  ·obtain⟨j,G,e⟩:=aQk z;exact sa.at (by omega) hx e
  ·exact hl u z
theorem Iv.blockA (h:Iv lt T out (la.drop ia++lb.drop ib)) (sa:Sd lt la) (k:Nat) (hl:∀ z∈(la.drop ia).take k,∀ u∈lb.drop ib,lt u z=false):Iv lt T (out++(la.drop ia).take k) (la.drop (ia + k)++lb.drop ib):=by
 have e:la.drop ia=(la.drop ia).take k++la.drop (ia + k):=by rw[<- List.drop_drop];exact(bL k _).symm
 have sd:=sa.drop ia;rw[e] at sd;obtain⟨s1,_,s3⟩:=bB.mp sd;refine h.step ?_ s1 λz j u B=>?_
 ·rw[<- aY,<- e]
 ·rcases aN.mp B with v | v
  ·exact s3 z j u v
  ·exact hl z j u v
theorem Iv.blockB (h:Iv lt T out (la.drop ia++lb.drop ib)) (sb:Sd lt lb) (k:Nat) (hl:∀ z∈(lb.drop ib).take k,∀ u∈la.drop ia,lt u z=false):Iv lt T (out++(lb.drop ib).take k) (la.drop ia++lb.drop (ib + k)):=by
 have e:lb.drop ib=(lb.drop ib).take k++lb.drop (ib + k):=by rw[<- List.drop_drop];exact(bL k _).symm
 have sd:=sb.drop ib;rw[e] at sd;obtain⟨s1,_,s3⟩:=bB.mp sd;refine h.step ?_ s1 λz j u B=>?_
 ·have D:la.drop ia++lb.drop ib=la.drop ia++((lb.drop ib).take k++lb.drop (ib + k)):=by rw[<- e]
  rw[D,<- aY,<- aY];exact eJ _ dY
 ·rcases aN.mp B with v | v
  ·exact hl z j u v
  ·exact s3 z j u v
theorem aZq {l:List aP} {i k:Nat} {z:aP} (h:z∈(l.drop i).take k):∃ j,j < k/\l[i + j]?=some z:=by
 obtain⟨j,B,e⟩:=bO h;rw[aK,bm] at B;rw[gN,gO] at e;exact⟨j,by omega,by rw[ah (by omega),e]⟩
end
theorem aZc (a:Array aP) (i j:Nat):(a.extract i j).toList=(a.toList.drop i).take (j - i):=by simp
theorem bJ8 (a:Array aP) (i:Nat):(a.extract i a.size).toList=a.toList.drop i:=by
 rw[aZc];exact bG (by rw[bm];simp)
end SF
theorem hd {g:Prop} (h:∀ G:Prop,(g->G)->G):g:=h g id
namespace SF
open PySem PyProof.Rows
section
variable {prog:aC} {w:aR} {A:a7} {E:ae->ai->Prop} {s:ai} {κ:fm} {P:aP->Prop} {lt:aP->aP->Bool}
theorem aQd {a:Array aP} {i:Nat} (h:i < a.size):∃ x,a[i]?=some x/\a.toList[i]?=some x:=⟨a[i],by simp[h],by simp[h]⟩
theorem aQx {σ α:Type} {M:Model} {c:Prop} {di:Decidable c} {X Y:StateT σ Sem α} {Q:α->σ->Prop} {st:σ} (hc:c) (h:wpS M A E s X Q st):wpS M A E s (@ite _ c di X Y) Q st:=by rw[if_pos hc];exact h
theorem aQy {σ α:Type} {M:Model} {c:Prop} {di:Decidable c} {X Y:StateT σ Sem α} {Q:α->σ->Prop} {st:σ} (hc:¬ c) (h:wpS M A E s Y Q st):wpS M A E s (@ite _ c di X Y) Q st:=by rw[if_neg hc];exact h
theorem dXh {σ α:Type} {M:Model} {c:Nat->Prop} {di:∀ n,Decidable (c n)} {X Y:Nat->StateT σ Sem α} {Q:α->σ->Prop} {st:σ} (e:∀ n,X n=Y (n - 1)) (h:∀ m,wpS M A E s (Y m) Q st) (n:Nat):wpS M A E s (@ite _ (c n) (di n) (X n) (Y n)) Q st:=by
 split
 ·rw[e];exact h _
 ·exact h _
theorem fQ7 (o:Orc prog w A s κ P lt) {st:cW} {a b:Array aP} {Q:Array aP->cW->Prop} (hk:kindOf st=κ) (pa:∀ x∈a.toList,P x) (pb:∀ y∈b.toList,P y) (sa:Sd lt a.toList) (sb:Sd lt b.toList) (na:1<=a.size) (nb:1<=b.size)
  (hfst:∀ y,b.toList[0]?=some y->∀ x∈a.toList,lt x y=false) (hlst:∀ z,a.toList[a.size - 1]?=some z->∀ y∈b.toList,lt z y=false)
  (h:∀ out g,Sd lt out.toList->out.toList.Perm (a.toList++b.toList)->Q out (setG st g)):wpS (aJ prog w) A E s (mLo a b) Q st:=by
 have sz:(a.toList++b.toList).length=a.size + b.size:=by simp
 have finA:∀ (out:Array aP) ia ib g,ib=b.size->Iv lt (a.toList++b.toList) out.toList (a.toList.drop ia++b.toList.drop ib)->Q (out++a.extract ia a.size++b.extract ib b.size) (setG st g):=λout ia ib g e iv=>by
  have e0:b.toList.drop ib=[]:=cy (by simp[e])
  rw[e0,bz] at iv
  have:=iv.done (sa.drop ia)
  refine h _ g ?_ ?_ <;> simp only[bJ,bJ8,e0,bz]
  ·exact this.1
  ·exact this.2
 have finB:∀ (out:Array aP) ia ib g,ia=a.size->Iv lt (a.toList++b.toList) out.toList (a.toList.drop ia++b.toList.drop ib)->Q (out++a.extract ia a.size++b.extract ib b.size) (setG st g):=λout ia ib g e iv=>by
  have e0:a.toList.drop ia=[]:=cy (by simp[e])
  rw[e0,bY] at iv
  have:=iv.done (sb.drop ib)
  refine h _ g ?_ ?_ <;> simp only[bJ,bJ8,e0,bz]
  ·exact this.1
  ·exact this.2
 have finL:∀ (out:Array aP) ia ib g,ia + 1=a.size->Iv lt (a.toList++b.toList) out.toList (a.toList.drop ia++b.toList.drop ib)->Q (out++b.extract ib b.size++a.extract ia a.size) (setG st g):=λout ia ib g e iv=>by
  obtain⟨z,hz,J⟩:=aQd (a:=a) (i:=ia) (by lia)
  have e0:a.toList.drop ia=[z]:=by rw[bJ7 J,cy (by simp;lia)]
  have Z:=iv.perm' dY;have hz2:a.toList[a.size - 1]?=some z:=by rw[<- e];exact J
  have:=Z.done (bB.mpr ⟨sb.drop ib,sa.drop ia,λx hx y hy=>by
   rw[e0] at hy;rw[aI.mp hy];exact hlst z hz2 x (cI hx)⟩)
  refine h _ g ?_ ?_ <;> simp only[bJ,bJ8,aY]
  ·exact this.1
  ·exact this.2
 have t2:∀ (R:ForInStep (Option (Array aP) × Array aP × Nat × Nat × Nat × Nat × Nat)->cW->Prop) (out:Array aP) (ia ib mg ac bc g:Nat),(∀ r c',Q r (setG st g)->R (.done (some r,c')) (setG st g)) ->
   (∀ D B G ac' bc',B + 1 < a.size->G < b.size->Iv lt (a.toList++b.toList) D.toList (a.toList.drop B++b.toList.drop G)->out.size<=D.size->R (.done (none,D,B,G,mg,ac',bc')) (setG st g)/\R (.yield (none,D,B,G,mg,ac',bc')) (setG st g)) ->
   ia + 1 < a.size->ib < b.size->Iv lt (a.toList++b.toList) out.toList (a.toList.drop ia++b.toList.drop ib)->(∀ x,a.toList[ia]?=some x->∀ u∈b.toList.drop ib,lt u x=false) ->
   wpS (aJ prog w) A E s (do
    let x <- eP a ia
    if (ia + 1 + 1 == a.size)=true then pure (bo (some (out.push x++b.extract ib b.size++a.extract (ia + 1) a.size),out.push x,ia + 1,ib,mg,ac,bc))
    else if (decide (ac < 7) && decide (bc < 7))=true then pure (bo (none,out.push x,ia + 1,ib,mg,ac,bc))
    else pure (bC (none,out.push x,ia + 1,ib,mg,ac,bc))) R (setG st g):=by
  intro R out ia ib mg ac bc g hd hg hia hib iv hl;obtain⟨x1,hx1,Y⟩:=aQd (a:=a) (i:=ia) (by lia)
  refine ax (aZ7 hx1 ?_);have Z:Iv lt (a.toList++b.toList) (out.push x1).toList (a.toList.drop (ia + 1)++b.toList.drop ib):=by
   rw[cx];exact iv.pushA sa Y (hl x1 Y)
  have sp:(out.push x1).size=out.size + 1:=dQ ..
  by_cases c1:(ia + 1 + 1 == a.size)=true
  ·refine aQx c1 ?_;exact aD (hd _ _ (finL _ _ _ g (by simpa using c1) Z))
  ·refine aQy c1 ?_;have c1':ia + 1 + 1≠a.size:=by simpa using c1
   have:=hg (out.push x1) (ia + 1) ib ac bc (by lia) hib Z (by lia)
   by_cases c2:(decide (ac < 7) && decide (bc < 7))=true
   ·refine aQx c2 ?_;exact aD this.1
   ·refine aQy c2 ?_;exact aD this.2
 have t1:∀ (R:ForInStep (Option (Array aP) × Array aP × Nat × Nat × Nat × Nat × Nat)->cW->Prop) (out:Array aP) (ia ib mg ac bc g:Nat),(∀ r c',Q r (setG st g)->R (.done (some r,c')) (setG st g)) ->
   (∀ D B G ac' bc',B + 1 < a.size->G < b.size->Iv lt (a.toList++b.toList) D.toList (a.toList.drop B++b.toList.drop G)->out.size<=D.size->R (.done (none,D,B,G,mg,ac',bc')) (setG st g)/\R (.yield (none,D,B,G,mg,ac',bc')) (setG st g)) ->
   ia + 1 < a.size->ib < b.size->Iv lt (a.toList++b.toList) out.toList (a.toList.drop ia++b.toList.drop ib)->(∀ y,b.toList[ib]?=some y->∀ u∈a.toList.drop ia,lt u y=false) ->
   wpS (aJ prog w) A E s (do
    let y <- eP b ib
    if (ib + 1 == b.size)=true then pure (bo (some (out.push y++a.extract ia a.size++b.extract (ib + 1) b.size),out.push y,ia,ib + 1,mg,ac,bc))
    else do
     let x <- eP a ia
     let z <- gal true x b (ib + 1) (b.size - (ib + 1)) 0
     match z with
     | some k1 =>
      if k1 > 0 then
       if (ib + 1 + k1 == b.size)=true then pure (bo (some (out.push y++b.extract (ib + 1) (ib + 1 + k1)++a.extract ia a.size++b.extract (ib + 1 + k1) b.size),out.push y++b.extract (ib + 1) (ib + 1 + k1),ia,ib + 1 + k1,mg,ac,k1))
       else do
        let x <- eP a ia
        if (ia + 1 + 1 == a.size)=true then pure (bo (some ((out.push y++b.extract (ib + 1) (ib + 1 + k1)).push x++b.extract (ib + 1 + k1) b.size++a.extract (ia + 1) a.size),(out.push y++b.extract (ib + 1) (ib + 1 + k1)).push x,ia + 1,ib + 1 + k1,mg,ac,k1))
        else if (decide (ac < 7) && decide (k1 < 7))=true then pure (bo (none,(out.push y++b.extract (ib + 1) (ib + 1 + k1)).push x,ia + 1,ib + 1 + k1,mg,ac,k1))
        else pure (bC (none,(out.push y++b.extract (ib + 1) (ib + 1 + k1)).push x,ia + 1,ib + 1 + k1,mg,ac,k1))
      else do
       let x <- eP a ia
       if (ia + 1 + 1 == a.size)=true then pure (bo (some ((out.push y).push x++b.extract (ib + 1) b.size++a.extract (ia + 1) a.size),(out.push y).push x,ia + 1,ib + 1,mg,ac,k1))
       else if (decide (ac < 7) && decide (k1 < 7))=true then pure (bo (none,(out.push y).push x,ia + 1,ib + 1,mg,ac,k1))
       else pure (bC (none,(out.push y).push x,ia + 1,ib + 1,mg,ac,k1))
     | _=>pure (bo (some (out.push y++a.extract ia a.size++b.extract (ib + 1) b.size),out.push y,ia,ib + 1,mg,ac,bc))) R (setG st g):=by
  intro R out ia ib mg ac bc g hd hg hia hib iv hl;obtain⟨y1,hy1,U⟩:=aQd (a:=b) (i:=ib) hib;obtain⟨x1,hx1,Y⟩:=aQd (a:=a) (i:=ia) (by lia)
  have px1:=pa x1 (ak Y);refine ax (aZ7 hy1 ?_);have Z:Iv lt (a.toList++b.toList) (out.push y1).toList (a.toList.drop ia++b.toList.drop (ib + 1)):=by
   rw[cx];exact iv.pushB sb U (hl y1 U)
  have sp:(out.push y1).size=out.size + 1:=dQ ..
  by_cases c1:(ib + 1 == b.size)=true
  ·refine aQx c1 ?_;exact aD (hd _ _ (finA _ _ _ g (by simpa using c1) Z))
  refine aQy c1 ?_;have c1':ib + 1≠b.size:=by simpa using c1
  refine ax (aZ7 hx1 (ax (bQs o (f:=λi=>b.toList.getD (ib + 1 + i) (.none,.none)) hk px1 (λi hi=>?_) (λi j hij hj hb=>?_) (by lia) λk k1 k2 k3=>?_)))
  ·obtain⟨z,hz,J⟩:=aQd (a:=b) (i:=ib + 1 + i) (by lia)
   rw[aj,J];exact⟨hz,pb z (ak J)⟩
  ·obtain⟨z,hz,J⟩:=aQd (a:=b) (i:=ib + 1 + i) (by lia)
   obtain⟨z',hz',hzl'⟩:=aQd (a:=b) (i:=ib + 1 + j) (by lia)
   rw[aj,hzl'] at hb;rw[aj,J];have hb':lt z' x1=true:=hb;show lt z x1=true;cases e:lt z x1 with
   | true=>rfl
   | false =>
    exfalso;have pz:=pb z (ak J);have pz':=pb z' (ak hzl');rcases Nat.eq_or_lt_of_le hij with rfl | hlt
    ·rw[J] at hzl';cases hzl';rw[e] at hb';cases hb'
    ·have:=o.tr x1 z z' px1 pz pz' e (sb.at (by lia) J hzl')
     rw[hb'] at this;cases this
  have behind:∀ j y,ib + 1 + k<=j->b.toList[j]?=some y->lt y x1=false:=λj y hj hy=>by
   have hjb:j < b.size:=by have:=(aA.mp hy).1;simpa using this
   have:=k3 (j - (ib + 1)) (by lia) (by lia)
   rw[aj,show ib + 1 + (j - (ib + 1))=j by lia,hy] at this
   exact this
  dsimp only
  by_cases ck:k > 0
  ·refine aQx ck ?_;have iv3:Iv lt (a.toList++b.toList) (out.push y1++b.extract (ib + 1) (ib + 1 + k)).toList (a.toList.drop ia++b.toList.drop (ib + 1 + k)):=by
    rw[bJ,aZc,show ib + 1 + k - (ib + 1)=k by lia]
    refine Z.blockB sb k λz hz u hu=>?_;obtain⟨j,hj,J⟩:=aZq hz;have pz:=pb z (ak J);have hb:=k2 j hj;rw[aj,J] at hb;exact bXb o pa sa pz Y (o.as _ _ pz px1 hb) u hu
   have sz3:out.size<=(out.push y1++b.extract (ib + 1) (ib + 1 + k)).size:=by rw[cU];lia
   by_cases c3:(ib + 1 + k == b.size)=true
   ·refine aQx c3 ?_;exact aD (hd _ _ (finA _ _ _ g (by simpa using c3) iv3))
   ·refine aQy c3 ?_;have c3':ib + 1 + k≠b.size:=by simpa using c3
    refine t2 R _ ia (ib + 1 + k) mg ac k g hd (λo' i1 i2 a1 b1 q1 q2 q3 q4=>hg o' i1 i2 a1 b1 q1 q2 q3 (by lia)) hia (by lia) iv3 λx hx u hu=>?_
    rw[Y] at hx;cases hx;obtain⟨j,hj,e⟩:=aQk hu;exact behind j u hj e
  ·refine aQy ck ?_;have k0:k=0:=by lia
   refine t2 R _ ia (ib + 1) mg ac k g hd (λo' i1 i2 a1 b1 q1 q2 q3 q4=>hg o' i1 i2 a1 b1 q1 q2 q3 (by lia)) hia (by lia) Z λx hx u hu=>?_
   rw[Y] at hx;cases hx;obtain⟨j,hj,e⟩:=aQk hu;exact behind j u (by lia) e
 rw[fQ6];refine ax (jb (dN ⟨rfl,?_⟩));dsimp only;obtain⟨y0,hy0,hy0l⟩:=aQd (a:=b) (i:=0) nb;refine ax (aZ7 hy0 ?_);have iv0:Iv lt (a.toList++b.toList) (#[y0]:Array aP).toList (a.toList.drop 0++b.toList.drop 1):=by
  have i0:Iv lt (a.toList++b.toList) [] (a.toList.drop 0++b.toList.drop 0):=⟨by simp,gT,by simp⟩
  exact i0.pushB sb hy0l λu hu=>hfst y0 hy0l u hu
 have est:st=setG st (gallopOf st):=rfl
 by_cases hb1:(1 == b.size)=true
 ·refine aQx hb1 ?_;refine aD ?_;rw[est];exact finA _ 0 1 _ (by simpa using hb1) iv0
 refine aQy hb1 ?_
 by_cases ha1:(0 + 1 == a.size)=true
 ·refine aQx ha1 ?_;refine aD ?_;rw[est];exact finL _ 0 1 _ (by simpa using ha1) iv0
 refine aQy ha1 ?_;have hb2:1 < b.size:=by
  have:1≠b.size:=by simpa using hb1
  lia
 have ha2:0 + 1 < a.size:=by
  have:0 + 1≠a.size:=by simpa using ha1
  lia
 refine ax (iN ?_);refine ax (dF (bU (I:=λx c L=>∃ out ia ib mg g,c=(none,out,ia,ib,mg)/\L=setG st g/\ia + 1 < a.size/\ib < b.size/\Iv lt (a.toList++b.toList) out.toList (a.toList.drop ia++b.toList.drop ib)/\x + 1<=out.size)
  (Q:=λc L=>∃ r,c.fst=some r/\Q r L) ?_ ?_ ⟨#[y0],0,1,_,_,rfl,est,ha2,hb2,iv0,by simp⟩) ?_)
 ·intro x c L _ hx zq;refine hd λGq kq=>?_;obtain⟨out,ia,ib,mg,g,rfl,rfl,hia,hib,iv,hsz⟩:=zq;refine kq ?_;dsimp only;refine ax (dF (bU (I:=λy c L=>∃ D B G ac bc,c=(none,D,B,G,ac,bc)/\L=setG st g/\B + 1 < a.size/\G < b.size/\Iv lt (a.toList++b.toList) D.toList (a.toList.drop B++b.toList.drop G)/\out.size + y<=D.size)
   (Q:=λc L=>L=setG st g/\((∃ r,c.fst=some r/\Q r L)\/∃ D B G ac bc,c=(none,D,B,G,ac,bc)/\B + 1 < a.size/\G < b.size/\Iv lt (a.toList++b.toList) D.toList (a.toList.drop B++b.toList.drop G)/\out.size + 1<=D.size)) ?_ ?_ ⟨out,ia,ib,0,0,rfl,rfl,hia,hib,iv,Nat.le_refl _⟩) ?_)
  ·intro y c L _ hy zq;refine hd λGq kq=>?_;obtain⟨D,B,G,ac,bc,rfl,rfl,hia',O,iv',hsz'⟩:=zq;refine kq ?_;obtain⟨x1,hx1,Y⟩:=aQd (a:=a) (i:=B) (by lia)
   obtain⟨y1,hy1,U⟩:=aQd (a:=b) (i:=G) O;have px1:=pa x1 (ak Y);have py1:=pb y1 (ak U);dsimp only;refine ax (aZ7 hy1 (ax (aZ7 hx1 (ax (cJ2 o hk py1 px1 ?_)))));dsimp only;cases e:lt y1 x1 with
   | true =>
    refine aQx rfl ?_;refine ax (aZ7 hy1 ?_);have Z:Iv lt (a.toList++b.toList) (D.push y1).toList (a.toList.drop B++b.toList.drop (G + 1)):=by
     rw[cx];exact iv'.pushB sb U (bXb o pa sa py1 Y (o.as _ _ py1 px1 e))
    have sp:(D.push y1).size=D.size + 1:=dQ ..
    by_cases c1:(G + 1 == b.size)=true
    ·refine aQx c1 ?_;exact aD ⟨rfl,.inl ⟨_,rfl,finA _ _ _ g (by simpa using c1) Z⟩⟩
    ·refine aQy c1 ?_;have c1':G + 1≠b.size:=by simpa using c1
     by_cases c2:bc + 1 >= mg
     ·refine aQx c2 ?_;exact aD ⟨rfl,.inr ⟨_,_,_,_,_,rfl,hia',by lia,Z,by lia⟩⟩
     ·refine aQy c2 ?_;exact aD ⟨_,_,_,_,_,rfl,rfl,hia',by lia,Z,by lia⟩
   | false =>
    refine aQy (by simp) ?_
    refine ax (aZ7 hx1 ?_);have Z:Iv lt (a.toList++b.toList) (D.push x1).toList (a.toList.drop (B + 1)++b.toList.drop G):=by
     rw[cx];exact iv'.pushA sa Y (bXb o pb sb px1 U e)
    have sp:(D.push x1).size=D.size + 1:=dQ ..
    by_cases c1:(B + 1 + 1 == a.size)=true
    ·refine aQx c1 ?_;exact aD ⟨rfl,.inl ⟨_,rfl,finL _ _ _ g (by simpa using c1) Z⟩⟩
    ·refine aQy c1 ?_;have c1':B + 1 + 1≠a.size:=by simpa using c1
     by_cases c2:ac + 1 >= mg
     ·refine aQx c2 ?_;exact aD ⟨rfl,.inr ⟨_,_,_,_,_,rfl,by lia,O,Z,by lia⟩⟩
     ·refine aQy c2 ?_;exact aD ⟨_,_,_,_,_,rfl,rfl,by lia,O,Z,by lia⟩
  ·intro c L zq;refine hd λGq kq=>?_;obtain⟨D,B,G,ac,bc,rfl,rfl,hia',O,iv',hsz'⟩:=zq;refine kq ?_;exact⟨rfl,.inr ⟨_,_,_,_,_,rfl,hia',O,iv',by lia⟩⟩
  ·rintro c L ⟨rfl,⟨r,hr,q⟩ | ⟨out1,ia1,ib1,ac1,bc1,rfl,hia1,hib1,iv1,hsz1⟩⟩
   ·obtain⟨c1,c2⟩:=c;dsimp only at hr;subst hr;exact aD ⟨r,rfl,q⟩
   ·dsimp only;refine ax (jb (dN ⟨rfl,?_⟩));refine ax (dF (bU (I:=λy c L=>∃ D B G mg' ac bc g',c=(none,D,B,G,mg',ac,bc)/\L=setG st g'/\B + 1 < a.size/\G < b.size/\Iv lt (a.toList++b.toList) D.toList (a.toList.drop B++b.toList.drop G)/\out1.size<=D.size)
     (Q:=λc L=>(∃ r,c.fst=some r/\Q r L)\/∃ D B G mg' ac bc g',c=(none,D,B,G,mg',ac,bc)/\L=setG st g'/\B + 1 < a.size/\G < b.size/\Iv lt (a.toList++b.toList) D.toList (a.toList.drop B++b.toList.drop G)/\out1.size<=D.size) ?_ ?_ ⟨out1,ia1,ib1,_,ac1,bc1,g,rfl,rfl,hia1,hib1,iv1,Nat.le_refl _⟩) ?_)
    ·intro y c L _ hy zq;refine hd λGq kq=>?_;obtain⟨D,B,G,mg',ac,bc,g',rfl,rfl,hia',O,iv',hsz'⟩:=zq;refine kq ?_;dsimp only;obtain⟨y1,hy1,U⟩:=aQd (a:=b) (i:=G) O;have py1:=pb y1 (ak U);have fa:∀ i,i < a.size - B->a[B + i]?=some (a.toList.getD (B + i) (.none,.none))/\P (a.toList.getD (B + i) (.none,.none)):=λi hi=>by
      obtain⟨z,hz,J⟩:=aQd (a:=a) (i:=B + i) (by lia)
      rw[aj,J];exact⟨hz,pa z (ak J)⟩
     have mono:∀ i j,i<=j->j < a.size - B->bv lt false y1 (a.toList.getD (B + j) (.none,.none))=true->bv lt false y1 (a.toList.getD (B + i) (.none,.none))=true:=λi j hij hj hb=>by
      obtain⟨z,hz,J⟩:=aQd (a:=a) (i:=B + i) (by lia)
      obtain⟨z',hz',hzl'⟩:=aQd (a:=a) (i:=B + j) (by lia)
      rw[aj,hzl'] at hb;rw[aj,J];have hb':lt y1 z'=false:=by simpa [bv] using hb
      show(!lt y1 z)=true;rcases Nat.eq_or_lt_of_le hij with rfl | hlt
      ·rw[J] at hzl';cases hzl';rw[hb'];rfl
      ·rw[o.tr z z' y1 (pa z (ak J)) (pa z' (ak hzl')) py1 (sa.at (by lia) J hzl') hb'];rfl
     clear kq
     revert mg'
     refine dXh (λ_=>rfl) λm2=>?_;refine ax (cX (ax (aZ7 hy1 (ax (bQs o (f:=λi=>a.toList.getD (B + i) (.none,.none)) hk py1 fa mono (by lia) λk k1 k2 k3=>?_)))))
     dsimp only;have behind:∀ j z,B + k<=j->a.toList[j]?=some z->lt z y1=false:=λj z hj hz=>by
      have hja:j < a.size:=by have:=(aA.mp hz).1;simpa using this
      have:=k3 (j - B) (by lia) (by lia)
      rw[aj,show B + (j - B)=j by lia,hz] at this
      have h1:(!lt y1 z)=false:=this;exact o.as _ _ py1 (pa z (ak hz)) (by simpa using h1)
     by_cases ck:k > 0
     ·refine aQx ck ?_;have iv3:Iv lt (a.toList++b.toList) (D++a.extract B (B + k)).toList (a.toList.drop (B + k)++b.toList.drop G):=by
       rw[bJ,aZc,show B + k - B=k by lia]
       refine iv'.blockA sa k λz hz u hu=>?_;obtain⟨j,hj,J⟩:=aZq hz;have hb:=k2 j hj;rw[aj,J] at hb;have h1:(!lt y1 z)=true:=hb;exact bXb o pb sb (pa z (ak J)) U (by simpa using h1) u hu
      have sz3:out1.size<=(D++a.extract B (B + k)).size:=by rw[cU];lia
      by_cases c3:(B + k + 1 == a.size)=true
      ·refine aQx c3 ?_;exact aD (.inl ⟨_,rfl,finL _ _ _ _ (by simpa using c3) iv3⟩)
      ·refine aQy c3 ?_;have c3':B + k + 1≠a.size:=by simpa using c3
       by_cases c4:(B + k == a.size)=true
       ·refine aQx c4 ?_;exact aD (.inl ⟨_,rfl,finB _ _ _ _ (by simpa using c4) iv3⟩)
       ·refine aQy c4 ?_;have c4':B + k≠a.size:=by simpa using c4
        refine t1 _ _ (B + k) G m2 k bc m2 (λr c' q=>.inl ⟨r,rfl,q⟩) (λo' i1 i2 a1 b1 q1 q2 q3 q4=>⟨.inr ⟨_,_,_,_,_,_,_,rfl,rfl,q1,q2,q3,by lia⟩,⟨_,_,_,_,_,_,_,rfl,rfl,q1,q2,q3,by lia⟩⟩) (by lia) O iv3 λy hy u hu=>?_
        rw[U] at hy;cases hy;obtain⟨j,hj,e⟩:=aQk hu;exact behind j u hj e
     ·refine aQy ck ?_;refine t1 _ _ B G m2 k bc m2 (λr c' q=>.inl ⟨r,rfl,q⟩) (λo' i1 i2 a1 b1 q1 q2 q3 q4=>⟨.inr ⟨_,_,_,_,_,_,_,rfl,rfl,q1,q2,q3,by lia⟩,⟨_,_,_,_,_,_,_,rfl,rfl,q1,q2,q3,by lia⟩⟩) hia' O iv' λy hy u hu=>?_
      rw[U] at hy;cases hy;obtain⟨j,hj,e⟩:=aQk hu;exact behind j u (by lia) e
    ·intro c L zq;refine hd λGq kq=>?_;obtain⟨D,B,G,mg',ac,bc,g',rfl,rfl,hia',O,iv',hsz'⟩:=zq;refine kq ?_;exact .inr ⟨_,_,_,_,_,_,_,rfl,rfl,hia',O,iv',hsz'⟩
    ·rintro c L (⟨r,hr,q⟩ | ⟨D,B,G,mg',ac,bc,g',rfl,rfl,hia',O,iv',hsz'⟩)
     ·obtain⟨c1,c2⟩:=c;dsimp only at hr;subst hr;exact aD ⟨r,rfl,q⟩
     ·dsimp only;exact ax (cX (aD ⟨_,_,_,_,_,rfl,rfl,hia',O,iv',by lia⟩))
 ·intro c L zq;refine hd λGq kq=>?_;obtain⟨out,ia,ib,mg,g,rfl,rfl,hia,hib,iv,hsz⟩:=zq;refine kq ?_;exfalso
  have:=iv.size
  rw[sz,aZ] at this;lia
 ·rintro c L ⟨r,hr,q⟩;obtain⟨c1,c2⟩:=c;dsimp only at hr;subst hr;exact aD q
end
theorem fQ8 (a b:Array aP):mHi a b=(do
 rule "list.sort.merge-hi"
 let total:=a.size + b.size
 let fin (o:Array aP) (na nb:Nat):=a.extract 0 na++b.extract 0 nb++o.reverse
 let fst (o:Array aP) (na nb:Nat):=b.extract 0 nb++a.extract 0 na++o.reverse
 let mut na:=a.size - 1
 let mut nb:=b.size
 let mut out:Array aP:=#[<- eP a na]
 if na == 0 then return fin out na nb
 if nb == 1 then return fst out na nb
 let mut minGallop:=gallopOf (<- get)
 for _ in [0:total] do
  let mut acount:=0
  let mut bcount:=0
  for _ in [0:total] do
   let some aw <- lt' (<- eP b (nb - 1)) (<- eP a (na - 1)) | return fin out na nb
   if aw then
    na:=na - 1
    out:=out.push (<- eP a na)
    acount:=acount + 1
    bcount:=0
    if na == 0 then return fin out na nb
    if acount >= minGallop then break
   else
    nb:=nb - 1
    out:=out.push (<- eP b nb)
    bcount:=bcount + 1
    acount:=0
    if nb == 1 then return fst out na nb
    if bcount >= minGallop then break
  rule "list.sort.gallop"
  minGallop:=minGallop + 1
  for _ in [0:total] do
   if minGallop > 1 then minGallop:=minGallop - 1
   modify (λs=>setG s minGallop)
   let some p <- gal false (<- eP b (nb - 1)) a 0 na (na - 1) | return fin out na nb
   let k:=na - p
   acount:=k
   if k > 0 then
    out:=out++(a.extract p na).reverse
    na:=p
    if na == 0 then return fin out na nb
   nb:=nb - 1
   out:=out.push (<- eP b nb)
   if nb == 1 then return fst out na nb
   let some p <- gal true (<- eP a (na - 1)) b 0 nb (nb - 1) | return fin out na nb
   let k:=nb - p
   bcount:=k
   if k > 0 then
    out:=out++(b.extract p nb).reverse
    nb:=p
    if nb == 1 then return fst out na nb
    if nb == 0 then return fin out na nb
   na:=na - 1
   out:=out.push (<- eP a na)
   if na == 0 then return fin out na nb
   if acount < 7 && bcount < 7 then break
  minGallop:=minGallop + 1
  modify (λs=>setG s minGallop)
 fu "internal:list.sort.merge-bound"):=rfl
section
variable {α:Type} {lt:α->α->Bool} {T out rest:List α}
abbrev rl (lt:α->α->Bool):α->α->Bool:=λx y=>lt y x
theorem Iv.doneR (h:Iv (rl lt) T out rest) {l:List α} (hp:l.Perm rest) (hs:Sd lt l):Sd lt (l++out.reverse)/\(l++out.reverse).Perm T:=by
 refine⟨bB.mpr ⟨hs,g7.mpr h.sd,λx B y j=>h.lo y (jQ.mp j) x (hp.mem_iff.mp B)⟩,?_⟩;exact(kF.append hp (jq out)).trans (dY.trans h.perm)
theorem bJ9 {l:List α} {i:Nat} {x:α} (h:l[i]?=some x):l.take (i + 1)=l.take i++[x]:=by rw[bT,h];rfl
theorem Sd.take {l:List α} (h:Sd lt l) (i:Nat):Sd lt (l.take i):=h.sublist (gH _ _)
theorem aQp {l:List α} {i:Nat} {y:α} (h:y∈l.take i):∃ j,j < i/\l[j]?=some y:=by
 obtain⟨k,B,e⟩:=bO h;rw[aK] at B;rw[gN] at e;exact⟨k,by lia,by rw[ah (by lia),e]⟩
end
section
variable {prog:aC} {w:aR} {A:a7} {s:ai} {κ:fm} {P:aP->Prop} {lt:aP->aP->Bool} {T out la lb:List aP} {na nb:Nat} {x y:aP}
theorem bXc (o:Orc prog w A s κ P lt) {l:List aP} (hP:∀ z∈l,P z) (hs:Sd lt l) {i:Nat} {z:aP} (hz:P z) {y:aP} (hy:l[i]?=some y) (h:lt z y=false):∀ u∈l.take (i + 1),lt z u=false:=λu D=>by
 obtain⟨j,G,e⟩:=aQp D;rcases Nat.eq_or_lt_of_le (Nat.le_of_lt_succ G) with rfl | B
 ·rw[hy] at e;cases e;exact h
 ·exact o.tr u y z (hP u (ak e)) (hP y (ak hy)) hz (hs.at B e hy) h
theorem Iv.popA (h:Iv (rl lt) T out (la.take (na + 1)++lb.take nb)) (sa:Sd lt la) (hx:la[na]?=some x) (hl:∀ u∈lb.take nb,lt x u=false):Iv (rl lt) T (out++[x]) (la.take na++lb.take nb):=by
 refine h.step ?_ (cq _ _) λz B u D=>?_
 ·rw[bJ9 hx,aY];exact fX
 ·rw[aI.mp B];rcases aN.mp D with v | v
  ·obtain⟨j,G,e⟩:=aQp v;exact sa.at G e hx
  ·exact hl u v
theorem Iv.popB (h:Iv (rl lt) T out (la.take na++lb.take (nb + 1))) (sb:Sd lt lb) (hy:lb[nb]?=some y) (hl:∀ u∈la.take na,lt y u=false):Iv (rl lt) T (out++[y]) (la.take na++lb.take nb):=by
 refine h.step ?_ (cq _ _) λz B u D=>?_
 ·rw[bJ9 hy,<- aY];exact dY
 ·rw[aI.mp B];rcases aN.mp D with v | v
  ·exact hl u v
  ·obtain⟨j,G,e⟩:=aQp v;exact sb.at G e hy
theorem cJ3 (l:List aP) {p n:Nat} (h:p<=n):l.take n=l.take p++(l.drop p).take (n - p):=by
 have:n=p + (n - p):=by lia
 rw[this,List.take_add];simp
theorem Iv.backA (h:Iv (rl lt) T out (la.take na++lb.take nb)) (sa:Sd lt la) {p:Nat} (hp:p<=na) (hl:∀ z∈(la.drop p).take (na - p),∀ u∈lb.take nb,lt z u=false):Iv (rl lt) T (out++((la.drop p).take (na - p)).reverse) (la.take p++lb.take nb):=by
 have e:=cJ3 la hp;have sd:=sa.take na;rw[e] at sd;obtain⟨_,s2,s3⟩:=bB.mp sd;refine h.step ?_ (g7.mpr s2) λz j u B=>?_
 ·rw[e,aY];refine(List.perm_append_comm_assoc _ _ _).trans ?_;exact eJ _ (jq _).symm
 ·have j:=jQ.mp j;rcases aN.mp B with v | v
  ·exact s3 u v z j
  ·exact hl z j u v
theorem Iv.backB (h:Iv (rl lt) T out (la.take na++lb.take nb)) (sb:Sd lt lb) {p:Nat} (hp:p<=nb) (hl:∀ z∈(lb.drop p).take (nb - p),∀ u∈la.take na,lt z u=false):Iv (rl lt) T (out++((lb.drop p).take (nb - p)).reverse) (la.take na++lb.take p):=by
 have e:=cJ3 lb hp;have sd:=sb.take nb;rw[e] at sd;obtain⟨_,s2,s3⟩:=bB.mp sd;refine h.step ?_ (g7.mpr s2) λz j u B=>?_
 ·rw[e,<- aY];refine dY.trans ?_;exact eJ _ (jq _).symm
 ·have j:=jQ.mp j;rcases aN.mp B with v | v
  ·exact hl z j u v
  ·exact s3 u v z j
end
theorem dXi (a:Array aP) (n:Nat):(a.extract 0 n).toList=a.toList.take n:=by rw[aZc];simp
section
variable {prog:aC} {w:aR} {A:a7} {E:ae->ai->Prop} {s:ai} {κ:fm} {P:aP->Prop} {lt:aP->aP->Bool}
theorem fQ9 (o:Orc prog w A s κ P lt) {st:cW} {a b:Array aP} {Q:Array aP->cW->Prop} (hk:kindOf st=κ) (pa:∀ x∈a.toList,P x) (pb:∀ y∈b.toList,P y) (sa:Sd lt a.toList) (sb:Sd lt b.toList) (na0:1<=a.size) (nb0:1<=b.size)
  (hfst:∀ y,b.toList[0]?=some y->∀ x∈a.toList,lt x y=false) (hlst:∀ z,a.toList[a.size - 1]?=some z->∀ y∈b.toList,lt z y=false)
  (h:∀ out g,Sd lt out.toList->out.toList.Perm (a.toList++b.toList)->Q out (setG st g)):wpS (aJ prog w) A E s (mHi a b) Q st:=by
 have sz:(a.toList++b.toList).length=a.size + b.size:=by simp
 have finG:∀ (out:Array aP) na nb g,Sd lt (a.toList.take na++b.toList.take nb)->Iv (rl lt) (a.toList++b.toList) out.toList (a.toList.take na++b.toList.take nb)->Q (a.extract 0 na++b.extract 0 nb++out.reverse) (setG st g):=λout na nb g e iv=>by
  have:=iv.doneR (dI _) e
  refine h _ g ?_ ?_ <;> simp only[bJ,fT,dXi]
  ·exact this.1
  ·exact this.2
 have finF:∀ (out:Array aP) na nb g,nb=1->Iv (rl lt) (a.toList++b.toList) out.toList (a.toList.take na++b.toList.take nb)->Q (b.extract 0 nb++a.extract 0 na++out.reverse) (setG st g):=λout na nb g e iv=>by
  obtain⟨y0,hy0,hy0l⟩:=aQd (a:=b) (i:=0) nb0;have e1:b.toList.take nb=[y0]:=by rw[e];exact(bJ9 (i:=0) hy0l)
  have sd:Sd lt (b.toList.take nb++a.toList.take na):=by
   rw[e1];exact bb.mpr ⟨λu hu=>hfst y0 hy0l u (cJ hu),sa.take na⟩
  have:=iv.doneR dY sd
  refine h _ g ?_ ?_ <;> simp only[bJ,fT,dXi]
  ·exact this.1
  ·exact this.2
 have t2:∀ (L:ForInStep (Option (Array aP) × Nat × Nat × Array aP × Nat × Nat × Nat)->cW->Prop) (out:Array aP) (na nb mg ac Z g:Nat),(∀ r c',Q r (setG st g)->L (.done (some r,c')) (setG st g)) ->
   (∀ na' D B ac' bc',1<=na'->(na'<=a.size/\2<=D/\D<=b.size)->Iv (rl lt) (a.toList++b.toList) B.toList (a.toList.take na'++b.toList.take D)->out.size<=B.size->L (.done (none,na',D,B,mg,ac',bc')) (setG st g)/\L (.yield (none,na',D,B,mg,ac',bc')) (setG st g)) ->
   1<=na->na<=a.size->(2<=nb/\nb<=b.size)->Iv (rl lt) (a.toList++b.toList) out.toList (a.toList.take na++b.toList.take nb)->(∀ x,a.toList[na - 1]?=some x->∀ u∈b.toList.take nb,lt x u=false) ->
   wpS (aJ prog w) A E s (do
    let x <- eP a (na - 1)
    if (na - 1 == 0)=true then pure (bo (some (a.extract 0 (na - 1)++b.extract 0 nb++((out).push x).reverse),na - 1,nb,(out).push x,mg,ac,Z))
    else if (decide (ac < 7) && decide (Z < 7))=true then pure (bo (none,na - 1,nb,(out).push x,mg,ac,Z))
    else pure (bC (none,na - 1,nb,(out).push x,mg,ac,Z))) L (setG st g):=by
  intro L out na nb mg ac Z g hd hg hna hla hnb iv hl;obtain⟨m,rfl⟩:∃ m,na=m + 1:=⟨na - 1,by lia⟩
  simp only[Nat.add_sub_cancel] at hl ⊢;obtain⟨x1,hx1,R⟩:=aQd (a:=a) (i:=m) (by lia)
  refine ax (aZ7 hx1 ?_);have Y:Iv (rl lt) (a.toList++b.toList) (out.push x1).toList (a.toList.take m++b.toList.take nb):=by
   rw[cx];exact iv.popA sa R (hl x1 R)
  have sp:(out.push x1).size=out.size + 1:=dQ ..
  by_cases c1:(m == 0)=true
  ·have m0:m=0:=by simpa using c1
   refine aQx c1 ?_;refine aD (hd _ _ (finG _ _ _ g ?_ Y));rw[m0];exact sb.take _
  ·refine aQy c1 ?_;have c1':m≠0:=by simpa using c1
   have:=hg m nb (out.push x1) ac Z (by lia) ⟨by lia,hnb⟩ Y (by lia)
   by_cases c2:(decide (ac < 7) && decide (Z < 7))=true
   ·refine aQx c2 ?_;exact aD this.1
   ·refine aQy c2 ?_;exact aD this.2
 have t1:∀ (L:ForInStep (Option (Array aP) × Nat × Nat × Array aP × Nat × Nat × Nat)->cW->Prop) (out:Array aP) (na nb mg ac Z g:Nat),(∀ r c',Q r (setG st g)->L (.done (some r,c')) (setG st g)) ->
   (∀ na' D B ac' bc',1<=na'->(na'<=a.size/\2<=D/\D<=b.size)->Iv (rl lt) (a.toList++b.toList) B.toList (a.toList.take na'++b.toList.take D)->out.size<=B.size->L (.done (none,na',D,B,mg,ac',bc')) (setG st g)/\L (.yield (none,na',D,B,mg,ac',bc')) (setG st g)) ->
   1<=na->na<=a.size->(2<=nb/\nb<=b.size)->Iv (rl lt) (a.toList++b.toList) out.toList (a.toList.take na++b.toList.take nb)->(∀ y,b.toList[nb - 1]?=some y->∀ u∈a.toList.take na,lt y u=false) ->
   wpS (aJ prog w) A E s (do
    let y <- eP b (nb - 1)
    if (nb - 1 == 1)=true then pure (bo (some (b.extract 0 (nb - 1)++a.extract 0 na++(out.push y).reverse),na,nb - 1,out.push y,mg,ac,Z))
    else do
     let x <- eP a (na - 1)
     let z <- gal true x b 0 (nb - 1) (nb - 1 - 1)
     match z with
     | some U =>
      if nb - 1 - U > 0 then
       if (U == 1)=true then pure (bo (some (b.extract 0 U++a.extract 0 na++(out.push y++(b.extract U (nb - 1)).reverse).reverse),na,U,out.push y++(b.extract U (nb - 1)).reverse,mg,ac,nb - 1 - U))
       else if (U == 0)=true then pure (bo (some (a.extract 0 na++b.extract 0 U++(out.push y++(b.extract U (nb - 1)).reverse).reverse),na,U,out.push y++(b.extract U (nb - 1)).reverse,mg,ac,nb - 1 - U))
       else do
        let x <- eP a (na - 1)
        if (na - 1 == 0)=true then pure (bo (some (a.extract 0 (na - 1)++b.extract 0 U++((out.push y++(b.extract U (nb - 1)).reverse).push x).reverse),na - 1,U,(out.push y++(b.extract U (nb - 1)).reverse).push x,mg,ac,(nb - 1 - U)))
        else if (decide (ac < 7) && decide ((nb - 1 - U) < 7))=true then pure (bo (none,na - 1,U,(out.push y++(b.extract U (nb - 1)).reverse).push x,mg,ac,(nb - 1 - U)))
        else pure (bC (none,na - 1,U,(out.push y++(b.extract U (nb - 1)).reverse).push x,mg,ac,(nb - 1 - U)))
      else do
       let x <- eP a (na - 1)
       if (na - 1 == 0)=true then pure (bo (some (a.extract 0 (na - 1)++b.extract 0 (nb - 1)++((out.push y).push x).reverse),na - 1,(nb - 1),(out.push y).push x,mg,ac,(nb - 1 - U)))
       else if (decide (ac < 7) && decide ((nb - 1 - U) < 7))=true then pure (bo (none,na - 1,(nb - 1),(out.push y).push x,mg,ac,(nb - 1 - U)))
       else pure (bC (none,na - 1,(nb - 1),(out.push y).push x,mg,ac,(nb - 1 - U)))
     | _=>pure (bo (some (a.extract 0 na++b.extract 0 (nb - 1)++(out.push y).reverse),na,nb - 1,out.push y,mg,ac,Z))) L (setG st g):=by
  intro L out na nb mg ac Z g hd hg hna hla hnb iv hl;obtain⟨m,rfl⟩:∃ m,nb=m + 1:=⟨nb - 1,by lia⟩
  simp only[Nat.add_sub_cancel] at hl ⊢;obtain⟨y1,hy1,O⟩:=aQd (a:=b) (i:=m) (by lia)
  obtain⟨x1,hx1,R⟩:=aQd (a:=a) (i:=na - 1) (by lia)
  have px1:=pa x1 (ak R);refine ax (aZ7 hy1 ?_);have Y:Iv (rl lt) (a.toList++b.toList) (out.push y1).toList (a.toList.take na++b.toList.take m):=by
   rw[cx];exact iv.popB sb O (hl y1 O)
  have sp:(out.push y1).size=out.size + 1:=dQ ..
  by_cases c1:(m == 1)=true
  ·refine aQx c1 ?_;exact aD (hd _ _ (finF _ _ _ g (by simpa using c1) Y))
  refine aQy c1 ?_;have c1':m≠1:=by simpa using c1
  refine ax (aZ7 hx1 (ax (bQs o (f:=λi=>b.toList.getD (0 + i) (.none,.none)) hk px1 (λi hi=>?_) (λi j hij hj hb=>?_) (by lia) λk k1 k2 k3=>?_)))
  ·obtain⟨z,hz,J⟩:=aQd (a:=b) (i:=0 + i) (by lia)
   rw[aj,J];exact⟨hz,pb z (ak J)⟩
  ·obtain⟨z,hz,J⟩:=aQd (a:=b) (i:=0 + i) (by lia)
   obtain⟨z',hz',hzl'⟩:=aQd (a:=b) (i:=0 + j) (by lia)
   rw[aj,hzl'] at hb;rw[aj,J];have hb':lt z' x1=true:=hb;show lt z x1=true;cases e:lt z x1 with
   | true=>rfl
   | false =>
    exfalso;have pz:=pb z (ak J);have pz':=pb z' (ak hzl');rcases Nat.eq_or_lt_of_le hij with rfl | hlt
    ·rw[J] at hzl';cases hzl';rw[e] at hb';cases hb'
    ·have:=o.tr x1 z z' px1 pz pz' e (sb.at (by lia) J hzl')
     rw[hb'] at this;cases this
  have ahead:∀ u∈b.toList.take k,lt x1 u=false:=λu hu=>by
   obtain⟨j,hj,e⟩:=aQp hu
   have:=k2 j hj
   rw[aj,Nat.zero_add,e] at this;exact o.as _ _ (pb u (ak e)) px1 this
  dsimp only
  by_cases ck:m - k > 0
  ·refine aQx ck ?_;have iv3:Iv (rl lt) (a.toList++b.toList) (out.push y1++(b.extract k m).reverse).toList (a.toList.take na++b.toList.take k):=by
    rw[bJ,fT,aZc];refine Y.backB sb k1 λz hz u hu=>?_;obtain⟨j,hj,J⟩:=aZq hz;have pz:=pb z (ak J);have hb:=k3 (k + j) (by lia) (by lia)
    rw[aj,Nat.zero_add,J] at hb
    have:=bXc o pa sa pz R hb
    rw[show na - 1 + 1=na by lia] at this
    exact this u hu
   have sz3:out.size<=(out.push y1++(b.extract k m).reverse).size:=by rw[cU];lia
   by_cases c3:(k == 1)=true
   ·refine aQx c3 ?_;exact aD (hd _ _ (finF _ _ _ g (by simpa using c3) iv3))
   ·refine aQy c3 ?_;have c3':k≠1:=by simpa using c3
    by_cases c4:(k == 0)=true
    ·have k0:k=0:=by simpa using c4
     refine aQx c4 ?_;refine aD (hd _ _ (finG _ _ _ g ?_ iv3));rw[k0,List.take_zero,bz];exact sa.take _
    ·refine aQy c4 ?_;have c4':k≠0:=by simpa using c4
     refine t2 L _ na k mg ac (m - k) g hd (λn1 n2 o' a1 b1 q1 q2 q3 q4=>hg n1 n2 o' a1 b1 q1 q2 q3 (by lia)) hna hla ⟨by lia,by lia⟩ iv3 λx hx u hu=>?_
     rw[R] at hx;cases hx;exact ahead u hu
  ·refine aQy ck ?_;have ek:k=m:=by lia
   refine t2 L _ na m mg ac (m - k) g hd (λn1 n2 o' a1 b1 q1 q2 q3 q4=>hg n1 n2 o' a1 b1 q1 q2 q3 (by lia)) hna hla ⟨by lia,by lia⟩ Y λx hx u hu=>?_
   rw[R] at hx;cases hx;exact ahead u (by rw[ek];exact hu)
 rw[fQ8];refine ax (jb (dN ⟨rfl,?_⟩));dsimp only;obtain⟨x0,hx0,hx0l⟩:=aQd (a:=a) (i:=a.size - 1) (by lia)
 refine ax (aZ7 hx0 ?_);have iv0:Iv (rl lt) (a.toList++b.toList) (#[x0]:Array aP).toList (a.toList.take (a.size - 1)++b.toList.take b.size):=by
  have e1:a.toList.take (a.size - 1 + 1)=a.toList:=bG (by simp;lia)
  have e2:b.toList.take b.size=b.toList:=bG (by simp)
  have i0:Iv (rl lt) (a.toList++b.toList) [] (a.toList.take (a.size - 1 + 1)++b.toList.take b.size):=⟨by rw[e1,e2];exact dI _,gT,by simp⟩
  exact i0.popA sa hx0l λu hu=>hlst x0 hx0l u (cJ hu)
 have est:st=setG st (gallopOf st):=rfl
 by_cases ha1:(a.size - 1 == 0)=true
 ·refine aQx ha1 ?_;have a0:a.size - 1=0:=by simpa using ha1
  refine aD ?_;rw[est];refine finG _ _ _ _ ?_ iv0;rw[a0];exact sb.take _
 refine aQy ha1 ?_
 by_cases hb1:(b.size == 1)=true
 ·refine aQx hb1 ?_;refine aD ?_;rw[est];exact finF _ _ _ _ (by simpa using hb1) iv0
 refine aQy hb1 ?_;have hb2:2<=b.size:=by
  have:b.size≠1:=by simpa using hb1
  lia
 have ha2:1<=a.size - 1:=by
  have:a.size - 1≠0:=by simpa using ha1
  lia
 refine ax (iN ?_);refine ax (dF (bU (I:=λx c G=>∃ na nb out mg g,c=(none,na,nb,out,mg)/\G=setG st g/\1<=na/\na<=a.size/\(2<=nb/\nb<=b.size)/\Iv (rl lt) (a.toList++b.toList) out.toList (a.toList.take na++b.toList.take nb)/\x + 1<=out.size)
  (Q:=λc G=>∃ r,c.fst=some r/\Q r G) ?_ ?_ ⟨_,_,#[x0],_,_,rfl,est,ha2,by lia,⟨hb2,Nat.le_refl _⟩,iv0,by simp⟩) ?_)
 ·intro x c G _ hx zq;refine hd λGq kq=>?_;obtain⟨na,nb,out,mg,g,rfl,rfl,hna,hla,hnb,iv,hsz⟩:=zq;refine kq ?_;dsimp only;refine ax (dF (bU (I:=λy c G=>∃ na' D B ac Z,c=(none,na',D,B,ac,Z)/\G=setG st g/\1<=na'/\na'<=a.size/\(2<=D/\D<=b.size)/\Iv (rl lt) (a.toList++b.toList) B.toList (a.toList.take na'++b.toList.take D)/\out.size + y<=B.size)
   (Q:=λc G=>G=setG st g/\((∃ r,c.fst=some r/\Q r G)\/∃ na' D B ac Z,c=(none,na',D,B,ac,Z)/\1<=na'/\na'<=a.size/\(2<=D/\D<=b.size)/\Iv (rl lt) (a.toList++b.toList) B.toList (a.toList.take na'++b.toList.take D)/\out.size + 1<=B.size)) ?_ ?_ ⟨na,nb,out,0,0,rfl,rfl,hna,hla,hnb,iv,Nat.le_refl _⟩) ?_)
  ·intro y c G _ hy zq;refine hd λGq kq=>?_;obtain⟨na',D,B,ac,Z,rfl,rfl,hna',hla',hnb',iv',hsz'⟩:=zq;refine kq ?_;obtain⟨ma,rfl⟩:∃ m,na'=m + 1:=⟨na' - 1,by lia⟩
   obtain⟨mb,rfl⟩:∃ m,D=m + 1:=⟨D - 1,by lia⟩
   obtain⟨x1,hx1,R⟩:=aQd (a:=a) (i:=ma) (by lia)
   obtain⟨y1,hy1,O⟩:=aQd (a:=b) (i:=mb) (by lia)
   have px1:=pa x1 (ak R);have py1:=pb y1 (ak O);dsimp only;simp only[Nat.add_sub_cancel];refine ax (aZ7 hy1 (ax (aZ7 hx1 (ax (cJ2 o hk py1 px1 ?_)))));dsimp only;cases e:lt y1 x1 with
   | true =>
    refine aQx rfl ?_;refine ax (aZ7 hx1 ?_);have Y:Iv (rl lt) (a.toList++b.toList) (B.push x1).toList (a.toList.take ma++b.toList.take (mb + 1)):=by
     rw[cx];exact iv'.popA sa R (bXc o pb sb px1 O (o.as _ _ py1 px1 e))
    have sp:(B.push x1).size=B.size + 1:=dQ ..
    by_cases c1:(ma == 0)=true
    ·have m0:ma=0:=by simpa using c1
     refine aQx c1 ?_;refine aD ⟨rfl,.inl ⟨_,rfl,finG _ _ _ g ?_ Y⟩⟩;rw[m0];exact sb.take _
    ·refine aQy c1 ?_;have c1':ma≠0:=by simpa using c1
     by_cases c2:ac + 1 >= mg
     ·refine aQx c2 ?_;exact aD ⟨rfl,.inr ⟨_,_,_,_,_,rfl,by lia,by lia,hnb',Y,by lia⟩⟩
     ·refine aQy c2 ?_;exact aD ⟨_,_,_,_,_,rfl,rfl,by lia,by lia,hnb',Y,by lia⟩
   | false =>
    refine aQy (by simp) ?_
    refine ax (aZ7 hy1 ?_);have Y:Iv (rl lt) (a.toList++b.toList) (B.push y1).toList (a.toList.take (ma + 1)++b.toList.take mb):=by
     rw[cx];exact iv'.popB sb O (bXc o pa sa py1 R e)
    have sp:(B.push y1).size=B.size + 1:=dQ ..
    by_cases c1:(mb == 1)=true
    ·refine aQx c1 ?_;exact aD ⟨rfl,.inl ⟨_,rfl,finF _ _ _ g (by simpa using c1) Y⟩⟩
    ·refine aQy c1 ?_;have c1':mb≠1:=by simpa using c1
     by_cases c2:Z + 1 >= mg
     ·refine aQx c2 ?_;exact aD ⟨rfl,.inr ⟨_,_,_,_,_,rfl,by lia,by lia,⟨by lia,by lia⟩,Y,by lia⟩⟩
     ·refine aQy c2 ?_;exact aD ⟨_,_,_,_,_,rfl,rfl,by lia,by lia,⟨by lia,by lia⟩,Y,by lia⟩
  ·intro c G zq;refine hd λGq kq=>?_;obtain⟨na',D,B,ac,Z,rfl,rfl,hna',hla',hnb',iv',hsz'⟩:=zq;refine kq ?_;exact⟨rfl,.inr ⟨_,_,_,_,_,rfl,hna',hla',hnb',iv',by lia⟩⟩
  ·rintro c G ⟨rfl,⟨r,hr,q⟩ | ⟨na1,nb1,out1,ac1,bc1,rfl,hna1,hla1,hnb1,iv1,hsz1⟩⟩
   ·obtain⟨c1,c2⟩:=c;dsimp only at hr;subst hr;exact aD ⟨r,rfl,q⟩
   ·dsimp only;refine ax (jb (dN ⟨rfl,?_⟩));refine ax (dF (bU (I:=λy c G=>∃ na' D B mg' ac Z g',c=(none,na',D,B,mg',ac,Z)/\G=setG st g'/\1<=na'/\(na'<=a.size/\2<=D/\D<=b.size)/\Iv (rl lt) (a.toList++b.toList) B.toList (a.toList.take na'++b.toList.take D)/\out1.size<=B.size)
     (Q:=λc G=>(∃ r,c.fst=some r/\Q r G)\/∃ na' D B mg' ac Z g',c=(none,na',D,B,mg',ac,Z)/\G=setG st g'/\1<=na'/\(na'<=a.size/\2<=D/\D<=b.size)/\Iv (rl lt) (a.toList++b.toList) B.toList (a.toList.take na'++b.toList.take D)/\out1.size<=B.size) ?_ ?_ ⟨na1,nb1,out1,_,ac1,bc1,g,rfl,rfl,hna1,⟨hla1,hnb1⟩,iv1,Nat.le_refl _⟩) ?_)
    ·intro y c G _ hy zq;refine hd λGq kq=>?_;obtain⟨na',D,B,mg',ac,Z,g',rfl,rfl,hna',⟨hla',hnb'⟩,iv',hsz'⟩:=zq;refine kq ?_;dsimp only;obtain⟨y1,hy1,O⟩:=aQd (a:=b) (i:=D - 1) (by lia)
     have py1:=pb y1 (ak O);have fa:∀ i,i < na'->a[0 + i]?=some (a.toList.getD (0 + i) (.none,.none))/\P (a.toList.getD (0 + i) (.none,.none)):=λi hi=>by
      obtain⟨z,hz,J⟩:=aQd (a:=a) (i:=0 + i) (by lia)
      rw[aj,J];exact⟨hz,pa z (ak J)⟩
     have mono:∀ i j,i<=j->j < na'->bv lt false y1 (a.toList.getD (0 + j) (.none,.none))=true->bv lt false y1 (a.toList.getD (0 + i) (.none,.none))=true:=λi j hij hj hb=>by
      obtain⟨z,hz,J⟩:=aQd (a:=a) (i:=0 + i) (by lia)
      obtain⟨z',hz',hzl'⟩:=aQd (a:=a) (i:=0 + j) (by lia)
      rw[aj,hzl'] at hb;rw[aj,J];have hb':lt y1 z'=false:=by simpa [bv] using hb
      show(!lt y1 z)=true;rcases Nat.eq_or_lt_of_le hij with rfl | hlt
      ·rw[J] at hzl';cases hzl';rw[hb'];rfl
      ·rw[o.tr z z' y1 (pa z (ak J)) (pa z' (ak hzl')) py1 (sa.at (by lia) J hzl') hb'];rfl
     clear kq
     revert mg'
     refine dXh (λ_=>rfl) λm2=>?_;refine ax (cX (ax (aZ7 hy1 (ax (bQs o (f:=λi=>a.toList.getD (0 + i) (.none,.none)) hk py1 fa mono (by lia) λk k1 k2 k3=>?_)))))
     dsimp only;have ahead:∀ u∈a.toList.take k,lt y1 u=false:=λu hu=>by
      obtain⟨j,hj,e⟩:=aQp hu
      have:=k2 j hj
      rw[aj,Nat.zero_add,e] at this;have h1:(!lt y1 u)=true:=this;simpa using h1
     by_cases ck:na' - k > 0
     ·refine aQx ck ?_;have iv3:Iv (rl lt) (a.toList++b.toList) (B++(a.extract k na').reverse).toList (a.toList.take k++b.toList.take D):=by
       rw[bJ,fT,aZc];refine iv'.backA sa k1 λz hz u hu=>?_;obtain⟨j,hj,J⟩:=aZq hz;have hb:=k3 (k + j) (by lia) (by lia)
       rw[aj,Nat.zero_add,J] at hb;have h1:(!lt y1 z)=false:=hb;have pz:=pa z (ak J)
       have:=bXc o pb sb pz O (o.as _ _ py1 pz (by simpa using h1))
       rw[show D - 1 + 1=D by lia] at this
       exact this u hu
      have sz3:out1.size<=(B++(a.extract k na').reverse).size:=by rw[cU];lia
      by_cases c3:(k == 0)=true
      ·have k0:k=0:=by simpa using c3
       refine aQx c3 ?_;refine aD (.inl ⟨_,rfl,finG _ _ _ _ ?_ iv3⟩);rw[k0];exact sb.take _
      ·refine aQy c3 ?_;have c3':k≠0:=by simpa using c3
       refine t1 _ _ k D m2 (na' - k) Z m2 (λr c' q=>.inl ⟨r,rfl,q⟩) (λn1 n2 o' a1 b1 q1 q2 q3 q4=>⟨.inr ⟨_,_,_,_,_,_,_,rfl,rfl,q1,q2,q3,by lia⟩,⟨_,_,_,_,_,_,_,rfl,rfl,q1,q2,q3,by lia⟩⟩) (by lia) (by lia) hnb' iv3 λy hy u hu=>?_
       rw[O] at hy;cases hy;exact ahead u hu
     ·refine aQy ck ?_;have ek:k=na':=by lia
      refine t1 _ _ na' D m2 (na' - k) Z m2 (λr c' q=>.inl ⟨r,rfl,q⟩) (λn1 n2 o' a1 b1 q1 q2 q3 q4=>⟨.inr ⟨_,_,_,_,_,_,_,rfl,rfl,q1,q2,q3,by lia⟩,⟨_,_,_,_,_,_,_,rfl,rfl,q1,q2,q3,by lia⟩⟩) hna' hla' hnb' iv' λy hy u hu=>?_
      rw[O] at hy;cases hy;exact ahead u (by rw[ek];exact hu)
    ·intro c G zq;refine hd λGq kq=>?_;obtain⟨na',D,B,mg',ac,Z,g',rfl,rfl,hna',hl',iv',hsz'⟩:=zq;refine kq ?_;exact .inr ⟨_,_,_,_,_,_,_,rfl,rfl,hna',hl',iv',hsz'⟩
    ·rintro c G (⟨r,hr,q⟩ | ⟨na',D,B,mg',ac,Z,g',rfl,rfl,hna',hl',iv',hsz'⟩)
     ·obtain⟨c1,c2⟩:=c;dsimp only at hr;subst hr;exact aD ⟨r,rfl,q⟩
     ·dsimp only;exact ax (cX (aD ⟨_,_,_,_,_,rfl,rfl,hna',hl'.1,hl'.2,iv',by lia⟩))
 ·intro c G zq;refine hd λGq kq=>?_;obtain⟨na,nb,out,mg,g,rfl,rfl,hna,hla,hnb,iv,hsz⟩:=zq;refine kq ?_;exfalso
  have:=iv.size
  rw[sz,aZ] at this;lia
 ·rintro c G ⟨r,hr,q⟩;obtain⟨c1,c2⟩:=c;dsimp only at hr;subst hr;exact aD q
end
theorem fQa (i:Nat):mergeAt' i=(do
 let s <- get
 let (some (sa,na,pw),some (sb,nb,_)):=((bR s)[i]?,(bR s)[i + 1]?) | fu "internal:list.sort.pending"
 set (fU s (((bR s).setIfInBounds i (sa,na + nb,pw)).eraseIdxIfInBounds (i + 1)))
 let some k <- gal false (<- eP (aU s) sb) (aU s) sa na 0 | return false
 let (sa,na):=(sa + k,na - k)
 if na == 0 then return true
 let some nb <- gal true (<- eP (aU s) (sa + na - 1)) (aU s) sb nb (nb - 1) | return false
 if nb == 0 then return true
 let x:=(aU s).extract sa sb
 let y:=(aU s).extract sb (sb + nb)
 let m <- if na<=nb then mLo x y else mHi x y
 modify λs=>cV s (m.toList.zipIdx.foldl (λa (p,j)=>a.setIfInBounds (sa + j) p) (aU s))
 return (fS (<- get)).isNone):=rfl
theorem eQe {M:Model} {A:a7} {E:ae->ai->Prop} {s:ai} {σ:Type} {st st':σ} {Q:PUnit->σ->Prop} (h:Q ⟨⟩ st'):wpS M A E s (set st':StateT σ Sem PUnit) Q st:=by
 unfold wpS;show aE M A (pure (PUnit.unit,st'):Sem (PUnit × σ)) _ E s;exact ad ⟨rfl,h⟩
theorem cQd (off:Nat):∀ (M:List aP) (k:Nat) (xs:Array aP),off + k + M.length<=xs.size->((M.zipIdx k).foldl (λa pj=>a.setIfInBounds (off + pj.2) pj.1) xs).toList=xs.toList.take (off + k)++M++xs.toList.drop (off + k + M.length)
 | [],k,xs,h=>by simp
 | x::M,k,xs,h=>by
  rw[jR,kf,cQd off M (k + 1) _ (by simp at h ⊢;lia)]
  simp only[jc];rw[aV] at h ⊢;have B:off + k < xs.toList.length:=by simp;lia
  rw[show off + (k + 1)=off + k + 1 by lia,List.take_set,List.drop_set_of_lt (by lia),List.set_eq_take_append_cons_drop]
  have j:(off + k) < (xs.toList.take (off + k + 1)).length:=by rw[aK];lia
  rw[if_pos j,List.take_take,Nat.min_eq_left (by lia),cy (by rw[aK];lia)]
  simp[aY,show off + k + 1 + M.length=off + k + (M.length + 1) by lia]
section
variable {prog:aC} {w:aR} {A:a7} {E:ae->ai->Prop} {s:ai} {κ:fm} {P:aP->Prop} {lt:aP->aP->Bool}
theorem fQb (o:Orc prog w A s κ P lt) {st:cW} {i sa na pw sb nb pw':Nat} {L1 Aa Bb L2:List aP} {Q:Bool->cW->Prop} (hk:kindOf st=κ) (hf:fS st=none) (hp1:(bR st)[i]?=some (sa,na,pw)) (hp2:(bR st)[i + 1]?=some (sb,nb,pw'))
  (hsb:sb=sa + na) (hl:(aU st).toList=L1++(Aa++(Bb++L2))) (l1:L1.length=sa) (lA:Aa.length=na) (lB:Bb.length=nb) (na1:1<=na) (nb1:1<=nb) (PA:∀ x∈Aa,P x) (PB:∀ x∈Bb,P x) (sA:Sd lt Aa) (sB:Sd lt Bb)
  (h:∀ C g xs,xs.toList=L1++(C++L2)->Sd lt C->C.Perm (Aa++Bb)->Q true (ja κ xs (((bR st).setIfInBounds i (sa,na + nb,pw)).eraseIdxIfInBounds (i + 1)) g none)):wpS (aJ prog w) A E s (mergeAt' i) Q st:=by
 have hsz:(aU st).size=sa + na + nb + L2.length:=by
  have:=congrArg eM hl
  simp only[aZ,aq] at this;lia
 have atA:∀ j x,Aa[j]?=some x->(aU st)[sa + j]?=some x:=λj x B=>by
  have Z:=(aA.mp B).1;rw[<- aT,hl,cg (by lia),l1,Nat.add_sub_cancel_left,dU Z];exact B
 have atB:∀ j x,Bb[j]?=some x->(aU st)[sb + j]?=some x:=λj x B=>by
  have Z:=(aA.mp B).1;rw[<- aT,hl,cg (by lia),l1,cg (by lia),lA,dU (by lia)]
  rw[show sb + j - sa - na=j by lia];exact B
 have O:∀ j,j < na->∃ x,Aa[j]?=some x:=λj B=>⟨Aa[j],ah (by lia)⟩
 have L:∀ j,j < nb->∃ x,Bb[j]?=some x:=λj B=>⟨Bb[j],ah (by lia)⟩
 obtain⟨b0,hb0⟩:=L 0 nb1;have pb0:=PB b0 (ak hb0);rw[fQa];refine ax (iN ?_);rw[hp1,hp2];dsimp only;refine ax (eQe ?_);have Y:kindOf (fU st (((bR st).setIfInBounds i (sa,na + nb,pw)).eraseIdxIfInBounds (i + 1)))=κ:=hk;have est:∀ g xs,cV (setG (fU st (((bR st).setIfInBounds i (sa,na + nb,pw)).eraseIdxIfInBounds (i + 1))) g) xs=ja κ xs (((bR st).setIfInBounds i (sa,na + nb,pw)).eraseIdxIfInBounds (i + 1)) g none:=λg xs=>by
  show ja (kindOf st) xs _ g (fS st)=_;rw[hk,hf]
 refine ax (aZ7 (x:=b0) (by have:=atB 0 b0 hb0;rwa [Nat.add_zero] at this) (ax (bQs o (f:=λj=>Aa.getD j (.none,.none)) Y pb0 (λj B=>?_) (λj j' hjj B hb=>?_) (by lia) λk k1 k2 k3=>?_)))
 ·obtain⟨x,G⟩:=O j B;rw[aj,G];exact⟨atA j x G,PA x (ak G)⟩
 ·obtain⟨z,hz⟩:=O j (by lia)
  obtain⟨z',hz'⟩:=O j' B;rw[aj,hz'] at hb;rw[aj,hz];have hb':lt b0 z'=false:=by simpa [bv] using hb
  show(!lt b0 z)=true;rcases Nat.eq_or_lt_of_le hjj with rfl | hlt
  ·rw[hz] at hz';cases hz';rw[hb'];rfl
  ·rw[o.tr z z' b0 (PA z (ak hz)) (PA z' (ak hz')) pb0 (sA.at hlt hz hz') hb'];rfl
 have U:∀ u∈Aa.take k,∀ v∈Bb,lt v u=false:=λu I v J=>by
  obtain⟨j,B,e⟩:=aQp I
  have:=k2 j B
  rw[aj,e] at this;have h1:(!lt b0 u)=true:=this;exact bXb o PB sB (i:=0) (PA u (ak e)) hb0 (by simpa using h1) v J
 have upA:∀ u∈Aa.drop k,lt u b0=false:=λu I=>by
  obtain⟨j,B,e⟩:=aQk I;have Z:=(aA.mp e).1
  have:=k3 j B (by lia)
  rw[aj,e] at this;have h1:(!lt b0 u)=false:=this;exact o.as _ _ pb0 (PA u (ak e)) (by simpa using h1)
 dsimp only;have whole:∀ g,Sd lt (Aa++Bb)->Q true (setG (fU st (((bR st).setIfInBounds i (sa,na + nb,pw)).eraseIdxIfInBounds (i + 1))) g):=λg hs=>by
  have:=h (Aa++Bb) g (aU st) (by rw[hl,aY]) hs (dI _)
  rw[<- est g (aU st)] at this;exact this
 by_cases c1:(na - k == 0)=true
 ·rw[if_pos c1];have kn:k=na:=by
   have:na - k=0:=by simpa using c1
   lia
  refine aD (whole _ (bB.mpr ⟨sA,sB,λu I v J=>U u ?_ v J⟩));rw[kn,<- lA,cv];exact I
 rw[if_neg c1];have c1':na - k≠0:=by simpa using c1
 obtain⟨al,hal⟩:=O (na - 1) (by lia)
 have pal:=PA al (ak hal);refine ax (aZ7 (x:=al) (by have:=atA _ al hal;rwa [show sa + k + (na - k) - 1=sa + (na - 1) by lia]) (ax (bQs o (f:=λj=>Bb.getD j (.none,.none)) Y pal (λj B=>?_) (λj j' hjj B hb=>?_) (by lia) λm m1 m2 m3=>?_)))
 ·obtain⟨x,G⟩:=L j B;rw[aj,G];exact⟨atB j x G,PB x (ak G)⟩
 ·obtain⟨z,hz⟩:=L j (by lia)
  obtain⟨z',hz'⟩:=L j' B;rw[aj,hz'] at hb;rw[aj,hz];have hb':lt z' al=true:=hb;show lt z al=true;cases e:lt z al with
  | true=>rfl
  | false =>
   exfalso;have pz:=PB z (ak hz);have pz':=PB z' (ak hz');rcases Nat.eq_or_lt_of_le hjj with rfl | hlt
   ·rw[hz] at hz';cases hz';rw[e] at hb';cases hb'
   ·have:=o.tr al z z' pal pz pz' e (sB.at hlt hz hz')
    rw[hb'] at this;cases this
 have upB:∀ v∈Bb.drop m,∀ u∈Aa,lt v u=false:=λv J u I=>by
  obtain⟨j,B,e⟩:=aQk J;have Z:=(aA.mp e).1
  have:=m3 j B (by lia)
  rw[aj,e] at this;have h1:lt v al=false:=this
  have:=bXc o PA sA (PB v (ak e)) hal h1
  rw[show na - 1 + 1=Aa.length by lia,cv] at this
  exact this u I
 have lowB:∀ v∈Bb.take m,lt al v=false:=λv J=>by
  obtain⟨j,B,e⟩:=aQp J
  have:=m2 j B
  rw[aj,e] at this;exact o.as _ _ (PB v (ak e)) pal this
 dsimp only
 by_cases c2:(m == 0)=true
 ·rw[if_pos c2];have m0:m=0:=by simpa using c2
  refine aD (whole _ (bB.mpr ⟨sA,sB,λu I v J=>upB v ?_ u I⟩));rw[m0];exact J
 rw[if_neg c2];have c2':m≠0:=by simpa using c2
 have ex:((aU st).extract (sa + k) sb).toList=Aa.drop k:=by
  rw[aZc,hl,<- l1,fY,cy (by lia),bY,Nat.add_sub_cancel_left,ix (by lia),eC (by rw[bm];lia)]
  exact bG (by rw[bm];lia)
 have ey:((aU st).extract sb (sb + m)).toList=Bb.take m:=by
  rw[aZc,hl,Nat.add_sub_cancel_left,fY,cy (by lia),bY,fY,cy (by lia),bY,show sb - L1.length - Aa.length=0 by lia,iX,eC (by lia)]
 have zx:((aU st).extract (sa + k) sb).size=na - k:=by rw[<- aZ,ex,bm,lA]
 have zy:((aU st).extract sb (sb + m)).size=m:=by rw[<- aZ,ey,aK];lia
 have fin:∀ (M:Array aP) g,Sd lt M.toList->M.toList.Perm (((aU st).extract (sa + k) sb).toList++((aU st).extract sb (sb + m)).toList)->wpS (aJ prog w) A E s (do
   modify λs=>cV s (M.toList.zipIdx.foldl (λa R=>a.setIfInBounds (sa + k + R.2) R.1) (aU s))
   let z <- get
   pure (fS z).isNone) Q (setG (fU st (((bR st).setIfInBounds i (sa,na + nb,pw)).eraseIdxIfInBounds (i + 1))) g):=λM g hs D=>by
  refine ax (cX (ax (iN (aD ?_))));rw[ex,ey] at D;have ml:=D.length_eq;rw[aq,bm,aK] at ml;have ll:=cQd (sa + k) M.toList 0 (aU st) (by lia)
  have hfn:(fS (cV (setG (fU st (((bR st).setIfInBounds i (sa,na + nb,pw)).eraseIdxIfInBounds (i + 1))) g) (M.toList.zipIdx.foldl (λa R=>a.setIfInBounds (sa + k + R.2) R.1) (aU st)))).isNone=true:=by
   show(fS st).isNone=true;rw[hf];rfl
  have main:=h (Aa.take k++(M.toList++Bb.drop m)) g (M.toList.zipIdx.foldl (λa R=>a.setIfInBounds (sa + k + R.2) R.1) (aU st)) ?_ ?_ ?_
  ·rw[<- est g] at main;show Q _ _;have e0:(fS (cV (setG (fU st (((bR st).setIfInBounds i (sa,na + nb,pw)).eraseIdxIfInBounds (i + 1))) g) (M.toList.zipIdx.foldl (λa R=>a.setIfInBounds (sa + k + R.2) R.1) (aU st)))).isNone=true:=hfn;exact(e0.symm ▸ main)
  ·rw[ll,hl];have t1:(L1++(Aa++(Bb++L2))).take (sa + k + 0)=L1++Aa.take k:=by
    rw[<- l1,Nat.add_zero,List.take_append,bG (by lia),Nat.add_sub_cancel_left,eC (by lia)]
   have t2:(L1++(Aa++(Bb++L2))).drop (sa + k + 0 + M.toList.length)=Bb.drop m++L2:=by
    rw[fY,cy (by lia),bY,fY,cy (by lia),bY,show sa + k + 0 + M.toList.length - L1.length - Aa.length=m by lia,ix (by lia)]
   rw[t1,t2];simp only[aY]
  ·have sA':Sd lt (Aa.take k++Aa.drop k):=by rw[bL];exact sA
   have sB':Sd lt (Bb.take m++Bb.drop m):=by rw[bL];exact sB
   obtain⟨a1,_,a3⟩:=bB.mp sA';obtain⟨_,b2,b3⟩:=bB.mp sB';refine bB.mpr ⟨a1,bB.mpr ⟨hs,b2,λu I v J=>?_⟩,λu I v J=>?_⟩
   ·rcases aN.mp (D.mem_iff.mp I) with z | z
    ·exact upB v J u (cI z)
    ·exact b3 u z v J
   ·rcases aN.mp J with z | z
    ·rcases aN.mp (D.mem_iff.mp z) with y | y
     ·exact a3 u I v y
     ·exact U u I v (cJ y)
    ·exact U u I v (cI z)
  ·have e1:(Aa++Bb)=Aa.take k++(Aa.drop k++(Bb.take m++Bb.drop m)):=by rw[<- aY,bL,bL]
   rw[e1];refine eQ _ ?_;rw[<- aY];exact eJ _ D
 have pX:∀ x∈((aU st).extract (sa + k) sb).toList,P x:=λx G=>PA x (cI (by rw[ex] at G;exact G))
 have pY:∀ x∈((aU st).extract sb (sb + m)).toList,P x:=λx G=>PB x (cJ (by rw[ey] at G;exact G))
 have hF:∀ y,((aU st).extract sb (sb + m)).toList[0]?=some y->∀ x∈((aU st).extract (sa + k) sb).toList,lt x y=false:=λy hy x G=>by
  rw[ey,gk (by lia),hb0] at hy
  cases hy;rw[ex] at G;exact upA x G
 have hL:∀ z,((aU st).extract (sa + k) sb).toList[((aU st).extract (sa + k) sb).size - 1]?=some z->∀ y∈((aU st).extract sb (sb + m)).toList,lt z y=false:=λz hz y hy=>by
  rw[ex,zx,iY,show k + (na - k - 1)=na - 1 by lia,hal] at hz
  cases hz;rw[ey] at hy;exact lowB y hy
 have sX:Sd lt ((aU st).extract (sa + k) sb).toList:=by rw[ex];exact sA.drop k
 have sY:Sd lt ((aU st).extract sb (sb + m)).toList:=by rw[ey];exact sB.take m
 by_cases c3:na - k<=m
 ·rw[if_pos c3];exact ax (fQ7 o Y pX pY sX sY (by lia) (by lia) hF hL λM g hs D=>fin M g hs D)
 ·rw[if_neg c3];exact ax (fQ9 o Y pX pY sX sY (by lia) (by lia) hF hL λM g hs D=>fin M g hs D)
end
def at0 (xs:Array aP) (i:Nat):aP:=(xs[i]?).getD (.none,.none)
theorem cJ4 {xs ys:Array aP} {i j:Nat} (h:xs[i]?=ys[j]?):at0 xs i=at0 ys j:=by unfold at0;rw[h]
def Gd (lo:Nat) (a xs:Array aP):Prop:=xs.Perm a/\∀ i,i < lo->xs[i]?=a[i]?
theorem Gd.size {lo:Nat} {a xs:Array aP} (h:Gd lo a xs):xs.size=a.size:=h.1.size_eq
def Up (lt:aP->aP->Bool) (xs:Array aP) (i j:Nat):Prop:=∀ p q,i<=p->p < q->q < j->lt (at0 xs q) (at0 xs p)=false
def Dn (lt:aP->aP->Bool) (xs:Array aP) (i j:Nat):Prop:=∀ p q,i<=p->p < q->q < j->lt (at0 xs p) (at0 xs q)=false
def Eqs (lt:aP->aP->Bool) (xs:Array aP) (i j:Nat):Prop:=∀ p q,i<=p->p < j->i<=q->q < j->lt (at0 xs p) (at0 xs q)=false
theorem bQ1 {xs:Array aP} {i j:Nat} (hj:j<=xs.size) (k:Nat):at0 (dR xs i j ((j - i) / 2)) k=if i<=k/\k < j then at0 xs (i + j - 1 - k) else at0 xs k:=by
 have e:=getElem?_mirror_all (i:=i) hj k
 split at e
 ·next h=>rw[if_pos h];exact cJ4 e
 ·next h=>rw[if_neg h];exact cJ4 e
theorem Gd.rev {lo i j d:Nat} {a xs:Array aP} (h:Gd lo a xs) (hi:lo<=i) (hj:j<=xs.size) (hd:d=(j - i) / 2):Gd lo a (dR xs i j d):=by
 subst hd;refine⟨(mirror_perm _ _ _ _).trans h.1,λk B=>?_⟩;rw[getElem?_mirror_all hj,if_neg (by lia)]
 exact h.2 k B
section
variable {prog:aC} {w:aR} {A:a7} {E:ae->ai->Prop} {s:ai} {κ:fm} {P:aP->Prop} {lt:aP->aP->Bool}
theorem gd_P {lo:Nat} {a xs:Array aP} (h:Gd lo a xs) (PA:∀ x∈a.toList,P x) {i:Nat} (hi:i < a.size):xs[i]?=some (at0 xs i)/\P (at0 xs i):=by
 have j:i < xs.size:=by rw[h.size];exact hi
 have e:xs[i]?=some xs[i]:=getElem?_pos _ i j;have B:at0 xs i=xs[i]:=by unfold at0;rw[e];rfl
 rw[B];exact⟨e,PA _ ((cY.mp h.1).mem_iff.mp (by simp))⟩
theorem aZ8 (o:Orc prog w A s κ P lt) {st:cW} {xs:Array aP} {lo i j:Nat} {Q:Option Bool->cW->Prop} (hk:kindOf st=κ) (PA:∀ x∈(aU st).toList,P x) (g:Gd lo (aU st) xs) (hi:i < (aU st).size) (hj:j < (aU st).size) (h:Q (some (lt (at0 xs i) (at0 xs j))) (cV st xs)) :
  wpS (aJ prog w) A E s (ltAt' i j) Q (cV st xs):=by
 rw[ltAt'_eq];refine ax (iN ?_);obtain⟨G,B⟩:=gd_P g PA hi;obtain⟨D,p2⟩:=gd_P g PA hj;exact ax (aZ7 G (ax (aZ7 D (cJ2 o hk B p2 h))))
theorem irr (o:Orc prog w A s κ P lt) {x:aP} (hx:P x):lt x x=false:=by
 cases e:lt x x with
 | false=>rfl
 | true=>exact absurd (e.symm.trans (o.as x x hx hx e)) (by decide)
variable {st:cW} {xs:Array aP} {lo:Nat}
theorem Up.more (o:Orc prog w A s κ P lt) {i j:Nat} (hP:∀ p,p<=j->P (at0 xs p)) (h:Up lt xs i j) (hij:i < j) (e:lt (at0 xs j) (at0 xs (j - 1))=false):Up lt xs i (j + 1):=λp q h1 h2 B=>by
 rcases Nat.lt_or_ge q j with z | z
 ·exact h p q h1 h2 z
 ·have:q=j:=by lia
  subst this;rcases Nat.lt_or_ge p (q - 1) with y | y
  ·exact o.tr _ _ _ (hP p (by lia)) (hP (q - 1) (by lia)) (hP q (by lia)) (h p (q - 1) h1 y (by lia)) e
  ·have:p=q - 1:=by lia
   rw[this];exact e
theorem Dn.more (o:Orc prog w A s κ P lt) {i j:Nat} (hP:∀ p,p<=j->P (at0 xs p)) (h:Dn lt xs i j) (hij:i < j) (e:lt (at0 xs (j - 1)) (at0 xs j)=false):Dn lt xs i (j + 1):=λp q h1 h2 B=>by
 rcases Nat.lt_or_ge q j with z | z
 ·exact h p q h1 h2 z
 ·have:q=j:=by lia
  subst this;rcases Nat.lt_or_ge p (q - 1) with y | y
  ·exact o.tr _ _ _ (hP q (by lia)) (hP (q - 1) (by lia)) (hP p (by lia)) e (h p (q - 1) h1 y (by lia))
  ·have:p=q - 1:=by lia
   rw[this];exact e
theorem Dn.rev {i j d:Nat} (h:Dn lt xs i j) (hj:j<=xs.size) (hd:d=(j - i) / 2):Up lt (dR xs i j d) i j:=λp q h1 h2 B=>by
 subst hd;rw[bQ1 hj,bQ1 hj,if_pos ⟨by lia,by lia⟩,if_pos ⟨by lia,by lia⟩]
 exact h _ _ (by lia) (by lia) (by lia)
theorem Dn.eqs {i j c d:Nat} (h:Dn lt xs i j) (hc:i<=c) (he:Eqs lt xs c j) (hj:j<=xs.size) (hd:d=(j - c) / 2):Dn lt (dR xs c j d) i j:=λp q h1 h2 B=>by
 subst hd;rw[bQ1 hj,bQ1 hj]
 by_cases a1:c<=p/\p < j
 ·rw[if_pos a1,if_pos ⟨by lia,by lia⟩]
  exact he _ _ (by lia) (by lia) (by lia) (by lia)
 ·rw[if_neg a1]
  by_cases a2:c<=q/\q < j
  ·rw[if_pos a2];exact h _ _ h1 (by lia) (by lia)
  ·rw[if_neg a2];exact h _ _ h1 h2 B
theorem fQc (o:Orc prog w A s κ P lt) {nrem:Nat} {Q:Option Nat->cW->Prop} (hk:kindOf st=κ) (PA:∀ x∈(aU st).toList,P x) (hn:1<=nrem) (hs:lo + nrem<=(aU st).size)
  (h:∀ n xs,1<=n->n<=nrem->Gd lo (aU st) xs->Up lt xs lo (lo + n)->Q (some n) (cV st xs)):wpS (aJ prog w) A E s (countRun' lo nrem) Q st:=by
 have G:∀ {xs},Gd lo (aU st) xs->∀ p,p < (aU st).size->P (at0 xs p):=λg p J=>(gd_P g PA J).2;rw[countRun'_eq];dsimp only;have est:st=cV st (aU st):=rfl;have g0:Gd lo (aU st) (aU st):=⟨kh _,λ_ _=>rfl⟩;refine ax (dF (bU (I:=λx c B=>B=cV st (aU st)/\c=(none,x)/\1<=x/\Up lt (aU st) lo (lo + x))
  (Q:=λc B=>B=cV st (aU st)/\∃ n,c=(none,n)/\1<=n/\n<=nrem/\Up lt (aU st) lo (lo + n)/\(n < nrem->lt (at0 (aU st) (lo + n)) (at0 (aU st) (lo + n - 1))=true)) ?_ ?_ ⟨est,rfl,Nat.le_refl _,λp q _ _ _=>by lia⟩) ?_)
 ·rintro x c B _ hx ⟨rfl,rfl,h1,D⟩;dsimp only;refine ax (aZ8 o (i:=lo + x) (j:=lo + x - 1) hk PA g0 (by lia) (by lia) ?_)
  dsimp only;cases e:lt (at0 (aU st) (lo + x)) (at0 (aU st) (lo + x - 1)) with
  | true=>rw[if_pos rfl];exact aD ⟨rfl,x,rfl,h1,by lia,D,λ_=>e⟩
  | false=>rw[if_neg (by simp)];exact aD ⟨rfl,rfl,by lia,Up.more o (i:=lo) (j:=lo + x) (λp J=>G g0 p (by lia)) D (by lia) e⟩
 ·rintro c B ⟨rfl,rfl,h1,D⟩;refine⟨rfl,_,rfl,by lia,by lia,D,λz=>by lia⟩
 ·rintro c B ⟨rfl,n,rfl,O,L,D,hlt⟩;dsimp only
  by_cases c0:(n == nrem)=true
  ·rw[if_pos c0];exact aD (h n _ O L g0 D)
  rw[if_neg c0];have c0':n < nrem:=by
   have:n≠nrem:=by simpa using c0
   lia
  have hlt':=hlt c0';have pp:∀ p,p<=lo + n->P (at0 (aU st) p):=λp J=>G g0 p (by lia)
  have hle:=o.as _ _ (pp _ (Nat.le_refl _)) (pp _ (by lia)) hlt'
  by_cases cn:n > 1
  ·rw[if_pos cn];refine ax (aZ8 o (i:=lo) (j:=lo + n - 1) hk PA g0 (by lia) (by lia) ?_)
   dsimp only;cases e:lt (at0 (aU st) lo) (at0 (aU st) (lo + n - 1)) with
   | true=>rw[if_pos rfl];exact aD (h n _ O L g0 D)
   | false =>
    rw[if_neg (by simp),dG]
    have down:∀ p,lo<=p->p < lo + n->lt (at0 (aU st) p) (at0 (aU st) (lo + n - 1))=false:=λp h1 h2=>by
     rcases Nat.eq_or_lt_of_le h1 with rfl | h1
     ·exact e
     ·exact o.tr _ _ _ (pp _ (by lia)) (pp _ (by lia)) (pp _ (by lia)) e (D lo p (Nat.le_refl _) h1 h2)
    have dn:Dn lt (aU st) lo (lo + n):=λp q h1 h2 Z=>by
     rcases Nat.eq_or_lt_of_le (show q<=lo + n - 1 by lia) with z | z
     ·rw[z];exact down p h1 (by lia)
     ·exact o.tr _ _ _ (pp _ (by lia)) (pp _ (by lia)) (pp _ (by lia)) (D q (lo + n - 1) (by lia) z (by lia)) (down p h1 (by lia))
    have eqs:Eqs lt (aU st) lo (lo + n):=λp q h1 h2 Z h4=>by
     rcases Nat.lt_trichotomy p q with z | z | z
     ·exact dn p q h1 z h4
     ·subst z;exact irr o (pp _ (by lia))
     ·exact D q p Z z h2
    have g2:Gd lo (aU st) (dR (aU st) lo (lo + n) ((lo + n - lo) / 2)):=g0.rev (Nat.le_refl _) (by lia) rfl
    have hd:Dn lt (dR (aU st) lo (lo + n) ((lo + n - lo) / 2)) lo (lo + (n + 1)):=by
     refine Dn.more o (i:=lo) (j:=lo + n) (λp J=>G g2 p (by lia)) (dn.eqs (Nat.le_refl _) eqs (by lia) rfl) (by lia) ?_
     have rv:=bQ1 (xs:=aU st) (i:=lo) (j:=lo + n) (by lia)
     rw[rv,rv,if_pos ⟨by lia,by lia⟩,if_neg (by lia)]
     exact o.tr _ _ _ (pp _ (by lia)) (pp (lo + n - 1) (by lia)) (pp _ (by lia)) hle (down _ (by lia) (by lia))
    have L:=c0';refine ax (cX ?_);change wpS _ _ _ _ _ _ (cV st (dR (aU st) lo (lo + n) ((lo + n - lo) / 2)))
    rename Gd lo (aU st) (dR (aU st) lo (lo + n) ((lo + n - lo) / 2))=>g
    generalize dR (aU st) lo (lo + n) ((lo + n - lo) / 2)=xs at g hd ⊢;refine ax (jb (dN ⟨rfl,?_⟩));refine ax (dF (bU (I:=λx c B=>∃ xs q,B=cV st xs/\c=(none,x,q)/\2<=x/\q + 1<=x/\Gd lo (aU st) xs/\Dn lt xs lo (lo + x)/\Eqs lt xs (lo + x - (q + 1)) (lo + x))
     (Q:=λc B=>∃ xs n q,B=cV st xs/\c=(none,n,q)/\1<=n/\n<=nrem/\q + 1<=n/\Gd lo (aU st) xs/\Dn lt xs lo (lo + n)/\Eqs lt xs (lo + n - (q + 1)) (lo + n)) ?_ ?_ ⟨xs,0,rfl,rfl,by lia,by lia,g,hd,λp q h1 h2 Z h4=>by
      have:p=q:=by lia
      subst this;exact irr o (G g p (by lia))⟩) ?_)
    ·rintro x c B _ hx ⟨xs,q,rfl,rfl,x2,Y,g,hd,he⟩;have hxs:xs.size=(aU st).size:=g.size;dsimp only;refine ax (aZ8 o (i:=lo + x) (j:=lo + x - 1) hk PA g (by lia) (by lia) ?_)
     dsimp only;cases e:lt (at0 xs (lo + x)) (at0 xs (lo + x - 1)) with
     | true =>
      rw[if_pos rfl];have e2:=o.as _ _ (G g _ (by lia)) (G g _ (by lia)) e
      have one:∀ ys,Gd lo (aU st) ys->Eqs lt ys (lo + (x + 1) - (0 + 1)) (lo + (x + 1)):=λys g' p q h1 h2 Z h4=>by
       have:p=q:=by lia
       subst this;exact irr o (G g' p (by lia))
      by_cases U:q > 0
      ·rw[if_pos U,dG];have hd2:(lo + x - (lo + x - (q + 1))) / 2=(lo + x - (lo + x - (q + 1))) / 2:=rfl;have g2:Gd lo (aU st) (dR xs (lo + x - (q + 1)) (lo + x) ((lo + x - (lo + x - (q + 1))) / 2)):=g.rev (by lia) (by lia) rfl
       have d2:Dn lt (dR xs (lo + x - (q + 1)) (lo + x) ((lo + x - (lo + x - (q + 1))) / 2)) lo (lo + x):=hd.eqs (by lia) he (by lia) rfl
       refine ax (cX (aD ⟨_,0,rfl,rfl,by lia,by lia,g2,Dn.more o (i:=lo) (j:=lo + x) (λp J=>G g2 p (by lia)) d2 (by lia) ?_,one _ g2⟩))
       have rv:=bQ1 (xs:=xs) (i:=lo + x - (q + 1)) (j:=lo + x) (by lia)
       rw[rv,rv,if_pos ⟨by lia,by lia⟩,if_neg (by lia)]
       exact o.tr (at0 xs (lo + x)) (at0 xs (lo + x - 1)) _ (G g _ (by lia)) (G g _ (by lia)) (G g _ (by lia)) e2 (he _ _ (by lia) (by lia) (by lia) (by lia))
      ·rw[if_neg U];exact aD ⟨xs,0,rfl,rfl,by lia,by lia,g,Dn.more o (i:=lo) (j:=lo + x) (λp J=>G g p (by lia)) hd (by lia) e2,one _ g⟩
     | false =>
      rw[if_neg (by simp)]
      refine ax (aZ8 o (i:=lo + x - 1) (j:=lo + x) hk PA g (by lia) (by lia) ?_)
      dsimp only;cases e2:lt (at0 xs (lo + x - 1)) (at0 xs (lo + x)) with
      | true=>rw[if_pos rfl];exact aD ⟨xs,x,q,rfl,rfl,by lia,by lia,Y,g,hd,he⟩
      | false =>
       rw[if_neg (by simp)]
       refine aD ⟨xs,q + 1,rfl,rfl,by lia,by lia,g,Dn.more o (i:=lo) (j:=lo + x) (λp J=>G g p (by lia)) hd (by lia) e2,λp r h1 h2 Z h4=>?_⟩
       have pp:∀ p,p<=lo + x->P (at0 xs p):=λp J=>G g p (by lia)
       have low:∀ p,lo + x - (q + 1)<=p->p < lo + x->lt (at0 xs p) (at0 xs (lo + x))=false/\lt (at0 xs (lo + x)) (at0 xs p)=false:=λp a1 a2=>by
        have b1:=he p (lo + x - 1) a1 a2 (by lia) (by lia)
        have b2:=he (lo + x - 1) p (by lia) (by lia) a1 a2
        exact⟨o.tr _ _ _ (pp _ (by lia)) (pp _ (by lia)) (pp _ (by lia)) e2 b1,o.tr _ _ _ (pp _ (by lia)) (pp _ (by lia)) (pp _ (by lia)) b2 e⟩
       by_cases z1:p=lo + x
       ·by_cases z2:r=lo + x
        ·rw[z1,z2];exact irr o (pp _ (by lia))
        ·rw[z1];exact(low r (by lia) (by lia)).2
       ·by_cases z2:r=lo + x
        ·rw[z2];exact(low p (by lia) (by lia)).1
        ·exact he p r (by lia) (by lia) (by lia) (by lia)
    ·rintro c B ⟨xs,q,rfl,rfl,x2,Y,g,hd,he⟩;exact⟨xs,_,q,rfl,rfl,by lia,by lia,Y,g,by rwa [show max (n + 1) nrem=nrem by lia] at hd ⊢,he⟩
    ·rintro c B ⟨xs,n,q,rfl,rfl,O,L,Y,g,hd,he⟩;have hxs:xs.size=(aU st).size:=g.size;dsimp only
     by_cases U:q > 0
     ·rw[if_pos U,dG,dG];have g2:Gd lo (aU st) (dR xs (lo + n - (q + 1)) (lo + n) ((lo + n - (lo + n - (q + 1))) / 2)):=g.rev (by lia) (by lia) rfl
      have d2:Dn lt (dR xs (lo + n - (q + 1)) (lo + n) ((lo + n - (lo + n - (q + 1))) / 2)) lo (lo + n):=hd.eqs (by lia) he (by lia) rfl
      have s2:=g2.size;have g3:=g2.rev (i:=lo) (j:=lo + n) (Nat.le_refl _) (by lia) rfl
      have R:=d2.rev (i:=lo) (j:=lo + n) (by lia) rfl
      refine ax (cX (ax (cX ?_)));change wpS _ _ _ _ _ _ (cV st (dR (dR xs (lo + n - (q + 1)) (lo + n) ((lo + n - (lo + n - (q + 1))) / 2)) lo (lo + n) ((lo + n - lo) / 2)));generalize dR (dR xs (lo + n - (q + 1)) (lo + n) ((lo + n - (lo + n - (q + 1))) / 2)) lo (lo + n) ((lo + n - lo) / 2)=zs at g3 R ⊢;refine ax (dF (bU (I:=λx c B=>B=cV st zs/\c=(none,x)/\n<=x/\Up lt (zs) lo (lo + x))
       (Q:=λc B=>B=cV st zs/\∃ n,c=(none,n)/\1<=n/\n<=nrem/\Up lt (zs) lo (lo + n)) ?_ ?_ ⟨rfl,rfl,Nat.le_refl _,R⟩) ?_)
      ·rintro x c B _ hx ⟨rfl,rfl,h1,D⟩;dsimp only;refine ax (aZ8 o (i:=lo + x) (j:=lo + x - 1) hk PA g3 (by lia) (by lia) ?_)
       dsimp only;cases e:lt (at0 (zs) (lo + x)) (at0 (zs) (lo + x - 1)) with
       | true=>rw[if_pos rfl];exact aD ⟨rfl,x,rfl,by lia,by lia,D⟩
       | false=>rw[if_neg (by simp)];exact aD ⟨rfl,rfl,by lia,Up.more o (i:=lo) (j:=lo + x) (λp J=>G g3 p (by lia)) D (by lia) e⟩
      ·rintro c B ⟨rfl,rfl,h1,D⟩;exact⟨rfl,_,rfl,by lia,by lia,D⟩
      ·rintro c B ⟨rfl,n,rfl,O,L,D⟩;exact aD (h n (zs) O L g3 D)
     ·rw[if_neg U,dG];have g3:=g.rev (i:=lo) (j:=lo + n) (Nat.le_refl _) (by lia) rfl
      have R:=hd.rev (i:=lo) (j:=lo + n) (by lia) rfl
      refine ax (cX ?_);change wpS _ _ _ _ _ _ (cV st (dR xs lo (lo + n) ((lo + n - lo) / 2)));generalize dR xs lo (lo + n) ((lo + n - lo) / 2)=zs at g3 R ⊢;refine ax (dF (bU (I:=λx c B=>B=cV st zs/\c=(none,x)/\n<=x/\Up lt (zs) lo (lo + x))
       (Q:=λc B=>B=cV st zs/\∃ n,c=(none,n)/\1<=n/\n<=nrem/\Up lt (zs) lo (lo + n)) ?_ ?_ ⟨rfl,rfl,Nat.le_refl _,R⟩) ?_)
      ·rintro x c B _ hx ⟨rfl,rfl,h1,D⟩;dsimp only;refine ax (aZ8 o (i:=lo + x) (j:=lo + x - 1) hk PA g3 (by lia) (by lia) ?_)
       dsimp only;cases e:lt (at0 (zs) (lo + x)) (at0 (zs) (lo + x - 1)) with
       | true=>rw[if_pos rfl];exact aD ⟨rfl,x,rfl,by lia,by lia,D⟩
       | false=>rw[if_neg (by simp)];exact aD ⟨rfl,rfl,by lia,Up.more o (i:=lo) (j:=lo + x) (λp J=>G g3 p (by lia)) D (by lia) e⟩
      ·rintro c B ⟨rfl,rfl,h1,D⟩;exact⟨rfl,_,rfl,by lia,by lia,D⟩
      ·rintro c B ⟨rfl,n,rfl,O,L,D⟩;exact aD (h n (zs) O L g3 D)
  ·rw[if_neg cn];have e1:n=1:=by lia
   subst e1;have hd:Dn lt (aU st) lo (lo + (1 + 1)):=λp q h1 h2 Z=>by
    have ep:p=lo:=by lia
    have eq:q=lo + 1:=by lia
    rw[ep,eq];exact hle
   have L:=c0';have g:=g0;refine ax (jb (dN ⟨rfl,?_⟩));refine ax (dF (bU (I:=λx c B=>∃ xs q,B=cV st xs/\c=(none,x,q)/\2<=x/\q + 1<=x/\Gd lo (aU st) xs/\Dn lt xs lo (lo + x)/\Eqs lt xs (lo + x - (q + 1)) (lo + x))
    (Q:=λc B=>∃ xs n q,B=cV st xs/\c=(none,n,q)/\1<=n/\n<=nrem/\q + 1<=n/\Gd lo (aU st) xs/\Dn lt xs lo (lo + n)/\Eqs lt xs (lo + n - (q + 1)) (lo + n)) ?_ ?_ ⟨aU st,0,rfl,rfl,by lia,by lia,g,hd,λp q h1 h2 Z h4=>by
     have:p=q:=by lia
     subst this;exact irr o (G g p (by lia))⟩) ?_)
   ·rintro x c B _ hx ⟨xs,q,rfl,rfl,x2,Y,g,hd,he⟩;have hxs:xs.size=(aU st).size:=g.size;dsimp only;refine ax (aZ8 o (i:=lo + x) (j:=lo + x - 1) hk PA g (by lia) (by lia) ?_)
    dsimp only;cases e:lt (at0 xs (lo + x)) (at0 xs (lo + x - 1)) with
    | true =>
     rw[if_pos rfl];have e2:=o.as _ _ (G g _ (by lia)) (G g _ (by lia)) e
     have one:∀ ys,Gd lo (aU st) ys->Eqs lt ys (lo + (x + 1) - (0 + 1)) (lo + (x + 1)):=λys g' p q h1 h2 Z h4=>by
      have:p=q:=by lia
      subst this;exact irr o (G g' p (by lia))
     by_cases U:q > 0
     ·rw[if_pos U,dG];have hd2:(lo + x - (lo + x - (q + 1))) / 2=(lo + x - (lo + x - (q + 1))) / 2:=rfl;have g2:Gd lo (aU st) (dR xs (lo + x - (q + 1)) (lo + x) ((lo + x - (lo + x - (q + 1))) / 2)):=g.rev (by lia) (by lia) rfl
      have d2:Dn lt (dR xs (lo + x - (q + 1)) (lo + x) ((lo + x - (lo + x - (q + 1))) / 2)) lo (lo + x):=hd.eqs (by lia) he (by lia) rfl
      refine ax (cX (aD ⟨_,0,rfl,rfl,by lia,by lia,g2,Dn.more o (i:=lo) (j:=lo + x) (λp J=>G g2 p (by lia)) d2 (by lia) ?_,one _ g2⟩))
      have rv:=bQ1 (xs:=xs) (i:=lo + x - (q + 1)) (j:=lo + x) (by lia)
      rw[rv,rv,if_pos ⟨by lia,by lia⟩,if_neg (by lia)]
      exact o.tr (at0 xs (lo + x)) (at0 xs (lo + x - 1)) _ (G g _ (by lia)) (G g _ (by lia)) (G g _ (by lia)) e2 (he _ _ (by lia) (by lia) (by lia) (by lia))
     ·rw[if_neg U];exact aD ⟨xs,0,rfl,rfl,by lia,by lia,g,Dn.more o (i:=lo) (j:=lo + x) (λp J=>G g p (by lia)) hd (by lia) e2,one _ g⟩
    | false =>
     rw[if_neg (by simp)]
     refine ax (aZ8 o (i:=lo + x - 1) (j:=lo + x) hk PA g (by lia) (by lia) ?_)
     dsimp only;cases e2:lt (at0 xs (lo + x - 1)) (at0 xs (lo + x)) with
     | true=>rw[if_pos rfl];exact aD ⟨xs,x,q,rfl,rfl,by lia,by lia,Y,g,hd,he⟩
     | false =>
      rw[if_neg (by simp)]
      refine aD ⟨xs,q + 1,rfl,rfl,by lia,by lia,g,Dn.more o (i:=lo) (j:=lo + x) (λp J=>G g p (by lia)) hd (by lia) e2,λp r h1 h2 Z h4=>?_⟩
      have pp:∀ p,p<=lo + x->P (at0 xs p):=λp J=>G g p (by lia)
      have low:∀ p,lo + x - (q + 1)<=p->p < lo + x->lt (at0 xs p) (at0 xs (lo + x))=false/\lt (at0 xs (lo + x)) (at0 xs p)=false:=λp a1 a2=>by
       have b1:=he p (lo + x - 1) a1 a2 (by lia) (by lia)
       have b2:=he (lo + x - 1) p (by lia) (by lia) a1 a2
       exact⟨o.tr _ _ _ (pp _ (by lia)) (pp _ (by lia)) (pp _ (by lia)) e2 b1,o.tr _ _ _ (pp _ (by lia)) (pp _ (by lia)) (pp _ (by lia)) b2 e⟩
      by_cases z1:p=lo + x
      ·by_cases z2:r=lo + x
       ·rw[z1,z2];exact irr o (pp _ (by lia))
       ·rw[z1];exact(low r (by lia) (by lia)).2
      ·by_cases z2:r=lo + x
       ·rw[z2];exact(low p (by lia) (by lia)).1
       ·exact he p r (by lia) (by lia) (by lia) (by lia)
   ·rintro c B ⟨xs,q,rfl,rfl,x2,Y,g,hd,he⟩;exact⟨xs,_,q,rfl,rfl,by lia,by lia,Y,g,by rwa [show max (1 + 1) nrem=nrem by lia] at hd ⊢,he⟩
   ·rintro c B ⟨xs,n,q,rfl,rfl,O,L,Y,g,hd,he⟩;have hxs:xs.size=(aU st).size:=g.size;dsimp only
    by_cases U:q > 0
    ·rw[if_pos U,dG,dG];have g2:Gd lo (aU st) (dR xs (lo + n - (q + 1)) (lo + n) ((lo + n - (lo + n - (q + 1))) / 2)):=g.rev (by lia) (by lia) rfl
     have d2:Dn lt (dR xs (lo + n - (q + 1)) (lo + n) ((lo + n - (lo + n - (q + 1))) / 2)) lo (lo + n):=hd.eqs (by lia) he (by lia) rfl
     have s2:=g2.size;have g3:=g2.rev (i:=lo) (j:=lo + n) (Nat.le_refl _) (by lia) rfl
     have R:=d2.rev (i:=lo) (j:=lo + n) (by lia) rfl
     refine ax (cX (ax (cX ?_)));change wpS _ _ _ _ _ _ (cV st (dR (dR xs (lo + n - (q + 1)) (lo + n) ((lo + n - (lo + n - (q + 1))) / 2)) lo (lo + n) ((lo + n - lo) / 2)));generalize dR (dR xs (lo + n - (q + 1)) (lo + n) ((lo + n - (lo + n - (q + 1))) / 2)) lo (lo + n) ((lo + n - lo) / 2)=zs at g3 R ⊢;refine ax (dF (bU (I:=λx c B=>B=cV st zs/\c=(none,x)/\n<=x/\Up lt (zs) lo (lo + x))
      (Q:=λc B=>B=cV st zs/\∃ n,c=(none,n)/\1<=n/\n<=nrem/\Up lt (zs) lo (lo + n)) ?_ ?_ ⟨rfl,rfl,Nat.le_refl _,R⟩) ?_)
     ·rintro x c B _ hx ⟨rfl,rfl,h1,D⟩;dsimp only;refine ax (aZ8 o (i:=lo + x) (j:=lo + x - 1) hk PA g3 (by lia) (by lia) ?_)
      dsimp only;cases e:lt (at0 (zs) (lo + x)) (at0 (zs) (lo + x - 1)) with
      | true=>rw[if_pos rfl];exact aD ⟨rfl,x,rfl,by lia,by lia,D⟩
      | false=>rw[if_neg (by simp)];exact aD ⟨rfl,rfl,by lia,Up.more o (i:=lo) (j:=lo + x) (λp J=>G g3 p (by lia)) D (by lia) e⟩
     ·rintro c B ⟨rfl,rfl,h1,D⟩;exact⟨rfl,_,rfl,by lia,by lia,D⟩
     ·rintro c B ⟨rfl,n,rfl,O,L,D⟩;exact aD (h n (zs) O L g3 D)
    ·rw[if_neg U,dG];have g3:=g.rev (i:=lo) (j:=lo + n) (Nat.le_refl _) (by lia) rfl
     have R:=hd.rev (i:=lo) (j:=lo + n) (by lia) rfl
     refine ax (cX ?_);change wpS _ _ _ _ _ _ (cV st (dR xs lo (lo + n) ((lo + n - lo) / 2)));generalize dR xs lo (lo + n) ((lo + n - lo) / 2)=zs at g3 R ⊢;refine ax (dF (bU (I:=λx c B=>B=cV st zs/\c=(none,x)/\n<=x/\Up lt (zs) lo (lo + x))
      (Q:=λc B=>B=cV st zs/\∃ n,c=(none,n)/\1<=n/\n<=nrem/\Up lt (zs) lo (lo + n)) ?_ ?_ ⟨rfl,rfl,Nat.le_refl _,R⟩) ?_)
     ·rintro x c B _ hx ⟨rfl,rfl,h1,D⟩;dsimp only;refine ax (aZ8 o (i:=lo + x) (j:=lo + x - 1) hk PA g3 (by lia) (by lia) ?_)
      dsimp only;cases e:lt (at0 (zs) (lo + x)) (at0 (zs) (lo + x - 1)) with
      | true=>rw[if_pos rfl];exact aD ⟨rfl,x,rfl,by lia,by lia,D⟩
      | false=>rw[if_neg (by simp)];exact aD ⟨rfl,rfl,by lia,Up.more o (i:=lo) (j:=lo + x) (λp J=>G g3 p (by lia)) D (by lia) e⟩
     ·rintro c B ⟨rfl,rfl,h1,D⟩;exact⟨rfl,_,rfl,by lia,by lia,D⟩
     ·rintro c B ⟨rfl,n,rfl,O,L,D⟩;exact aD (h n (zs) O L g3 D)
end
theorem bub_at {xs:Array aP} {src d:Nat} (hs:src < xs.size) (hd:d<=src) (k:Nat) :
  at0 (bubble xs src d) k=if k=src - d then at0 xs src else if src - d < k/\k<=src then at0 xs (k - 1) else at0 xs k:=by
 have e:=getElem?_bubble hs d hd k
 by_cases h1:k=src - d
 ·rw[if_pos h1] at e ⊢;exact cJ4 e
 ·rw[if_neg h1] at e ⊢
  by_cases h2:src - d < k/\k<=src
  ·rw[if_pos h2] at e ⊢;exact cJ4 e
  ·rw[if_neg h2] at e ⊢;exact cJ4 e
section
variable {prog:aC} {w:aR} {A:a7} {E:ae->ai->Prop} {s:ai} {κ:fm} {P:aP->Prop} {lt:aP->aP->Bool} {st:cW} {lo:Nat}
theorem fQd (o:Orc prog w A s κ P lt) {n ok:Nat} {Q:Bool->cW->Prop} (hk:kindOf st=κ) (PA:∀ x∈(aU st).toList,P x) (hs:lo + n<=(aU st).size) (hok:ok<=n) (hu:Up lt (aU st) lo (lo + ok))
  (h:∀ xs,Gd lo (aU st) xs->Up lt xs lo (lo + n)->Q true (cV st xs)):wpS (aJ prog w) A E s (binarySort' lo n ok) Q st:=by
 have pP:∀ {xs},Gd lo (aU st) xs->∀ p,p < (aU st).size->P (at0 xs p):=λg p hp=>(gd_P g PA hp).2;have g0:Gd lo (aU st) (aU st):=⟨kh _,λ_ _=>rfl⟩;rw[binarySort'_eq];refine ax (dF (bU (I:=λk c D=>∃ xs,D=cV st xs/\c=(none,())/\Gd lo (aU st) xs/\Up lt xs lo (lo + min k n))
  (Q:=λc D=>∃ xs,D=cV st xs/\c=(none,())/\Gd lo (aU st) xs/\Up lt xs lo (lo + n)) ?step ?fin ?init) ?post)
 case post =>
  rintro c D ⟨xs,rfl,rfl,g,hu⟩;exact aD (h xs g hu)
 case init =>
  refine⟨aU st,rfl,rfl,g0,λp q h1 h2 h3=>?_⟩
  by_cases z:ok=0
  ·lia
  ·exact hu p q h1 h2 (by lia)
 case fin =>
  rintro c D ⟨xs,rfl,rfl,g,hu⟩;refine⟨xs,rfl,rfl,g,?_⟩;rwa [show min (max (max ok 1) n) n=n by lia] at hu
 case step =>
  rintro k c D hak hkn ⟨xs,rfl,rfl,g,hu⟩;rw[show min k n=k by lia] at hu
  have hxs:xs.size=(aU st).size:=g.size;have pp:∀ p,p < lo + n->P (at0 xs p):=λp hp=>pP g p (by lia)
  dsimp only;refine ax (dF (bU (I:=λx c B=>B=cV st xs/\∃ l r,c=(none,l,r)/\l<=r/\r<=k/\r - l<=k - x /\
    (∀ i,i < l->lt (at0 xs (lo + k)) (at0 xs (lo + i))=false)/\(∀ i,r<=i->i < k->lt (at0 xs (lo + i)) (at0 xs (lo + k))=false))
   (Q:=λc B=>B=cV st xs/\∃ l r,c=(none,l,r)/\l<=k /\
    (∀ i,i < l->lt (at0 xs (lo + k)) (at0 xs (lo + i))=false)/\(∀ i,l<=i->i < k->lt (at0 xs (lo + i)) (at0 xs (lo + k))=false)) ?istep ?ifin ?iinit) ?ipost)
  case iinit=>exact⟨rfl,0,k,rfl,by lia,by lia,by lia,λi hi=>by lia,λi h1 h2=>by lia⟩
  case ifin =>
   rintro c B ⟨rfl,l,r,rfl,Z,L,hm,G,J⟩
   have:l=r:=by lia
   subst this;exact⟨rfl,l,l,rfl,L,G,J⟩
  case istep =>
   rintro x c B _ hxk ⟨rfl,l,r,rfl,Z,L,hm,G,J⟩;dsimp only
   by_cases Y:l >= r
   ·rw[if_pos Y]
    have:l=r:=by lia
    subst this;exact aD ⟨rfl,l,l,rfl,L,G,J⟩
   ·rw[if_neg Y];refine ax (aZ8 o hk PA g (i:=lo + k) (j:=lo + (l + r) / 2) (by lia) (by lia) ?_)
    dsimp only;cases e:lt (at0 xs (lo + k)) (at0 xs (lo + (l + r) / 2)) with
    | true =>
     rw[if_pos rfl];refine aD ⟨rfl,l,(l + r) / 2,rfl,by lia,by lia,by lia,G,λi h1 h2=>?_⟩
     have e2:=o.as _ _ (pp _ (by lia)) (pp _ (by lia)) e
     rcases Nat.eq_or_lt_of_le h1 with z | z
     ·rw[<- z];exact e2
     ·exact o.tr _ _ _ (pp _ (by lia)) (pp (lo + (l + r) / 2) (by lia)) (pp _ (by lia)) e2 (hu _ _ (by lia) (by lia) (by lia))
    | false =>
     rw[if_neg (by simp)]
     refine aD ⟨rfl,(l + r) / 2 + 1,r,rfl,by lia,by lia,by lia,λi h1=>?_,J⟩
     rcases Nat.eq_or_lt_of_le (show i<=(l + r) / 2 by lia) with z | z
     ·rw[z];exact e
     ·exact o.tr _ _ _ (pp _ (by lia)) (pp (lo + (l + r) / 2) (by lia)) (pp _ (by lia)) (hu _ _ (by lia) (by lia) (by lia)) e
  case ipost =>
   rintro c B ⟨rfl,l,r,rfl,hlk,G,J⟩;show wpS _ _ _ _ (do moveDown' (lo + k) (lo + l);pure (bC (none,()))) _ _
   rw[moveDown'_eq];have O:lo + k < xs.size:=by lia
   have ed:lo + k - (lo + l)=k - l:=by lia
   refine ax (cX (aD ⟨bubble xs (lo + k) (lo + k - (lo + l)),rfl,rfl,⟨(bubble_perm _ _ _).trans g.1,λi hi=>?_⟩,?_⟩))
   ·rw[getElem?_bubble O _ (by lia),if_neg (by lia),if_neg (by lia)]
    exact g.2 i hi
   ·rw[show min (k + 1) n=k + 1 by lia]
    intro p q h1 h2 h3;rw[bub_at O (by lia),bub_at O (by lia),show lo + k - (lo + k - (lo + l))=lo + l by lia]
    have R:∀ i,lo<=i->i < lo + l->lt (at0 xs (lo + k)) (at0 xs i)=false:=λi a b=>by
     have:=G (i - lo) (by lia)
     rwa [show lo + (i - lo)=i by lia] at this
    have U:∀ i,lo + l<=i->i < lo + k->lt (at0 xs i) (at0 xs (lo + k))=false:=λi a b=>by
     have:=J (i - lo) (by lia) (by lia)
     rwa [show lo + (i - lo)=i by lia] at this
    repeat' split
    all_goals first
     | (exfalso;lia)
     | exact R _ (by lia) (by lia)
     | exact U _ (by lia) (by lia)
     | exact hu _ _ (by lia) (by lia) (by lia)
end
def offs:Nat->List (List aP)->List (Nat × Nat)
 | _,[]=>[]
 | k,s::ss=>(k,s.length)::offs (k + s.length) ss
theorem bZa:∀ k ss,(offs k ss).length=ss.length
 | _,[]=>rfl
 | k,s::ss=>by simp[offs,bZa]
theorem aJn:∀ k (s1 s2:List (List aP)),offs k (s1++s2)=offs k s1++offs (k + s1.flatten.length) s2
 | k,[],s2=>by simp[offs]
 | k,s::s1,s2=>by simp[offs,aJn,Nat.add_assoc]
def sl (x:Nat × Nat × Nat):Nat × Nat:=(x.1,x.2.1)
structure Pn (κ:fm) (P:aP->Prop) (lt:aP->aP->Bool) (a0:List aP) (st:cW) (segs:List (List aP)) (rest:List aP):Prop where
 kind:kindOf st=κ
 fl:fS st=none
 arr:(aU st).toList=segs.flatten++rest
 perm:(aU st).toList.Perm a0
 sd:∀ sg∈segs,Sd lt sg/\sg≠[]
 pd:(bR st).toList.map sl=offs 0 segs
section
variable {prog:aC} {w:aR} {A:a7} {E:ae->ai->Prop} {s:ai} {κ:fm} {P:aP->Prop} {lt:aP->aP->Bool} {st:cW} {a0 rest:List aP} {segs:List (List aP)}
theorem Pn.psize (h:Pn κ P lt a0 st segs rest):(bR st).size=segs.length:=by
 have:=congrArg eM h.pd
 rwa [af,bZa,aZ] at this
theorem Pn.size (h:Pn κ P lt a0 st segs rest):(aU st).size=a0.length:=by rw[<- aZ];exact h.perm.length_eq
theorem Pn.room (h:Pn κ P lt a0 st segs rest):segs.flatten.length + rest.length=a0.length:=by rw[<- aq,<- h.arr];exact h.perm.length_eq
theorem dXj (o:Orc prog w A s κ P lt) (PA:∀ x∈a0,P x) (h:Pn κ P lt a0 st segs rest) {i:Nat} (hi:i + 1 < segs.length) {Q:Bool->cW->Prop}
  (hq:∀ st' segs',Pn κ P lt a0 st' segs' rest->segs'.length + 1=segs.length->segs'.flatten.length=segs.flatten.length->Q true st'):wpS (aJ prog w) A E s (mergeAt' i) Q st:=by
 obtain⟨S1,j,G,J,rfl,rfl⟩:∃ S1 j G J,segs=S1++j::G::J/\S1.length=i:=by
  refine⟨segs.take i,segs[i],segs[i + 1],segs.drop (i + 2),?_,by rw[aK];lia⟩
  rw[<- dW hi,<- dW (by lia),bL]
 have I:=h.pd;rw[aJn,Nat.zero_add] at I;obtain⟨p1,p2',Y,e2,e3⟩:=List.map_eq_append_iff.mp I;simp only[offs] at e3;obtain⟨x,Z,rfl,ex,e4⟩:=List.map_eq_cons_iff.mp e3;obtain⟨y,p2,rfl,ey,e5⟩:=List.map_eq_cons_iff.mp e4;have D:p1.length=S1.length:=by rw[<- af (f:=sl),e2,bZa]
 have g1:(bR st)[S1.length]?=some (S1.flatten.length,j.length,x.2.2):=by
  rw[<- aT,Y,<- D,cg (Nat.le_refl _),Nat.sub_self,jS];obtain⟨x1,x2,x3⟩:=x;cases ex;rfl
 have g2:(bR st)[S1.length + 1]?=some (S1.flatten.length + j.length,G.length,y.2.2):=by
  rw[<- aT,Y,<- D,cg (by lia),Nat.add_sub_cancel_left,jK,jS]
  obtain⟨y1,y2,y3⟩:=y;cases ey;rfl
 have O:=h.sd j (by simp)
 have sB:=h.sd G (by simp)
 have U:(aU st).toList=S1.flatten++(j++(G++(J.flatten++rest))):=by rw[h.arr];simp
 have pm:∀ x∈j++G,P x:=λx B=>PA x (h.perm.mem_iff.mp (by rw[U];simp at B ⊢;grind))
 refine fQb o h.kind h.fl g1 g2 rfl U rfl rfl rfl (dj.mpr O.2) (dj.mpr sB.2) (λx B=>pm x (cH _ B)) (λx B=>pm x (bi _ B)) O.1 sB.1 λC g xs B hC hp=>?_;have L:=hp.length_eq;rw[aq] at L;refine hq _ (S1++C::J) ⟨rfl,rfl,?_,?_,λsg R=>?_,?_⟩ (by simp only[aq,aV];lia) (by simp;lia)
 ·show xs.toList=_;rw[B];simp
 ·show xs.toList.Perm _;refine kF.trans ?_ h.perm;rw[B,U];refine eQ _ ?_
  have:=eJ (J.flatten++rest) hp
  rwa [aY j] at this
 ·rcases aN.mp R with z | z
  ·exact h.sd sg (by simp[z])
  ·rcases aB.mp z with rfl | z
   ·exact⟨hC,λe=>by
     have:=dj.mpr O.2
     rw[e] at L;simp at L;lia⟩
   ·exact h.sd sg (by simp[z])
 ·show(((bR st).setIfInBounds S1.length (S1.flatten.length,j.length + G.length,x.2.2)).eraseIdxIfInBounds (S1.length + 1)).toList.map sl=_;rw[Array.toList_eraseIdxIfInBounds,jc,Y,<- D,List.set_append_right _ _ (Nat.le_refl _),Nat.sub_self,List.set_cons_zero,List.eraseIdx_append_of_length_le (by lia),Nat.add_sub_cancel_left,List.eraseIdx_cons_succ,List.eraseIdx_cons_zero,aO,aL,e2,e5,aJn]
  simp[offs,sl,L,Nat.add_assoc]
theorem Pn.next (h:Pn κ P lt a0 st segs rest) {xs:Array aP} {n:Nat} (hn:1<=n) (hs:segs.flatten.length + n<=a0.length) (g:Gd segs.flatten.length (aU st) xs) (hu:Up lt xs segs.flatten.length (segs.flatten.length + n)) :
  ∃ sg rest',sg.length=n/\Sd lt sg/\sg≠[]/\Pn κ P lt a0 (cV st xs) segs (sg++rest'):=by
 have L:xs.toList.length=a0.length:=by rw[aZ,g.size,h.size]
 have G:xs.toList.take segs.flatten.length=segs.flatten:=by
  have:(aU st).toList.take segs.flatten.length=segs.flatten:=by rw[h.arr,eC (Nat.le_refl _),cv]
  rw[<- this];refine gM λi=>?_;rw[List.getElem?_take,List.getElem?_take,this]
  split
  ·next hi=>rw[aT,aT];exact g.2 i hi
  ·rfl
 refine⟨(xs.toList.drop segs.flatten.length).take n,(xs.toList.drop segs.flatten.length).drop n,by rw[aK,bm];lia,?_,λe=>?_,h.kind,h.fl,?_,?_,h.sd,h.pd⟩
 ·refine de.mpr λi j hi I J=>?_;rw[aK,bm] at hi I
  have:=hu (segs.flatten.length + i) (segs.flatten.length + j) (by lia) (by lia) (by lia)
  have D:∀ k,segs.flatten.length + k < xs.toList.length->∀ B,((xs.toList.drop segs.flatten.length).take n)[k]'B=at0 xs (segs.flatten.length + k):=λk h1 B=>by
   rw[gN,gO];unfold at0;rw[<- aT,ah h1]
   rfl
  rw[D i (by lia),D j (by lia)]
  exact this
 ·have:=congrArg eM e
  rw[aK,bm,cu] at this;lia
 ·show xs.toList=_;rw[bL]
  conv=>lhs;rw[<- bL segs.flatten.length xs.toList,G]
 ·exact(cY.mp g.1).trans h.perm
theorem Pn.push {sg rest':List aP} (h:Pn κ P lt a0 st segs (sg++rest')) (hs:Sd lt sg) (hne:sg≠[]) {lo n:Nat} (hlo:segs.flatten.length=lo) (hn:sg.length=n):Pn κ P lt a0 (fU st ((bR st).push (lo,n,0))) (segs++[sg]) rest':=by
 subst hlo hn;refine⟨h.kind,h.fl,?_,h.perm,λx j=>?_,?_⟩
 ·show(aU st).toList=_;rw[h.arr];simp
 ·rcases aN.mp j with z | z
  ·exact h.sd x z
  ·rw[aI.mp z];exact⟨hs,hne⟩
 ·show((bR st).push _).toList.map sl=_;rw[cx,aO,h.pd,aJn];simp[offs,sl]
theorem Pn.repow (h:Pn κ P lt a0 st segs rest) (i pw:Nat):Pn κ P lt a0 (fU st ((bR st).modify i λx=>(x.1,x.2.1,pw))) segs rest:=by
 refine⟨h.kind,h.fl,h.arr,h.perm,h.sd,?_⟩;show((bR st).modify i _).toList.map sl=_;rw[<- h.pd,Array.toList_modify];refine gM λj=>?_;rw[aF,aF,List.getElem?_modify]
 by_cases c:i=j
 ·simp only[c,if_true];cases (bR st).toList[j]? <;> rfl
 ·simp only[c,if_false];cases (bR st).toList[j]? <;> rfl
theorem cQe:∀ (ss:List (List aP)),(∀ sg∈ss,sg≠[])->ss.length<=ss.flatten.length
 | [],_=>Nat.le_refl _
 | s::ss,h=>by
  have:=cQe ss λx j=>h x (.tail _ j)
  have:=dj.mpr (h s (.head _))
  rw[List.flatten_cons,aq,aV];lia
end
section
variable {prog:aC} {w:aR} {A:a7} {E:ae->ai->Prop} {s:ai} {κ:fm} {P:aP->Prop} {lt:aP->aP->Bool} {st:cW} {a0 rest:List aP} {segs:List (List aP)}
theorem eQf (o:Orc prog w A s κ P lt) (PA:∀ x∈(aU st).toList,P x) (hk:kindOf st=κ) (hf:fS st=none) (hp:bR st=#[]) {Q:Unit->cW->Prop}
  (h:∀ st',(aU st').toList.Perm (aU st).toList->fS st'=none->Sd lt (aU st').toList->Q () st'):wpS (aJ prog w) A E s sortRuns' Q st:=by
 have h0:Pn κ P lt (aU st).toList st [] (aU st).toList:=⟨hk,hf,rfl,dI _,λ_ L=>absurd L db,by rw[hp];rfl⟩
 have pA:∀ {st' segs rest},Pn κ P lt (aU st).toList st' segs rest->∀ x∈(aU st').toList,P x:=λI x L=>PA x (I.perm.mem_iff.mp L);rw[sortRuns'_eq];refine ax (iN ?_);dsimp only;have lz:(aU st).toList.length=(aU st).size:=aZ;refine ax (dF (bU
  (I:=λx c st'=>∃ segs rest,c=(none,segs.flatten.length)/\Pn κ P lt (aU st).toList st' segs rest/\x<=segs.flatten.length)
  (Q:=λc st'=>∃ segs,c=(none,segs.flatten.length)/\Pn κ P lt (aU st).toList st' segs []) ?step ?fin ⟨[],_,rfl,h0,Nat.le_refl _⟩) ?post)
 case fin =>
  rintro c st' ⟨segs,rest,rfl,I,L⟩;have r:=I.room;obtain rfl:rest=[]:=cL (by lia)
  exact⟨segs,rfl,I⟩
 case post =>
  rintro c st' ⟨segs,rfl,I⟩;have r:=I.room;rw[cu] at r;have fl:=cQe segs λsg hsg=>(I.sd sg hsg).2;dsimp only;refine ax (dF (bU (I:=λx c st'=>∃ segs,c=(none,())/\Pn κ P lt (aU st).toList st' segs []/\(segs.length<=1\/segs.length + x<=(aU st).size))
   (Q:=λc st'=>∃ segs,c=(none,())/\Pn κ P lt (aU st).toList st' segs []/\segs.length<=1) ?_ ?_ ⟨segs,rfl,I,by lia⟩) ?_)
  ·rintro x c st' _ L ⟨segs,rfl,I,hc⟩;refine ax (iN ?_);have hps:=I.psize
   by_cases Z:(bR st').size<=1
   ·rw[if_pos Z];exact aD ⟨segs,rfl,I,by lia⟩
   ·rw[if_neg Z];have hi:∀ b:Bool,(if b=true then (bR st').size - 2 - 1 else (bR st').size - 2) + 1 < segs.length:=λb=>by split <;> lia
    refine ax (dXj o PA I (hi _) λG j Y l2 _=>?_);exact aD ⟨j,rfl,Y,by lia⟩
  ·rintro c st' ⟨segs,rfl,I,hc⟩;exact⟨segs,rfl,I,by lia⟩
  ·rintro c st' ⟨segs,rfl,I,hc⟩;refine aD (h st' I.perm I.fl ?_);rw[I.arr,bz]
   match segs,hc,I with
   | [],_,_=>exact gT
   | [sg],_,I=>rw[eK];exact(I.sd sg (.head _)).1
 case step =>
  rintro x c st' _ L ⟨segs,rest,rfl,I,hxs⟩;have r:=I.room;have sz:=I.size;dsimp only
  by_cases Z:segs.flatten.length >= (aU st).size
  ·rw[if_pos Z];obtain rfl:rest=[]:=cL (by lia)
   exact aD ⟨segs,rfl,I⟩
  rw[if_neg Z];refine ax (fQc o I.kind (pA I) (lo:=segs.flatten.length) (by lia) (by lia) λn xs n1 n2 g hu=>?_)
  dsimp only
  by_cases c2:n < minRun' (aU st).size (aU st).size 0
  rw[if_pos c2];refine ax (jb (dN ⟨rfl,?_⟩));refine ax (fQd o (st:=cV st' xs) I.kind (λx L=>pA I x ((cY.mp g.1).mem_iff.mp L)) (by have:=g.size;show _<=xs.size;lia) (by lia) hu λys g2 hu2=>?_)
  rw[if_neg (by simp)]
  obtain⟨sg,B,ls,hs,J,Y⟩:=I.next (by lia) (by lia) ⟨g2.1.trans g.1,λi hi=>(g2.2 i hi).trans (g.2 i hi)⟩ hu2
  change Pn κ P lt _ (cV (cV st' xs) ys) _ _ at Y
  rotate_left
  rw[if_neg c2];obtain⟨sg,B,ls,hs,J,Y⟩:=I.next n1 (by lia) g hu
  all_goals
   have lp:=dj.mpr J;refine ax (iN ?_)
   split
   next s1 n1' _ hb =>
    refine ax (dF (bU (I:=λ_ c D=>∃ j,c=(none,())/\Pn κ P lt (aU st).toList D j (sg++B)/\j.flatten.length=segs.flatten.length)
     (Q:=λc D=>∃ j,c=(none,())/\Pn κ P lt (aU st).toList D j (sg++B)/\j.flatten.length=segs.flatten.length) ?_ (λ_ _ hh=>hh) ⟨segs,rfl,Y,rfl⟩) ?_)
    ·rintro y c G _ hy ⟨j,rfl,U,R⟩;refine ax (iN ?_);have hps:=U.psize
     split
     next older he =>
      have hgt:(bR G).size > 1:=by
       by_cases z:(bR G).size > 1
       ·exact z
       ·rw[if_neg z] at he;cases he
      split
      ·exact aD ⟨j,rfl,U,R⟩
      ·refine ax (dXj o PA U (by lia) λst4 O I4 _ l4=>?_)
       exact aD ⟨O,rfl,I4,l4.trans R⟩
     next=>exact aD ⟨j,rfl,U,R⟩
    ·rintro c G ⟨j,rfl,U,R⟩;dsimp only;refine ax (cX (ax (cX (aD ⟨j++[sg],B,?_,(U.repow _ _).push hs J R ls,?_⟩))))
     ·rw[f9,aq,eK,ls,R]
     ·rw[f9,aq,eK,R];lia
   next =>
    refine ax (cX (aD ⟨segs++[sg],B,?_,Y.push hs J rfl ls,?_⟩))
    ·rw[f9,aq,eK,ls]
    ·rw[f9,aq,eK];lia
end
theorem aX2 {α:Type}:∀ {l:List α} {x y:α},(x,y)∈l.zip l->x=y/\x∈l
 | a::l,x,y,h=>by
  rw[d0] at h;rcases aB.mp h with e | h
  ·cases e;exact⟨rfl,.head _⟩
  ·exact⟨(aX2 h).1,.tail _ (aX2 h).2⟩
section
variable {prog:aC} {w:aR} {A:a7} {E:ae->ai->Prop} {s:ai}
theorem dZ9 {α:Type} {R:α->α->Prop}:∀ l:List α,l.length < 2->l.Pairwise R
 | [],_=>.nil
 | [x],_=>cq _ _
theorem sort_any {a:Addr} {vs:List ae} {n:Nat} {P:iP->ai->Prop} (lt:ae->ae->Bool) (hz:vs.length<=sizeLine) (ho:s.heap.get? a=some (cG "list" vs.toArray n))
  (H:∀ h2:bf,(∀ b o,b≠a->s.heap.get? b=some o->h2.get? b=some o)->2<=vs.length->∀ (Q:fm->ai->Prop),(∀ κ,Orc prog w A { s with heap:=h2 } κ (λx=>x.1∈vs) (λx y=>lt x.1 y.1)->Q κ { s with heap:=h2 })->aE (aJ prog w) A (keyKind' vs.toArray) Q E { s with heap:=h2 })
  (h:∀ xs:Array aP,xs.Perm (ir vs)->xs.toList.Pairwise (λx y=>lt y.1 x.1=false)->P (.done (.ret .none)) { s with heap:=hZ s.heap a vs (xs.map (·.2)) }) :
  aE (aJ prog w) A (b4.«list.sort» ⟨[.ref a],[]⟩) P E s:=by
 rw[list_sort_plain];have Z:a < s.heap.objs.size:=ay ho;refine aa (listItems_at ho rfl ?_);refine aa (listUpdate_at ho rfl ?_ (by rw[ar];exact hz) (Nat.zero_le _))
 obtain⟨I,D⟩:∃ I,(s.heap.update a (bX λ_=>#[])).get? a=some (cG "list" #[] I):=⟨_,gx ho (λ_=>#[])⟩;refine aa (seqEpoch_at D rfl ?_);refine aa (wpAny_newTuple ?_ (by show vs.length<=_;exact hz))
 refine aa (jy ?_ (Nat.zero_le _));refine bW ?_;have L:=b6 s.heap a (bX λ_=>(#[]:Array ae));have B:(((s.heap.update a (bX λ_=>#[])).push (cG "tuple" vs.toArray 0)).push (cG "list" #[] 0)).get? a=some (cG "list" #[] I):=ag _ (ag _ D);have kp:∀ b o,b≠a->s.heap.get? b=some o->(((s.heap.update a (bX λ_=>#[])).push (cG "tuple" vs.toArray 0)).push (cG "list" #[] 0)).get? b=some o:=λb o U e=>ag _ (ag _ ((L.2 b U).trans e));show aE (aJ prog w) A _ P E { s with heap:=((s.heap.update a (bX λ_=>#[])).push (cG "tuple" vs.toArray 0)).push (cG "list" #[] 0) }
 dsimp only;have G:(ir vs).size=vs.length:=pairsOf_size vs
 by_cases h2:vs.toArray.size < 2
 ·rw[if_pos h2,if_pos h2];refine aa (ad ?_);rw[StateT.run_pure];refine aa (ad ?_);dsimp only;refine aa (seqEpoch_at B rfl ?_);refine aa (listUpdate_at B rfl ?_ (Nat.zero_le _) (by rw[kB];show(ir vs).size<=_;rw[G];exact Nat.le_succ_of_le hz))
  simp only[bne_self_eq_false,aS,if_false];refine ad (h (ir vs) (kh _) ?_)
  have:(ir vs).toList.length < 2:=by rw[aZ,G];simpa using h2
  exact dZ9 _ this
 ·rw[if_neg h2,if_neg h2];refine aa (H _ kp (by simpa using h2) _ fun κ o=>?_)
  refine aa (e9 (eQf o (st:=ja κ (vs.toArray.zip vs.toArray) #[] 7 none) (Q:=λ_ j=>(aU j).toList.Perm (ir vs).toList/\fS j=none/\Sd (λx y:aP=>lt x.1 y.1) (aU j).toList)
   (λx O=>(aX2 (x:=x.1) (y:=x.2) (by rw[<- jd];exact O)).2) rfl rfl rfl λj a1 a2 Y=>⟨a1,a2,Y⟩) ?_ λ_ _ e=>e)
  rintro⟨⟨⟩,j⟩ s' ⟨rfl,J,hf,R⟩;dsimp only;refine aa (seqEpoch_at B rfl ?_);refine aa (listUpdate_at B rfl ?_ (Nat.zero_le _) (by rw[kB,<- aZ,J.length_eq,aZ,G];exact Nat.le_succ_of_le hz))
  rw[hf];simp only[bne_self_eq_false,aS,if_false];exact ad (h _ (cY.mpr J) R)
theorem treeK {κ:KeyKind} (hO:κ.OneLt) {a:Addr} {vs:List ae} {n:Nat} {P:iP->ai->Prop} (ho:s.heap.get? a=some (cG "list" vs.toArray n))
  (h0:KeysOf κ (ir vs)) (hkk:∀ v₁ v₂ rest,vs=v₁::v₂::rest->keyKind' (v₁::v₂::rest).toArray=pure oneType') (hz:vs.length<=sizeLine)
  (h:∀ st':cW,(aU st').Perm (ir vs)->SortedToK κ (aU st') (ir vs).size->P (.done (.ret .none)) { s with heap:=hZ s.heap a vs ((aU st').map (·.2)) }) :
  aE (aJ prog w) A (b4.«list.sort» ⟨[.ref a],[]⟩) P E s:=by
 have key:∀ v∈vs,∃ x,κ.keyOf v=some x:=λv Z=>h0 (v,v) (by
  rw[jd];obtain⟨i,hi,e⟩:=bO Z;exact List.mem_iff_getElem.mpr ⟨i,by simpa using hi,by simp[e]⟩)
 refine sort_any (λu v=>κ.blt ((κ.keyOf u).getD κ.dflt) ((κ.keyOf v).getD κ.dflt)) hz ho (λh2 kp L Q hq=>?_) λxs D hs=>h (ja oneType' xs #[] 7 none) D λi j J hj=>?_
 ·obtain⟨v₁,v₂,rest,rfl⟩:∃ v₁ v₂ rest,vs=v₁::v₂::rest:=by
   match vs,L with
   | v₁::v₂::rest,_=>exact⟨v₁,v₂,rest,rfl⟩
  rw[hkk _ _ _ rfl];refine ad (hq _ ⟨λx y Q Y U q=>?_,λx y _ _ e=>KeyOrd.klt_asymm e,λx y z _ _ _ e1 e2=>KeyOrd.kle_trans e1 e2⟩);obtain⟨p,D⟩:=key _ Y;obtain⟨R,B⟩:=key _ U;rw[keyLt'_oneType];refine hO _ _ _ _ _ _ _ p R D B ?_;rw[D,B] at q;exact q
 ·show κ.kle (KK κ xs i) (KK κ xs j);rcases Nat.eq_or_lt_of_le J with rfl | G
  ·exact KeyOrd.kle_refl _
  ·have sz:=D.size_eq;have O:∀ k (I:k < xs.size),KK κ xs k=(κ.keyOf (xs.toList[k]'(by simpa using I)).1).getD κ.dflt:=λk I=>by
    unfold KK;rw[<- aT,ah (by simpa using I)]
   rw[O i (by lia),O j (by lia)]
   exact de.mp hs i j (by simp;lia) (by simp;lia) G
def iv:ae->Int
 | .int n _=>n
 | _=>0
theorem treeI {a:Addr} {vs:List ae} {ns:List Int} {n:Nat} {P:iP->ai->Prop} (ho:s.heap.get? a=some (cG "list" vs.toArray n)) (hI:iI vs ns) (hz:vs.length<=sizeLine)
  (h:∀ (out:Array ae) (ns':List Int),iI out.toList ns'->ns'.Perm ns->ns'.Pairwise (·<=·)->P (.done (.ret .none)) { s with heap:=hZ s.heap a vs out }) :
  aE (aJ prog w) A (b4.«list.sort» ⟨[.ref a],[]⟩) P E s:=by
 have key:∀ v∈vs,∃ x t,v=.int x t:=λv hv=>hI.intKeys (v,v) (by
  rw[jd];obtain⟨i,hi,e⟩:=bO hv;exact List.mem_iff_getElem.mpr ⟨i,by simpa using hi,by simp[e]⟩)
 refine sort_any (λu v=>decide (iv u < iv v)) hz ho (λh2 kp R Q hq=>?_) λxs G hs=>?_
 ·obtain⟨D,B,rest,rfl⟩:∃ D B rest,vs=D::B::rest:=by
   match vs,R with
   | D::B::rest,_=>exact⟨D,B,rest,rfl⟩
  rw[keyKind_ints hI];refine ad (hq _ ⟨λx y Q Z Y q=>?_,λx y _ _ e=>by simp at e ⊢;lia,λx y z _ _ _ e1 e2=>by simp at e1 e2 ⊢;lia⟩)
  obtain⟨p,t,G⟩:=key _ Z;obtain⟨p',t',J⟩:=key _ Y;rw[keyLt'_oneType];rw[G,J] at q ⊢;exact oneLt_int q
 ·have sz:=G.size_eq;obtain⟨ns',h1,h2,h3⟩:=sorted_out hI G (λi j O hj=>by
   rcases Nat.eq_or_lt_of_le O with rfl | L
   ·exact kD _
   ·have U:∀ k (I:k < xs.size),K xs k=iv (xs.toList[k]'(by simpa using I)).1:=λk I=>by
     have hm:xs.toList[k]'(by simpa using I)∈(ir vs).toList:=(cY.mp G).mem_iff.mp (cS _)
     obtain⟨p,t,e⟩:=hI.intKeys _ hm;unfold K;rw[<- aT,ah (by simpa using I)]
     generalize xs.toList[k]'(by simpa using I)=z at e
     obtain⟨z1,z2⟩:=z;cases e
     rfl
    rw[U i (by lia),U j (by lia)]
    have:=de.mp hs i j (by simp;lia) (by simp;lia) L
    have:=of_decide_eq_false this
    lia)
  exact h _ ns' h1 h2 h3
end
end SF
set_option maxHeartbeats 1000000
namespace HT
open PySem
theorem ltS_tot {a b:Str} (h:ltS a b=false) (hne:a≠b):ltS b a=true:=by
 unfold ltS at *
 refine decide_eq_true ?_;have h1:=of_decide_eq_false h;refine bj λh2=>hne ?_;have e:a.cps.toList=b.cps.toList:=List.le_antisymm (List.not_lt.mp h2) (List.not_lt.mp h1);cases a;cases b
 congr 1
 exact Array.toList_inj.mp e
theorem ltS_tr {a b c:Str} (h:ltS a b=true) (h':ltS b c=true):ltS a c=true:=decide_eq_true (List.lt_trans (of_decide_eq_true h) (of_decide_eq_true h'))
theorem ltS_ir (a:Str):ltS a a=false:=decide_eq_false (List.lt_irrefl _)
theorem ltS_as {a b:Str} (h:ltS a b=true):ltS b a=false:=decide_eq_false (List.lt_asymm (of_decide_eq_true h))
theorem lexS_tot:∀ {a b:List Str},lexS a b=false->a≠b->lexS b a=true
 | [],[],_,h=>absurd rfl h
 | [],_::_,h,_=>by cases h
 | _::_,[],_,_=>rfl
 | x::xs,y::ys,h,j=>by
  rw[lexS_cons] at h ⊢
  by_cases e:x=y
  ·rw[if_pos e] at h;rw[if_pos e.symm];exact lexS_tot h λz=>j (by rw[e,z])
  ·rw[if_neg e] at h;rw[if_neg λz=>e z.symm];exact ltS_tot h e
theorem lexS_as:∀ {a b:List Str},lexS a b=true->lexS b a=false
 | [],[],h=>by cases h
 | [],_::_,_=>rfl
 | _::_,[],h=>by cases h
 | x::xs,y::ys,h=>by
  rw[lexS_cons] at h ⊢
  by_cases e:x=y
  ·rw[if_pos e] at h;rw[if_pos e.symm];exact lexS_as h
  ·rw[if_neg e] at h;rw[if_neg (λz=>e z.symm)];exact ltS_as h
theorem lexS_tr:∀ {a b c:List Str},lexS a b=true->lexS b c=true->lexS a c=true
 | [],[],_,h,_=>by cases h
 | [],_::_,[],_,h=>by cases h
 | [],_::_,_::_,_,_=>rfl
 | _::_,[],_,h,_=>by cases h
 | _::_,_::_,[],_,h=>by cases h
 | x::xs,y::ys,z::zs,h,h'=>by
  rw[lexS_cons] at h h' ⊢
  by_cases e:x=y
  ·subst e;rw[if_pos rfl] at h
   by_cases j:x=z
   ·rw[if_pos j] at h' ⊢;exact lexS_tr h h'
   ·rw[if_neg j] at h' ⊢;exact h'
  ·rw[if_neg e] at h
   by_cases j:y=z
   ·subst j;rw[if_neg e];exact h
   ·rw[if_neg j] at h';have hxz:=ltS_tr h h'
    have:x≠z:=by rintro rfl;rw[ltS_ir] at hxz;cases hxz
    rw[if_neg this];exact hxz
end HT
namespace KS
open PySem PySem.W PyProof.Rows
theorem paired_idx {α β:Type} {F:α->β->Prop} {l:List α} {m:List β} (p:a8 F l m) (a:α) (b:β):∀ (idx:List Nat),(∀ i∈idx,i < l.length)->a8 F (idx.map λi=>l.getD i a) (idx.map λi=>m.getD i b)
 | [],_=>.nil
 | i::idx,h=>by
  refine .cons ?_ (paired_idx p a b idx λj D=>h j (ao _ D));have hi:=h i am;obtain⟨y,B,hf⟩:=L2.Paired.get' p (ah hi);show F (l.getD i a) (m.getD i b);rw[aj,aj,B,ah hi];exact hf
theorem TS.keep {h h':bf} {v:ae} {d:List Str} (t:TS h v d) (k:∀ b o,h.get? b=some o->o.cls=.type "tuple"->h'.get? b=some o):TS h' v d:=by
 obtain⟨b,items,e,⟨o,B,j,r⟩,p⟩:=t;exact⟨b,items,e,⟨o,k b o B j,j,r⟩,p⟩
section
variable {prog:aC} {w:aR} {A:a7} {E:ae->ai->Prop} {s:ai}
theorem TS.uniq {h:bf} {v:ae} {d d':List Str} (t:TS h v d) (t':TS h v d'):d=d':=by
 obtain⟨b,items,rfl,⟨o,D,O,n,hd⟩,p⟩:=t;obtain⟨U,j,e,⟨o',ho',B,R,hd'⟩,J⟩:=t';cases e;rw[D] at ho';cases ho';rw[hd] at hd';cases hd';clear hd D O B;have go:∀ {l:List ae} {d d':List Str},HT.SAre l d->HT.SAre l d'->d=d':=by
  intro l d d' p
  induction p generalizing d' with
  | nil=>intro q;cases q;rfl
  | cons z _ L =>
   intro q;cases q with
   | cons G I =>
    obtain⟨t,e⟩:=z;obtain⟨t',e'⟩:=G;rw[e] at e';cases e';rw[L I]
 exact go p J
open Classical in
noncomputable def dec (h:bf) (v:ae):List Str:=if e:∃ d,TS h v d then e.choose else []
theorem cJ5 {h:bf} {v:ae} {d:List Str} (t:TS h v d):dec h v=d:=by
 unfold dec;have e:∃ d,TS h v d:=⟨d,t⟩;rw[dif_pos e];exact e.choose_spec.uniq t
theorem eQg {a b c:List Str} (h1:HT.lexS b a=false) (h2:HT.lexS c b=false):HT.lexS c a=false:=by
 cases e:HT.lexS c a with
 | false=>rfl
 | true =>
  by_cases z:b=a
  ·subst z;rw[h2] at e;cases e
  ·have:=HT.lexS_tr e (HT.lexS_tot h1 z)
   rw[h2] at this;cases this
theorem dZa {α β:Type} {f:α->β} {l:List β} {k:List β} (h:l.Perm k):∀ {m:List α},k=m.map f->∃ m':List α,m'.Perm m/\l=m'.map f:=by
 induction h with
 | nil=>exact λe=>⟨_,dI _,e⟩
 | cons x _ O =>
  intro m e;cases m with
  | nil=>cases e
  | cons a m =>
   rw[aL] at e;injection e with B j
   obtain⟨m',p,q⟩:=O j;exact⟨a::m',p.cons a,by rw[aL,q,B]⟩
 | swap x y l =>
  intro m e;cases m with
  | nil=>cases e
  | cons a m =>
   cases m with
   | nil=>simp at e
   | cons b m =>
    rw[aL,aL] at e;injection e with B j
    injection j with j R
    exact⟨b::a::m,.swap _ _ _,by rw[aL,aL,B,j,R]⟩
 | trans p q G D =>
  intro m e;obtain⟨U,J,B⟩:=D e;obtain⟨L,I,j⟩:=G B;exact⟨L,I.trans J,j⟩
theorem cJ6 {α:Type} (l:List α) (d:α):((aH l.length).map λi=>l.getD i d)=l:=by
 apply h9
 ·simp
 ·intro i h1 h2;simp only[ic,List.getElem_range,aj];rw[ah h2]
  rfl
theorem sort_tupsL {a:Addr} {vs:List ae} {ds:List (List Str)} {n:Nat} {P:iP->ai->Prop} (hu:A.units < cb) (ho:s.heap.get? a=some (cG "list" vs.toArray n)) (hp:a8 (TS s.heap) vs ds) (hz:vs.length<=sizeLine)
  (h:∀ (idx:List Nat) (h':bf) (c:Nat),idx.Perm (aH vs.length)->(idx.map λi=>ds.getD i []).Pairwise (λa b=>HT.lexS b a=false)->(idx.map λi=>ds.getD i []).Perm ds->h'.get? a=some (cG "list" (idx.map λi=>vs.getD i bM).toArray c) ->
   (∀ b o,b≠a->s.heap.get? b=some o->h'.get? b=some o)->P (.done (.ret .none)) { s with heap:=h' }) :
  aE (aJ prog w) A (b4.«list.sort» ⟨[.ref a],[]⟩) P E s:=by
 have hl:vs.length=ds.length:=bP hp;have at_:∀ i,i < vs.length->TS s.heap (vs.getD i bM) (ds.getD i []):=λk hk=>by
  obtain⟨d,hd,t⟩:=L2.Paired.get' hp (ah hk);rw[aj,aj,hd,ah hk];exact t
 have B:∀ v∈vs,TS s.heap v (dec s.heap v):=λv hv=>by
  obtain⟨i,hi,e⟩:=bO hv
  have:=at_ i hi
  rw[aj,ah hi] at this;have I:TS s.heap v (ds.getD i []):=by rw[<- e];exact this
  rw[cJ5 I];exact I
 refine SF.sort_any (λu v=>HT.lexS (dec s.heap u) (dec s.heap v)) hz ho (λh2 kp Y Q hq=>?_) λxs L hs=>?_
 ·have kt:∀ b o,s.heap.get? b=some o->o.cls=.type "tuple"->h2.get? b=some o:=λb o e c=>kp b o (by
   rintro rfl;rw[ho] at e;have e':=aM e;rw[<- e'] at c;have c':dg "list" = dg "tuple":=c;injection c' with Z
   exact absurd Z (by decide)) e
  have O:a8 (TS h2) vs ds:=L2.Paired.imp (λv d t=>t.keep kt) hp;refine eQd (s:={ s with heap:=h2 }) O (by rintro rfl;simp at Y) fun κ hκ=>hq κ ⟨λx y Q L hy q=>?_,λx y _ _ e=>HT.lexS_as e,λx y z _ _ _ D I=>eQg D I⟩
  have t1:=(B _ L).keep kt;have t2:=(B _ hy).keep kt;rcases hκ with rfl | rfl | rfl
  ·exact cJ1 (s:={ s with heap:=h2 }) t1 t2 q
  ·exact cZo (s:={ s with heap:=h2 }) hu t1 t2 q
  ·exact fQ4 (s:={ s with heap:=h2 }) hu t1 t2 q
 ·have pl:xs.toList.Perm (ir vs).toList:=cY.mp L;obtain⟨idx,J,D⟩:=dZa (f:=λi=>(vs.getD i bM,vs.getD i bM)) (m:=aH vs.length) pl (by
   rw[jd]
   conv=>lhs;rw[<- cJ6 vs bM]
   rw[List.zip_map'])
  have G:∀ i∈idx,i < vs.length:=λi hi=>bu.mp (J.mem_iff.mp hi);have eo:xs.map (·.2)=(idx.map λi=>vs.getD i bM).toArray:=by
   apply Array.toList_inj.mp;rw[Array.toList_map,D,bH]
   rfl
  rw[eo];rw[D,eY] at hs;have s2:=b6 (((s.heap.update a (bX λ_=>(#[]:Array ae))).push (cG "tuple" vs.toArray 0)).push (cG "list" #[] 0)) a (bX λ_=>(idx.map λi=>vs.getD i bM).toArray);obtain⟨I,R⟩:∃ D,(s.heap.update a (bX λ_=>(#[]:Array ae))).get? a=some (cG "list" #[] D):=⟨_,gx ho λ_=>#[]⟩;have sb:=b6 s.heap a (bX λ_=>(#[]:Array ae));refine h idx _ _ J ?_ ?_ (gx (ag _ (ag _ R)) λ_=>_) λb o hb e=>(s2.2 b hb).trans (ag _ (ag _ ((sb.2 b hb).trans e)))
  ·rw[eY];refine hs.imp_of_mem λ{i j} hi hj U=>?_;have a1:=cJ5 (at_ i (G i hi));have a2:=cJ5 (at_ j (G j hj));rw[<- a1,<- a2];exact U
  ·have:=J.map λi=>ds.getD i []
   rw[hl,cJ6] at this;exact this
theorem cJ7 {l:List (List Str)} (nd:l.Nodup) (h:l.Pairwise λa b=>HT.lexS b a=false):l.Pairwise λa b=>HT.lexS a b=true:=kP (λ⟨h1,h2⟩=>HT.lexS_tot h1 λz=>h2 z.symm) (List.pairwise_and_iff.mpr ⟨h,nd⟩)
theorem sort_tups {a:Addr} {vs:List ae} {ds:List (List Str)} {n:Nat} {P:iP->ai->Prop} (hu:A.units < cb) (ho:s.heap.get? a=some (cG "list" vs.toArray n)) (hp:a8 (TS s.heap) vs ds) (nd:ds.Nodup) (hz:vs.length<=sizeLine)
  (h:∀ (idx:List Nat) (h':bf) (c:Nat),idx.Perm (aH vs.length)->(idx.map λi=>ds.getD i []).Pairwise (λa b=>HT.lexS a b=true)->(idx.map λi=>ds.getD i []).Perm ds->h'.get? a=some (cG "list" (idx.map λi=>vs.getD i bM).toArray c) ->
   (∀ b o,b≠a->s.heap.get? b=some o->h'.get? b=some o)->P (.done (.ret .none)) { s with heap:=h' }) :
  aE (aJ prog w) A (b4.«list.sort» ⟨[.ref a],[]⟩) P E s:=sort_tupsL hu ho hp hz λidx h' c D B j g k=>h idx h' c D (cJ7 (j.nodup_iff.mpr nd) B) j g k
end
end KS
namespace ST
open PySem PySem.SetTable PySem.Spec PyProof.Rows
def restr {prog:aC} {w:aR} {κ:Type} (D:SetKd prog w κ) (W:κ->ae->Prop):SetKd prog w κ where
 is:=λh k v=>D.is h k v/\W k v
 I:=λh a es ep t=>D.I h a es ep t/\∀ e∈es.toList,∃ k,D.is h k e.2/\W k e.2
 inj:=λa b=>D.inj a.1 b.1
 obj:=λx=>D.obj x.1
 fits:=λx=>D.fits x.1
 few:=λx p nd hp=>D.few x.1 (L2.Paired.mapP p λ_ _ q=>q.1) nd hp
 fresh:=λh=>⟨D.fresh h,λe he=>by simp at he⟩
 keepIs:=λx kp=>⟨D.keepIs x.1 kp,x.2⟩
 keepI:=λx e kp=>⟨D.keepI x.1 e kp,λe he=>let ⟨k,h1,h2⟩:=x.2 e he;⟨k,D.keepIs h1 kp,h2⟩⟩
 add:=λ{A E s a es ep t k x Q} hu hI hx hn h=>by
  refine D.add hu hI.1 hx.1 hn λh' tk es' ep' t' added q1 q2 q3 q4 q5=>?_;have kp:=aXf (D.obj hI.1) q2;have up:∀ e∈es.toList,∃ k,D.is h' k e.2/\W k e.2:=λe he=>let ⟨k,h1,h2⟩:=hI.2 e he;⟨k,D.keepIs h1 kp,h2⟩
  rcases q5 with⟨r1,r2,e,he,r3⟩ | ⟨r1,⟨hh,r2⟩,r3⟩
  ·obtain⟨k',z1,z2⟩:=hI.2 e he
   have:=D.inj r3 z1
   subst this;exact h h' tk es' ep' t' added ⟨q1,by rw[r2];exact up⟩ q2 q3 q4 (.inl ⟨r1,r2,e,he,r3,z2⟩)
  ·refine h h' tk es' ep' t' added ⟨q1,λe he=>?_⟩ q2 q3 q4 (.inr ⟨r1,⟨hh,r2⟩,λ⟨e,he,z⟩=>r3 ⟨e,he,z.1⟩⟩);rcases aB.mp (r2.mem_iff.mp he) with z | z
   ·subst z;exact⟨k,D.keepIs hx.1 kp,hx.2⟩
   ·exact up e z
end ST
namespace L2
open PySem PySem.Spec PyProof.Rows
def stO (p:Addr) (es:Array (Int × ae)) (ep:Nat) (t:aX):HO:=.ext λh=>h.get? p=some (ST.setOb es ep t)
abbrev PV (K:Fg) (H:Hp):ae->V × List Str->Prop:=λv p=>RelV p.1 v/\dT K dS H p.1 p.2
def dSt (w:aR) (K:Fg):Dn (List (List Str)):=λH v ms=>∃ p es ep t ps,v=.ref p/\H p=some (stO p es ep t)/\t.fits es.size=true/\t.led=ST.ledOf w/\(t.plain=true->es.size<=1)/\a8 (PV K H) (es.toList.map (·.2)) ps/\ms=ps.map (·.2)
theorem Inv.drawn {X:Cx} {pins:List (Addr × Obj)} {σ:St} {H:Hp} {s:ai} (I:Inv X pins σ H s) (d:_):Inv X pins σ H { s with drawn:=d } :=
 ⟨I.ok,I.os,I.bare,I.base,I.loc,I.cell,I.free,I.freeC,I.pin,I.hok,I.len⟩
section
variable {X:Cx}
theorem eQh {K:Fg} {H:Hp} {h:bf} {P:aC} {w:aR}:∀ {es:List (Int × ae)} {ms:List (List Str)},a8 (λ(e:Int × ae) k=>ST.TK P w h k e.2/\∃ x,RelV x e.2/\dT K dS H x k) es ms->∃ ps,a8 (PV K H) (es.map (·.2)) ps/\ms=ps.map (·.2)
 | _,_,.nil=>⟨[],.nil,rfl⟩
 | _,_,.cons ⟨_,x,r,d⟩ q=>by
  obtain⟨ps,h1,h2⟩:=eQh q;exact⟨(x,_)::ps,.cons ⟨r,d⟩ h1,by rw[h2];rfl⟩
theorem cJ8 {P:aC} {w:aR} {pins:List (Addr × Obj)} {σ:St} {H:Hp} {s:ai} (I:Inv X pins σ H s):∀ {xs:List V} {us:List ae} {ds:List (List Str)},a8 (dT X.K dS H) xs ds->Vals xs us->a8 (λv k=>ST.TK P w s.heap k v/\∃ x,RelV x v/\dT X.K dS H x k) us ds
 | _,_,_,.nil,.nil=>.nil
 | _,_,_,.cons p q,.cons r t=>by
  refine .cons ⟨?_,_,r,p⟩ (cJ8 I q t);obtain⟨b,ys,rfl,G,pp⟩:=p;cases r;obtain⟨D,B,j,_⟩:=I.tuple G;exact eJw (K:=X.K) pp B j
def fQe (w:aR) (K:Fg):List V->Hp->VK->Prop:=λxs H Q=>∃ x ds,xs=[x]/\dL K (dT K dS) H x ds/\ds.length + 1<=300/\∀ p ms H',Same H H'->ms.Nodup->(∀ k,k∈ms↔k∈ds)->dSt w K H' (.ref p) ms->Q (.ref p) H'
theorem cZp {K:Fg} {w:aR} (hu:X.A.units + 8 < cb) (hK:X.K=K:=by rfl) (hw:X.w=w:=by rfl) (hc:X.calm=true:=by rfl):CallR X (.type "set") (fQe w K):=by
 subst hK hw;intro pins s σ H xs us Q I r h;obtain⟨x,ds,rfl,⟨a,ys,rfl,U,p⟩,Y,q⟩:=h;obtain⟨u,rfl,rx⟩:=aZo r;cases rx;obtain⟨R,J,pl,_⟩:=I.list U;refine ST.call_setK (ST.restr (ST.tupKd X.prog X.w) λk v=>∃ x,RelV x v/\dT X.K dS H x k) (I.ok.hd hc) hu pl.isList (cJ8 I p J) (by rw[ar,<- J.length,p.length];exact Y) λh' O ms M _ Z=>?_
 obtain⟨es,ep,t,B,j,L⟩:=M.ex;obtain⟨ps,h1,h2⟩:=eQh L;have D:H s.heap.objs.size=none:=I.hok.fresh (Nat.le_refl _);have G:Same H (upd H s.heap.objs.size (stO s.heap.objs.size es ep t)):=aQo D;refine⟨.ref s.heap.objs.size,_,I.laid (t':=O) (o:=stO s.heap.objs.size es ep t) (λb o e=>Z b o (ay e) e) (Nat.le_refl _) ?_,rfl,q _ _ _ G M.nd M.mem ⟨_,es,ep,t,ps,rfl,aQa,(ST.tupKd X.prog X.w).fits B.1,j,λz=>?_,L2.Paired.imp (λ_ _ z=>⟨z.1,Mo.mo G z.2⟩) h1,h2⟩⟩
 ·refine⟨(ST.tupKd X.prog X.w).obj B.1,⟨_,(ST.tupKd X.prog X.w).obj B.1⟩,λg1 g2 g k=>k _ g⟩
 ·exact(ST.restr (ST.tupKd X.prog X.w) λk v=>∃ x,RelV x v/\dT X.K dS H x k).few B L M.nd z
end
section
variable {X:Cx}
theorem fQf {K:Fg} {pins:List (Addr × Obj)} {σ:St} {H:Hp} {s:ai} (I:Inv X pins σ H s) (hK:X.K=K) {h':bf} (k:∀ b o,s.heap.get? b=some o->h'.get? b=some o):∀ {vs:List ae} {ps:List (V × List Str)},a8 (PV K H) vs ps->a8 (KS.TS h') vs (ps.map (·.2))
 | _,_,.nil=>.nil
 | _,_,.cons ⟨r,d⟩ q=>by
  refine .cons ?_ (fQf I hK k q);obtain⟨b,xs,e,B,pp⟩:=d;rw[e] at r;cases r;rw[<- hK] at B;obtain⟨j,D,⟨o,G,z⟩,_⟩:=I.tuple B;exact⟨b,j.toArray,rfl,⟨o,k b o G,z⟩,aXg pp D⟩
theorem cQf:∀ (ps:List (V × List Str)) (i:Nat),(ps.map (·.2)).getD i []=(ps.getD i (V.non,[])).2
 | [],i=>by simp
 | p::ps,0=>by simp
 | p::ps,i + 1=>by simpa using cQf ps i
theorem bZb {K:Fg} {H:Hp}:∀ {vs:List ae} {zs:List (V × List Str)},a8 (PV K H) vs zs->Vals (zs.map (·.1)) vs/\a8 (dT K dS H) (zs.map (·.1)) (zs.map (·.2))
 | _,_,.nil=>⟨.nil,.nil⟩
 | _,_,.cons ⟨r,d⟩ q=>⟨.cons r (bZb q).1,.cons d (bZb q).2⟩
theorem bJa {H:Hp}:∀ {xs:List V} {us:List ae} {ds:List Str},a8 (dS H) xs ds->Vals xs us->kb us ds
 | _,_,_,.nil,.nil=>.nil
 | _,_,_,.cons p q,.cons r t=>by
  cases p;obtain⟨k,rfl⟩:=r;exact .cons _ k (bJa q t)
theorem bZc {H:Hp}:∀ {us:List ae} {ds:List Str},kb us ds->Vals (ds.map V.str) us/\a8 (dS H) (ds.map V.str) ds
 | _,_,.nil=>⟨.nil,.nil⟩
 | _,_,.cons y t r=>⟨.cons ⟨t,rfl⟩ (bZc (H:=H) r).1,.cons rfl (bZc r).2⟩
theorem dXk:∀ {l:List Str},sortedS l=true->l.Nodup->l.Pairwise λa b=>HT.ltS a b=true
 | [],_,_=>.nil
 | [x],_,_=>cq _ _
 | x::y::l,h,nd=>by
  have h':(!ltCps y.cps.toList x.cps.toList && risingS y l)=true:=h;rw[aQ] at h';have D:=dXk (l:=y::l) h'.2 (bN.mp nd).2;have j:HT.ltS x y=true:=by
   have e:HT.ltS y x=false:=by
    have:=h'.1
    rw[dO] at this;rw[ltCps_eq] at this;exact this
   exact HT.ltS_tot e λz=>(bN.mp nd).1 (z ▸ am)
  refine bb.mpr ⟨λz B=>?_,D⟩;rcases aB.mp B with rfl | B
  ·exact j
  ·exact HT.ltS_tr j ((bb.mp D).1 z B)
end
end L2
set_option maxHeartbeats 4000000
namespace L2
open PySem PySem.Spec PyProof.Rows
def Itel (K:Fg) (a:Addr):It:=⟨λi H=>∃ xs x,SqL K H a xs/\xs[i]?=some x,λi H x H'=>∃ p y,H p=none/\x=.ref p/\H'=upd H p (.tup [.int i,y])/\∀ xs,SqL K H a xs->xs[i]?=some y,λi H=>∃ xs,SqL K H a xs/\xs.length<=i⟩
theorem dZb {P:aC} {w:aR} {K:Fg} {elts:List Expr} {x1:Nat} {pos:Pos} (a it e:Addr) (hei:e≠it) (hae:a≠e) (hai:a≠it):Turn P w K (.Tuple elts x1 pos) (Itel K a) [e,it] e (λi h=>(∃ old,IsEnum h e it i old)/\h.IsListIter it a i) where
 mem:=by simp
 obj:=λi h st b B=>by
  obtain⟨⟨old,he⟩,o,O,hc,hd⟩:=st;rcases aB.mp B with rfl | B
  ·exact⟨_,he,λv z=>by cases z⟩
  ·have:=aI.mp B
   subst this;exact⟨o,O,λv z=>by rw[hd] at z;cases z⟩
 keep:=λi h h' st k=>by
  obtain⟨⟨old,he⟩,o,O,r⟩:=st;exact⟨⟨old,k e (by simp) _ he⟩,o,k it (by simp) _ O,r⟩
 item:=by
  intro X hP hw hK hc i pins s σ H E I hf st hg;subst hP hw hK;obtain⟨xs,x,hq,hx⟩:=hg;obtain⟨its,rv,p,hz⟩:=I.list hq;obtain⟨u,hu,ru⟩:=rv.get hx;obtain⟨⟨old,he⟩,G⟩:=st;have hi:i < its.toArray.size:=by
   rcases Nat.lt_or_ge i its.toArray.size with z | z
   ·exact z
   ·rw[ar] at z;rw[ci z] at hu;cases hu
  have hh:X.A.in1.handled=none:=by have:=I.ok.hd hc;simp[this]
  have hT:s.heap.IsList a its.toArray:=p.isList;refine wpAny_pyNext_enum_itemD (Draws.list hh it a hai its.toArray) he ⟨G,hT⟩ hi hei (by simp;exact⟨hei,λz=>hae z.symm⟩) λy h' U hy O hs' hT' hsz hk=>⟨_,rfl,?_⟩
  have hy':y=u:=by
   have:its[i]?=some y:=by simpa using hy
   rw[hu] at this;exact(aM this).symm
  subst hy';refine wpAny_letOwnedTupleGo_enum O λh2 he2 L=>?_;have fe:=hf e (by simp)
  have fi:=hf it (by simp)
  have Y:∀ b o,b≠e->b≠it->s.heap.get? b=some o->h2.get? b=some o:=λb o n1 n2 g=>(L.2 b n1).trans (hk b o n1 n2 g);have Z:e < s.heap.objs.size:=ay he;have j:H s.heap.objs.size=none:=I.hok.fresh (Nat.le_refl _);have nT:∀ b o,s.heap.get? b=some o->b≠s.heap.objs.size:=λb o g=>Nat.ne_of_lt (ay g);have nH:∀ b u,H b=some u->b≠e/\b≠it:=λb u g=>⟨λz=>(by rw[z,fe.1] at g;cases g),λz=>(by rw[z,fi.1] at g;cases g)⟩
  have J:h2.get? s.heap.objs.size=some { cls:=.type "tuple",data:=.seq #[.int i U,y] }:=(L.2 _ (Nat.ne_of_gt Z)).trans hT';have hok:HOk X.prog X.w (upd H s.heap.objs.size (.tup [.int i,x])) h2:=λb ob g=>by
   by_cases B:b=s.heap.objs.size
   ·subst B;rw[aQa] at g;cases g;refine⟨by rw[bh];show 2<=_;decide,[.int i U,y],.cons ⟨U,rfl⟩ (.cons ru .nil),⟨_,J,rfl,0,rfl⟩,λo e=>by rw[J] at e;cases e;rfl⟩
   ·rw[upd_ne B] at g;refine(I.hok b ob g).stay (λc w' D q=>?_) (λc q=>?_) λc ys q=>?_
    ·rcases D with rfl | D
     ·exact Y _ _ (nH _ _ g).1 (nH _ _ g).2 q
     ·exact Y _ _ (nH _ _ D).1 (nH _ _ D).2 q
    ·rw[upd_ne (aQ6 q j)];exact q
    ·rw[upd_ne (aQ6 q j)];exact q
  have un:Un (frs X.stack) [e,it] H (upd H s.heap.objs.size (.tup [.int i,x])) s.heap h2:=by
   have R:∀ {b:Addr},b∉[e,it]->b≠e/\b≠it:=λB=>⟨λz=>B (by simp[z]),λz=>B (by simp[z])⟩
   exact⟨λb o g _ _ B=>Y b o (R B).1 (R B).2 g,λb o g _ _ B=>⟨o.slots,Y b o (R B).1 (R B).2 g⟩,λb o g n _=>by rw[upd_ne (nT b o g)];exact n,λb o g B=>⟨o,Y b o (R B).1 (R B).2 g⟩,
    λb ys g=>by rw[upd_ne (aQ6 g j)];exact g,λb o v g=>by rw[upd_ne (aQ6 g j)];exact g,λb ps g=>⟨#[],by rw[upd_ne (aQ6 g j),g];simp⟩⟩
  have I2:Inv X pins σ (upd H s.heap.objs.size (.tup [.int i,x])) { s with heap:=h2,toks:=U + 1 }:=I.call' (s':={ s with heap:=h2,toks:=U + 1 }) rfl un hok I.bare λb B=>by
   rcases aB.mp B with rfl | B
   ·exact⟨fe.2.2.2.1,fe.2.1,fe.2.2.2.2.1,fe.2.2.2.2.2⟩
   ·have:=aI.mp B
    subst this;exact⟨fi.2.2.2.1,fi.2.1,fi.2.2.2.2.1,fi.2.2.2.2.2⟩
  refine⟨.ref s.heap.objs.size,_,I2,rfl,⟨_,x,j,rfl,rfl,λys hy=>by rw[I.list_inj hy hq];exact hx⟩,⟨⟨_,by simpa using he2⟩,?_⟩,λb B=>?_⟩
  ·obtain⟨o,g,r⟩:=hs'.1;exact⟨o,(L.2 it (b8 hei)).trans g,r⟩
  ·have hb':b < s.heap.objs.size:=by
    rcases aB.mp B with rfl | B
    ·exact Z
    ·have:=aI.mp B
     subst this;obtain⟨o,g,_⟩:=G;exact ay g
   rw[upd_ne (Nat.ne_of_lt hb')];exact(hf b B).1
 done:=by
  intro X hP hw hK hc i pins s σ H E I hf st hg;subst hP hw hK;obtain⟨xs,hq,hx⟩:=hg;obtain⟨its,rv,p,hz⟩:=I.list hq;obtain⟨⟨old,he⟩,G⟩:=st;have hl:=rv.length;have hh:X.A.in1.handled=none:=by have:=I.ok.hd hc;simp[this]
  have hT:s.heap.IsList a its.toArray:=p.isList;obtain⟨f0,f1,f2,f3,f4,f5⟩:=hf it (by simp)
  have hT2:s.TypeIs (.ref e) "enumerate":=⟨_,he,rfl⟩;unfold fh;refine aa (fc (bK (name:=aG "__next__") hT2 F.slot_enumerate_next (bI F.slot_enumerate_next hT2 F.entry_enumerate_next ?_ (F.args_enumerate_next_1 _))));refine aa (m:=field (.ref e) 2) (cj he rfl (x:=.ref it) rfl (aa (wpAny_nextOf_list_end hh G hT (by simp;lia) λh' x he' hx'=>?_)))
  obtain⟨o,O,D⟩:=hx';refine aa (fk (T := "StopIteration") (b:=true) ⟨o,O,D⟩ i7 ?_);exact ad ⟨rfl,I.turned (t':=s.toks) (λb o B g=>he' b o B g) f0 f1 f3 f4 f5⟩
 self:=λA i s Q E st h=>by
  obtain⟨⟨old,he⟩,_⟩:=st;exact gR he h
section
variable {X:Cx}
def iEnL (K:Fg) (ta:TA):TI:=fun σ H R=>ta σ H λvs H1=>∃ a,vs=[.ref a]/\(∃ xs,SqL K H1 a xs)/\R (Itel K a) H1
theorem fQg {e:Expr} {ta:TA} {p pos:Pos} {elts:List Expr} {x1:Nat} {tpos:Pos} (hg:Gl X "enumerate") (hm:X.mg "enumerate" = none) (ha:PA X [e] ta) (hs:av [e] X.env=[(false,eval e X.env)]:=by rfl) :
  PI X (.Tuple elts x1 tpos) (.Call (.Name "enumerate" p) [e] [] pos) (iEnL X.K ta):=by
 intro pins s σ H R I h;refine Call_ (ld_blt I hg hm iJ (cT (thn (ha pos pins s σ H _ I h) λus s1 ⟨vs,H1,j,G,J⟩=>?_) hs rfl));obtain⟨a,rfl,⟨xs,O⟩,q⟩:=J;obtain⟨u,rfl,rx⟩:=aZo G;cases rx;obtain⟨L,Y,pl,Z⟩:=j.list O;have B:a < s1.heap.objs.size:=by obtain⟨o,e,_⟩:=id pl.isList;exact ay e
 refine call_enumerate_list pl.isList λh' he hi _ U=>gR he ?_;refine⟨s1.heap.objs.size + 1,[s1.heap.objs.size + 1,s1.heap.objs.size],_,_,H1,rfl,j.kept (t':=s1.toks) U,dZb a s1.heap.objs.size (s1.heap.objs.size + 1) (Nat.succ_ne_self _) (Nat.ne_of_lt (Nat.lt_succ_of_lt B)) (Nat.ne_of_lt B),⟨⟨_,he⟩,hi⟩,λb D=>?_,q⟩;rcases aB.mp D with rfl | D
 ·exact j.fpOk (Nat.le_succ _) (j.hok.fresh (Nat.le_succ _))
 ·have:=aI.mp D
  subst this;exact j.fpOk (Nat.le_refl _) (j.hok.fresh (Nat.le_refl _))
theorem eQi {K:Fg} {e:Expr} {ta:TA} {p pos:Pos} {elts:List Expr} {x1:Nat} {tpos:Pos} (hg:Gl X "enumerate") (hm:X.mg "enumerate" = none) (ha:PA X [e] ta) (hs:av [e] X.env=[(false,eval e X.env)]:=by rfl) (hK:X.K=K:=by rfl) :
  PI X (.Tuple elts x1 tpos) (.Call (.Name "enumerate" p) [e] [] pos) (iEnL K ta):=by subst hK;exact fQg hg hm ha hs
end
def cutS (z:Str) (lo hi:Option Int):Str:=if ((ca lo hi 1 z.length).length == z.length)=true then z else ⟨((ca lo hi 1 z.length).filterMap (z.cps[·]?)).toArray⟩
def rSlS:V->Option Int->Option Int->Hp->VK->Prop:=λx lo hi H Q=>∃ z,x=.str z/\z.length<=1000000/\Q (.str (cutS z lo hi)) H
theorem sl_str {X:Cx}:SlR X rSlS:=by
 intro pins s σ H x v Z Y lo hi sl Q I J O pl pu h;obtain⟨z,rfl,hz,q⟩:=h;obtain⟨t,rfl⟩:=J;refine⟨"str",_,PySem.F.slot_str_getitem.lookup,typeIs_str _ _ _,?_⟩;have go:∀ (l u:Option (Int × Tok)),l.map (·.1)=lo->u.map (·.1)=hi->s.heap.IsSlice sl l u none->aE (aJ X.prog X.w) X.A (j0 (.str z t) (.ref sl)) (EP X pins σ Q) X.xe s:=λl u R L U=>by
  refine wpAny_getItem_str_slice U rfl ?_;unfold sliceMade slicePicked;simp only[Option.map_none,jH,beq_self_eq_true,fG,R,L];unfold cutS at q
  by_cases c:((ca lo hi 1 z.length).length == z.length)=true
  ·rw[if_pos c] at q ⊢;exact⟨.str z,H,I,⟨t,rfl⟩,q⟩
  ·rw[if_neg c] at q ⊢;refine⟨?_,.str _,H,I.tok _,⟨_,rfl⟩,q⟩;have h1:=PyProof.Rows.indices_len_le lo hi z.length;have h2:((ca lo hi 1 z.length).filterMap (z.cps[·]?)).length<=(ca lo hi 1 z.length).length:=List.length_filterMap_le _ _;show((ca lo hi 1 z.length).filterMap (z.cps[·]?)).toArray.size<=_;rw[ar,bh];lia
 obtain⟨o,B,D,hd⟩:=O;cases pl with
 | none =>
  cases pu with
  | none=>exact go none none rfl rfl ⟨o,B,D,hd⟩
  | int j G=>exact go none (some (j,G)) rfl rfl ⟨o,B,D,hd⟩
 | int i ti =>
  cases pu with
  | none=>exact go (some (i,ti)) none rfl rfl ⟨o,B,D,hd⟩
  | int j G=>exact go (some (i,ti)) (some (j,G)) rfl rfl ⟨o,B,D,hd⟩
end L2
set_option maxHeartbeats 1000000
namespace L2
open PySem PySem.Spec PyProof.Rows
inductive D where
 | non | bl (b:Bool) | int (i:Int) | str (x:Str) | ty (n:String) | ref (a:Addr) | tup (xs:List D) | lst (xs:List D)
abbrev Am:=Addr->Prop
structure Keep (M:Am) (H:Hp) (M':Am) (H':Hp):Prop where
 st:∀ a o,¬ M a->H a=some o->H' a=some o
 nm:∀ a,¬ M a->H a≠none->¬ M' a
def Xo:HO->Prop
 | .ext _=>True
 | .ins _ _ _=>True
 | _=>False
inductive DO where
 | lst (xs:List D) | dk (kvs:List (Key × D)) | dt (kvs:List (List Key × D))
 | tb (pos:Pos) (qual:Str)
 | ex (f:Am->Hp->Addr->Prop) (hk:∀ M M' H H' a,Keep M H M' H'->H' a=H a->f M H a->f M' H' a) (hl:∀ M H a,f M H a->∃ g,H a=some g/\Xo g)
abbrev Sto:=Addr->Option DO
abbrev Gm:=List (Option D)
def supd (S:Sto) (a:Addr) (o:DO):Sto:=λb=>if b=a then some o else S b
theorem aQ3 {S:Sto} {a:Addr} {o:DO}:supd S a o a=some o:=by unfold supd;rw[if_pos rfl]
theorem supd_ne {S:Sto} {a b:Addr} {o:DO} (h:b≠a):supd S a o b=S b:=by unfold supd;rw[if_neg h]
def TupAt (K:Fg) (M:Am) (H:Hp) (a:Addr) (xs:List V):Prop:=(¬ M a/\Rd H a (.tup xs))\/SqT K (λ_=>none) a xs
theorem TupAt.sq {K:Fg} {M:Am} {H:Hp} {a:Addr} {xs:List V} (h:TupAt K M H a xs):SqT K H a xs:=by
 rcases h with h | (h | ⟨o,h⟩) | h
 ·exact .inl h.2
 ·cases h
 ·cases h
 ·exact .inr h
def LstAt (K:Fg) (M:Am) (H:Hp) (a:Addr) (xs:List V):Prop:=(¬ M a/\Rd H a (.lst xs))\/SqL K (λ_=>none) a xs
theorem LstAt.sq {K:Fg} {M:Am} {H:Hp} {a:Addr} {xs:List V} (h:LstAt K M H a xs):SqL K H a xs:=by
 rcases h with h | (h | ⟨o,h⟩) | h
 ·exact .inl h.2
 ·cases h
 ·cases h
 ·exact .inr h
mutual
def RepV (K:Fg) (M:Am) (H:Hp):D->V->Prop
 | .non,v=>v=.non
 | .bl b,v=>v=.bl b
 | .int i,v=>v=.int i
 | .str x,v=>v=.str x
 | .ty n,v=>v=.ty n
 | .ref a,v=>v=.ref a
 | .tup ds,v=>∃ a xs,v=.ref a/\TupAt K M H a xs/\RepL K M H ds xs
 | .lst ds,v=>∃ a xs,v=.ref a/\LstAt K M H a xs/\RepL K M H ds xs
def RepL (K:Fg) (M:Am) (H:Hp):List D->List V->Prop
 | [],xs=>xs=[]
 | d::ds,xs=>∃ v vs,xs=v::vs/\RepV K M H d v/\RepL K M H ds vs
end
theorem Rd.live {H:Hp} {a:Addr} {u:HO} (r:Rd H a u):H a≠none:=by
 rcases r with r | ⟨o,r⟩ <;> rw[r] <;> exact λz=>by cases z
theorem Keep.rd {M M':Am} {H H':Hp} (k:Keep M H M' H') {a:Addr} {u:HO} (hm:¬ M a) (r:Rd H a u):Rd H' a u:=by
 rcases r with r | ⟨o,r⟩
 ·exact .inl (k.st a _ hm r)
 ·exact .inr ⟨o,k.st a _ hm r⟩
theorem TupAt.keep {K:Fg} {M M':Am} {H H':Hp} {p:Addr} {us:List V} (t:TupAt K M H p us) (x:Keep M H M' H'):TupAt K M' H' p us:=by
 rcases t with⟨hm,r⟩ | t
 ·exact .inl ⟨x.nm p hm r.live,x.rd hm r⟩
 ·exact .inr t
theorem LstAt.keep {K:Fg} {M M':Am} {H H':Hp} {p:Addr} {us:List V} (t:LstAt K M H p us) (x:Keep M H M' H'):LstAt K M' H' p us:=by
 rcases t with⟨hm,r⟩ | t
 ·exact .inl ⟨x.nm p hm r.live,x.rd hm r⟩
 ·exact .inr t
mutual
theorem RepV.keep {K:Fg} {M M':Am} {H H':Hp} (k:Keep M H M' H'):∀ {d:D} {v:V},RepV K M H d v->RepV K M' H' d v
 | .non,_,h=>h
 | .bl _,_,h=>h
 | .int _,_,h=>h
 | .str _,_,h=>h
 | .ty _,_,h=>h
 | .ref _,_,h=>h
 | .tup ds,v,h=>by
  unfold RepV at h ⊢;obtain⟨a,xs,e,t,l⟩:=h;exact⟨a,xs,e,t.keep k,RepL.keep k l⟩
 | .lst ds,v,h=>by
  unfold RepV at h ⊢;obtain⟨a,xs,e,t,l⟩:=h;exact⟨a,xs,e,t.keep k,RepL.keep k l⟩
theorem RepL.keep {K:Fg} {M M':Am} {H H':Hp} (k:Keep M H M' H'):∀ {ds:List D} {xs:List V},RepL K M H ds xs->RepL K M' H' ds xs
 | [],_,h=>h
 | d::ds,xs,h=>by
  unfold RepL at h ⊢;obtain⟨v,vs,e,r,l⟩:=h;exact⟨v,vs,e,RepV.keep k r,RepL.keep k l⟩
end
section
variable {K:Fg} {M:Am} {H:Hp}
theorem RepL.length:∀ {ds:List D} {xs:List V},RepL K M H ds xs->xs.length=ds.length
 | [],_,h=>by unfold RepL at h;rw[h];rfl
 | d::ds,xs,h=>by
  unfold RepL at h;obtain⟨v,vs,rfl,_,l⟩:=h;simp[RepL.length l]
theorem RepL.nil:RepL K M H [] []:=by unfold RepL;rfl
theorem RepL.cons {d:D} {ds:List D} {v:V} {vs:List V} (r:RepV K M H d v) (l:RepL K M H ds vs):RepL K M H (d::ds) (v::vs):=by unfold RepL;exact⟨v,vs,rfl,r,l⟩
theorem RepL.app:∀ {ds es:List D} {xs ys:List V},RepL K M H ds xs->RepL K M H es ys->RepL K M H (ds++es) (xs++ys)
 | [],es,xs,ys,h,h'=>by unfold RepL at h;rw[h];exact h'
 | d::ds,es,xs,ys,h,h'=>by
  unfold RepL at h;obtain⟨v,vs,rfl,r,l⟩:=h;exact RepL.cons r (RepL.app l h')
theorem RepL.get:∀ {ds:List D} {xs:List V} {i:Nat} {d:D},RepL K M H ds xs->ds[i]?=some d->∃ v,xs[i]?=some v/\RepV K M H d v
 | [],_,_,_,_,e=>by simp at e
 | d::ds,xs,0,e,h,he=>by
  unfold RepL at h;obtain⟨v,vs,rfl,r,l⟩:=h;simp at he;subst he;exact⟨v,rfl,r⟩
 | d::ds,xs,i + 1,e,h,he=>by
  unfold RepL at h;obtain⟨v,vs,rfl,r,l⟩:=h;obtain⟨w,h1,h2⟩:=RepL.get (i:=i) l (by simpa using he)
  exact⟨w,by simpa using h1,h2⟩
theorem RepL.get' {ds:List D} {xs:List V} {i:Nat} {v:V} (h:RepL K M H ds xs) (e:xs[i]?=some v):∃ d,ds[i]?=some d/\RepV K M H d v:=by
 have B:=h.length;have hi:i < xs.length:=by
  rcases Nat.lt_or_ge i xs.length with z | z
  ·exact z
  ·rw[ci z] at e;cases e
 have j:ds[i]?=some ds[i]:=ah (by omega)
 obtain⟨w,h1,h2⟩:=h.get j;rw[e] at h1;cases h1;exact⟨_,j,h2⟩
theorem RepL.take:∀ {ds:List D} {xs:List V} (n:Nat),RepL K M H ds xs->RepL K M H (ds.take n) (xs.take n)
 | _,_,0,_=>by simpa using RepL.nil
 | [],_,n + 1,h=>by unfold RepL at h;subst h;simpa using RepL.nil
 | d::ds,xs,n + 1,h=>by
  unfold RepL at h;obtain⟨v,vs,rfl,r,l⟩:=h;simpa using RepL.cons r (RepL.take n l)
theorem RepL.drop:∀ {ds:List D} {xs:List V} (n:Nat),RepL K M H ds xs->RepL K M H (ds.drop n) (xs.drop n)
 | _,_,0,h=>by simpa using h
 | [],_,n + 1,h=>by unfold RepL at h;subst h;simpa using RepL.nil
 | d::ds,xs,n + 1,h=>by
  unfold RepL at h;obtain⟨v,vs,rfl,r,l⟩:=h;simpa using RepL.drop n l
theorem RepL.set {d:D} {v:V} (r:RepV K M H d v):∀ {ds:List D} {xs:List V} (i:Nat),RepL K M H ds xs->RepL K M H (ds.set i d) (xs.set i v)
 | [],_,i,h=>by unfold RepL at h;subst h;simpa using RepL.nil
 | e::ds,xs,0,h=>by
  unfold RepL at h;obtain⟨w,vs,rfl,_,l⟩:=h;simpa using RepL.cons r l
 | e::ds,xs,i + 1,h=>by
  unfold RepL at h;obtain⟨w,vs,rfl,q,l⟩:=h;simpa using RepL.cons q (RepL.set r i l)
theorem RepL.erase:∀ {ds:List D} {xs:List V} (i:Nat),RepL K M H ds xs->RepL K M H (ds.eraseIdx i) (xs.eraseIdx i)
 | [],_,i,h=>by unfold RepL at h;subst h;simpa using RepL.nil
 | e::ds,xs,0,h=>by
  unfold RepL at h;obtain⟨w,vs,rfl,_,l⟩:=h;simpa using l
 | e::ds,xs,i + 1,h=>by
  unfold RepL at h;obtain⟨w,vs,rfl,q,l⟩:=h;simpa using RepL.cons q (RepL.erase i l)
theorem RepL.one {d:D} {xs:List V} (h:RepL K M H [d] xs):∃ v,xs=[v]/\RepV K M H d v:=by
 unfold RepL at h;obtain⟨v,vs,rfl,r,l⟩:=h;unfold RepL at l;subst l;exact⟨v,rfl,r⟩
theorem RepL.two {d e:D} {xs:List V} (h:RepL K M H [d,e] xs):∃ v w,xs=[v,w]/\RepV K M H d v/\RepV K M H e w:=by
 unfold RepL at h;obtain⟨v,vs,rfl,r,l⟩:=h;obtain⟨w,rfl,j⟩:=l.one;exact⟨v,w,rfl,r,j⟩
end
def mt (S:Sto) (F:Am):Am:=λa=>S a≠none\/F a
abbrev cdO (c:Addr) (oc:Obj):HO:=.ext λh=>h.get? c=some oc
def TbOk (M:Am) (H:Hp) (pos:Pos) (qual:Str) (ps:Array ae):Prop:=TriplesOk ps.toList/\(codeAmong pos ps.toList=none \/
 ∃ c oc,codeAmong pos ps.toList=some (.ref c)/\¬ M c/\H c=some (cdO c oc)/\∃ vs t,oc.data=.fields vs/\vs[1]?=some (.str qual t))
theorem TbOk.keep {M M':Am} {H H':Hp} (k:Keep M H M' H') {pos:Pos} {qual:Str} {ps:Array ae} (h:TbOk M H pos qual ps):TbOk M' H' pos qual ps:=by
 obtain⟨h1,h2⟩:=h;refine⟨h1,h2.imp id λ⟨c,oc,B,m,j,r⟩=>⟨c,oc,B,k.nm c m (by rw[j];exact λz=>by cases z),k.st c _ m j,r⟩⟩
def RepO (K:Fg) (M:Am) (H:Hp) (a:Addr):DO->Prop
 | .lst ds=>∃ xs,H a=some (.lst xs)/\RepL K M H ds xs
 | .dk kvs=>∃ ks,H a=some (.dK ks)/\a8 (λ(p:Key × V) (q:Key × D)=>p.1=q.1/\RepV K M H q.2 p.2) ks kvs
 | .dt kvs=>∃ ks,H a=some (.dT ks)/\a8 (λ(p:List Key × V) (q:List Key × D)=>p.1=q.1/\RepV K M H q.2 p.2) ks kvs
 | .tb pos qual=>∃ ps,H a=some (.tbl ps)/\TbOk M H pos qual ps
 | .ex f _ _=>f M H a
theorem RepO.live {K:Fg} {M:Am} {H:Hp} {a:Addr} {o:DO} (h:RepO K M H a o):H a≠none:=by
 cases o with
 | ex f B j=>obtain⟨g,e,_⟩:=j _ _ _ h;rw[e];exact λz=>by cases z
 | _=>obtain⟨xs,e,_⟩:=h;rw[e];exact λz=>by cases z
theorem RepO.keep {K:Fg} {M M':Am} {H H':Hp} (k:Keep M H M' H') {a:Addr} {o:DO} (e:H' a=H a) (h:RepO K M H a o):RepO K M' H' a o:=by
 cases o with
 | lst ds=>obtain⟨xs,j,l⟩:=h;exact⟨xs,e.trans j,l.keep k⟩
 | dk B=>obtain⟨xs,j,l⟩:=h;exact⟨xs,e.trans j,Paired.imp (λ_ _ z=>⟨z.1,z.2.keep k⟩) l⟩
 | dt B=>obtain⟨xs,j,l⟩:=h;exact⟨xs,e.trans j,Paired.imp (λ_ _ z=>⟨z.1,z.2.keep k⟩) l⟩
 | tb pos qual=>obtain⟨xs,j,l⟩:=h;exact⟨xs,e.trans j,l.keep k⟩
 | ex f D G=>exact D _ _ _ _ _ k e h
def Clt:HO->Prop
 | .lst _=>True
 | .ext _=>True
 | _=>False
structure Rp (K:Fg) (F:Am) (S:Sto) (H:Hp):Prop where
 obj:∀ a o,S a=some o->RepO K (mt S F) H a o
 frm:∀ a,F a->(∃ u,H a=some u/\Clt u)/\S a=none
structure Ext (S:Sto) (H:Hp) (S':Sto) (H':Hp):Prop where
 keep:∀ a o,S a=none->H a=some o->H' a=some o
 live:∀ a,H a≠none->H' a≠none
 new:∀ a,S' a≠none->S a≠none\/H a=none
theorem Ext.refl (S:Sto) (H:Hp):Ext S H S H:=⟨λ_ _ _ h=>h,λ_ h=>h,λ_ h=>.inl h⟩
theorem Ext.sn {S S':Sto} {H H':Hp} (x:Ext S H S' H') {a:Addr} (h:S a=none) (h':H a≠none):S' a=none:=by
 cases e:S' a with
 | none=>rfl
 | some o =>
  rcases x.new a (by rw[e];exact λz=>by cases z) with z | z
  ·exact absurd h z
  ·exact absurd z h'
theorem Ext.trans {S S1 S2:Sto} {H H1 H2:Hp} (x:Ext S H S1 H1) (y:Ext S1 H1 S2 H2):Ext S H S2 H2 :=
 ⟨λa o h h'=>y.keep a o (x.sn h (by rw[h'];exact λz=>by cases z)) (x.keep a o h h'),λa h=>y.live a (x.live a h),λa h=>by
  rcases y.new a h with z | z
  ·exact x.new a z
  ·refine .inr (bj λn=>x.live a n z)⟩
theorem Ext.same {S:Sto} {H H':Hp} (s:Same H H'):Ext S H S H' where
 keep:=λa o _ h=>s a o h
 live:=λa h=>by
  cases e:H a with
  | none=>exact absurd e h
  | some o =>
   rw[s a o e];exact λz=>by cases z
 new:=λ_ h=>.inl h
theorem Ext.kp {F:Am} {S S':Sto} {H H':Hp} (x:Ext S H S' H'):Keep (mt S F) H (mt S' F) H':=⟨λa o h e=>x.keep a o (bj λn=>h (.inl n)) e,λa h e=>λz=>by
 rcases z with z | z
 ·rcases x.new a z with y | y
  ·exact h (.inl y)
  ·exact e y
 ·exact h (.inr z)⟩
section
variable {K:Fg} {F:Am} {S S':Sto} {H H':Hp}
theorem RepV.ext {d:D} {v:V} (h:RepV K (mt S F) H d v) (x:Ext S H S' H'):RepV K (mt S' F) H' d v:=h.keep x.kp
theorem RepL.ext {ds:List D} {vs:List V} (h:RepL K (mt S F) H ds vs) (x:Ext S H S' H'):RepL K (mt S' F) H' ds vs:=h.keep x.kp
theorem Rp.same (r:Rp K F S H) (s:Same H H'):Rp K F S H' where
 obj:=λa o h=>by
  have q:=r.obj a o h;have e:H' a=H a:=by
   cases z:H a with
   | none=>exact absurd z q.live
   | some u=>exact s a u z
  exact q.keep (Ext.same s).kp e
 frm:=λa h=>by
  obtain⟨⟨zs,e,ct⟩,h2⟩:=r.frm a h;exact⟨⟨zs,s a _ e,ct⟩,h2⟩
theorem Ext.write {a:Addr} {o:DO} {u:HO} (h:S a≠none):Ext S H (supd S a o) (upd H a u) where
 keep:=λb B h1 h2=>by
  have ne:b≠a:=by rintro rfl;exact h h1
  rw[upd_ne ne];exact h2
 live:=λb j=>by
  by_cases e:b=a
  ·subst e;rw[aQa];exact λz=>by cases z
  ·rw[upd_ne e];exact j
 new:=λb j=>by
  by_cases e:b=a
  ·subst e;exact .inl h
  ·rw[supd_ne e] at j;exact .inl j
theorem Rp.write {a:Addr} {o:DO} {u:HO} (r:Rp K F S H) (h:S a≠none) (q:RepO K (mt (supd S a o) F) (upd H a u) a o):Rp K F (supd S a o) (upd H a u) where
 obj:=λb j hb=>by
  by_cases e:b=a
  ·subst e;rw[aQ3] at hb;cases hb;exact q
  ·rw[supd_ne e] at hb;exact(r.obj b j hb).keep (Ext.write h).kp (upd_ne e)
 frm:=λb hb=>by
  have e:b≠a:=by rintro rfl;exact h (r.frm b hb).2
  rw[upd_ne e,supd_ne e];exact r.frm b hb
theorem Rp.sn (r:Rp K F S H) {a:Addr} (h:H a=none):S a=none:=by
 cases e:S a with
 | none=>rfl
 | some o=>exact absurd h (r.obj a o e).live
theorem Ext.mk' {a:Addr} {o:DO} {u:HO} (h:H a=none):Ext S H (supd S a o) (upd H a u) where
 keep:=λb B h1 h2=>by
  have ne:b≠a:=by rintro rfl;rw[h] at h2;cases h2
  rw[upd_ne ne];exact h2
 live:=λb j=>by
  have ne:b≠a:=by rintro rfl;exact j h
  rw[upd_ne ne];exact j
 new:=λb j=>by
  by_cases e:b=a
  ·subst e;exact .inr h
  ·rw[supd_ne e] at j;exact .inl j
theorem Rp.mk' {a:Addr} {o:DO} {u:HO} (r:Rp K F S H) (h:H a=none) (q:RepO K (mt (supd S a o) F) (upd H a u) a o):Rp K F (supd S a o) (upd H a u) where
 obj:=λb j hb=>by
  by_cases e:b=a
  ·subst e;rw[aQ3] at hb;cases hb;exact q
  ·rw[supd_ne e] at hb;exact(r.obj b j hb).keep (Ext.mk' h).kp (upd_ne e)
 frm:=λb hb=>by
  have e:b≠a:=by
   rintro rfl;obtain⟨⟨zs,e,_⟩,_⟩:=r.frm b hb;rw[h] at e;cases e
  rw[upd_ne e,supd_ne e];exact r.frm b hb
theorem Ext.less {S':Sto} (h:∀ a o,S' a=some o->S a=some o):Ext S H S' H:=⟨λ_ _ _ e=>e,λ_ e=>e,λa e=>.inl λz=>by
 cases q:S' a with
 | none=>exact e q
 | some o=>rw[h a o q] at z;cases z⟩
theorem Rp.less {S':Sto} (r:Rp K F S H) (h:∀ a o,S' a=some o->S a=some o):Rp K F S' H where
 obj:=λa o e=>(r.obj a o (h a o e)).keep (Ext.less h).kp rfl
 frm:=λa e=>⟨(r.frm a e).1,by
  cases q:S' a with
  | none=>rfl
  | some o=>have:=h a o q;rw[(r.frm a e).2] at this;cases this⟩
end
def look (g:Gm) (i:Nat) (k:D->Prop):Prop:=match i with
 | 0=>match g with
  | some d::_=>k d
  | _=>False
 | n + 1=>match g with
  | _::g=>look g n k
  | []=>False
def RepG (K:Fg) (M:Am) (H:Hp):Gm->St->Prop
 | [],σ=>σ=[]
 | none::g,σ=>∃ v τ,σ=v::τ/\RepG K M H g τ
 | some d::g,σ=>∃ v τ,σ=some v::τ/\RepV K M H d v/\RepG K M H g τ
theorem RepG.keep {K:Fg} {M M':Am} {H H':Hp} (k:Keep M H M' H'):∀ {g:Gm} {σ:St},RepG K M H g σ->RepG K M' H' g σ
 | [],_,h=>h
 | none::g,_,⟨v,τ,e,r⟩=>⟨v,τ,e,RepG.keep k r⟩
 | some d::g,_,⟨v,τ,e,q,r⟩=>⟨v,τ,e,q.keep k,RepG.keep k r⟩
theorem RepG.ext {K:Fg} {F:Am} {S S':Sto} {H H':Hp} {g:Gm} {σ:St} (h:RepG K (mt S F) H g σ) (x:Ext S H S' H'):RepG K (mt S' F) H' g σ:=h.keep x.kp
theorem RepG.look {K:Fg} {M:Am} {H:Hp} {k:D->Prop}:∀ {g:Gm} {σ:St} {i:Nat},RepG K M H g σ->look g i k->∃ v d,σ[i]?=some (some v)/\RepV K M H d v/\k d
 | [],_,0,_,h=>eF h
 | [],_,_ + 1,_,h=>eF h
 | none::_,_,0,_,h=>eF h
 | some d::g,_,0,⟨v,τ,e,q,r⟩,h=>⟨v,d,by rw[e];rfl,q,h⟩
 | some d::g,_,i + 1,⟨v,τ,e,q,r⟩,h=>by
  obtain⟨u,B,j,h1⟩:=RepG.look (i:=i) r h;exact⟨u,B,by rw[e];simpa using j,h1⟩
 | none::g,_,i + 1,⟨v,τ,e,r⟩,h=>by
  obtain⟨u,B,j,h1⟩:=RepG.look (i:=i) r h;exact⟨u,B,by rw[e];simpa using j,h1⟩
theorem RepG.set {K:Fg} {M:Am} {H:Hp} {d:D} {v:V} (q:RepV K M H d v):∀ {g:Gm} {σ:St} (i:Nat),RepG K M H g σ->RepG K M H (g.set i (some d)) (σ.set i (some v))
 | [],_,_,h=>by cases h;rfl
 | none::g,_,0,⟨w,τ,e,r⟩=>by subst e;exact⟨v,τ,rfl,q,r⟩
 | some _::g,_,0,⟨w,τ,e,_,r⟩=>by subst e;exact⟨v,τ,rfl,q,r⟩
 | none::g,_,i + 1,⟨w,τ,e,r⟩=>by subst e;exact⟨w,_,rfl,RepG.set q i r⟩
 | some _::g,_,i + 1,⟨w,τ,e,z,r⟩=>by subst e;exact⟨w,_,rfl,z,RepG.set q i r⟩
abbrev DK:=D->Sto->Prop
abbrev ED:=Gm->Sto->DK->Prop
abbrev TD:=Gm->Sto->(Bool->Sto->Prop)->Prop
abbrev AD:=Gm->Sto->(List D->Sto->Prop)->Prop
structure EndsD where
 nx:Gm->Sto->Prop
 rt:DK
 bk:Gm->Sto->Prop:=λ_ _=>False
 ct:Gm->Sto->Prop:=λ_ _=>False
abbrev SD:=EndsD->Gm->Sto->Prop
def upE (K:Fg) (t:ED):TE:=fun σ H Q=>∃ F S Γ QD,Rp K F S H/\RepG K (mt S F) H Γ σ/\t Γ S QD/\∀ v d H' S',Ext S H S' H'->Rp K F S' H'->RepV K (mt S' F) H' d v->QD d S'->Q v H'
theorem upE.el {K:Fg} {t:ED} {σ:St} {H:Hp} {Q:VK} {p:Prop} (h:upE K t σ H Q) (k:∀ F S Γ QD,Rp K F S H->RepG K (mt S F) H Γ σ->t Γ S QD->(∀ v d H' S',Ext S H S' H'->Rp K F S' H'->RepV K (mt S' F) H' d v->QD d S'->Q v H')->p):p:=by
 obtain⟨F,S,Γ,QD,h0,h1,h2,j⟩:=h;exact k F S Γ QD h0 h1 h2 j
def upT (K:Fg) (t:TD):TT:=fun σ H Q=>∃ F S Γ QD,Rp K F S H/\RepG K (mt S F) H Γ σ/\t Γ S QD/\∀ b H' S',Ext S H S' H'->Rp K F S' H'->QD b S'->Q b H'
theorem upT.el {K:Fg} {t:TD} {σ:St} {H:Hp} {Q:Bool->Hp->Prop} {p:Prop} (h:upT K t σ H Q) (k:∀ F S Γ QD,Rp K F S H->RepG K (mt S F) H Γ σ->t Γ S QD->(∀ b H' S',Ext S H S' H'->Rp K F S' H'->QD b S'->Q b H')->p):p:=by
 obtain⟨F,S,Γ,QD,h0,h1,h2,j⟩:=h;exact k F S Γ QD h0 h1 h2 j
def upA (K:Fg) (t:AD):TA:=fun σ H Q=>∃ F S Γ QD,Rp K F S H/\RepG K (mt S F) H Γ σ/\t Γ S QD/\∀ vs ds H' S',Ext S H S' H'->Rp K F S' H'->RepL K (mt S' F) H' ds vs->QD ds S'->Q vs H'
theorem upA.el {K:Fg} {t:AD} {σ:St} {H:Hp} {Q:List V->Hp->Prop} {p:Prop} (h:upA K t σ H Q) (k:∀ F S Γ QD,Rp K F S H->RepG K (mt S F) H Γ σ->t Γ S QD->(∀ vs ds H' S',Ext S H S' H'->Rp K F S' H'->RepL K (mt S' F) H' ds vs->QD ds S'->Q vs H')->p):p:=by
 obtain⟨F,S,Γ,QD,h0,h1,h2,j⟩:=h;exact k F S Γ QD h0 h1 h2 j
structure CnS (K:Fg) (F:Am) (S:Sto) (H:Hp) (E:EndsD) (D':Ends):Prop where
 nx:∀ Γ' S' σ' H',Ext S H S' H'->Rp K F S' H'->RepG K (mt S' F) H' Γ' σ'->E.nx Γ' S'->D'.nx σ' H'
 rt:∀ v d H' S',Ext S H S' H'->Rp K F S' H'->RepV K (mt S' F) H' d v->E.rt d S'->D'.rt v H'
 bk:∀ Γ' S' σ' H',Ext S H S' H'->Rp K F S' H'->RepG K (mt S' F) H' Γ' σ'->E.bk Γ' S'->D'.bk σ' H'
 ct:∀ Γ' S' σ' H',Ext S H S' H'->Rp K F S' H'->RepG K (mt S' F) H' Γ' σ'->E.ct Γ' S'->D'.ct σ' H'
theorem CnS.ext {K:Fg} {F:Am} {S S1:Sto} {H H1:Hp} {E:EndsD} {D':Ends} (c:CnS K F S H E D') (x:Ext S H S1 H1):CnS K F S1 H1 E D' :=
 ⟨fun Γ' S' σ' H' y=>c.nx Γ' S' σ' H' (x.trans y),λv d H' S' y=>c.rt v d H' S' (x.trans y),fun Γ' S' σ' H' y=>c.bk Γ' S' σ' H' (x.trans y),fun Γ' S' σ' H' y=>c.ct Γ' S' σ' H' (x.trans y)⟩
def upS (K:Fg) (t:SD):TS:=λD' σ H=>∃ F S Γ E,Rp K F S H/\RepG K (mt S F) H Γ σ/\t E Γ S/\CnS K F S H E D'
theorem upS.el {K:Fg} {t:SD} {D':Ends} {σ:St} {H:Hp} {p:Prop} (h:upS K t D' σ H) (k:∀ F S Γ E,Rp K F S H->RepG K (mt S F) H Γ σ->t E Γ S->CnS K F S H E D'->p):p:=by
 obtain⟨F,S,Γ,E,h0,h1,h2,j⟩:=h;exact k F S Γ E h0 h1 h2 j
structure PD (K:Fg) (X:Cx) (e:Expr) (t:ED):Prop where
 o:PE X e (upE K t)
structure PTD (K:Fg) (X:Cx) (e:Expr) (t:TD):Prop where
 o:PT X e (upT K t)
structure PAD (K:Fg) (X:Cx) (es:List Expr) (t:AD):Prop where
 o:PA X es (upA K t)
structure PSD (K:Fg) (X:Cx) (st:Stmt) (t:SD):Prop where
 o:PS X st (upS K t)
structure PSsD (K:Fg) (X:Cx) (st:List Stmt) (t:SD):Prop where
 o:PSs X st (upS K t)
section
variable {X:Cx} {K:Fg}
theorem PD.of {e:Expr} {te:TE} {t:ED} (h:PE X e te) (i:∀ σ H Q,upE K t σ H Q->te σ H Q):PD K X e t:=⟨λpins s σ H Q I q=>h pins s σ H Q I (i σ H Q q)⟩
theorem PTD.of {e:Expr} {te:TT} {t:TD} (h:PT X e te) (i:∀ σ H Q,upT K t σ H Q->te σ H Q):PTD K X e t:=⟨λpins s σ H Q I q=>h pins s σ H Q I (i σ H Q q)⟩
theorem PAD.of {e:List Expr} {te:TA} {t:AD} (h:PA X e te) (i:∀ σ H Q,upA K t σ H Q->te σ H Q):PAD K X e t:=⟨λpos pins s σ H Q I q=>h pos pins s σ H Q I (i σ H Q q)⟩
theorem PSD.of {e:Stmt} {te:TS} {t:SD} (h:PS X e te) (i:∀ D' σ H,upS K t D' σ H->te D' σ H):PSD K X e t:=⟨λpins s σ H D' I q=>h pins s σ H D' I (i D' σ H q)⟩
theorem PSsD.of {e:List Stmt} {te:TS} {t:SD} (h:PSs X e te) (i:∀ D' σ H,upS K t D' σ H->te D' σ H):PSsD K X e t:=⟨λpins s σ H D' I q=>h pins s σ H D' I (i D' σ H q)⟩
def dVar (i:Nat):ED:=fun Γ S Q=>look Γ i λd=>Q d S
def dC (d:D):ED:=λ_ S Q=>Q d S
theorem dv (i:Nat) {x:Str} {pos:Pos} (hN:X.N[i]?=some x:=by rfl) (hv:Vis X.env.scope x:=by first | exact aW rfl | exact gb (aW rfl) | exact gb (gb rfl)) (hd:(x == ("__debug__" : Str))=false:=by decide)
  (hcd:(x == ("__classdict__" : Str))=false:=by decide):PD K X (.Name x pos) (dVar i):=.of (eXr hN hv hd hcd) fun σ H Q j=>j.el λF S Γ QD r g h c=>by
 obtain⟨v,d,e,q,z⟩:=g.look h;exact⟨v,e,c v d H S (Ext.refl _ _) r q z⟩
theorem up_c {d:D} {v:V} (h:∀ M H,RepV K M H d v):∀ σ H Q,upE K (dC d) σ H Q->tC v σ H Q:=fun σ H Q j=>j.el λF S Γ QD r g q c=>c v d H S (Ext.refl _ _) r (h _ _) q
theorem aQ5 {i j pos}:PD K X (.Constant (.int i) j pos) (dC (.int i)):=.of eXs (up_c λ_ _=>by unfold RepV;rfl)
theorem e_bl {b j pos}:PD K X (.Constant (.bool b) j pos) (dC (.bl b)):=.of fXi (up_c λ_ _=>by unfold RepV;rfl)
theorem fQh {j pos}:PD K X (.Constant .none j pos) (dC .non):=.of eXt (up_c λ_ _=>by unfold RepV;rfl)
theorem aZ9 {x j pos}:PD K X (.Constant (.str x) j pos) (dC (.str x)):=.of eXu (up_c λ_ _=>by unfold RepV;rfl)
theorem e_ty {x:Str} {n:String} {pos:Pos} (hg:Gl X x) (hm:X.mg x=none) (hv:bQ x=some (.type n)) (hn:x ≠ "__name__":=by decide) (hd:(x == ("__debug__" : Str))=false:=by decide):PD K X (.Name x pos) (dC (.ty n)) :=
 .of (fJ1 hg hm hv hn hd) (up_c λ_ _=>by unfold RepV;rfl)
def Cn (K:Fg) (F:Am) (S:Sto) (H:Hp) (QD:DK) (Q:VK):Prop:=∀ v d H' S',Ext S H S' H'->Rp K F S' H'->RepV K (mt S' F) H' d v->QD d S'->Q v H'
abbrev R2D:=D->D->Sto->DK->Prop
def OpD (K:Fg) (r:R2) (rd:R2D):Prop:=∀ F S H d e x y Q QD,Rp K F S H->RepV K (mt S F) H d x->RepV K (mt S F) H e y->rd d e S QD->Cn K F S H QD Q->r x y H Q
def dOp (rd:R2D) (ta tb:ED):ED:=fun Γ S Q=>ta Γ S λx S1=>tb Γ S1 λy S2=>rd x y S2 Q
theorem dZc {r:R2} {rd:R2D} {ta tb:ED} (h:OpD K r rd):∀ σ H Q,upE K (dOp rd ta tb) σ H Q->tOp r (upE K ta) (upE K tb) σ H Q:=fun σ H Q D=>D.el λF S Γ QD r g q c =>
 ⟨F,S,Γ,_,r,g,q,λx d H1 Y B J v1 O=>⟨F,Y,Γ,_,J,g.ext B,O,λy e H2 U j I v2 L=>h F U H2 d e x y Q QD I (v1.ext j) v2 L λv z Z R G=>c v z Z R (B.trans (j.trans G))⟩⟩
theorem e_op {op:Operator} {r:R2} {rd:R2D} {a b:Expr} {ta tb:ED} {pos:Pos} (ho:OpR X (eH op) r) (h:OpD K r rd) (ha:PD K X a ta) (hb:PD K X b tb):PD K X (.BinOp a op b pos) (dOp rd ta tb):=.of (fXr ho ha.o hb.o) (dZc h)
theorem dZd {op:CmpOp} {r:R2} {rd:R2D} {a b:Expr} {ta tb:ED} {pos:Pos} (ho:OpR X (cQ op) r) (h:OpD K r rd) (ha:PD K X a ta) (hb:PD K X b tb) (hm:eL op b=false):PD K X (.Compare a [op] [b] pos) (dOp rd ta tb):=.of (dJj ho ha.o hb.o hm) (dZc h)
def aJ7 (t:ED):TD:=fun Γ S Q=>t Γ S λd S1=>∃ b,d=.bl b/\Q b S1
theorem fQi {r:R2} {rd:R2D} {ta tb:ED} (h:OpD K r rd):∀ σ H Q,upT K (aJ7 (dOp rd ta tb)) σ H Q->eJc (tOp r (upE K ta) (upE K tb)) σ H Q:=fun σ H Q q=>dZc (rd:=rd) h σ H _ (by
 obtain⟨F,S,Γ,QD,r,g,q,c⟩:=q;refine⟨F,S,Γ,_,r,g,q,λv d H1 G j B v1 ⟨b,e,D⟩=>?_⟩;subst e;unfold RepV at v1;exact⟨b,v1,c b H1 G j B D⟩)
theorem aXs {op:CmpOp} {r:R2} {rd:R2D} {a b:Expr} {ta tb:ED} {pos:Pos} (ho:OpR X (cQ op) r) (h:OpD K r rd) (ha:PD K X a ta) (hb:PD K X b tb) (hm:eL op b=false):PTD K X (.Compare a [op] [b] pos) (aJ7 (dOp rd ta tb)):=.of (dJk ho ha.o hb.o hm) (fQi h)
end
end L2
set_option maxHeartbeats 4000000
namespace L2
open PySem PySem.Spec PyProof.Rows
section
variable {K:Fg} {F:Am} {S:Sto} {H:Hp} {QD:DK} {Q:VK}
theorem Cn.here (c:Cn K F S H QD Q) (r:Rp K F S H) {d:D} {v:V} (h:RepV K (mt S F) H d v) (q:QD d S):Q v H:=c v d H S (Ext.refl _ _) r h q
theorem Cn.int (c:Cn K F S H QD Q) (r:Rp K F S H) {i:Int} (q:QD (.int i) S):Q (.int i) H:=c.here r (by unfold RepV;rfl) q
theorem Cn.str (c:Cn K F S H QD Q) (r:Rp K F S H) {i:Str} (q:QD (.str i) S):Q (.str i) H:=c.here r (by unfold RepV;rfl) q
theorem Cn.bl (c:Cn K F S H QD Q) (r:Rp K F S H) {i:Bool} (q:QD (.bl i) S):Q (.bl i) H:=c.here r (by unfold RepV;rfl) q
theorem Rp.nmt (r:Rp K F S H) {a:Addr} (h:H a=none):¬ mt S F a:=λz=>by
 rcases z with z | z
 ·exact z (r.sn h)
 ·obtain⟨⟨zs,e,_⟩,_⟩:=r.frm a z;rw[h] at e;cases e
theorem Cn.tup (c:Cn K F S H QD Q) (r:Rp K F S H) {l:Addr} (h:H l=none) {ds:List D} {xs:List V} (rl:RepL K (mt S F) H ds xs) (q:QD (.tup ds) S):Q (.ref l) (upd H l (.tup xs)):=by
 have x:Ext S H S (upd H l (.tup xs)):=Ext.same (aQo h);refine c _ _ _ S x (r.same (aQo h)) ?_ q;unfold RepV;exact⟨l,xs,rfl,.inl ⟨r.nmt h,.inl aQa⟩,rl.ext x⟩
theorem Cn.lst (c:Cn K F S H QD Q) (r:Rp K F S H) {l:Addr} (h:H l=none) {ds:List D} {xs:List V} (rl:RepL K (mt S F) H ds xs) (q:QD (.lst ds) S):Q (.ref l) (upd H l (.lst xs)):=by
 have x:Ext S H S (upd H l (.lst xs)):=Ext.same (aQo h);refine c _ _ _ S x (r.same (aQo h)) ?_ q;unfold RepV;exact⟨l,xs,rfl,.inl ⟨r.nmt h,.inl aQa⟩,rl.ext x⟩
theorem Cn.lstR (c:Cn K F S H QD Q) (r:Rp K F S H) {l:Addr} (h:H l=none) {ds:List D} {xs:List V} (rl:RepL K (mt S F) H ds xs) (q:QD (.ref l) (supd S l (.lst ds))):Q (.ref l) (upd H l (.lst xs)):=by
 have x:Ext S H (supd S l (.lst ds)) (upd H l (.lst xs)):=Ext.mk' h;exact c _ _ _ _ x (r.mk' h ⟨xs,aQa,rl.ext x⟩) (by unfold RepV;rfl) q
def newL (b:Bool) (ds:List D) (S:Sto) (Q:DK):Prop:=match b with
 | false=>Q (.lst ds) S
 | true=>∀ p,S p=none->Q (.ref p) (supd S p (.lst ds))
theorem Cn.new (c:Cn K F S H QD Q) (r:Rp K F S H) {b:Bool} {l:Addr} (h:H l=none) {ds:List D} {xs:List V} (rl:RepL K (mt S F) H ds xs) (q:newL b ds S QD):Q (.ref l) (upd H l (.lst xs)):=by
 cases b with
 | false=>exact c.lst r h rl q
 | true=>exact c.lstR r h rl (q l (r.sn h))
def lsIs (S:Sto):D->List D->Prop
 | .lst ys,xs=>ys=xs
 | .ref a,xs=>S a=some (.lst xs)
 | _,_=>False
def sqIs (S:Sto):D->List D->Prop
 | .tup ys,xs=>ys=xs
 | .lst ys,xs=>ys=xs
 | .ref a,xs=>S a=some (.lst xs)
 | _,_=>False
theorem lsIs.sl (r:Rp K F S H) {d:D} {v:V} {ds:List D} (h:RepV K (mt S F) H d v) (l:lsIs S d ds):∃ a xs,v=.ref a/\SqL K H a xs/\RepL K (mt S F) H ds xs:=by
 cases d with
 | lst ys =>
  cases l;unfold RepV at h;obtain⟨a,xs,e,q,z⟩:=h;exact⟨a,xs,e,q.sq,z⟩
 | ref a =>
  unfold RepV at h;obtain⟨xs,e,z⟩:=r.obj a _ l;exact⟨a,xs,h,SqL.of e,z⟩
 | _=>exact l.elim
theorem tup.st {ds:List D} {v:V} (h:RepV K (mt S F) H (.tup ds) v):∃ a xs,v=.ref a/\SqT K H a xs/\RepL K (mt S F) H ds xs:=by
 unfold RepV at h;obtain⟨a,xs,e,t,z⟩:=h;exact⟨a,xs,e,t.sq,z⟩
theorem sqIs.sq (r:Rp K F S H) {d:D} {v:V} {ds:List D} (h:RepV K (mt S F) H d v) (l:sqIs S d ds):∃ a xs,v=.ref a/\(SqL K H a xs\/SqT K H a xs)/\RepL K (mt S F) H ds xs:=by
 cases d with
 | tup ys =>
  cases l;obtain⟨a,xs,e,t,z⟩:=tup.st h;exact⟨a,xs,e,.inr t,z⟩
 | lst ys =>
  obtain⟨a,xs,e,t,z⟩:=lsIs.sl r h (show lsIs S (.lst ys) ds from l)
  exact⟨a,xs,e,.inl t,z⟩
 | ref a =>
  obtain⟨a,xs,e,t,z⟩:=lsIs.sl r h (show lsIs S (.ref a) ds from l)
  exact⟨a,xs,e,.inl t,z⟩
 | _=>exact l.elim
theorem rint {i:Int} {v:V} (h:RepV K (mt S F) H (.int i) v):v=.int i:=by unfold RepV at h;exact h
theorem rstr {i:Str} {v:V} (h:RepV K (mt S F) H (.str i) v):v=.str i:=by unfold RepV at h;exact h
theorem rbl {i:Bool} {v:V} (h:RepV K (mt S F) H (.bl i) v):v=.bl i:=by unfold RepV at h;exact h
theorem rref {i:Addr} {v:V} (h:RepV K (mt S F) H (.ref i) v):v=.ref i:=by unfold RepV at h;exact h
theorem rnon {v:V} (h:RepV K (mt S F) H .non v):v=.non:=by unfold RepV at h;exact h
end
section
variable {X:Cx} {K:Fg}
def fQj (K:Fg):R2:=λx y H Q=>∃ l b xs zs,x=.ref l/\y=.ref b/\SqL K H l xs/\SqL K H b zs/\xs.length + zs.length<=sizeLine/\∀ p,H p=none->Q (.ref p) (upd H p (.lst (xs++zs)))
theorem eQj (hK:X.K=K:=by rfl):OpR X (eH .Add) (fQj K):=by
 subst hK;intro pins s σ H x y v u Q I rx ry h;obtain⟨l,b,xs,zs,rfl,rfl,hH,hB,hz,q⟩:=h;cases rx;cases ry;obtain⟨D,r,⟨⟨cls,dd,data,sl⟩,n,U,Y,hd,J⟩,hz1⟩:=I.list hH;obtain⟨j,R,⟨⟨Z,dd2,data2,O⟩,n2,G,L,hd2,B⟩,hz2⟩:=I.list hB;simp only at Y hd J L hd2 B;subst Y hd J L hd2 B;have h1:=r.length;have h2:=R.length;refine jZ ⟨_,U,rfl⟩ ⟨_,G,rfl⟩ noFill_list_add seq_list_add PySem.F.slot_list_add PySem.F.entry_list_add (PySem.F.args_list_add_2 _ _)
  (list_addW l b D.toArray j.toArray n n2 none none sl O (by rw[ar,ar];lia)) ⟨U,G,?_⟩
 have ea:D.toArray++j.toArray=(D++j).toArray:=by simp
 rw[ea];exact⟨.ref _,_,I.lnew (t':=s.toks) (r.append R) (by rw[aq];lia),rfl,q _ I.fresh⟩
def fQk (K:Fg):R2:=λx y H Q=>∃ a b ys,x=.ref a/\y=.ref b/\SqT K H a []/\SqT K H b ys/\Q (.ref b) H
theorem eQk (hK:X.K=K:=by rfl):OpR X (eH .Add) (fQk K):=by
 subst hK;intro pins s σ H x y v u Q I rx ry h;obtain⟨a,b,ys,rfl,rfl,ha,hb,q⟩:=h;cases rx;cases ry;obtain⟨Z,r1,U,_⟩:=I.tuple ha;obtain⟨J,r2,p2,_⟩:=I.tuple hb;cases r1;obtain⟨⟨cls,dd,data,sl⟩,L,O,n,hd⟩:=id U;obtain⟨⟨R,G,data2,D⟩,j,B,Y,hd2⟩:=id p2;simp only at O hd B hd2;subst O hd B hd2;exact jZ ⟨_,L,rfl⟩ ⟨_,j,rfl⟩ jG seq_tuple_add gJ gE (gn _ _)
   (tuple_addW0 a b _ _ n Y dd G sl D rfl) ⟨L,j,⟨.ref b,H,I,rfl,q⟩⟩
def addD (b:Bool):R2D:=λd e S Q=>match d,e with
 | .int i,.int j=>Q (.int (i + j)) S
 | .str x,.str y=>x.length + y.length<=sizeLine/\Q (.str (x++y)) S
 | .tup xs,.tup ys=>xs.length + ys.length<=sizeLine/\Q (.tup (xs++ys)) S
 | d,e=>∃ xs ys,lsIs S d xs/\lsIs S e ys/\xs.length + ys.length<=sizeLine/\newL b (xs++ys) S Q
def eQl (K:Fg):R2:=λx y H Q=>rI0 (λi j=>.int (i + j)) x y H Q\/(∃ i j,x=.str i/\y=.str j/\i.length + j.length<=sizeLine/\Q (.str (i++j)) H)\/dJq K x y H Q\/fQk K x y H Q\/fQj K x y H Q
theorem eQm (hK:X.K=K:=by rfl):OpR X (eH .Add) (eQl K):=op_add.or (op_add_str.or ((dZ6 hK).or ((eQk hK).or (eQj hK))))
theorem fQl {b:Bool}:OpD K (eQl K) (addD b):=by
 intro F S H d e x y Q QD r hd he h c;have lists:(∃ xs ys,lsIs S d xs/\lsIs S e ys/\xs.length + ys.length<=sizeLine/\newL b (xs++ys) S QD)->eQl K x y H Q:=by
  rintro⟨xs,ys,J,I,L,q⟩;obtain⟨a,us,rfl,s1,B⟩:=lsIs.sl r hd J;obtain⟨a2,us2,rfl,s2,p2⟩:=lsIs.sl r he I;exact .inr (.inr (.inr (.inr ⟨a,a2,us,us2,rfl,rfl,s1,s2,by rw[B.length,p2.length];exact L,λp D=>c.new r D (B.app p2) q⟩)))
 cases d with
 | int i =>
  cases e with
  | int j=>rw[rint hd,rint he];exact .inl ⟨i,j,rfl,rfl,c.int r h⟩
  | _=>exact lists h
 | str i =>
  cases e with
  | str j=>rw[rstr hd,rstr he];exact .inr (.inl ⟨i,j,rfl,rfl,h.1,c.str r h.2⟩)
  | _=>exact lists h
 | tup xs =>
  cases e with
  | tup ys =>
   obtain⟨a,us,rfl,s1,B⟩:=tup.st hd;obtain⟨a2,us2,rfl,s2,p2⟩:=tup.st he
   by_cases G:xs=[]
   ·subst G;unfold RepL at B;subst B;exact .inr (.inr (.inr (.inl ⟨a,a2,us2,rfl,rfl,s1,s2,c.here r he (by simpa using h.2)⟩)))
   ·refine .inr (.inr (.inl ⟨a,a2,us,us2,rfl,rfl,s1,s2,λz=>G ?_,by rw[B.length,p2.length];exact h.1,λz=>?_,λ_ p D=>c.tup r D (B.app p2) h.2⟩))
    ·have:=B.length;rw[z] at this;exact cL this.symm
    ·have h0:ys=[]:=by have:=p2.length;rw[z] at this;exact cL this.symm
     subst h0;exact c.here r hd (by simpa using h.2)
  | _=>exact lists h
 | _=>exact lists h
def iiD (C:Int->Int->Prop) (g:Int->Int->D):R2D:=λd e S Q=>match d,e with
 | .int i,.int j=>C i j/\Q (g i j) S
 | _,_=>False
theorem od_I {C:Int->Int->Prop} {g:Int->Int->Int}:OpD K (rI C λi j=>.int (g i j)) (iiD C λi j=>.int (g i j)):=by
 intro F S H d e x y Q QD r hd he h c;cases d with
 | int i =>
  cases e with
  | int j=>rw[rint hd,rint he];exact⟨i,j,rfl,rfl,h.1,c.int r h.2⟩
  | _=>exact h.elim
 | _=>exact h.elim
def iiD0 (g:Int->Int->D):R2D:=λd e S Q=>match d,e with
 | .int i,.int j=>Q (g i j) S
 | _,_=>False
theorem fJ6 {g:Int->Int->Int}:OpD K (rI0 λi j=>.int (g i j)) (iiD0 λi j=>.int (g i j)):=by
 intro F S H d e x y Q QD r hd he h c;cases d with
 | int i =>
  cases e with
  | int j=>rw[rint hd,rint he];exact⟨i,j,rfl,rfl,c.int r h⟩
  | _=>exact h.elim
 | _=>exact h.elim
theorem fQm {g:Int->Int->Bool}:OpD K (rI0 λi j=>.bl (g i j)) (iiD0 λi j=>.bl (g i j)):=by
 intro F S H d e x y Q QD r hd he h c;cases d with
 | int i =>
  cases e with
  | int j=>rw[rint hd,rint he];exact⟨i,j,rfl,rfl,c.bl r h⟩
  | _=>exact h.elim
 | _=>exact h.elim
section
variable {a b:Expr} {ta tb:ED} {pos:Pos}
theorem aQm {k:Bool} (ha:PD K X a ta) (hb:PD K X b tb) (hK:X.K=K:=by rfl):PD K X (.BinOp a .Add b pos) (dOp (addD k) ta tb):=e_op (eQm hK) fQl ha hb
theorem fJ7 (ha:PD K X a ta) (hb:PD K X b tb):PD K X (.BinOp a .Sub b pos) (dOp (iiD0 λi j=>.int (i - j)) ta tb):=e_op eJ6 fJ6 ha hb
theorem bQd (ha:PD K X a ta) (hb:PD K X b tb):PD K X (.BinOp a .Mult b pos) (dOp (iiD CMul λi j=>.int (i * j)) ta tb):=e_op eJ7 od_I ha hb
theorem aJj (ha:PD K X a ta) (hb:PD K X b tb):PD K X (.BinOp a .Mod b pos) (dOp (iiD (λ_ j=>0 < j) λi j=>.int (i % j)) ta tb):=e_op eJ8 od_I ha hb
theorem dXl (ha:PD K X a ta) (hb:PD K X b tb):PD K X (.BinOp a .FloorDiv b pos) (dOp (iiD CDiv λi j=>.int (i / j)) ta tb):=e_op dJi od_I ha hb
theorem fJ8 (ha:PD K X a ta) (hb:PD K X b tb):PD K X (.BinOp a .Pow b pos) (dOp (iiD CPow λi j=>.int (i ^ j.toNat)) ta tb):=e_op eJ9 od_I ha hb
end
def unD (g:Int->D):D->Sto->DK->Prop:=λd S Q=>match d with
 | .int i=>Q (g i) S
 | _=>False
def dUn (rd:D->Sto->DK->Prop) (ta:ED):ED:=fun Γ S Q=>ta Γ S λx S1=>rd x S1 Q
theorem fJ9 {a:Expr} {ta:ED} {pos:Pos} (ha:PD K X a ta):PD K X (.UnaryOp .USub a pos) (dUn (unD λi=>.int (-i)) ta):=.of (fXs eJa ha.o) fun σ H Q B=>B.el λF S Γ QD r g q c =>
 ⟨F,S,Γ,_,r,g,q,λv d H1 O G I v1 j=>by
  cases d with
  | int i=>rw[rint v1];exact⟨i,rfl,Cn.int (λv z L J D=>c v z L J (G.trans D)) I j⟩
  | _=>exact j.elim⟩
def dNil:AD:=λ_ S Q=>Q [] S
def bJb (ta:ED) (tr:AD):AD:=fun Γ S Q=>ta Γ S λx S1=>tr Γ S1 λxs S2=>Q (x::xs) S2
theorem aQ1:PAD K X [] dNil:=.of aXn fun σ H Q j=>j.el λF S Γ QD r g q c=>c [] [] H S (Ext.refl _ _) r RepL.nil q
theorem aQ0 {e:Expr} {es:List Expr} {te:ED} {t:AD} (ha:PD K X e te) (hr:PAD K X es t) (hs:av (e::es) X.env=(false,eval e X.env)::av es X.env:=by rfl):PAD K X (e::es) (bJb te t) :=
 .of (aZp ha.o hr.o hs) fun σ H Q D=>D.el λF S Γ QD r g q c=>⟨F,S,Γ,_,r,g,q,λv d H1 R B I v1 L=>⟨F,R,Γ,_,I,g.ext B,L,λvs ds H2 O j G v2 J=>c (v::vs) (d::ds) H2 O (B.trans j) G (RepL.cons (v1.ext j) v2) J⟩⟩
def dTup (t:AD):ED:=fun Γ S Q=>t Γ S λds S1=>ds.length<=sizeLine/\Q (.tup ds) S1
def dLst (b:Bool) (t:AD):ED:=fun Γ S Q=>t Γ S λds S1=>ds.length<=sizeLine/\newL b ds S1 Q
theorem Cn.shift {F:Am} {S S1:Sto} {H H1:Hp} {QD:DK} {Q:VK} (c:∀ v d H' S',Ext S H S' H'->Rp K F S' H'->RepV K (mt S' F) H' d v->QD d S'->Q v H') (x:Ext S H S1 H1):Cn K F S1 H1 QD Q:=λv z D B j=>c v z D B (x.trans j)
theorem aX3 {es:List Expr} {t:AD} {x1 pos} (h:PAD K X es t):PD K X (.Tuple es x1 pos) (dTup t):=.of (eJe h.o) fun σ H Q B=>B.el λF S Γ QD r g q c =>
 ⟨F,S,Γ,_,r,g,q,λvs ds H1 I x1 D v1 j=>⟨by rw[v1.length];exact j.1,λp G=>(Cn.shift c x1).tup D G v1 j.2⟩⟩
theorem aZj {b:Bool} {es:List Expr} {t:AD} {pos} (h:PAD K X es t):PD K X (.List es pos) (dLst b t):=.of (eJf h.o) fun σ H Q B=>B.el λF S Γ QD r g q c =>
 ⟨F,S,Γ,_,r,g,q,λvs ds H1 J D G v1 j=>⟨by rw[v1.length];exact j.1,λp I=>(Cn.shift c D).new G I v1 j.2⟩⟩
abbrev RCD:=List D->Sto->DK->Prop
def bXd (K:Fg) (r:List V->Hp->VK->Prop) (rd:RCD):Prop:=∀ F S H ds vs Q QD,Rp K F S H->RepL K (mt S F) H ds vs->rd ds S QD->Cn K F S H QD Q->r vs H Q
def dCB (rd:RCD) (t:AD):ED:=fun Γ S Q=>t Γ S λds S1=>rd ds S1 Q
theorem fQn {r:List V->Hp->VK->Prop} {rd:RCD} {t:AD} (h:bXd K r rd):∀ σ H Q,upE K (dCB rd t) σ H Q->tCB r (upA K t) σ H Q:=fun σ H Q j=>j.el λF S Γ QD r g q c =>
 ⟨F,S,Γ,_,r,g,q,λvs ds H1 I B D v1 G=>h F I H1 ds vs Q QD D v1 G (Cn.shift c B)⟩
theorem aXh {id:String} {r:List V->Hp->VK->Prop} {rd:RCD} {x:Str} {p pos:Pos} {e:Expr} {es:List Expr} {t:AD} (hc:CallR X (.builtin id) r) (h:bXd K r rd) (hg:Gl X x) (hm:X.mg x=none) (hv:bQ x=some (.builtin id)) (ha:PAD K X (e::es) t) (hn:x ≠ "__name__":=by decide) (hdb:(x == ("__debug__" : Str))=false:=by decide)
  (he:av (e::es) X.env=(false,eval e X.env)::av es X.env:=by rfl) (hpl:(cz pos (av es X.env)).any (·.1)=false:=by rfl):PD K X (.Call (.Name x p) (e::es) [] pos) (dCB rd t):=.of (aXo hc hg hm hv ha.o hn hdb he hpl) (fQn h)
theorem cQg {T:String} {r:List V->Hp->VK->Prop} {rd:RCD} {x:Str} {p pos:Pos} {e:Expr} {es:List Expr} {t:AD} (hc:CallR X (.type T) r) (h:bXd K r rd) (hg:Gl X x) (hm:X.mg x=none) (hv:bQ x=some (.type T)) (ha:PAD K X (e::es) t) (hn:x ≠ "__name__":=by decide) (hdb:(x == ("__debug__" : Str))=false:=by decide)
  (he:av (e::es) X.env=(false,eval e X.env)::av es X.env:=by rfl) (hpl:(cz pos (av es X.env)).any (·.1)=false:=by rfl):PD K X (.Call (.Name x p) (e::es) [] pos) (dCB rd t):=.of (aZz hc hg hm hv ha.o hn hdb he hpl) (fQn h)
end
mutual
def beqD:D->D->Bool
 | .non,.non=>true
 | .bl a,.bl b=>a == b
 | .int a,.int b=>decide (a=b)
 | .str a,.str b=>decide (a=b)
 | .ty a,.ty b=>decide (a=b)
 | .ref a,.ref b=>decide (a=b)
 | .tup a,.tup b=>bJc a b
 | .lst a,.lst b=>bJc a b
 | _,_=>false
def bJc:List D->List D->Bool
 | [],[]=>true
 | a::as,b::bs=>beqD a b && bJc as bs
 | _,_=>false
end
theorem bqE {α:Type} [BEq α] [LawfulBEq α] {c:α->D} (inj:∀ x y,c x=c y->x=y) (x y:α):(x == y)=true↔c x=c y:=⟨λh=>congrArg c (beq_iff_eq.mp h),λh=>beq_iff_eq.mpr (inj x y h)⟩
theorem bdE {α:Type} {c:α->D} (inj:∀ x y,c x=c y->x=y) (x y:α) {d:Decidable (x=y)}:@decide (x=y) d=true↔c x=c y:=⟨λh=>congrArg c (of_decide_eq_true h),λh=>decide_eq_true (inj x y h)⟩
theorem bnE {p:Prop} (h:¬ p):false=true↔p:=⟨λz=>absurd z a9,λz=>absurd z h⟩
mutual
theorem cJ9:∀ {a b:D},beqD a b=true↔a=b
 | .non,b=>by
  cases b with
  | non=>exact⟨λ_=>rfl,λ_=>rfl⟩
  | _=>exact bnE (λh=>by cases h)
 | .bl x,b=>by
  cases b with
  | bl y=>exact bqE (λ_ _ h=>by injection h) x y
  | _=>exact bnE (λh=>by cases h)
 | .int x,b=>by
  cases b with
  | int y=>exact bdE (λ_ _ h=>by injection h) x y
  | _=>exact bnE (λh=>by cases h)
 | .str x,b=>by
  cases b with
  | str y=>exact bdE (λ_ _ h=>by injection h) x y
  | _=>exact bnE (λh=>by cases h)
 | .ty x,b=>by
  cases b with
  | ty y=>exact bdE (λ_ _ h=>by injection h) x y
  | _=>exact bnE (λh=>by cases h)
 | .ref x,b=>by
  cases b with
  | ref y=>exact bdE (λ_ _ h=>by injection h) x y
  | _=>exact bnE (λh=>by cases h)
 | .tup as,b=>by
  cases b with
  | tup bs=>exact beqDs_eq.trans ⟨λh=>congrArg D.tup h,λh=>by injection h⟩
  | _=>exact bnE (λh=>by cases h)
 | .lst as,b=>by
  cases b with
  | lst bs=>exact beqDs_eq.trans ⟨λh=>congrArg D.lst h,λh=>by injection h⟩
  | _=>exact bnE (λh=>by cases h)
theorem beqDs_eq:∀ {a b:List D},bJc a b=true↔a=b
 | [],b=>by cases b <;> simp[bJc]
 | a::as,[]=>by simp[bJc]
 | a::as,b::bs=>by
  simp only[bJc,aQ,List.cons.injEq];rw[cJ9,beqDs_eq]
end
instance:DecidableEq D:=λa b=>decidable_of_iff _ (cJ9 (a:=a) (b:=b))
def okE:Nat->D->D->Bool
 | _,.int _,.int _=>true
 | _,.str _,.str _=>true
 | _,.bl _,.bl _=>true
 | _,.non,.non=>true
 | _,.non,.int _=>true
 | _,.int _,.non=>true
 | _,.non,.str _=>true
 | _,.str _,.non=>true
 | n + 1,.non,.tup _=>true
 | n + 1,.tup _,.non=>true
 | n + 1,.tup xs,.tup ys=>(xs.zip ys).all λp=>okE n p.1 p.2
 | n + 1,.lst xs,.lst ys=>(xs.zip ys).all λp=>okE n p.1 p.2
 | _,_,_=>false
abbrev okEs (n:Nat) (xs ys:List D):Bool:=(xs.zip ys).all λp=>okE n p.1 p.2
section
variable {X:Cx} {pins:List (Addr × Obj)} {σ:St} {H:Hp} {s:ai} {M:Am}
structure Eq3 (A:a7) (s:ai) (u v:ae) (b:Bool):Prop where
 eq:dD A s u v b
 rc:SeqAt.RcAt A s u v b
 ne:cO A s u v (!b)
theorem eQn {xs ys:List D}:decide (D.tup xs=D.tup ys)=decide (xs=ys):=by simp
theorem eQo {xs ys:List D}:decide (D.lst xs=D.lst ys)=decide (xs=ys):=by simp
theorem eQp {xs ys:List D} {j:Nat} {a b:D} (h1:xs[j]?=some a) (h2:ys[j]?=some b):(a,b)∈xs.zip ys:=by
 have G:j < xs.length:=by
  rcases Nat.lt_or_ge j xs.length with z | z
  ·exact z
  ·rw[ci z] at h1;cases h1
 have B:j < ys.length:=by
  rcases Nat.lt_or_ge j ys.length with z | z
  ·exact z
  ·rw[ci z] at h2;cases h2
 have L:xs[j]=a:=by rw[ah G] at h1;exact aM h1
 have J:ys[j]=b:=by rw[ah B] at h2;exact aM h2
 have I:j < (xs.zip ys).length:=by rw[List.length_zip];lia
 have:(xs.zip ys)[j]=(a,b):=by rw[List.getElem_zip,L,J]
 rw[<- this];exact cS I
theorem dXm {n:Nat} {xs ys:List V} {us vs:List ae} {ds es:List D} {A:a7} (p:RepL X.K M H ds xs) (p':RepL X.K M H es ys) (r:Vals xs us) (r':Vals ys vs) (hz:okEs n ds es=true)
  (ih:∀ {d e:D} {x y:V} {u v:ae},RepV X.K M H d x->RepV X.K M H e y->RelV x u->RelV y v->okE n d e=true->Eq3 A s u v (decide (d=e))) :
  ∀ j (h1:j < us.toArray.size) (h2:j < vs.toArray.size),dD A s us.toArray[j] vs.toArray[j] (decide (ds[j]?=es[j]?)):=by
 intro j h1 h2;simp only[ar] at h1 h2;have J:j < xs.length:=by have:=r.length;lia
 have I:j < ys.length:=by have:=r'.length;lia
 obtain⟨d,R,rd⟩:=p.get' (ah J);obtain⟨e,O,re⟩:=p'.get' (ah I);obtain⟨u,L,Y⟩:=r.get (ah J);obtain⟨v,ev,U⟩:=r'.get (ah I);have G:us[j]=u:=by rw[ah h1] at L;exact aM L
 have B:vs[j]=v:=by rw[ah h2] at ev;exact aM ev
 have:decide (ds[j]?=es[j]?)=decide (d=e):=by rw[R,O];simp
 rw[this];simp only[List.getElem_toArray];rw[G,B];exact(ih rd re Y U (bF.mp hz _ (eQp R O))).eq
theorem dXn {n:Nat} {a b:Addr} {xs ys:List V} {ds es:List D} {A:a7} (I:Inv X pins σ H s) (q:SqL X.K H a xs) (q':SqL X.K H b ys) (p:RepL X.K M H ds xs) (p':RepL X.K M H es ys) (hz:okEs n ds es=true) (hu:A.units + (n + 1) < cb)
  (ih:∀ {d e:D} {x y:V} {u v:ae},RepV X.K M H d x->RepV X.K M H e y->RelV x u->RelV y v->okE n d e=true->Eq3 A.in1 s u v (decide (d=e))) :
  SeqAt.RcAt A s (.ref a) (.ref b) (decide (ds=es))/\cO A s (.ref a) (.ref b) (!decide (ds=es)):=by
 obtain⟨us,R,pl,_⟩:=I.list q;obtain⟨vs,O,B,_⟩:=I.list q';have l1:=p.length;have l2:=p'.length;have Z:=R.length;have Y:=O.length;have it:=dXm (A:=A.in1) p p' R O hz ih
 by_cases U:ds.length=es.length
 ·have G:us.toArray.size=vs.toArray.size:=by rw[ar,ar];lia
  have L:((aH (us.toArray.size)).all λj=>decide (ds[j]?=es[j]?))=decide (ds=es):=by
   have:=cXh ds es us.toArray.size vs.toArray.size (by rw[ar];lia) (by rw[ar];lia)
   rw[G,Nat.min_self] at this;rw[G,<- this];simp
  have h1:=SeqAt.RcAt.lists (e:=λj=>decide (ds[j]?=es[j]?)) pl.isList B.isList G (show A.units < cb by lia) λj h1 h2=>it j h1 h2
  have h2:=cO.lists (e:=λj=>decide (ds[j]?=es[j]?)) pl.isList B.isList G (show A.units < cb by lia) λj h1 h2=>it j h1 h2
  rw[L] at h1 h2;exact⟨h1,h2⟩
 ·have G:(us.toArray.size != vs.toArray.size)=true:=by rw[ar,ar];simp;lia
  have J:ds≠es:=λe=>U (by rw[e])
  rw[decide_eq_false J];exact⟨SeqAt.RcAt.lists_lengths pl.isList B.isList G (by lia),cO.lists_lengths pl.isList B.isList G (by lia)⟩
theorem eQq {n:Nat} (ih:∀ {d e:D} {v:V},RepV X.K M H d v->RepV X.K M H e v->okE n d e=true->d=e):∀ {ds es:List D} {xs:List V},RepL X.K M H ds xs->RepL X.K M H es xs->okEs n ds es=true->ds=es
 | [],[],_,_,_,_=>rfl
 | [],e::es,xs,p,j,_=>by have h1:=p.length;have h2:=j.length;rw[h1] at h2;simp at h2
 | d::ds,[],xs,p,j,_=>by have h1:=p.length;have h2:=j.length;rw[h1] at h2;simp at h2
 | d::ds,e::es,xs,p,j,h=>by
  unfold RepL at p j;obtain⟨v,vs,rfl,r,l⟩:=p;obtain⟨J,B,e1,G,I⟩:=j;cases e1;simp only[okEs,d0,iq,aQ] at h;rw[ih r G h.1,eQq ih l I h.2]
theorem uniq (I:Inv X pins σ H s):∀ (n:Nat) {d e:D} {v:V},RepV X.K M H d v->RepV X.K M H e v->okE n d e=true->d=e:=by
 intro n
 induction n with
 | zero =>
  intro d e v h h' o;cases d <;> cases e <;> first | rfl | (cases o;done) | (unfold RepV at h h';rw[h] at h';cases h';done) | (unfold RepV at h h';rw[h] at h';cases h';rfl)
 | succ n G =>
  intro d e v h h' o;cases d <;> cases e <;> first | rfl | (cases o;done) | (unfold RepV at h h';rw[h] at h';cases h';done) | (unfold RepV at h h';rw[h] at h';cases h';rfl) | skip
  ·unfold RepV at h h';obtain⟨a,xs,e1,_⟩:=h';rw[h] at e1;cases e1
  ·unfold RepV at h h';obtain⟨a,xs,e1,_⟩:=h;rw[h'] at e1;cases e1
  ·unfold RepV at h h';obtain⟨a,xs,rfl,t,l⟩:=h;obtain⟨b,ys,e1,j,B⟩:=h';cases e1
   have:=I.tuple_inj t.sq j.sq
   subst this;rw[eQq G l B o]
  ·unfold RepV at h h';obtain⟨a,xs,rfl,t,l⟩:=h;obtain⟨b,ys,e1,j,B⟩:=h';cases e1
   have:=I.list_inj t.sq j.sq
   subst this;rw[eQq G l B o]
theorem eq3 (I:Inv X pins σ H s):∀ (n:Nat) {A:a7} {d e:D} {x y:V} {u v:ae},A.units + n < cb->RepV X.K M H d x->RepV X.K M H e y->RelV x u->RelV y v->okE n d e=true->Eq3 A s u v (decide (d=e)):=by
 intro n
 induction n with
 | zero =>
  intro A d e x y u v hu h h' r r' o;cases d <;> cases e <;> first | (cases o;done) | skip
  all_goals unfold RepV at h h';subst h;subst h'
  ·cases r;cases r';exact⟨ki _,SeqAt.RcAt.none_none,cO.none_none⟩
  ·cases r;obtain⟨t,rfl⟩:=r';exact⟨dD.none_int _ _,SeqAt.RcAt.none_int _ _,cO.none_int _ _⟩
  ·cases r;obtain⟨t,rfl⟩:=r';exact⟨dD.none_str _ _,SeqAt.RcAt.none_str _ _,cO.none_str _ _⟩
  ·cases r;cases r';rw[show ∀ a b:Bool,decide (D.bl a=D.bl b)=(a == b) from by intro a b;cases a <;> cases b <;> rfl];exact⟨dD.bool_bool _ _,SeqAt.RcAt.bool_bool _ _,cO.bool_bool _ _⟩
  ·obtain⟨t,rfl⟩:=r;cases r';exact⟨dD.int_none _ _,SeqAt.RcAt.int_none _ _,cO.int_none _ _⟩
  ·obtain⟨t,rfl⟩:=r;obtain⟨J,rfl⟩:=r';rw[show ∀ a b:Int,decide (D.int a=D.int b)=(a == b) from by intro a b;rw[beq_dec];simp];exact⟨dD.int_int _ _ _ _,SeqAt.RcAt.int_int _ _ _ _,cO.int_int _ _ _ _⟩
  ·obtain⟨t,rfl⟩:=r;cases r';exact⟨dD.str_none _ _,SeqAt.RcAt.str_none _ _,cO.str_none _ _⟩
  ·obtain⟨t,rfl⟩:=r;obtain⟨J,rfl⟩:=r';rw[show ∀ a b:Str,decide (D.str a=D.str b)=(a == b) from by intro a b;rw[beq_dec];simp];exact⟨i8 _ _ _ _,SeqAt.RcAt.str_str _ _ _ _,cO.str_str _ _ _ _⟩
 | succ n B =>
  intro A d e x y u v hu h h' r r' o;cases d <;> cases e <;> first | (cases o;done) | skip
  ·exact B (by lia) h h' r r' (by cases n <;> rfl)
  ·exact B (by lia) h h' r r' (by cases n <;> rfl)
  ·exact B (by lia) h h' r r' (by cases n <;> rfl)
  ·unfold RepV at h;subst h;cases r;obtain⟨a,xs,rfl,t,l⟩:=(show RepV X.K M H (.tup _) y from h')
   cases r';obtain⟨us,O,pl,_⟩:=I.tuple t.sq;exact⟨dD.none_tuple pl (by lia),SeqAt.RcAt.none_tuple pl (by lia),cO.none_tuple pl (by lia)⟩
  ·exact B (by lia) h h' r r' (by cases n <;> rfl)
  ·exact B (by lia) h h' r r' (by cases n <;> rfl)
  ·exact B (by lia) h h' r r' (by cases n <;> rfl)
  ·exact B (by lia) h h' r r' (by cases n <;> rfl)
  ·exact B (by lia) h h' r r' (by cases n <;> rfl)
  ·unfold RepV at h';subst h';cases r';obtain⟨a,xs,rfl,t,l⟩:=(show RepV X.K M H (.tup _) x from h)
   cases r;obtain⟨us,O,pl,_⟩:=I.tuple t.sq;exact⟨dD.tuple_none pl (by lia),SeqAt.RcAt.tuple_none pl (by lia),cO.tuple_none pl (by lia)⟩
  ·rename_i ds es;have un:=λ{e:D}=>uniq (e:=e) I (n + 1) h;have h0:=h;have G:=h';unfold RepV at h h';obtain⟨a,xs,rfl,t,l⟩:=h;obtain⟨b,ys,rfl,J,R⟩:=h';cases r;cases r';obtain⟨us,O,pl,_⟩:=I.tuple t.sq;obtain⟨vs,rv,L,_⟩:=I.tuple J.sq;have l1:=l.length;have l2:=R.length;have l3:=O.length;have l4:=rv.length;have it:=dXm (A:=A.in1) l R O rv o λq Y z U o=>B (show A.units + 1 + n < cb by lia) q Y z U o
   have Z:=cXh ds es us.toArray.size vs.toArray.size (by rw[ar];lia) (by rw[ar];lia)
   have h1:=SeqAt.RcAt.tuples pl L (show A.units < cb by lia) it
   have h2:=cO.tuples pl L (show A.units < cb by lia) it
   rw[Z] at h1 h2;rw[eQn];refine⟨?_,h1,h2⟩
   by_cases j:a=b
   ·subst j;have e1:=un G o;cases e1;rw[decide_eq_true rfl];exact ki _
   ·exact kM j h1
  ·have un:=λ{e:D}=>uniq (e:=e) I (n + 1) h;have G:=h';unfold RepV at h h';obtain⟨a,xs,rfl,t,l⟩:=h;obtain⟨b,ys,rfl,J,R⟩:=h';cases r;cases r';obtain⟨h1,h2⟩:=dXn (A:=A) (n:=n) I t.sq J.sq l R o hu λq Y z U o=>B (show A.units + 1 + n < cb by lia) q Y z U o
   rw[eQo];refine⟨?_,h1,h2⟩
   by_cases j:a=b
   ·subst j;have e1:=un G o;cases e1;rw[decide_eq_true rfl];exact ki _
   ·exact kM j h1
def eqD (neg:Bool):R2D:=λd e S Q=>match d,e with
 | .ref a,e=>∃ xs ys,S a=some (.lst xs)/\lsIs S e ys/\okEs 8 xs ys=true/\Q (.bl (if neg then !decide (xs=ys) else decide (xs=ys))) S
 | .lst xs,.ref a=>∃ ys,S a=some (.lst ys)/\okEs 8 xs ys=true/\Q (.bl (if neg then !decide (xs=ys) else decide (xs=ys))) S
 | d,e=>okE 9 d e=true/\Q (.bl (if neg then !decide (d=e) else decide (d=e))) S
def rEqA (K:Fg) (neg:Bool):R2:=λx y H Q=>∃ b,(∀ {X:Cx} {pins:List (Addr × Obj)} {σ:St} {s:ai},Inv X pins σ H s->X.K=K->∀ {u v:ae},RelV x u->RelV y v->∀ A:a7,A.units + 9 < cb->SeqAt.RcAt A s u v b/\cO A s u v (!b))/\Q (.bl (if neg then !b else b)) H
theorem dXo {K:Fg} (hu:X.A.units + 9 < cb) (hK:X.K=K:=by rfl):OpR X (cQ .Eq) (rEqA K false):=by
 intro pins s σ H x y v u Q I B j ⟨b,h,q⟩;exact(h I hK B j X.A hu).1 _ _ _ _ ⟨.bl b,H,I,rfl,q⟩
theorem dXp {K:Fg} (hu:X.A.units + 9 < cb) (hK:X.K=K:=by rfl):OpR X (cQ .NotEq) (rEqA K true):=by
 intro pins s σ H x y v u Q I B j ⟨b,h,q⟩;exact(h I hK B j X.A hu).2 _ _ _ _ ⟨.bl (!b),H,I,rfl,q⟩
theorem dZe {K:Fg} {neg:Bool}:OpD K (rEqA K neg) (eqD neg):=by
 intro F S H d e x y Q QD r hd he h c;have lists:∀ {xs ys:List D},lsIs S d xs->lsIs S e ys->okEs 8 xs ys=true->QD (.bl (if neg then !decide (xs=ys) else decide (xs=ys))) S->rEqA K neg x y H Q:=by
  intro xs ys Y U o q;obtain⟨a,us,rfl,s1,R⟩:=lsIs.sl r hd Y;obtain⟨a2,us2,rfl,s2,p2⟩:=lsIs.sl r he U;refine⟨_,λ{X pins σ s} I j u v ru rv A B=>?_,c.bl r q⟩;subst j;cases ru;cases rv;exact dXn I s1 s2 R p2 o B λq O z L o=>eq3 I 8 (show A.units + 1 + 8 < cb by lia) q O z L o
 have plain:okE 9 d e=true->QD (.bl (if neg then !decide (d=e) else decide (d=e))) S->rEqA K neg x y H Q:=by
  intro o q;refine⟨_,λ{X pins σ s} I j u v ru rv A B=>?_,c.bl r q⟩;subst j
  have:=eq3 I 9 B hd he ru rv o
  exact⟨this.rc,this.ne⟩
 cases d with
 | ref a=>obtain⟨xs,ys,h1,h2,J,G⟩:=h;exact lists h1 h2 J G
 | lst xs =>
  cases e with
  | ref a=>obtain⟨ys,h2,J,G⟩:=h;exact lists rfl h2 J G
  | _=>exact plain h.1 h.2
 | _=>exact plain h.1 h.2
mutual
def plain:D->Bool
 | .non=>true
 | .bl _=>true
 | .int _=>true
 | .str _=>true
 | .tup xs=>aZn xs
 | _=>false
def aZn:List D->Bool
 | []=>true
 | x::xs=>plain x && aZn xs
end
mutual
theorem cQh (I:Inv X pins σ H s):∀ {d e:D} {v:V},plain d=true->plain e=true->RepV X.K M H d v->RepV X.K M H e v->d=e
 | .tup ds,e,v,p,p',h,h'=>by
  cases e with
  | tup es =>
   unfold RepV at h h';obtain⟨a,xs,rfl,t,l⟩:=h;obtain⟨b,ys,e1,j,B⟩:=h';cases e1
   have:=I.tuple_inj t.sq j.sq
   subst this;unfold plain at p p';rw[bXe I p p' l B]
  | lst _=>cases p'
  | ref _=>cases p'
  | ty _=>cases p'
  | _ =>
   unfold RepV at h h';obtain⟨a,xs,e1,_⟩:=h;rw[h'] at e1;cases e1
 | .non,e,v,p,p',h,h'=>by
  cases e <;> first | rfl | (cases p';done) | (unfold RepV at h h';rw[h] at h';cases h';done) | (unfold RepV at h h';obtain⟨a,xs,e1,_⟩:=h';rw[h] at e1;cases e1)
 | .bl _,e,v,p,p',h,h'=>by
  cases e <;> first | (cases p';done) | (unfold RepV at h h';rw[h] at h';cases h';done) | (unfold RepV at h h';rw[h] at h';cases h';rfl) | (unfold RepV at h h';obtain⟨a,xs,e1,_⟩:=h';rw[h] at e1;cases e1)
 | .int _,e,v,p,p',h,h'=>by
  cases e <;> first | (cases p';done) | (unfold RepV at h h';rw[h] at h';cases h';done) | (unfold RepV at h h';rw[h] at h';cases h';rfl) | (unfold RepV at h h';obtain⟨a,xs,e1,_⟩:=h';rw[h] at e1;cases e1)
 | .str _,e,v,p,p',h,h'=>by
  cases e <;> first | (cases p';done) | (unfold RepV at h h';rw[h] at h';cases h';done) | (unfold RepV at h h';rw[h] at h';cases h';rfl) | (unfold RepV at h h';obtain⟨a,xs,e1,_⟩:=h';rw[h] at e1;cases e1)
 | .ty _,e,v,p,p',h,h'=>by cases p
 | .ref _,e,v,p,p',h,h'=>by cases p
 | .lst _,e,v,p,p',h,h'=>by cases p
theorem bXe (I:Inv X pins σ H s):∀ {ds es:List D} {vs:List V},aZn ds=true->aZn es=true->RepL X.K M H ds vs->RepL X.K M H es vs->ds=es
 | [],es,vs,p,B,l,j=>by
  have h1:=l.length;have h2:=j.length;rw[h1] at h2;exact(cL h2.symm).symm
 | d::ds,[],vs,p,B,l,j=>by have h1:=l.length;have h2:=j.length;rw[h1] at h2;simp at h2
 | d::ds,e::es,vs,p,B,l,j=>by
  unfold RepL at l j;obtain⟨v,vs,rfl,r,l⟩:=l;obtain⟨L,G,e1,J,j⟩:=j;cases e1;simp only[aZn,aQ] at p B;rw[cQh I p.1 B.1 r J,bXe I p.2 B.2 l j]
end
theorem aJ8:∀ {ds:List D},aZn ds=true->∀ d∈ds,plain d=true
 | [],_,d,h=>by cases h
 | x::ds,p,d,h=>by
  simp only[aZn,aQ] at p;rcases aB.mp h with rfl | h
  ·exact p.1
  ·exact aJ8 p.2 d h
def rInA (K:Fg) (neg:Bool):R2:=λx y H Q=>∃ p xs b,y=.ref p/\(SqL K H p xs\/SqT K H p xs) /\
 (∀ {X:Cx} {pins:List (Addr × Obj)} {σ:St} {s:ai},Inv X pins σ H s->X.K=K->∀ {v:ae} {us:List ae},RelV x v->Vals xs us->∀ A:a7,A.units + 9 < cb->∃ f:ae->Bool,(∀ u∈us,dD A s u v (f u))/\us.any f=b)/\Q (.bl (if neg then !b else b)) H
theorem dXq {K:Fg} (hu:X.A.units + 10 < cb) (hK:X.K=K:=by rfl):OpR X (cQ .In) (rInA K false):=by
 intro pins s σ H x y v u Q I D ry h;obtain⟨p,xs,b,rfl,B,hf,q⟩:=h;cases ry;rw[<- hK] at B;rcases B with B | B
 ·obtain⟨j,r,pl,G⟩:=I.list B;obtain⟨f,f1,f2⟩:=hf I hK D r X.A.in1 (show X.A.units + 1 + 9 < cb by lia)
  refine SeqAt.in_listAt f pl.isList (λw hw=>f1 w (by simpa using hw)) ⟨.bl _,H,I,rfl,?_⟩
  rw[show j.toArray.any f=j.any f by simp,f2]
  exact q
 ·obtain⟨j,r,pl,G⟩:=I.tuple B;obtain⟨f,f1,f2⟩:=hf I hK D r X.A.in1 (show X.A.units + 1 + 9 < cb by lia)
  refine SeqAt.in_tupleAt f pl (λw hw=>f1 w (by simpa using hw)) ⟨.bl _,H,I,rfl,?_⟩
  rw[show j.toArray.any f=j.any f by simp,f2]
  exact q
theorem eQr {K:Fg} (hu:X.A.units + 10 < cb) (hK:X.K=K:=by rfl):OpR X (cQ .NotIn) (rInA K true):=by
 intro pins s σ H x y v u Q I D ry h;obtain⟨p,xs,b,rfl,B,hf,q⟩:=h;cases ry;rw[<- hK] at B;rcases B with B | B
 ·obtain⟨j,r,pl,G⟩:=I.list B;obtain⟨f,f1,f2⟩:=hf I hK D r X.A.in1 (show X.A.units + 1 + 9 < cb by lia)
  refine SeqAt.notIn_listAt f pl.isList (λw hw=>f1 w (by simpa using hw)) ⟨.bl _,H,I,rfl,?_⟩
  rw[show j.toArray.any f=j.any f by simp,f2]
  exact q
 ·obtain⟨j,r,pl,G⟩:=I.tuple B;obtain⟨f,f1,f2⟩:=hf I hK D r X.A.in1 (show X.A.units + 1 + 9 < cb by lia)
  refine SeqAt.notIn_tupleAt f pl (λw hw=>f1 w (by simpa using hw)) ⟨.bl _,H,I,rfl,?_⟩
  rw[show j.toArray.any f=j.any f by simp,f2]
  exact q
def inD (neg:Bool):R2D:=λd e S Q=>∃ xs,sqIs S e xs/\aZn xs=true/\(xs.all λy=>okE 8 y d)=true/\Q (.bl (if neg then !decide (d∈xs) else decide (d∈xs))) S
theorem fQo (I:Inv X pins σ H s) {d:D} {x:V} {v:ae} (rx:RelV x v) (hd:RepV X.K M H d x) {A:a7} (hA:A.units + 9 < cb):∀ {xs:List V} {us:List ae} {ds:List D},RepL X.K M H ds xs->Vals xs us->aZn ds=true->(ds.all λy=>okE 8 y d)=true ->
  ∃ f:ae->Bool,(∀ u∈us,dD A s u v (f u))/\us.any f=decide (d∈ds):=by
 classical
 intro xs us ds l r p o;have key:∀ {y:V} {u:ae} {e:D},e∈ds->RepV X.K M H e y->RelV y u->decide (∃ y e,e∈ds/\RepV X.K M H e y/\RelV y u/\e=d)=decide (e=d):=by
  intro y u e hm he j
  congr 1
  refine propext ⟨λ⟨Z,Y,G,h1,h2,R⟩=>?_,λh=>⟨y,e,hm,he,j,h⟩⟩
  have:=h2.inj j
  subst this;rw[<- R];exact cQh I (aJ8 p e hm) (aJ8 p Y G) he h1
 refine⟨λu=>decide (∃ y e,e∈ds/\RepV X.K M H e y/\RelV y u/\e=d),?_,?_⟩
 ·intro u O;obtain⟨i,hi,rfl⟩:=bO O;have h1:=r.length;have h2:=l.length;obtain⟨e,U,re⟩:=l.get' (ah (show i < xs.length by lia))
  obtain⟨u',eu,j⟩:=r.get (ah (show i < xs.length by lia))
  rw[ah hi] at eu;cases eu;have hm:e∈ds:=ak U;show dD A s us[i] v (decide (∃ y e,e∈ds/\RepV X.K M H e y/\RelV y us[i]/\e=d));rw[key hm re j];exact(eq3 I 8 (by lia) re hd j rx (bF.mp o e hm)).eq
 ·have gen:∀ {zs:List V} {ws:List ae} {es:List D},RepL X.K M H es zs->Vals zs ws->(∀ e∈es,e∈ds)->ws.any (λu=>decide (∃ y e,e∈ds/\RepV X.K M H e y/\RelV y u/\e=d))=decide (d∈es):=by
   intro zs ws es
   induction es generalizing zs ws with
   | nil =>
    intro l r _;unfold RepL at l;subst l;cases r;simp
   | cons e es L =>
    intro l r hm;unfold RepL at l;obtain⟨z,zs,rfl,B,J⟩:=l;cases r with
    | cons q t =>
     rw[jz,key (hm e am) B q,L J t λe he=>hm e (ao _ he)]
     by_cases h:e=d
     ·simp[h]
     ·have h':¬ d=e:=λz=>h z.symm;simp[h,h']
  exact gen l r λ_ h=>h
theorem eQs {K:Fg} {neg:Bool}:OpD K (rInA K neg) (inD neg):=by
 intro F S H d e x y Q QD r hd he ⟨ds,D,p,o,q⟩ c;obtain⟨a,xs,rfl,sq,l⟩:=D.sq r he;refine⟨a,xs,decide (d∈ds),rfl,sq,λ{X pins σ s} I G {v us} j B A J=>?_,c.bl r q⟩;subst G;exact fQo I j hd J l B p o
variable {K:Fg} {a b:Expr} {ta tb:ED} {pos:Pos} {k:Nat}
theorem lt10 {n:Nat} {A:a7} (r:Room k A) (h:n<=64:=by decide):A.units + n < cb:=by have:=r.units;lia
theorem e_eq (hr:Room k X.A) (ha:PD K X a ta) (hb:PD K X b tb) (hK:X.K=K:=by rfl):PD K X (.Compare a [.Eq] [b] pos) (dOp (eqD false) ta tb):=dZd (dXo (lt10 hr) hK) dZe ha hb (nomark _)
theorem e_ne (hr:Room k X.A) (ha:PD K X a ta) (hb:PD K X b tb) (hK:X.K=K:=by rfl):PD K X (.Compare a [.NotEq] [b] pos) (dOp (eqD true) ta tb):=dZd (dXp (lt10 hr) hK) dZe ha hb (nomark _)
theorem bQe (hr:Room k X.A) (ha:PD K X a ta) (hb:PD K X b tb) (hK:X.K=K:=by rfl):PTD K X (.Compare a [.Eq] [b] pos) (aJ7 (dOp (eqD false) ta tb)):=aXs (dXo (lt10 hr) hK) dZe ha hb (nomark _)
theorem eQt (hr:Room k X.A) (ha:PD K X a ta) (hb:PD K X b tb) (hK:X.K=K:=by rfl):PTD K X (.Compare a [.NotEq] [b] pos) (aJ7 (dOp (eqD true) ta tb)):=aXs (dXp (lt10 hr) hK) dZe ha hb (nomark _)
theorem e_in (hr:Room k X.A) (ha:PD K X a ta) (hb:PD K X b tb) (hm:eL .In b=false:=by rfl) (hK:X.K=K:=by rfl):PD K X (.Compare a [.In] [b] pos) (dOp (inD false) ta tb):=dZd (dXq (lt10 hr) hK) eQs ha hb hm
theorem fQp (hr:Room k X.A) (ha:PD K X a ta) (hb:PD K X b tb) (hm:eL .In b=false:=by rfl) (hK:X.K=K:=by rfl):PTD K X (.Compare a [.In] [b] pos) (aJ7 (dOp (inD false) ta tb)):=aXs (dXq (lt10 hr) hK) eQs ha hb hm
theorem cQi (hr:Room k X.A) (ha:PD K X a ta) (hb:PD K X b tb) (hm:eL .NotIn b=false:=by rfl) (hK:X.K=K:=by rfl):PTD K X (.Compare a [.NotIn] [b] pos) (aJ7 (dOp (inD true) ta tb)):=aXs (eQr (lt10 hr) hK) eQs ha hb hm
end
end L2
namespace HT
open PySem PySem.Spec PyProof.Rows
section
variable {prog:aC} {w:aR} {A:a7} {E:ae->ai->Prop} {s:ai}
theorem tup_slice {t sl : Addr} {items : Array ae} {Q : ae -> ai -> Prop} (ht : jh s.heap t items) (hTs : s.TypeIs (.ref sl) "slice")
    (h : ∀ A, aE (aJ prog w) A (fN (.ref sl) (pure (items.size : Int))) (λr s' => s' = s /\
      ((r.1 = 0 /\ r.2.1 = 1 /\ r.2.2 = items.size /\ Q (.ref t) s) \/
       (¬ (r.1 == 0 && r.2.1 == 1 && r.2.2 == items.size) = true /\ sizeOk (.seq ((aH r.2.2).filterMap λ(k : Nat) => items[(r.1 + (k : Int) * r.2.1).toNat]?).toArray) /\ Q (.ref s.heap.objs.size) { s with heap := s.heap.push { cls := .type "tuple", data := .seq ((aH r.2.2).filterMap λ(k : Nat) => items[(r.1 + (k : Int) * r.2.1).toNat]?).toArray } }))) E s) :
    aE (aJ prog w) A (j0 (.ref t) (.ref sl)) Q E s := by
  unfold j0
  try with_reducible refine bW ?_
  first | refine aa (ad ?_) | skip
  refine aa (wpAny_sequenceKey ht.typeIs (by decide) ?_)
  refine aa (bK (name := aG "__getitem__") ht.typeIs cC
    (bI cC ht.typeIs entry_tuple_getitem ?_ (args_tuple_getitem _ _)))
  show aE _ _ (fO (.ref t) >>= _) _ _ s;refine aa (tupleItemsOf_ ht (aa (gK hTs ?_)));rw [if_pos (by decide)]
  refine aa (e9 (h _) (λr s' ⟨e, q⟩ => ?_) λ_ _ x => x);subst e;obtain⟨lo, st, n⟩ := r;show aE _ _ (if (lo == 0 && st == 1 && n == items.size) = true then _ else _) _ _ _
  rcases q with⟨h1, h2, D, q⟩ | ⟨B, j, q⟩
  · have J : lo = 0 := h1
    have I : st = 1 := h2;have G : n = items.size := D;rw [if_pos (by rw [J, I, G]; simp)]
    unfold b4.Tuple.tupleIsExact;refine aa (aa (gK ht.typeIs (ad ?_)));rw [if_pos (by decide)]
    refine aa (dN ?_)
    first
      | exact ad ⟨_, rfl, ad q⟩
      | exact aa (ad ⟨_, rfl, ad q⟩)
      | exact aa (ad (ad ⟨_, rfl, ad q⟩))
  · rw [if_neg B]
    first
      | exact aa (m := cA _) (bA (ad ⟨_, rfl, ad q⟩) j)
      | exact aa (m := cA _) (bA (aa (ad (ad ⟨_, rfl, ad q⟩))) j)
      | exact aa (aa (m := cA _) (bA (ad (ad ⟨_, rfl, ad q⟩)) j))
      | exact aa (aa (m := cA _) (bA (ad ⟨_, rfl, ad q⟩) j))
end
end HT
namespace L2
open PySem PySem.Spec PyProof.Rows
section
variable {X:Cx} {K:Fg}
def rSlW (K:Fg):V->Option Int->Option Int->Hp->VK->Prop:=λx lo hi H Q=>∃ a xs,x=.ref a/\SqT K H a xs/\HT.sIx xs.length 0 lo=0/\HT.sIx xs.length xs.length hi=xs.length/\Q (.ref a) H
theorem eQu (hK:X.K=K:=by rfl):SlR X (rSlW K):=by
 subst hK;intro pins s σ H x v Y U lo hi sl Q I rx J pl pu h;obtain⟨a,xs,rfl,L,h0,O,q⟩:=h;cases rx;obtain⟨j,r,G,Z⟩:=I.tuple L;have hlen:j.toArray.size=xs.length:=by rw[ar];exact r.length.symm
 obtain⟨os,B,D,R⟩:=id J;refine⟨"tuple",_,cC.lookup,G.typeIs,HT.tup_slice G ⟨os,B,D⟩ λA=>HT.sliceApplied_gen J pl pu ⟨rfl,.inl ⟨?_,rfl,?_,.ref a,H,I,rfl,q⟩⟩⟩
 ·show((HT.sIx j.toArray.size 0 lo:Nat):Int)=0;rw[hlen,h0];rfl
 ·show HT.sIx j.toArray.size j.toArray.size hi - HT.sIx j.toArray.size 0 lo=j.toArray.size;rw[hlen,h0,O];rfl
end
end L2
set_option maxHeartbeats 1000000
namespace L2
open PySem PySem.Spec PyProof.Rows
section
variable {X:Cx} {K:Fg} {a b:Expr} {ta tb:ED} {pos:Pos} {k:Nat}
def ltD:R2D:=λd e S Q=>match d,e with
 | .int i,.int j=>Q (.bl (decide (i < j))) S
 | .str x,.str y=>Q (.bl (HT.ltS x y)) S
 | .tup xs,.tup ys=>∃ as bs,xs=as.map D.str/\ys=bs.map D.str/\Q (.bl (HT.lexS as bs)) S
 | _,_=>False
def rLtA (K:Fg):R2:=λx y H Q=>rI0 (λi j=>.bl (decide (i < j))) x y H Q\/(∃ i j,x=.str i/\y=.str j/\Q (.bl (decide (i.cps.toList < j.cps.toList))) H)\/rLtS K x y H Q
theorem fQq (hu:X.A.units < cb) (hK:X.K=K:=by rfl):OpR X (cQ .Lt) (rLtA K):=op_lt.or (op_lt_str.or (eQa hu hK))
theorem aJ9 {M:Am} {H:Hp}:∀ {as:List Str} {xs:List V},RepL K M H (as.map D.str) xs->a8 (dS H) xs as
 | [],xs,h=>by rw[fx] at h;unfold RepL at h;subst h;exact .nil
 | a::as,xs,h=>by
  rw[aL] at h;unfold RepL at h;obtain⟨v,vs,rfl,r,l⟩:=h;unfold RepV at r;exact .cons r (aJ9 l)
theorem cJa {M:Am} {H:Hp}:∀ {as:List Str} {xs:List V},a8 (dS H) xs as->RepL K M H (as.map D.str) xs
 | _,_,.nil=>RepL.nil
 | _,_,.cons r l=>RepL.cons (by unfold RepV;exact r) (cJa l)
theorem bZd {S:Sto} {F:Am} {H:Hp} {as:List Str} {v:V} (h:RepV K (mt S F) H (.tup (as.map D.str)) v):dT K dS H v as:=by
 obtain⟨a,xs,rfl,t,l⟩:=tup.st h;exact⟨a,xs,rfl,t,aJ9 l⟩
theorem fJa:OpD K (rLtA K) ltD:=by
 intro F S H d e x y Q QD r hd he h c;cases d with
 | int i =>
  cases e with
  | int j=>rw[rint hd,rint he];exact .inl ⟨i,j,rfl,rfl,c.bl r h⟩
  | _=>exact h.elim
 | str i =>
  cases e with
  | str j=>rw[rstr hd,rstr he];exact .inr (.inl ⟨i,j,rfl,rfl,c.bl r h⟩)
  | _=>exact h.elim
 | tup xs =>
  cases e with
  | tup ys =>
   obtain⟨as,bs,rfl,rfl,q⟩:=h;exact .inr (.inr ⟨as,bs,bZd hd,bZd he,c.bl r q⟩)
  | _=>exact h.elim
 | _=>exact h.elim
theorem fJb (hr:Room k X.A) (ha:PD K X a ta) (hb:PD K X b tb) (hK:X.K=K:=by rfl):PTD K X (.Compare a [.Lt] [b] pos) (aJ7 (dOp ltD ta tb)):=aXs (fQq hr.units0 hK) fJa ha hb (nomark _)
abbrev gtD:R2D:=iiD0 λi j=>.bl (decide (j < i))
abbrev geD:R2D:=iiD0 λi j=>.bl (decide (j<=i))
theorem fJc (hr:Room k X.A) (ha:PD K X a ta) (hb:PD K X b tb):PTD K X (.Compare a [.Gt] [b] pos) (aJ7 (dOp gtD ta tb)):=aXs fXt fQm ha hb (nomark _)
theorem fQr (hr:Room k X.A) (ha:PD K X a ta) (hb:PD K X b tb):PTD K X (.Compare a [.GtE] [b] pos) (aJ7 (dOp geD ta tb)):=aXs fXu fQm ha hb (nomark _)
def cJb:D->Bool
 | .non=>true
 | _=>false
def isD (neg:Bool):R2D:=λd e S Q=>match d,e with
 | .bl x,.bl y=>Q (.bl (if neg then x != y else x == y)) S
 | d,.non=>Q (.bl (if neg then !cJb d else cJb d)) S
 | _,_=>False
def rIsA (neg:Bool):R2:=λx y H Q=>(∃ i j,x=.bl i/\y=.bl j/\Q (.bl (if neg then i != j else i == j)) H)\/(y=.non/\Q (.bl (if neg then !decide (x=.non) else decide (x=.non))) H)
theorem dXr:OpR X (cQ .Is) (rIsA false):=OpR.or (by
 intro pins s σ H x y v u Q I rx ry h;obtain⟨i,j,rfl,rfl,q⟩:=h;cases rx;cases ry;exact is_bool ⟨.bl _,H,I,rfl,q⟩) eJb
theorem dZf {M:Am} {H:Hp} {d:D} {x:V} (h:RepV K M H d x):decide (x=.non)=cJb d:=by
 cases d <;> unfold RepV at h <;> first | (rw[h];rfl) | (obtain⟨a,xs,rfl,_⟩:=h;rfl) | skip
theorem fQs {neg:Bool}:OpD K (rIsA neg) (isD neg):=by
 intro F S H d e x y Q QD r hd he h c;have non:e=.non->QD (.bl (if neg then !cJb d else cJb d)) S->rIsA neg x y H Q:=by
  rintro rfl q;rw[rnon he];refine .inr ⟨rfl,?_⟩;rw[dZf hd];exact c.bl r q
 cases e with
 | non=>exact non rfl (by cases d <;> exact h)
 | bl j =>
  cases d with
  | bl i=>rw[rbl hd,rbl he];exact .inl ⟨i,j,rfl,rfl,c.bl r h⟩
  | _=>exact h.elim
 | _=>cases d <;> exact h.elim
theorem e_is (hr:Room k X.A) (ha:PD K X a ta) (hb:PD K X b tb):PD K X (.Compare a [.Is] [b] pos) (dOp (isD false) ta tb):=dZd dXr fQs ha hb (nomark _)
theorem fJd (hr:Room k X.A) (ha:PD K X a ta) (hb:PD K X b tb):PTD K X (.Compare a [.Is] [b] pos) (aJ7 (dOp (isD false) ta tb)):=aXs dXr fQs ha hb (nomark _)
def fJe (ta tb:ED):ED:=fun Γ S Q=>ta Γ S λx S1=>∃ c,x=.bl c/\if c=true then tb Γ S1 Q else Q (.bl false) S1
def fJf (ta:ED):ED:=fun Γ S Q=>ta Γ S λx S1=>∃ c,x=.bl c/\Q (.bl (!c)) S1
theorem fQt {op} (h:PD K X a ta):PD K X (.BoolOp op [a] pos) ta:=⟨eXy h.o⟩
theorem eQv {rest:List Expr} (ha:PD K X a ta) (hb:PD K X (.BoolOp .And (b::rest) pos) tb):PD K X (.BoolOp .And (a::b::rest) pos) (fJe ta tb):=.of (eXz ha.o hb.o) fun σ H Q I=>I.el λF S Γ QD r g q c =>
 ⟨F,S,Γ,_,r,g,q,λv d H1 O j B v1 G=>by
  obtain⟨z,e,D⟩:=G;subst e;refine⟨z,rbl v1,?_⟩;cases z with
  | true=>exact⟨F,O,Γ,QD,B,g.ext j,D,λv z R L J=>c v z R L (j.trans J)⟩
  | false=>exact(Cn.shift c j).bl B D⟩
theorem fJg (ha:PD K X a ta):PD K X (.UnaryOp .Not a pos) (fJf ta):=.of (eJ0 ha.o) fun σ H Q B=>B.el λF S Γ QD r g q c =>
 ⟨F,S,Γ,_,r,g,q,λv d H1 J D G v1 j=>by
  obtain⟨z,e,I⟩:=j;subst e;exact⟨z,rbl v1,(Cn.shift c D).bl G I⟩⟩
structure PWD (K:Fg) (X:Cx) (e:Expr) (t:TD):Prop where
 o:PW X e (upT K t)
def dAnd (t u:TD):TD:=fun Γ S Q=>t Γ S λc S1=>if c=true then u Γ S1 Q else Q false S1
def dOr (t u:TD):TD:=fun Γ S Q=>t Γ S λc S1=>if c=true then Q true S1 else u Γ S1 Q
def dNot (t:TD):TD:=fun Γ S Q=>t Γ S λc S1=>Q (!c) S1
section
variable {tA tB':TD} {rest:List Expr}
theorem PWD.pt {e:Expr} {t:TD} (h:PWD K X e t):PTD K X e t:=⟨PW.pt h.o⟩
theorem PWD.of {e:Expr} {te:TT} {t:TD} (h:PW X e te) (i:∀ σ H Q,upT K t σ H Q->te σ H Q):PWD K X e t:=⟨λj pins s σ H Q I q=>h j pins s σ H Q I (i σ H Q q)⟩
theorem cJc (ha:PTD K X a tA):PWD K X (.BoolOp .And [a] pos) tA:=⟨dJe ha.o⟩
theorem fQu (ha:PTD K X a tA):PWD K X (.BoolOp .Or [a] pos) tA:=⟨eXv ha.o⟩
theorem dXs (ha:PTD K X a tA) (hb:PWD K X (.BoolOp .And (b::rest) pos) tB'):PWD K X (.BoolOp .And (a::b::rest) pos) (dAnd tA tB'):=.of (eXw ha.o hb.o) fun σ H Q G=>G.el λF S Γ QD r g q c =>
 ⟨F,S,Γ,_,r,g,q,λz H1 L j B D=>by
  cases z with
  | true=>exact⟨F,L,Γ,QD,B,g.ext j,D,λz O J I=>c z O J (j.trans I)⟩
  | false=>exact c _ _ _ j B D⟩
theorem fJh (ha:PTD K X a tA) (hb:PWD K X (.BoolOp .Or (b::rest) pos) tB'):PWD K X (.BoolOp .Or (a::b::rest) pos) (dOr tA tB'):=.of (fXj ha.o hb.o) fun σ H Q G=>G.el λF S Γ QD r g q c =>
 ⟨F,S,Γ,_,r,g,q,λz H1 L j B D=>by
  cases z with
  | false=>exact⟨F,L,Γ,QD,B,g.ext j,D,λz O J I=>c z O J (j.trans I)⟩
  | true=>exact c _ _ _ j B D⟩
theorem cQj (ha:PTD K X a tA):PTD K X (.UnaryOp .Not a pos) (dNot tA):=.of (eXx ha.o) fun σ H Q j=>j.el λF S Γ QD r g q c=>⟨F,S,Γ,_,r,g,q,λz H1 I B D G=>c _ _ _ B D G⟩
def dIf (t:TD) (ta tb:ED):ED:=fun Γ S Q=>t Γ S λc S1=>if c=true then ta Γ S1 Q else tb Γ S1 Q
theorem eQw {c:Expr} (hc:PTD K X c tA) (ha:PD K X a ta) (hb:PD K X b tb):PD K X (.IfExp c a b pos) (dIf tA ta tb):=.of (dQm hc.o ha.o hb.o) fun σ H Q O=>O.el λF S Γ QD r g q c =>
 ⟨F,S,Γ,_,r,g,q,λz H1 L j I J=>by
  cases z with
  | true=>exact⟨F,L,Γ,QD,I,g.ext j,J,λv z G D B=>c v z G D (j.trans B)⟩
  | false=>exact⟨F,L,Γ,QD,I,g.ext j,J,λv z G D B=>c v z G D (j.trans B)⟩⟩
end
def truD (S:Sto) (d:D) (k:Bool->Prop):Prop:=match d with
 | .non=>k false
 | .bl b=>k b
 | .int i=>k (i != 0)
 | .str x=>x.length<=sizeLine/\k ((x.length:Int) != 0)
 | .tup xs=>k (!xs.isEmpty)
 | .lst xs=>k (!xs.isEmpty)
 | .ref a=>∃ xs,S a=some (.lst xs)/\k (!xs.isEmpty)
 | .ty _=>False
def dTru (ta:ED):TD:=fun Γ S Q=>ta Γ S λd S1=>truD S1 d λb=>Q b S1
theorem cJd {M:Am} {H:Hp} {ds:List D} {xs:List V} (l:RepL K M H ds xs):(!xs.isEmpty)=!ds.isEmpty:=by
 have:=l.length
 cases ds <;> cases xs <;> first | rfl | simp at this
theorem aJg (ha:PD K X a ta) (he:∀ whole,isTrue a X.env whole=(do let v <- whole;standAt a.pos;io [v] (truthy v)):=by intro _;rfl) (hK:X.K=K:=by rfl):PTD K X a (dTru ta):=.of (cJ0 (K:=K) ha.o he hK) fun σ H Q I=>I.el λF S Γ QD r g q c =>
 ⟨F,S,Γ,_,r,g,q,λv d H1 G D B v1 j=>by
  cases d with
  | non=>rw[rnon v1];exact⟨false,rfl,c _ _ _ D B j⟩
  | bl b=>rw[rbl v1];exact⟨b,rfl,c _ _ _ D B j⟩
  | int b=>rw[rint v1];exact⟨_,rfl,c _ _ _ D B j⟩
  | str b=>rw[rstr v1];exact⟨_,⟨j.1,rfl⟩,c _ _ _ D B j.2⟩
  | ty b=>exact j.elim
  | tup xs =>
   obtain⟨p,us,rfl,t,l⟩:=tup.st v1;exact⟨_,.inr (.inl ⟨us,t,rfl⟩),c _ _ _ D B (by rw[cJd l];exact j)⟩
  | lst xs =>
   obtain⟨p,us,rfl,t,l⟩:=lsIs.sl B v1 (show lsIs G (.lst xs) xs from rfl)
   exact⟨_,.inl ⟨us,t,rfl⟩,c _ _ _ D B (by rw[cJd l];exact j)⟩
  | ref p =>
   obtain⟨xs,e,j⟩:=j;obtain⟨p,us,rfl,t,l⟩:=lsIs.sl B v1 (show lsIs G (.ref p) xs from e)
   exact⟨_,.inl ⟨us,t,rfl⟩,c _ _ _ D B (by rw[cJd l];exact j)⟩⟩
section
variable {e:Expr} {t:AD} {p:Pos}
def lenD:RCD:=λds S Q=>match ds with
 | [.str x]=>x.length<=sizeLine/\Q (.int x.length) S
 | [d]=>∃ xs,sqIs S d xs/\Q (.int xs.length) S
 | _=>False
theorem cJe (hK:X.K=K:=by rfl):CallR X (.builtin "len") (λxs H Q=>∃ x n,xs=[x]/\LenV K x H n/\Q (.int n) H):=hK ▸ dQq
theorem fQv:bXd K (λxs H Q=>∃ x n,xs=[x]/\LenV K x H n/\Q (.int n) H) lenD:=by
 intro F S H ds vs Q QD r l h c
 match ds,h with
 | [d],h =>
  obtain⟨v,rfl,j⟩:=l.one;have seq:(∃ xs,sqIs S d xs/\QD (.int xs.length) S)->∃ x n,[v]=[x]/\LenV K x H n/\Q (.int n) H:=by
   rintro⟨xs,h1,q⟩;obtain⟨a,us,rfl,sq,l⟩:=h1.sq r j;refine⟨_,xs.length,rfl,?_,c.int r q⟩;rcases sq with sq | sq
   ·exact .inl ⟨us,sq,l.length.symm⟩
   ·exact .inr ⟨us,sq,l.length.symm⟩
  cases d with
  | str x=>rw[rstr j];exact⟨_,x.length,rfl,⟨h.1,rfl⟩,c.int r h.2⟩
  | _=>exact seq h
 | [],h=>exact h.elim
 | d::_::_,h=>cases d <;> exact h.elim
theorem aZx (hg:Gl X "len") (hm:X.mg "len" = none) (ha:PAD K X [e] t) (hK:X.K=K:=by rfl) (he:av [e] X.env=(false,eval e X.env)::av [] X.env:=by rfl) (hpl:(cz pos (av [] X.env)).any (·.1)=false:=by rfl):PD K X (.Call (.Name "len" p) [e] [] pos) (dCB lenD t):=aXh (cJe hK) fQv hg hm eJn ha (by decide) (by decide) he hpl
def tupD:RCD:=λds S Q=>match ds with
 | [d]=>∃ xs,sqIs S d xs/\Q (.tup xs) S
 | _=>False
theorem fQw:bXd K (λxs H Q=>∃ p ys,xs=[.ref p]/\((SqL K H p ys/\∀ l,H l=none->Q (.ref l) (upd H l (.tup ys)))\/(SqT K H p ys/\Q (.ref p) H))) tupD:=by
 intro F S H ds vs Q QD r l h c
 match ds,h with
 | [d],⟨xs,h1,q⟩ =>
  obtain⟨v,rfl,j⟩:=l.one;cases d with
  | tup ys =>
   cases h1;obtain⟨a,us,rfl,sq,l⟩:=tup.st j;exact⟨a,us,rfl,.inr ⟨sq,c.here r j q⟩⟩
  | lst ys =>
   obtain⟨a,us,rfl,sq,l⟩:=lsIs.sl r j (show lsIs S (.lst ys) xs from h1)
   exact⟨a,us,rfl,.inl ⟨sq,λp B=>c.tup r B l q⟩⟩
  | ref y =>
   obtain⟨a,us,rfl,sq,l⟩:=lsIs.sl r j (show lsIs S (.ref y) xs from h1)
   exact⟨a,us,rfl,.inl ⟨sq,λp B=>c.tup r B l q⟩⟩
  | _=>exact h1.elim
theorem aZk (hg:Gl X "tuple") (hm:X.mg "tuple" = none) (ha:PAD K X [e] t) (hK:X.K=K:=by rfl) (he:av [e] X.env=(false,eval e X.env)::av [] X.env:=by rfl) (hpl:(cz pos (av [] X.env)).any (·.1)=false:=by rfl):PD K X (.Call (.Name "tuple" p) [e] [] pos) (dCB tupD t):=cQg (bJ6 hK) fQw hg hm bZ0 ha (by decide) (by decide) he hpl
def intD:RCD:=λds S Q=>match ds with
 | [.int i]=>Q (.int i) S
 | [.bl k]=>Q (.int (if k then 1 else 0)) S
 | _=>False
theorem cJf (hg:Gl X "int") (hm:X.mg "int" = none) (ha:PAD K X [e] t) (he:av [e] X.env=(false,eval e X.env)::av [] X.env:=by rfl) (hpl:(cz pos (av [] X.env)).any (·.1)=false:=by rfl):PD K X (.Call (.Name "int" p) [e] [] pos) (dCB intD t):=cQg cX4 (by
 intro F S H ds vs Q QD r l h c
 match ds,h with
 | [.int i],h=>obtain⟨v,rfl,j⟩:=l.one;rw[rint j];exact .inl ⟨i,rfl,c.int r h⟩
 | [.bl i],h=>obtain⟨v,rfl,j⟩:=l.one;rw[rbl j];exact .inr ⟨i,rfl,c.int r h⟩) hg hm dXc ha (by decide) (by decide) he hpl
theorem cQk {M:Am} {H:Hp}:∀ {bs:List Bool} {xs:List V},RepL K M H (bs.map D.bl) xs->a8 (dB H) xs bs
 | [],xs,h=>by rw[fx] at h;unfold RepL at h;subst h;exact .nil
 | a::as,xs,h=>by
  rw[aL] at h;unfold RepL at h;obtain⟨v,vs,rfl,r,l⟩:=h;unfold RepV at r;exact .cons r (cQk l)
def quD (g:List Bool->Bool):RCD:=λds S Q=>match ds with
 | [d]=>∃ bs,lsIs S d (bs.map D.bl)/\Q (.bl (g bs)) S
 | _=>False
theorem fQx {g:List Bool->Bool}:bXd K (λxs H Q=>∃ x bs,xs=[x]/\dL K dB H x bs/\Q (.bl (g bs)) H) (quD g):=by
 intro F S H ds vs Q QD r l h c
 match ds,h with
 | [d],⟨bs,h1,q⟩ =>
  obtain⟨v,rfl,j⟩:=l.one;obtain⟨a,us,rfl,sq,l⟩:=lsIs.sl r j h1;exact⟨_,bs,rfl,⟨a,us,rfl,sq,cQk l⟩,c.bl r q⟩
theorem fJi (hg:Gl X "all") (hm:X.mg "all" = none) (ha:PAD K X [e] t) (hK:X.K=K:=by rfl) (hc:X.calm=true:=by rfl) (he:av [e] X.env=(false,eval e X.env)::av [] X.env:=by rfl) (hpl:(cz pos (av [] X.env)).any (·.1)=false:=by rfl):PD K X (.Call (.Name "all" p) [e] [] pos) (dCB (quD λbs=>bs.all id) t):=aXh (cXy hK hc) fQx hg hm eJp ha (by decide) (by decide) he hpl
theorem fJj (hg:Gl X "any") (hm:X.mg "any" = none) (ha:PAD K X [e] t) (hK:X.K=K:=by rfl) (hc:X.calm=true:=by rfl) (he:av [e] X.env=(false,eval e X.env)::av [] X.env:=by rfl) (hpl:(cz pos (av [] X.env)).any (·.1)=false:=by rfl):PD K X (.Call (.Name "any" p) [e] [] pos) (dCB (quD λbs=>bs.any id) t):=aXh (cXz hK hc) fQx hg hm eJq ha (by decide) (by decide) he hpl
def tyD:D->Option String
 | .non=>some "NoneType"
 | .bl _=>some "bool"
 | .int _=>some "int"
 | .str _=>some "str"
 | .tup _=>some "tuple"
 | .lst _=>some "list"
 | _=>none
def isiD:RCD:=λds S Q=>match ds with
 | [d,.ty T]=>∃ t b,tyD d=some t/\subT t T=some b/\Q (.bl b) S
 | _=>False
def fQy (K:Fg):List V->Hp->VK->Prop:=λxs H Q=>(∃ x T t b,xs=[x,.ty T]/\TyOf K H x (.type t)/\subT t T=some b/\Q (.bl b) H)\/(∃ a T b ys,xs=[.ref a,.ty T]/\SqT K H a ys/\subT "tuple" T=some b/\Q (.bl b) H)\/∃ a T b ys,xs=[.ref a,.ty T]/\SqL K H a ys/\subT "list" T=some b/\Q (.bl b) H
theorem cJg (hK:X.K=K:=by rfl):CallR X (.builtin "isinstance") (fQy K):=by
 subst hK;refine call_isi.or (CallR.or ?_ ?_)
 ·intro pins s σ H xs us Q I B h;obtain⟨a,T,b,ys,rfl,sq,e,q⟩:=h;obtain⟨u,c,rfl,ru,rc⟩:=B.two;cases rc;cases ru;obtain⟨D,r,p,_⟩:=I.tuple sq;obtain⟨o,h1,h2,_⟩:=p;exact cF PySem.W.kitx_tuple I.kIn ⟨o,h1,h2⟩ (cXf e) (λz=>nomatch z) λj=>⟨.bl b,H,I.tok j,rfl,q⟩
 ·intro pins s σ H xs us Q I B h;obtain⟨a,T,b,ys,rfl,sq,e,q⟩:=h;obtain⟨u,c,rfl,ru,rc⟩:=B.two;cases rc;cases ru;obtain⟨D,r,p,_⟩:=I.list sq;obtain⟨o,n,h1,h2,_⟩:=p;exact cF jl I.kIn ⟨o,h1,h2⟩ (cXf e) (λz=>nomatch z) λj=>⟨.bl b,H,I.tok j,rfl,q⟩
theorem fQz:bXd K (fQy K) isiD:=by
 intro F S H ds vs Q QD r l h c
 match ds,h with
 | [d,.ty T],⟨t,b,h1,h2,q⟩ =>
  obtain⟨v,w,rfl,j,B⟩:=l.two;unfold RepV at B;subst B;cases d with
  | non=>cases h1;rw[rnon j];exact .inl ⟨_,T,_,b,rfl,.non,h2,c.bl r q⟩
  | bl i=>cases h1;rw[rbl j];exact .inl ⟨_,T,_,b,rfl,.bl _,h2,c.bl r q⟩
  | int i=>cases h1;rw[rint j];exact .inl ⟨_,T,_,b,rfl,.int _,h2,c.bl r q⟩
  | str i=>cases h1;rw[rstr j];exact .inl ⟨_,T,_,b,rfl,.str _,h2,c.bl r q⟩
  | tup xs =>
   cases h1;obtain⟨a,us,rfl,sq,l⟩:=tup.st j;exact .inr (.inl ⟨a,T,b,us,rfl,sq,h2,c.bl r q⟩)
  | lst xs =>
   cases h1;obtain⟨a,us,rfl,sq,l⟩:=lsIs.sl r j (show lsIs S (.lst xs) xs from rfl)
   exact .inr (.inr ⟨a,T,b,us,rfl,sq,h2,c.bl r q⟩)
  | _=>cases h1
theorem cZq {e2:Expr} (hg:Gl X "isinstance") (hm:X.mg "isinstance" = none) (ha:PAD K X [e,e2] t) (hK:X.K=K:=by rfl) (he:av [e,e2] X.env=(false,eval e X.env)::av [e2] X.env:=by rfl) (hpl:(cz pos (av [e2] X.env)).any (·.1)=false:=by rfl):PD K X (.Call (.Name "isinstance" p) [e,e2] [] pos) (dCB isiD t):=aXh (cJg hK) fQz hg hm bQz ha (by decide) (by decide) he hpl
end
def ixD:R2D:=λd e S Q=>match d,e with
 | .str z,.int i=>z.length<=sizeLine/\∃ c,atI z.cps.toList i=some c/\Q (.str ⟨#[c]⟩) S
 | d,.int i=>∃ xs v,sqIs S d xs/\atI xs i=some v/\Q v S
 | _,_=>False
theorem fJk {M:Am} {H:Hp} {ds:List D} {xs:List V} (l:RepL K M H ds xs) {i:Int} {d:D} (h:atI ds i=some d):∃ v,atI xs i=some v/\RepV K M H d v:=by
 unfold atI at h ⊢;rw[l.length];cases hi:ixN ds.length i with
 | none=>rw[hi] at h;cases h
 | some j=>rw[hi] at h;exact l.get h
theorem fJl:OpD K (rIx K) ixD:=by
 intro F S H d e x y Q QD r hd he h c;have seq:∀ i,e=.int i->(∃ xs v,sqIs S d xs/\atI xs i=some v/\QD v S)->rIx K x y H Q:=by
  rintro i rfl ⟨xs,v,h1,h2,q⟩;obtain⟨a,us,rfl,sq,l⟩:=h1.sq r hd;obtain⟨u,B,j⟩:=fJk l h2;rw[rint he];rcases sq with sq | sq
  ·exact .inl ⟨a,us,i,u,rfl,rfl,sq,B,c.here r j q⟩
  ·exact .inr (.inl ⟨a,us,i,u,rfl,rfl,sq,B,c.here r j q⟩)
 cases e with
 | int i =>
  cases d with
  | str z =>
   obtain⟨h1,w,h2,q⟩:=h;rw[rstr hd,rint he];exact .inr (.inr ⟨z,i,w,rfl,rfl,h1,h2,c.str r q⟩)
  | _=>exact seq i rfl h
 | _=>cases d <;> exact h.elim
theorem eQx (hK:X.K=K:=by rfl):IxR X (rIx K):=hK ▸ eJk
theorem e_ix (ha:PD K X a ta) (hb:PD K X b tb) (hs:PlainIx b:=by exact λ_ _=>rfl) (hK:X.K=K:=by rfl):PD K X (.Subscript a b pos) (dOp ixD ta tb):=.of (pe_ix (eQx hK) ha.o hb.o hs) (dZc fJl)
abbrev OD:=Gm->Sto->(Option Int->Sto->Prop)->Prop
def upO (K:Fg) (t:OD):TO:=fun σ H Q=>∃ F S Γ QD,Rp K F S H/\RepG K (mt S F) H Γ σ/\t Γ S QD/\∀ o H' S',Ext S H S' H'->Rp K F S' H'->QD o S'->Q o H'
theorem upO.el {K:Fg} {t:OD} {σ:St} {H:Hp} {Q:Option Int->Hp->Prop} {p:Prop} (h:upO K t σ H Q) (k:∀ F S Γ QD,Rp K F S H->RepG K (mt S F) H Γ σ->t Γ S QD->(∀ o H' S',Ext S H S' H'->Rp K F S' H'->QD o S'->Q o H')->p):p:=by
 obtain⟨F,S,Γ,QD,h0,h1,h2,j⟩:=h;exact k F S Γ QD h0 h1 h2 j
structure POD (K:Fg) (X:Cx) (e:Option Expr) (t:OD):Prop where
 o:PO X e (upO K t)
def eQy:OD:=λ_ S Q=>Q none S
def fJm (t:ED):OD:=fun Γ S Q=>t Γ S λd S1=>∃ i,d=.int i/\Q (some i) S1
theorem aXi:POD K X none eQy:=⟨λpins s σ H Q I j=>j.el λF S Γ QD r g q c=>dJo pins s σ H Q I (c none H S (Ext.refl _ _) r q)⟩
theorem aZr (h:PD K X a ta):POD K X (some a) (fJm ta):=⟨λpins s σ H Q I B=>B.el λF S Γ QD r g q c=>dJp h.o pins s σ H Q I ⟨F,S,Γ,_,r,g,q,λv d H1 L D G v1 j=>by
 obtain⟨i,e,J⟩:=j;subst e;exact⟨i,rint v1,c _ _ _ D G J⟩⟩⟩
def cutD (xs:List D) (lo hi:Option Int):List D:=(xs.drop (HT.sIx xs.length 0 lo)).take (HT.sIx xs.length xs.length hi - HT.sIx xs.length 0 lo)
def slD (b:Bool) (d:D) (lo hi:Option Int) (S:Sto) (Q:DK):Prop:=match d with
 | .str z=>z.length<=1000000/\Q (.str (cutS z lo hi)) S
 | .tup xs=>Q (.tup (cutD xs lo hi)) S
 | d=>∃ xs,lsIs S d xs/\newL b (cutD xs lo hi) S Q
def rSlA (K:Fg):V->Option Int->Option Int->Hp->VK->Prop:=λx lo hi H Q=>rSlS x lo hi H Q\/rSlT K x lo hi H Q\/rSlW K x lo hi H Q\/rSlL K x lo hi H Q
theorem sl_A (hK:X.K=K:=by rfl):SlR X (rSlA K):=sl_str.or ((eQ9 hK).or ((eQu hK).or (dZ5 hK)))
theorem cQl (xs:List D) {lo hi:Option Int} (h0:HT.sIx xs.length 0 lo=0) (h1:HT.sIx xs.length xs.length hi=xs.length):cutD xs lo hi=xs:=by unfold cutD;rw[h0,h1];simp
theorem dXt {M:Am} {H:Hp} {ds:List D} {xs:List V} (l:RepL K M H ds xs) (lo hi:Option Int):RepL K M H (cutD ds lo hi) (cutV xs lo hi):=by
 unfold cutD cutV;rw[l.length];exact(l.drop _).take _
theorem sd_A {b:Bool}:∀ F S H d x lo hi Q QD,Rp K F S H->RepV K (mt S F) H d x->slD b d lo hi S QD->Cn K F S H QD Q->rSlA K x lo hi H Q:=by
 intro F S H d x lo hi Q QD r hd h c;have lists:(∃ xs,lsIs S d xs/\newL b (cutD xs lo hi) S QD)->rSlA K x lo hi H Q:=by
  rintro⟨xs,D,q⟩;obtain⟨a,us,rfl,s1,j⟩:=lsIs.sl r hd D;exact .inr (.inr (.inr ⟨a,us,rfl,s1,λp B=>c.new r B (dXt j lo hi) q⟩))
 cases d with
 | str z=>rw[rstr hd];exact .inl ⟨z,rfl,h.1,c.str r h.2⟩
 | tup xs =>
  obtain⟨a,us,rfl,s1,j⟩:=tup.st hd
  by_cases hw:HT.sIx us.length 0 lo=0/\HT.sIx us.length us.length hi=us.length
  ·refine .inr (.inr (.inl ⟨a,us,rfl,s1,hw.1,hw.2,c.here r hd ?_⟩));rw[j.length] at hw;have h':QD (.tup (cutD xs lo hi)) S:=h;rwa [cQl xs hw.1 hw.2] at h'
  ·exact .inr (.inl ⟨a,us,rfl,s1,hw,λp B=>c.tup r B (dXt j lo hi) h⟩)
 | _=>exact lists h
def dSl (b:Bool) (te:ED) (tl th:OD):ED:=fun Γ S Q=>te Γ S λd S1=>tl Γ S1 λlo S2=>th Γ S2 λhi S3=>slD b d lo hi S3 Q
theorem e_sl {b:Bool} {e:Expr} {te:ED} {lo hi:Option Expr} {tl th:OD} {p2 pos:Pos} (he:PD K X e te) (hl:POD K X lo tl) (hu:POD K X hi th) (hK:X.K=K:=by rfl):PD K X (.Subscript e (.Slice lo hi none p2) pos) (dSl b te tl th):=.of (dQs (sl_A hK) he.o hl.o hu.o) fun σ H Q G=>G.el λF S Γ QD r g q c =>
 ⟨F,S,Γ,_,r,g,q,λv d H1 S1 B L v1 U=>⟨F,S1,Γ,_,L,g.ext B,U,λl H2 Z j J R=>⟨F,Z,Γ,_,J,g.ext (B.trans j),R,λu H3 Y D I O=>sd_A F Y H3 d v l u Q QD I (v1.ext (j.trans D)) O (Cn.shift c (B.trans (j.trans D)))⟩⟩⟩
end
end L2
set_option maxHeartbeats 4000000
namespace L2
open PySem PySem.Spec PyProof.Rows
section
variable {X:Cx} {K:Fg} {a b:Expr} {ta tb:ED} {pos:Pos} {k:Nat}
abbrev GD:=D->Gm->Sto->(Gm->Sto->Prop)->Prop
abbrev GsD:=List D->Gm->Sto->(Gm->Sto->Prop)->Prop
def upG (K:Fg) (t:GD):TG:=λv σ H Q=>∃ F S Γ d QD,Rp K F S H/\RepG K (mt S F) H Γ σ/\RepV K (mt S F) H d v/\t d Γ S QD/\∀ Γ' S' σ' H',Ext S H S' H'->Rp K F S' H'->RepG K (mt S' F) H' Γ' σ'->QD Γ' S'->Q σ' H'
theorem upG.el {K:Fg} {t:GD} {v:V} {σ:St} {H:Hp} {Q:St->Hp->Prop} {p:Prop} (h:upG K t v σ H Q) (k:∀ F S Γ d QD,Rp K F S H->RepG K (mt S F) H Γ σ->RepV K (mt S F) H d v->t d Γ S QD->(∀ Γ' S' σ' H',Ext S H S' H'->Rp K F S' H'->RepG K (mt S' F) H' Γ' σ'->QD Γ' S'->Q σ' H')->p):p:=by
 obtain⟨F,S,Γ,d,QD,h0,h1,h2,B,j⟩:=h;exact k F S Γ d QD h0 h1 h2 B j
def upGs (K:Fg) (t:GsD):TGs:=λvs σ H Q=>∃ F S Γ ds QD,Rp K F S H/\RepG K (mt S F) H Γ σ/\RepL K (mt S F) H ds vs/\t ds Γ S QD/\∀ Γ' S' σ' H',Ext S H S' H'->Rp K F S' H'->RepG K (mt S' F) H' Γ' σ'->QD Γ' S'->Q σ' H'
theorem upGs.el {K:Fg} {t:GsD} {vs:List V} {σ:St} {H:Hp} {Q:St->Hp->Prop} {p:Prop} (h:upGs K t vs σ H Q) (k:∀ F S Γ ds QD,Rp K F S H->RepG K (mt S F) H Γ σ->RepL K (mt S F) H ds vs->t ds Γ S QD->(∀ Γ' S' σ' H',Ext S H S' H'->Rp K F S' H'->RepG K (mt S' F) H' Γ' σ'->QD Γ' S'->Q σ' H')->p):p:=by
 obtain⟨F,S,Γ,ds,QD,h0,h1,h2,B,j⟩:=h;exact k F S Γ ds QD h0 h1 h2 B j
structure PGD (K:Fg) (X:Cx) (e:Expr) (t:GD):Prop where
 o:PG X e (upG K t)
structure PGsD (K:Fg) (X:Cx) (es:List Expr) (t:GsD):Prop where
 o:PGs X es (upGs K t)
theorem PGD.of {e:Expr} {te:TG} {t:GD} (h:PG X e te) (i:∀ v σ H Q,upG K t v σ H Q->te v σ H Q):PGD K X e t:=⟨λpins s σ H v u Q I r q=>h pins s σ H v u Q I r (i v σ H Q q)⟩
theorem PGsD.of {e:List Expr} {te:TGs} {t:GsD} (h:PGs X e te) (i:∀ v σ H Q,upGs K t v σ H Q->te v σ H Q):PGsD K X e t:=⟨λpins s σ H v u Q I r q=>h pins s σ H v u Q I r (i v σ H Q q)⟩
def aQr (i:Nat):GD:=λd Γ S Q=>Q (Γ.set i (some d)) S
theorem aQl {i:Nat} {x:Str} (hN:X.N.Nodup) (hi:X.N[i]?=some x) (hx:Loc X.env.scope x) (hf:X.fn x=true\/X.env.scope.names.lookup x=some .local:=by first | exact .inl rfl | exact .inr rfl | assumption):PGD K X (.Name x pos) (aQr i) :=
 .of (aQb hN hi hx hf) λv σ H Q j=>j.el λF S Γ d QD r g B q c=>c _ S _ H (Ext.refl _ _) r (g.set B i) q
def cZr:GsD:=λds Γ S Q=>ds=[]/\Q Γ S
def aX4 (t:GD) (u:GsD):GsD:=λds Γ S Q=>match ds with
 | []=>False
 | d::r=>t d Γ S fun Γ' S'=>u r Γ' S' Q
def cZs (n:Nat) (t:GsD):GD:=λd Γ S Q=>match d with
 | .tup ds=>ds.length=n/\t ds Γ S Q
 | _=>False
theorem bZe:PGsD K X [] cZr:=.of aZy λv σ H Q j=>by
 obtain⟨F,S,Γ,ds,QD,r,g,l,⟨e,q⟩,c⟩:=j;subst e;unfold RepL at l;exact⟨l,c _ S _ H (Ext.refl _ _) r g q⟩
theorem aZd {e:Expr} {es:List Expr} {t:GD} {u:GsD} (h1:PGD K X e t) (h2:PGsD K X es u) (ha:(fb (e::es) X.env).map (·.2)=assign e X.env::(fb es X.env).map (·.2):=by rfl):PGsD K X (e::es) (aX4 t u) :=
 .of (aQj h1.o h2.o ha) λvs σ H Q B=>B.el λF S Γ ds QD r g l q c=>by
  cases ds with
  | nil=>exact q.elim
  | cons d ds =>
   unfold RepL at l;obtain⟨v,vs,rfl,G,l⟩:=l;exact⟨v,vs,rfl,F,S,Γ,d,_,r,g,G,q,fun Γ1 O σ1 H1 j I g1 J=>⟨F,O,Γ1,ds,_,I,g1,l.ext j,J,fun Γ2 L σ2 H2 D=>c Γ2 L σ2 H2 (j.trans D)⟩⟩
theorem cQm {es:List Expr} {kk:Nat} {t:GsD} {n:Nat} (hc:X.calm=true) (h:PGsD K X es t) (hK:X.K=K:=by rfl)
  (hn:(fb es X.env).length=n:=by rfl) (hst:(fb es X.env).findIdx? (·.1)=none:=by rfl):PGD K X (.Tuple es kk pos) (cZs n t) :=
 .of (aJc hc h.o hn hst) λv σ H Q j=>j.el λF S Γ d QD r g B q c=>by
  cases d with
  | tup ds =>
   obtain⟨p,us,rfl,sq,l⟩:=tup.st B;exact⟨p,us,rfl,by rw[hK];exact sq,by rw[l.length];exact q.1,F,S,Γ,ds,_,r,g,l,q.2,c⟩
  | _=>exact q.elim
def setD (o i v:D) (S:Sto) (Q:Sto->Prop):Prop:=match o,i with
 | .ref p,.int k=>∃ xs j,S p=some (.lst xs)/\ixN xs.length k=some j/\Q (supd S p (.lst (xs.set j v)))
 | _,_=>False
def gdSub (to ti:ED):GD:=λv Γ S Q=>to Γ S λo S1=>ti Γ S1 λi S2=>setD o i v S2 λS3=>Q Γ S3
theorem dXu {o i:Expr} {to ti:ED} (ho:PD K X o to) (hi:PD K X i ti)
  (ha:∀ v,assign (.Subscript o i pos) X.env v=(do
   let ov <- io [v] (eval o X.env)
   let iv <- io [v,ov] (eval i X.env)
   standAt pos
   io [v,ov,iv] (setItem ov iv v)
   release [v,ov,iv] []):=by intro _;rfl):PGD K X (.Subscript o i pos) (gdSub to ti) :=
 .of (eJ2 ho.o hi.o dQt ha) λv σ H Q Y=>Y.el λF S Γ d QD r g Z q c =>
  ⟨F,S,Γ,_,r,g,q,λov od H1 S1 I r1 v1 q1=>⟨F,S1,Γ,_,r1,g.ext I,q1,λiv id H2 O G R v2 L=>by
   have J:=v1.ext G;cases od with
   | ref p =>
    cases id with
    | int kk =>
     obtain⟨xs,j,U,hj,q3⟩:=L;obtain⟨us,hH,l⟩:=R.obj p _ U;rw[rref J,rint v2];have B:O p≠none:=by rw[U];exact λz=>by cases z
     have D:Ext O H2 (supd O p (.lst (xs.set j d))) (upd H2 p (.lst (us.set j v))):=Ext.write B;refine⟨p,us,kk,j,rfl,rfl,hH,by rw[l.length];exact hj,?_⟩
     refine c Γ _ σ _ (I.trans (G.trans D)) (R.write B ⟨_,aQa,?_⟩) (g.ext (I.trans (G.trans D))) q3;exact RepL.set (Z.ext (I.trans (G.trans D))) j (l.ext D)
    | _=>exact L.elim
   | _=>exact L.elim⟩⟩
def fJn:SD:=λE Γ S=>E.nx Γ S
def dSeq (t u:SD):SD:=λE Γ S=>t { E with nx:=u E } Γ S
def dAsg (te:ED) (g:GD):SD:=λE Γ S=>te Γ S λd S1=>g d Γ S1 E.nx
def fJo (te:ED):SD:=λE Γ S=>te Γ S λ_ S1=>E.nx Γ S1
def dRet (te:ED):SD:=λE Γ S=>te Γ S E.rt
def dIfS (c:TD) (t u:SD):SD:=λE Γ S=>c Γ S λb S1=>if b=true then t E Γ S1 else u E Γ S1
section
variable {st:Stmt} {rest:List Stmt} {t u:SD}
theorem aZ1:PSsD K X [] fJn:=.of dJf λB σ H j=>j.el λF S Γ E r g q c=>c.nx Γ S σ H (Ext.refl _ _) r g q
theorem aQ2 (h1:PSD K X st t) (h2:PSsD K X rest u):PSsD K X (st::rest) (dSeq t u):=.of (bJv h1.o h2.o) λJ σ H j=>j.el λF S Γ E r g q c =>
 ⟨F,S,Γ,{ E with nx:=u E },r,g,q,fun Γ1 I σ1 H1 B D g1 G=>⟨F,I,Γ1,E,D,g1,G,c.ext B⟩,c.rt,c.bk,c.ct⟩
theorem aQ4 (h1:PSD K X st t):PSsD K X [st] t:=⟨dJg h1.o⟩
theorem dXv {tg e:Expr} {te:ED} {g:GD} (he:PD K X e te) (hg:PGD K X tg g) (hs:swapsWithSole [tg] e pos.line X.env=pure false:=by rfl) (hw:swappedStores [tg] e X.env=pure none:=by rfl)
  (h1:(fb [tg] X.env).map (·.2)=[assign tg X.env]:=by rfl):PSD K X (.Assign [tg] e pos) (dAsg te g):=.of (eJ3 he.o hg.o hs hw h1) λO σ H B=>B.el λF S Γ E r g q c =>
 ⟨F,S,Γ,_,r,g,q,λv d H1 L j G v1 I=>⟨F,L,Γ,d,_,G,g.ext j,v1,I,fun Γ2 J σ2 H2 D=>c.nx Γ2 J σ2 H2 (j.trans D)⟩⟩
theorem fZ0 {te:ED} {i:Nat}:∀ D' σ H,upS K (dAsg te (aQr i)) D' σ H->tAsg (upE K te) (bQ9 i) D' σ H:=λD' σ H B=>B.el λF S Γ E r g q c =>
 ⟨F,S,Γ,_,r,g,q,λv d H1 I j D v1 G=>c.nx _ I _ H1 j D ((g.ext j).set v1 i) G⟩
theorem aQ9 {i:Nat} {x:Str} {e:Expr} {te:ED} {pos':Pos} (hN:X.N.Nodup) (hi:X.N[i]?=some x) (hx:Loc X.env.scope x) (he:PD K X e te) (hs:g9 e (some (.Name x pos')) pos.line X.env=pure false:=by rfl) (hf:X.fn x=true\/X.env.scope.names.lookup x=some .local:=by first | exact .inl rfl | exact .inr rfl | assumption) :
  PSD K X (.Assign [.Name x pos'] e pos) (dAsg te (aQr i)):=.of (eJ4 hN hi hx he.o hs hf) fZ0
theorem aXj {e:Expr} {te:ED} (he:PD K X e te) (hs:g9 e none pos.line X.env=pure false:=by rfl):PSD K X (.Expr e pos) (fJo te):=.of (dJh he.o hs) λJ σ H B=>B.el λF S Γ E r g q c =>
 ⟨F,S,Γ,_,r,g,q,λv d H1 I j D v1 G=>c.nx Γ I σ H1 j D (g.ext j) G⟩
theorem aQq {e:Expr} {te:ED} (he:PD K X e te):PSD K X (.Return (some e) pos) (dRet te):=.of (eJ1 he.o) λJ σ H j=>j.el λF S Γ E r g q c =>
 ⟨F,S,Γ,_,r,g,q,λv d H1 I B D v1 G=>c.rt v d H1 I B D v1 G⟩
theorem aXt {c:Expr} {sa sb:List Stmt} {tc:TD} (hc:PTD K X c tc) (ha:PSsD K X sa t) (hb:PSsD K X sb u):PSD K X (.If c sa sb pos) (dIfS tc t u):=.of (fXo hc.o ha.o hb.o) λJ σ H I=>I.el λF S Γ E r g q c =>
 ⟨F,S,Γ,_,r,g,q,λz H1 G j B D=>by
  cases z with
  | true=>exact⟨F,G,Γ,E,B,g.ext j,D,c.ext j⟩
  | false=>exact⟨F,G,Γ,E,B,g.ext j,D,c.ext j⟩⟩
end
def FE (F:Am) (H:Hp) (F2:Am):Prop:=∀ a,F2 a->F a\/H a=none
theorem FE.refl (F:Am) (H:Hp):FE F H F:=λ_ h=>.inl h
structure ExtW (F:Am) (S:Sto) (H:Hp) (S':Sto) (H':Hp):Prop where
 keep:∀ a o,¬ mt S F a->H a=some o->H' a=some o
 new:∀ a,S' a≠none->S a≠none\/H a=none
theorem Ext.w {F:Am} {S S':Sto} {H H':Hp} (x:Ext S H S' H'):ExtW F S H S' H':=⟨λa o h e=>x.keep a o (bj λn=>h (.inl n)) e,x.new⟩
theorem ExtW.kpF {F F2:Am} {S S':Sto} {H H':Hp} (x:ExtW F S H S' H') (f:FE F H F2):Keep (mt S F) H (mt S' F2) H':=⟨x.keep,λa h e=>λz=>by
 rcases z with z | z
 ·rcases x.new a z with y | y
  ·exact h (.inl y)
  ·exact e y
 ·rcases f a z with y | y
  ·exact h (.inr y)
  ·exact e y⟩
structure ItOk (K:Fg) (F:Am) (S:Sto) (H:Hp) (J:It) (xs:List D) (G:Sto->Prop):Prop where
 go:∀ F2,FE F H F2->∀ S2 H2,ExtW F S H S2 H2->Rp K F2 S2 H2->G S2->∀ i d,xs[i]?=some d->J.go i H2/\∀ x H3,J.yld i H2 x H3->Ext S2 H2 S2 H3/\Rp K F2 S2 H3/\RepV K (mt S2 F2) H3 d x
 stop:∀ F2,FE F H F2->∀ S2 H2,ExtW F S H S2 H2->Rp K F2 S2 H2->G S2->J.stop xs.length H2
abbrev IDk:=List D->(Sto->Prop)->Sto->Prop
abbrev ID:=Gm->Sto->IDk->Prop
def upI (K:Fg) (t:ID):TI:=fun σ H R=>∃ F S Γ QD,Rp K F S H/\RepG K (mt S F) H Γ σ/\t Γ S QD/\∀ J xs G H' S',Ext S H S' H'->Rp K F S' H'->ItOk K F S' H' J xs G->QD xs G S'->R J H'
theorem upI.el {K:Fg} {t:ID} {σ:St} {H:Hp} {R:It->Hp->Prop} {p:Prop} (h:upI K t σ H R) (k:∀ F S Γ QD,Rp K F S H->RepG K (mt S F) H Γ σ->t Γ S QD->(∀ J xs G H' S',Ext S H S' H'->Rp K F S' H'->ItOk K F S' H' J xs G->QD xs G S'->R J H')->p):p:=by
 obtain⟨F,S,Γ,QD,h0,h1,h2,j⟩:=h;exact k F S Γ QD h0 h1 h2 j
structure PID (K:Fg) (X:Cx) (tg e:Expr) (t:ID):Prop where
 o:PI X tg e (upI K t)
theorem PID.of {tg e:Expr} {te:TI} {t:ID} (h:PI X tg e te) (i:∀ σ H Q,upI K t σ H Q->te σ H Q):PID K X tg e t:=⟨λpins s σ H Q I q=>h pins s σ H Q I (i σ H Q q)⟩
def iSq (K:Fg) (tl:TE):TI:=fun σ H R=>tl σ H λx H1=>(∃ a,x=.ref a/\(∃ xs,SqL K H1 a xs)/\R (Itl K a) H1)\/∃ a,x=.ref a/\(∃ xs,SqT K H1 a xs)/\R (Itt K a) H1
theorem fJp {tg l:Expr} {tl:TE} (hl:PE X l tl) (hK:X.K=K:=by rfl):PI X tg l (iSq K tl):=by
 subst hK;intro pins s σ H R I h;refine thn (hl pins s σ H _ I h) λv s1 ⟨x,H1,j,r1,L⟩=>?_;have G:∀ b∈[s1.heap.objs.size],FpOk X pins H1 b:=λb U=>by
  have e:b=s1.heap.objs.size:=by simpa using U
  subst e;exact j.fpOk (Nat.le_refl _) (j.hok.fresh (Nat.le_refl _))
 rcases L with⟨a,e,⟨xs,D⟩,q⟩ | ⟨a,e,⟨xs,D⟩,q⟩
 ·subst e;cases r1;obtain⟨B,J,p,O⟩:=j.list D;exact gQ p.isList ⟨s1.heap.objs.size,[s1.heap.objs.size],_,_,H1,rfl,j.kept (t':=s1.toks) λb o e=>ag _ e,cX0 a _,⟨_,au _ rfl,rfl,rfl⟩,G,q⟩
 ·subst e;cases r1;obtain⟨B,J,p,O⟩:=j.tuple D;exact eN (show s1.heap.IsTuple a B.toArray from p) ⟨s1.heap.objs.size,[s1.heap.objs.size],_,_,H1,rfl,j.kept (t':=s1.toks) λb o e=>ag _ e,cZc a _,⟨_,au _ rfl,rfl,rfl⟩,G,q⟩
def fZ1 (d:D) (xs:List D):Sto->Prop:=match d with
 | .ref a=>λS=>S a=some (.lst xs)
 | _=>λ_=>True
def dSq (te:ED):ID:=fun Γ S Q=>te Γ S λd S1=>∃ xs,sqIs S1 d xs/\Q xs (fZ1 d xs) S1
theorem eQz {F:Am} {S:Sto} {H:Hp} {p:Addr} {xs:List D} {us:List V} {G:Sto->Prop} (t:TupAt K (mt S F) H p us) (l:RepL K (mt S F) H xs us):ItOk K F S H (Itt K p) xs G where
 go:=λR f O H2 x j _ i d hd=>by
  have t2:=(t.keep (x.kpF f)).sq;obtain⟨v,B,J⟩:=l.get hd;refine⟨⟨us,v,t2,B⟩,λy U ⟨L,I⟩=>?_⟩;subst L
  have:=I us t2
  rw[B] at this;cases this;exact⟨Ext.refl _ _,j,J.keep (x.kpF f)⟩
 stop:=λR f O H2 x j _=>⟨us,(t.keep (x.kpF f)).sq,by rw[l.length];exact Nat.le_refl _⟩
theorem eZ0 {F:Am} {S:Sto} {H:Hp} {p:Addr} {xs:List D} {us:List V} {G:Sto->Prop} (t:LstAt K (mt S F) H p us) (l:RepL K (mt S F) H xs us):ItOk K F S H (Itl K p) xs G where
 go:=λR f O H2 x j _ i d hd=>by
  obtain⟨v,B,J⟩:=l.get hd;have t2:SqL K H2 p us:=(t.keep (x.kpF f)).sq;refine⟨⟨us,v,t2,B⟩,λy U ⟨L,I⟩=>?_⟩;subst L
  have:=I us t2
  rw[B] at this;cases this;exact⟨Ext.refl _ _,j,J.keep (x.kpF f)⟩
 stop:=λR f O H2 x j _=>⟨us,(t.keep (x.kpF f)).sq,by rw[l.length];exact Nat.le_refl _⟩
theorem eZ1 {F:Am} {S:Sto} {H:Hp} {p:Addr} {xs:List D}:ItOk K F S H (Itl K p) xs (fZ1 (.ref p) xs) where
 go:=λU f R H2 x j G i d hd=>by
  obtain⟨us,B,l⟩:=j.obj p _ G;obtain⟨v,I,L⟩:=l.get hd;refine⟨⟨us,v,SqL.of B,I⟩,λy Y ⟨O,J⟩=>?_⟩;subst O
  have:=J us (SqL.of B)
  rw[I] at this;cases this;exact⟨Ext.refl _ _,j,L⟩
 stop:=λU f R H2 x j G=>by
  obtain⟨us,B,l⟩:=j.obj p _ G;exact⟨us,SqL.of B,by rw[l.length];exact Nat.le_refl _⟩
theorem aZ5 {tg l:Expr} {tl:ED} (hl:PD K X l tl) (hK:X.K=K:=by rfl):PID K X tg l (dSq tl):=.of (fJp hl.o hK) fun σ H Q I=>I.el λF S Γ QD r g q c =>
 ⟨F,S,Γ,_,r,g,q,λv d H1 L B j v1 G=>by
  obtain⟨xs,hs,D⟩:=G;cases d with
  | tup ys =>
   cases hs;unfold RepV at v1;obtain⟨p,us,rfl,t,l⟩:=v1;exact .inr ⟨p,rfl,⟨us,t.sq⟩,c _ _ _ _ _ B j (eQz t l) D⟩
  | lst ys =>
   cases hs;unfold RepV at v1;obtain⟨p,us,rfl,t,l⟩:=v1;exact .inl ⟨p,rfl,⟨us,t.sq⟩,c _ _ _ _ _ B j (eZ0 t l) D⟩
  | ref p =>
   rw[rref v1];obtain⟨us,J,l⟩:=j.obj p _ hs;exact .inl ⟨p,rfl,⟨us,SqL.of J⟩,c _ _ _ _ _ B j eZ1 D⟩
  | _=>exact hs.elim⟩
def rngD (lo:Int):Nat->List D
 | 0=>[]
 | n + 1=>.int lo::rngD (lo + 1) n
theorem aQt:∀ (n:Nat) (lo:Int),(rngD lo n).length=n
 | 0,_=>rfl
 | n + 1,lo=>by simp[rngD,aQt n]
theorem aXu:∀ (n:Nat) (lo:Int) (i:Nat) (d:D),(rngD lo n)[i]?=some d->i < n/\d=.int (lo + i)
 | 0,lo,i,d,h=>by simp[rngD] at h
 | n + 1,lo,0,d,h=>by simp[rngD] at h;exact⟨by lia,by rw[<- h];simp⟩
 | n + 1,lo,i + 1,d,h=>by
  have h':(rngD (lo + 1) n)[i]?=some d:=by simpa [rngD] using h
  obtain⟨h1,h2⟩:=aXu n (lo + 1) i d h';refine⟨by lia,?_⟩
  rw[h2]
  congr 1
  rw[fD];lia
theorem cJh {F:Am} {S:Sto} {H:Hp} {lo:Int} {n:Nat} {G:Sto->Prop}:ItOk K F S H (Itr lo n) (rngD lo n) G where
 go:=λJ f I H2 x j _ i d hd=>by
  obtain⟨h1,rfl⟩:=aXu n lo i d hd;exact⟨h1,λy L ⟨D,B⟩=>by subst D;subst B;exact⟨Ext.refl _ _,j,by unfold RepV;rfl⟩⟩
 stop:=λJ f I H2 x j _=>by rw[aQt];exact Nat.le_refl n
def fJq (ta:AD):ID:=fun Γ S Q=>ta Γ S λds S1=>match ds with
 | [.int j]=>(-(2 ^ 62)<=j/\j < 2 ^ 62)/\Q (rngD 0 j.toNat) (λ_=>True) S1
 | _=>False
def fJr (ta:AD):ID:=fun Γ S Q=>ta Γ S λds S1=>match ds with
 | [.int i,.int j]=>(-(2 ^ 62)<=i/\i < 2 ^ 62/\-(2 ^ 62)<=j/\j < 2 ^ 62)/\Q (rngD i (j - i).toNat) (λ_=>True) S1
 | _=>False
theorem aZa {tg:Expr} {p:Pos} {ta:AD} (hg:Gl X "range") (hm:X.mg "range" = none) (ha:PAD K X [a] ta) (hs:av [a] X.env=[(false,eval a X.env)]:=by rfl):PID K X tg (.Call (.Name "range" p) [a] [] pos) (fJq ta):=.of (cX1 hg hm ha.o hs) fun σ H Q D=>D.el λF S Γ QD r g q c =>
 ⟨F,S,Γ,_,r,g,q,λvs ds H1 L G J v1 B=>by
  match ds,B with
  | [.int j],B =>
   obtain⟨v,rfl,I⟩:=v1.one;rw[rint I];exact⟨j,rfl,B.1.1,B.1.2,c _ _ _ _ _ G J cJh B.2⟩⟩
theorem bXf {tg:Expr} {p:Pos} {ta:AD} (hg:Gl X "range") (hm:X.mg "range" = none) (ha:PAD K X [a,b] ta) (hs:av [a,b] X.env=[(false,eval a X.env),(false,eval b X.env)]:=by rfl) (hs2:av [b] X.env=[(false,eval b X.env)]:=by rfl):PID K X tg (.Call (.Name "range" p) [a,b] [] pos) (fJr ta):=.of (cX2 hg hm ha.o hs hs2) fun σ H Q G=>G.el λF S Γ QD r g q c =>
 ⟨F,S,Γ,_,r,g,q,λvs ds H1 O I L v1 B=>by
  match ds,B with
  | [.int i,.int j],B =>
   obtain⟨v,w,rfl,J,D⟩:=v1.two;rw[rint J,rint D];exact⟨i,j,rfl,B.1,c _ _ _ _ _ I L cJh B.2⟩⟩
def aJk (lo:Int):List D->List D
 | []=>[]
 | d::ds=>.tup [.int lo,d]::aJk (lo + 1) ds
theorem aX5:∀ (ds:List D) (lo:Int),(aJk lo ds).length=ds.length
 | [],_=>rfl
 | d::ds,lo=>by simp[aJk,aX5 ds]
theorem aX6:∀ (ds:List D) (lo:Int) (i:Nat) (d:D),(aJk lo ds)[i]?=some d->∃ e,ds[i]?=some e/\d=.tup [.int (lo + i),e]
 | [],lo,i,d,h=>by simp[aJk] at h
 | e::ds,lo,0,d,h=>by simp[aJk] at h;exact⟨e,rfl,by rw[<- h];simp⟩
 | e::ds,lo,i + 1,d,h=>by
  have h':(aJk (lo + 1) ds)[i]?=some d:=by simpa [aJk] using h
  obtain⟨f,h1,h2⟩:=aX6 ds (lo + 1) i d h';refine⟨f,by simpa using h1,?_⟩
  rw[h2]
  have:lo + 1 + (i:Int)=lo + ((i + 1:Nat):Int):=by rw[fD];lia
  rw[this]
theorem cJi {F:Am} {S:Sto} {H:Hp} {p:Addr} {i:Nat} {y:V} {d:D} (r:Rp K F S H) (hp:H p=none) (rv:RepV K (mt S F) H d y):Ext S H S (upd H p (.tup [.int i,y]))/\Rp K F S (upd H p (.tup [.int i,y]))/\RepV K (mt S F) (upd H p (.tup [.int i,y])) (.tup [.int (0 + i),d]) (.ref p):=by
 have x:Ext S H S (upd H p (.tup [.int i,y])):=Ext.same (aQo hp);refine⟨x,r.same (aQo hp),?_⟩;unfold RepV;exact⟨p,_,rfl,.inl ⟨r.nmt hp,.inl aQa⟩,RepL.cons (by unfold RepV;rw[Int.zero_add]) (RepL.cons (rv.ext x) RepL.nil)⟩
theorem eZ2 {F:Am} {S:Sto} {H:Hp} {p:Addr} {xs:List D} {us:List V} {G:Sto->Prop} (t:TupAt K (mt S F) H p us) (l:RepL K (mt S F) H xs us):ItOk K F S H (Ite K p) (aJk 0 xs) G where
 go:=λY f U H2 x j _ i d hd=>by
  obtain⟨e,he,rfl⟩:=aX6 xs 0 i d hd;obtain⟨v,B,J⟩:=l.get he;have t2:=(t.keep (x.kpF f)).sq;refine⟨⟨us,v,t2,B⟩,λz Z ⟨q,y,L,O,R,I⟩=>?_⟩;subst O;subst R
  have:=I us t2
  rw[B] at this;cases this;exact cJi j L (J.keep (x.kpF f))
 stop:=λY f U H2 x j _=>⟨us,(t.keep (x.kpF f)).sq,by rw[aX5,l.length];exact Nat.le_refl _⟩
theorem eZ3 {F:Am} {S:Sto} {H:Hp} {p:Addr} {xs:List D} {us:List V} {G:Sto->Prop} (t:LstAt K (mt S F) H p us) (l:RepL K (mt S F) H xs us):ItOk K F S H (Itel K p) (aJk 0 xs) G where
 go:=λY f U H2 x j _ i d hd=>by
  obtain⟨e,he,rfl⟩:=aX6 xs 0 i d hd;obtain⟨v,B,J⟩:=l.get he;have t2:SqL K H2 p us:=(t.keep (x.kpF f)).sq;refine⟨⟨us,v,t2,B⟩,λz Z ⟨q,y,L,O,R,I⟩=>?_⟩;subst O;subst R
  have:=I us t2
  rw[B] at this;cases this;exact cJi j L (J.keep (x.kpF f))
 stop:=λY f U H2 x j _=>⟨us,(t.keep (x.kpF f)).sq,by rw[aX5,l.length];exact Nat.le_refl _⟩
def dEnT (ta:AD):ID:=fun Γ S Q=>ta Γ S λds S1=>match ds with
 | [.tup xs]=>Q (aJk 0 xs) (λ_=>True) S1
 | _=>False
def dEnL (ta:AD):ID:=fun Γ S Q=>ta Γ S λds S1=>match ds with
 | [.lst xs]=>Q (aJk 0 xs) (λ_=>True) S1
 | _=>False
theorem fZ2 {e:Expr} {ta:AD} {p:Pos} {elts:List Expr} {x1:Nat} {tpos:Pos} (hg:Gl X "enumerate") (hm:X.mg "enumerate" = none) (ha:PAD K X [e] ta) (hs:av [e] X.env=[(false,eval e X.env)]:=by rfl) (hK:X.K=K:=by rfl) :
  PID K X (.Tuple elts x1 tpos) (.Call (.Name "enumerate" p) [e] [] pos) (dEnT ta):=.of (eJz hg hm ha.o hs hK) fun σ H Q D=>D.el λF S Γ QD r g q c =>
 ⟨F,S,Γ,_,r,g,q,λvs ds H1 I x1 G v1 j=>by
  match ds,j with
  | [.tup xs],j =>
   obtain⟨v,rfl,B⟩:=v1.one;unfold RepV at B;obtain⟨p,us,rfl,t,l⟩:=B;exact⟨p,rfl,⟨us,t.sq⟩,c _ _ _ _ _ x1 G (eZ2 t l) j⟩⟩
theorem fZ3 {e:Expr} {ta:AD} {p:Pos} {elts:List Expr} {x1:Nat} {tpos:Pos} (hg:Gl X "enumerate") (hm:X.mg "enumerate" = none) (ha:PAD K X [e] ta) (hs:av [e] X.env=[(false,eval e X.env)]:=by rfl) (hK:X.K=K:=by rfl) :
  PID K X (.Tuple elts x1 tpos) (.Call (.Name "enumerate" p) [e] [] pos) (dEnL ta):=.of (eQi hg hm ha.o hs hK) fun σ H Q D=>D.el λF S Γ QD r g q c =>
 ⟨F,S,Γ,_,r,g,q,λvs ds H1 I x1 G v1 j=>by
  match ds,j with
  | [.lst xs],j =>
   obtain⟨v,rfl,B⟩:=v1.one;unfold RepV at B;obtain⟨p,us,rfl,t,l⟩:=B;exact⟨p,rfl,⟨us,t.sq⟩,c _ _ _ _ _ x1 G (eZ3 t l) j⟩⟩
def cZt (x:Str):List D:=x.cps.toList.map λc=>.str ⟨#[c]⟩
def forD (g:GD) (tb:SD) (G:Sto->Prop) (E:EndsD):List D->Gm->Sto->Prop
 | [],Γ,S=>G S/\E.nx Γ S
 | x::xs,Γ,S=>G S/\g x Γ S fun Γ2 S2=>tb { E with nx:=forD g tb G E xs,ct:=forD g tb G E xs,bk:=E.nx } Γ2 S2
def dFor (wi:ID) (g:GD) (tb:SD):SD:=λE Γ S=>wi Γ S λxs G S1=>forD g tb G E xs Γ S1
theorem aXv {α:Type} {xs:List α} {i:Nat} (h:i < xs.length):xs.drop i=xs[i]::xs.drop (i + 1):=dW h
theorem aZb {tg iter:Expr} {body:List Stmt} {wi:ID} {g:GD} {tb:SD} (hp:PassesOwn (aJ X.prog X.w) X.A X.env X.xe) (hc:X.calm=true) (hi:PID K X tg iter wi) (hg:PGD K X tg g) (hb:PSsD K X body tb) (hs:∀ x,eE iter X.env x=pure x:=by intro _;rfl):PSD K X (.For tg iter body [] pos) (dFor wi g tb):=.of (eJ5 hp hc hi.o hg.o hb.o hs) λD' σ H z0=>z0.el λF S Γ E r gm q c =>
 ⟨F,S,Γ,_,r,gm,q,λJ xs G H1 S1 Y r1 it q1=>by
  refine⟨λi m σ' H'=>m=xs.length - i/\i<=xs.length/\∃ S' Γ',Ext S1 H1 S' H'/\Rp K F S' H'/\RepG K (mt S' F) H' Γ' σ'/\forD g tb G E (xs.drop i) Γ' S',⟨xs.length,by simp,Nat.zero_le _,S1,Γ,Ext.refl _ _,r1,gm.ext Y,by simpa using q1⟩,?_⟩
  rintro i m σ' H' ⟨rfl,hi.o,S',Γ',U,r2,g2,f2⟩
  by_cases L:i < xs.length
  ·rw[aXv L] at f2;obtain⟨hG,f2⟩:=f2;obtain⟨hgo,hy⟩:=it.go F (FE.refl F H1) S' H' U.w r2 hG i xs[i] (ah L);refine .inr ⟨hgo,fun σ'' D=>∃ B Γ'',Ext S1 H1 B D/\Rp K F B D/\RepG K (mt B F) D Γ'' σ''/\forD g tb G E (xs.drop (i + 1)) Γ'' B,fun σ'' D z=>⟨xs.length - (i + 1),by lia,rfl,L,z⟩,λx H3 y3=>?_⟩
   obtain⟨x3,r3,v3⟩:=hy x H3 y3;refine⟨F,S',Γ',xs[i],_,r3,g2.ext x3,v3,f2,fun Γ4 S4 σ4 H4 x4 r4 g4 q4=>⟨F,S4,Γ4,_,r4,g4,q4,?_⟩⟩;have j:=U.trans (x3.trans x4);exact⟨fun Γ5 O σ5 R I Z g5 q5=>⟨O,Γ5,j.trans I,Z,g5,q5⟩,λv d R O I=>c.rt v d R O (Y.trans (j.trans I)),fun Γ5 O σ5 R I=>c.nx Γ5 O σ5 R (Y.trans (j.trans I)),fun Γ5 O σ5 R I Z g5 q5=>⟨O,Γ5,j.trans I,Z,g5,q5⟩⟩
  ·have e:i=xs.length:=by lia
   subst e;rw[ie] at f2;exact .inl ⟨it.stop F (FE.refl F H1) S' H' U.w r2 f2.1,c.nx Γ' S' σ' H' (Y.trans U) r2 g2 f2.2⟩⟩
end
end L2
set_option maxHeartbeats 1000000
namespace L2
open PySem PySem.Spec PyProof.Rows
section
variable {X:Cx} {K:Fg} {pos:Pos} {k:Nat}
structure ExtX (D':Addr) (S:Sto) (H:Hp) (S':Sto) (H':Hp):Prop where
 keep:∀ a o,a≠D'->S a=none->H a=some o->H' a=some o
 live:∀ a,H a≠none->H' a≠none
 new:∀ a,S' a≠none->S a≠none\/H a=none
theorem Ext.x {D':Addr} {S S':Sto} {H H':Hp} (x:Ext S H S' H'):ExtX D' S H S' H':=⟨λa o _=>x.keep a o,x.live,x.new⟩
theorem ExtX.trans {D' : Addr} {S S1 S2 : Sto} {H H1 H2 : Hp} (x : ExtX D' S H S1 H1) (y : ExtX D' S1 H1 S2 H2) : ExtX D' S H S2 H2 :=
  ⟨λa o n h h' => y.keep a o n (by
      cases e : S1 a with
      | none => rfl
      | some z => rcases x.new a (by rw [e]; exact λz => by cases z) with z | z
                  · exact absurd h z
                  · rw [h'] at z; cases z) (x.keep a o n h h'), λa h => y.live a (x.live a h), λa h => by
    rcases y.new a h with z | z
    · exact x.new a z
    · exact .inr (bj λn => x.live a n z)⟩
theorem ExtX.kp {D':Addr} {F:Am} {S S':Sto} {H H':Hp} (x:ExtX D' S H S' H') (hF:F D'):Keep (mt S F) H (mt S' F) H':=⟨λa o h e=>x.keep a o (by rintro rfl;exact h (.inr hF)) (bj λn=>h (.inl n)) e,λa h e=>λz=>by
 rcases z with z | z
 ·rcases x.new a z with y | y
  ·exact h (.inl y)
  ·exact e y
 ·exact h (.inr z)⟩
def Free (L:List Nat) (σ:St):Prop:=∀ i∈L,σ[i]?=some none
abbrev BD:=Gm->Sto->List D->(List D->Sto->Prop)->Prop
def bXg (K:Fg) (L:List Nat) (tv:Addr->TB) (td:BD):Prop:=∀ D' F S H Γ σ acc zs N QD,Free L σ->F D'->Rp K F S H->RepG K (mt S F) H Γ σ->H D'=some (.lst zs)->RepL K (mt S F) H acc zs->td Γ S acc QD ->
 (∀ acc' S' H' zs',ExtX D' S H S' H'->Rp K F S' H'->H' D'=some (.lst zs')->RepL K (mt S' F) H' acc' zs'->QD acc' S'->N H')->tv D' σ H N
def aJl (te:ED):BD:=fun Γ S acc Q=>te Γ S λy S1=>acc.length < sizeLine/\Q (acc++[y]) S1
theorem aQf {L:List Nat} {te:ED}:bXg K L (λD'=>eJr D' (upE K te)) (aJl te):=by
 intro D' F S H Γ σ acc zs N QD _ j r g U l q c;refine⟨F,S,Γ,_,r,g,q,λv d H1 B D G v1 ⟨O,J⟩=>?_⟩;have R:S D'=none:=(r.frm D' j).2;have I:B D'=none:=(G.frm D' j).2;have h1:H1 D'=some (.lst zs):=D.keep _ _ R U;have y:ExtX D' B H1 B (upd H1 D' (.lst (zs++[v]))):=⟨λa o n _ e=>by rw[upd_ne n];exact e,λa h=>by
  by_cases e:a=D'
  ·subst e;rw[aQa];exact λz=>by cases z
  ·rw[upd_ne e];exact h,λa h=>.inl h⟩
 refine⟨zs,h1,by rw[l.length];exact O,c _ B _ (zs++[v]) (D.x.trans y) ?_ aQa ?_ J⟩
 ·exact⟨λa o e=>(G.obj a o e).keep (y.kp j) (upd_ne (by rintro rfl;rw[I] at e;cases e)),λa h=>by
   obtain⟨⟨ys,e,ct⟩,h2⟩:=G.frm a h
   by_cases z:a=D'
   ·subst z;exact⟨⟨_,aQa,trivial⟩,h2⟩
   ·exact⟨⟨ys,by rw[upd_ne z];exact e,ct⟩,h2⟩⟩
 ·exact RepL.app ((l.ext D).keep (y.kp j)) (RepL.cons (v1.keep (y.kp j)) RepL.nil)
def CG (K:Fg) (L L':List Nat) (g:TG) (gd:GD):Prop:=∀ F S H Γ σ d v Q QD,Free L σ->Rp K F S H->RepG K (mt S F) H Γ σ->RepV K (mt S F) H d v->gd d Γ S QD->(∀ Γ' S' σ' H',Ext S H S' H'->Rp K F S' H'->RepG K (mt S' F) H' Γ' σ'->Wk σ σ'->Free L' σ'->QD Γ' S'->Q σ' H')->g v σ H Q
theorem Free.set {L:List Nat} {σ:St} {i:Nat} {v:V} (h:Free (i::L) σ) (hi:i∉L):Free L (σ.set i (some v)):=λj B=>by
 rw[fK (by rintro rfl;exact hi B)]
 exact h j (ao _ B)
theorem cg_name {L:List Nat} {i:Nat} (hi:i∉L:=by decide):CG K (i::L) L (bQ9 i) (aQr i):=λF S H Γ σ d v Q QD f r g j q c=>c _ S _ H (Ext.refl _ _) r (g.set j i) (cZi (f i am)) (f.set hi) q
theorem bQ2 {L:List Nat} {i j:Nat} (hi:i∉j::L:=by decide) (hj:j∉L:=by decide):CG K (i::j::L) L (gTup K 2 (bXw (bQ9 i) (bXw (bQ9 j) gNil))) (cZs 2 (aX4 (aQr i) (aX4 (aQr j) cZr))):=λF S H Γ σ d v Q QD f r g B q c=>by
 cases d with
 | tup ds =>
  obtain⟨p,us,rfl,sq,l⟩:=tup.st B;obtain⟨I,q⟩:=q
  match ds,I,q with
  | [O,J],_,q =>
   obtain⟨v1,v2,rfl,G,D⟩:=l.two;have f1:Free (j::L) (σ.set i (some v1)):=f.set hi;exact⟨p,_,rfl,sq,rfl,v1,_,rfl,v2,_,rfl,rfl,c _ S _ H (Ext.refl _ _) r ((g.set G i).set D j) ((cZi (f i am)).trans (cZi (f1 j am))) (f1.set hj) q.2⟩
 | _=>exact q.elim
def aZl (g:GD) (tt:TD) (tb:BD) (G:Sto->Prop) (Γ0:Gm):List D->List D->Sto->(List D->Sto->Prop)->Prop
 | [],acc,S,Q=>G S/\Q acc S
 | x::xs,acc,S,Q=>G S/\g x Γ0 S fun Γ2 S2=>tt Γ2 S2 λb S3=>if b=true then tb Γ2 S3 acc λacc' S4=>aZl g tt tb G Γ0 xs acc' S4 Q else aZl g tt tb G Γ0 xs acc S3 Q
theorem eZ4 {L L':List Nat} {g:TG} {gd:GD} {tt:TD} {tv:Addr->TB} {tb:BD} (hg:CG K L L' g gd) (hb:bXg K L' tv tb) {D':Addr} {F:Am} {S:Sto} {H:Hp} {Γ:Gm} {σ:St} {acc:List D} {zs:List V} {N:Hp->Prop} {QD:List D->Sto->Prop} {J:It} {xs:List D} {G:Sto->Prop}
  (f:Free L σ) (hF:F D') (r:Rp K F S H) (gm:RepG K (mt S F) H Γ σ) (hH:H D'=some (.lst zs)) (l:RepL K (mt S F) H acc zs) (it:∀ S2 H2,ExtX D' S H S2 H2->Rp K F S2 H2->G S2->(∀ i d,xs[i]?=some d->J.go i H2/\∀ x H3,J.yld i H2 x H3->Ext S2 H2 S2 H3/\Rp K F S2 H3/\RepV K (mt S2 F) H3 d x)/\J.stop xs.length H2)
  (q:aZl gd tt tb G Γ xs acc S QD) (c:∀ acc' S' H' zs',ExtX D' S H S' H'->Rp K F S' H'->H' D'=some (.lst zs')->RepL K (mt S' F) H' acc' zs'->QD acc' S'->N H'):dJw J σ g (upT K tt) (tv D') N H:=by
 refine⟨λi m H'=>m=xs.length - i/\i<=xs.length/\∃ S' acc' zs',ExtX D' S H S' H'/\Rp K F S' H'/\H' D'=some (.lst zs')/\RepL K (mt S' F) H' acc' zs'/\aZl gd tt tb G Γ (xs.drop i) acc' S' QD,⟨xs.length,by simp,Nat.zero_le _,S,acc,zs,(Ext.refl _ _).x,r,hH,l,by simpa using q⟩,?_⟩
 rintro i m H' ⟨rfl,hi,S',acc',zs',Y,r2,h2,l2,f2⟩;have g2:=gm.keep (Y.kp hF)
 by_cases U:i < xs.length
 ·rw[aXv U] at f2;obtain⟨hG,f2⟩:=f2;obtain⟨hgo,hy⟩:=(it S' H' Y r2 hG).1 i xs[i] (ah U);refine .inr ⟨hgo,λB=>∃ I j O,ExtX D' S H I B/\Rp K F I B/\B D'=some (.lst O)/\RepL K (mt I F) B j O/\aZl gd tt tb G Γ (xs.drop (i + 1)) j I QD,λB z=>⟨xs.length - (i + 1),by omega,rfl,U,z⟩,λx H3 y3=>?_⟩
  obtain⟨x3,r3,v3⟩:=hy x H3 y3;refine hg F S' H3 Γ σ xs[i] x _ _ f r3 (g2.ext x3) v3 f2 fun Γ4 S4 σ4 H4 x4 r4 g4 wk fr4 q4=>⟨wk,F,S4,Γ4,_,r4,g4,q4,λz H5 S5 x5 r5 q5=>?_⟩;have R:=x3.trans (x4.trans x5);have h5:H5 D'=some (.lst zs'):=R.keep _ _ (r2.frm D' hF).2 h2;have l5:=l2.ext R;have Z:ExtX D' S H S5 H5:=Y.trans R.x;cases z with
  | false=>exact⟨S5,acc',zs',Z,r5,h5,l5,q5⟩
  | true=>exact hb D' F S5 H5 Γ4 σ4 acc' zs' _ _ fr4 hF r5 (g4.ext x5) h5 l5 q5 λacc6 S6 H6 zs6 x6 r6 h6 l6 q6=>⟨S6,acc6,zs6,Z.trans x6,r6,h6,l6,q6⟩
 ·have e:i=xs.length:=by omega
  subst e;rw[ie] at f2;exact .inl ⟨(it S' H' Y r2 f2.1).2,c acc' S' H' zs' Y r2 h2 l2 f2.2⟩
def eZ5 (is:List (Option Nat)) (Γ:Gm):Gm:=is.map λo=>o.bind λi=>(Γ[i]?).join
theorem RepG.at {M:Am} {H:Hp}:∀ {g:Gm} {σ:St} {i:Nat} {d:D},RepG K M H g σ->g[i]?=some (some d)->∃ v,σ[i]?=some (some v)/\RepV K M H d v
 | [],_,_,_,_,e=>by simp at e
 | none::g,_,0,_,_,e=>by simp at e
 | some d::g,_,0,e,⟨v,τ,rfl,q,r⟩,h=>by simp at h;subst h;exact⟨v,rfl,q⟩
 | none::g,_,i + 1,d,⟨v,τ,rfl,r⟩,h=>by
  obtain⟨u,j,h1⟩:=RepG.at (i:=i) r (by simpa using h)
  exact⟨u,by simpa using j,h1⟩
 | some _::g,_,i + 1,d,⟨v,τ,rfl,q,r⟩,h=>by
  obtain⟨u,j,h1⟩:=RepG.at (i:=i) r (by simpa using h)
  exact⟨u,by simpa using j,h1⟩
theorem RepG.capt {M:Am} {H:Hp} {g:Gm} {σ:St} (h:RepG K M H g σ):∀ is:List (Option Nat),RepG K M H (eZ5 is g) (capt is σ)
 | []=>rfl
 | o::is=>by
  have j:=RepG.capt h is;cases o with
  | none=>exact⟨_,_,rfl,j⟩
  | some i =>
   show RepG K M H ((g[i]?).join::eZ5 is g) ((σ[i]?).join::L2.capt is σ);cases e:g[i]? with
   | none=>exact⟨_,_,rfl,j⟩
   | some z =>
    cases z with
    | none=>exact⟨_,_,rfl,j⟩
    | some d =>
     obtain⟨v,B,r⟩:=h.at e;rw[B];exact⟨v,_,rfl,r,j⟩
def eZ6 (b:Bool) (is:List (Option Nat)) (wi:ID) (g:GD) (tt:TD) (tb:BD):ED:=fun Γ S Q=>wi Γ S λxs G S1=>aZl g tt tb G (eZ5 is Γ) xs [] S1 λacc S2=>newL b acc S2 Q
theorem cJj {b:Bool} {L L':List Nat} {is:List (Option Nat)} {wi:ID} {g:TG} {gd:GD} {tt:TD} {tv:Addr->TB} {tb:BD} (hL:∀ σ,Free L (capt is σ)) (hg:CG K L L' g gd) (hb:bXg K L' tv tb):∀ σ H Q,upE K (eZ6 b is wi gd tt tb) σ H Q->cQ0 is (upI K wi) g (upT K tt) tv σ H Q:=fun σ H Q z0=>z0.el λF S Γ QD r gm q c =>
 ⟨F,S,Γ,_,r,gm,q,λJ xs G H1 D x1 r1 it q1 D' B=>by
  have R:D D'=none:=r1.sn B;have fe:FE F H1 (λa=>F a\/a=D'):=λa h=>h.elim .inl λe=>.inr (by rw[e];exact B)
  have nF:¬ F D':=λh=>by
   obtain⟨⟨ys,e,_⟩,_⟩:=r1.frm D' h;rw[B] at e;cases e
  have xe:Ext D H1 D (upd H1 D' (.lst [])):=Ext.same (aQo B);have kp:Keep (mt D F) H1 (mt D λa=>F a\/a=D') (upd H1 D' (.lst [])):=xe.w.kpF fe;have r2:Rp K (λa=>F a\/a=D') D (upd H1 D' (.lst [])):=⟨λa o e=>(r1.obj a o e).keep kp (upd_ne (by rintro rfl;rw[R] at e;cases e)),λa h=>by
   rcases h with h | h
   ·obtain⟨⟨ys,e,ct⟩,h2⟩:=r1.frm a h;exact⟨⟨ys,by rw[upd_ne (by rintro rfl;rw[B] at e;cases e)];exact e,ct⟩,h2⟩
   ·subst h;exact⟨⟨_,aQa,trivial⟩,R⟩⟩
  have old:∀ {I H2},ExtX D' D (upd H1 D' (.lst [])) I H2->Ext D H1 I H2:=λ{I H2} y=>⟨λa o h e=>y.keep a o (by rintro rfl;rw[B] at e;cases e) h (by rw[upd_ne (by rintro rfl;rw[B] at e;cases e)];exact e),λa h=>y.live a (xe.live a h),λa h=>by
   rcases y.new a h with z | z
   ·exact .inl z
   ·by_cases e:a=D'
    ·subst e;exact .inr B
    ·rw[upd_ne e] at z;exact .inr z⟩
  refine eZ4 hg hb (hL σ) (F:=λa=>F a\/a=D') (.inr rfl) r2 ((gm.ext x1).keep kp |>.capt is) aQa RepL.nil (λI H2 y r2 hG=>⟨it.go _ fe I H2 (old y).w r2 hG,it.stop _ fe I H2 (old y).w r2 hG⟩) q1 λj S' H' O y Z h3 l3 q3=>?_
  have less:Keep (mt S' λa=>F a\/a=D') H' (mt S' F) H':=⟨λ_ _ _ e=>e,λa h _=>λz=>h (z.elim .inl λw=>.inr (.inl w))⟩;have Y:=old y;have U:S' D'=none:=(Z.frm D' (.inr rfl)).2;have r4:Rp K F S' H':=⟨λa o e=>(Z.obj a o e).keep less rfl,λa h=>Z.frm a (.inl h)⟩;have nm:¬ mt S' F D':=λz=>z.elim (λw=>w U) nF;cases b with
  | false =>
   refine c (.ref D') (.lst j) H' S' (x1.trans Y) r4 ?_ q3;unfold RepV;exact⟨D',O,rfl,.inl ⟨nm,.inl h3⟩,l3.keep less⟩
  | true =>
   have x5:Ext D H1 (supd S' D' (.lst j)) H':=⟨Y.keep,Y.live,λa h=>by
    by_cases e:a=D'
    ·subst e;exact .inr B
    ·rw[supd_ne e] at h;exact Y.new a h⟩
   have k6:Keep (mt S' λa=>F a\/a=D') H' (mt (supd S' D' (.lst j)) F) H':=⟨λ_ _ _ e=>e,λa h _=>λz=>by
    rcases z with z | z
    ·by_cases e:a=D'
     ·exact h (.inr (.inr e))
     ·rw[supd_ne e] at z;exact h (.inl z)
    ·exact h (.inr (.inl z))⟩
   refine c (.ref D') (.ref D') H' (supd S' D' (.lst j)) (x1.trans x5) ⟨λa o e=>?_,λa h=>⟨(r4.frm a h).1,?_⟩⟩ (by unfold RepV;rfl) (q3 D' U)
   ·by_cases e1:a=D'
    ·subst e1;rw[aQ3] at e;cases e;exact⟨O,h3,l3.keep k6⟩
    ·rw[supd_ne e1] at e;exact(Z.obj a o e).keep k6 rfl
   ·rw[supd_ne (by rintro rfl;exact nF h)];exact(r4.frm a h).2⟩
def dYes:TD:=λ_ S Q=>Q true S
theorem aZs:PTs X [] (upT K dYes):=λpins s σ H Q I j=>j.el λF S Γ QD r g q c=>dJt pins s σ H Q I (c true H S (Ext.refl _ _) r q)
theorem aQg {L:List Nat} {is:List (Option Nat)} (h:(L.all λi=>decide (is[i]?=some none))=true):∀ σ,Free L (capt is σ):=fun σ i hi=>by
 have:=of_decide_eq_true (bF.mp h i hi)
 unfold capt;rw[aF,this]
 rfl
theorem aQu {c:Expr} {t:TD} (h:PTD K X c t):PTs X [c] (upT K t):=dJu h.o
end
end L2
set_option maxHeartbeats 4000000
namespace L2
open PySem PySem.Spec PyProof.Rows
section
variable {prog:aC} {w:aR} {s:ai}
def Col (prog:aC) (w:aR) (s:ai) (v:ae) (Pv:List ae->Prop):Prop:=∀ (A:a7) (E:ae->ai->Prop) (R:List ae->ai->Prop),A.handled=none ->
 (∀ vals h' d tk,Pv vals->(∀ b o,s.heap.get? b=some o->h'.get? b=some o)->R vals { s with heap:=h',drawn:=d,toks:=tk })->aE (aJ prog w) A (collect v) R E s
theorem cJk {a:Addr} {T:String} {o:Obj} {its:List ae} {n:Nat} (hT:T = "list"\/T = "tuple") (ho:s.heap.get? a=some o) (hc:o.cls=.type T) (hd:o.data=.seq its.toArray n) (hz:its.length<=sizeLine):Col prog w s (.ref a) (· = its):=λA E R _ h =>
 wpAny_collect_seq a hT ho hc hd (λh' k=>by
  have:=h its h' s.drawn s.toks rfl k
  simpa using this) (by simpa using hz)
theorem dZg {a:Addr} {vs:List (Key × ae)} (lo:(a == e8)=false) (hd:s.heap.DictOf (aJr prog w) a vs) (hz:vs.length<=sizeLine):Col prog w s (.ref a) (λvals=>vals.length=vs.length/\∀ (j:Nat) (v:ae),vals[j]?=some v->∃ (k:Key) (x:ae),vs[j]?=some (k,x)/\dQk k v=true):=λA E R J h=>by
 obtain⟨ep,D⟩:=hd.dictAt;refine PySem.W.kdu_collect (PySem.W.kdl_dict (knd:=aJr prog w) (kvs:=vs) (ep:=ep) lo) J D hz λh' G acc I B=>?_;exact h acc.toList h' s.drawn G ⟨by rw[aZ];exact B.1,λj v e=>B.2 j v (by rw[<- aT];exact e)⟩ I
theorem aJa {A:a7} {E:ae->ai->Prop} {v:ae} {Pv:List ae->Prop} {Q:ae->ai->Prop} (hh:A.handled=none) (col:Col prog w s v Pv) (hz:∀ vals,Pv vals->vals.length<=sizeLine)
  (srt:∀ (vals:List ae) (h1:bf) (d:Drawn) (tk:Nat),Pv vals->(∀ b o,s.heap.get? b=some o->h1.get? b=some o)->aE (aJ prog w) A.in1.in1 (b4.«list.sort» ⟨[.ref h1.objs.size],[]⟩) (λfin s'=>fin=.done (.ret .none)/\Q (.ref h1.objs.size) s') E { s with heap:=h1.push (cG "list" vals.toArray 0),drawn:=d,toks:=tk }) :
  aE (aJ prog w) A (call (.builtin "sorted") [v]) Q E s:=by
 refine f6 kind_sorted plain_sorted entry_sorted (args_sorted1 _) ?_;unfold b4.«sorted»;refine aa (m:=checkCount "sorted" 1 1 _) (ad ?_);refine aa (col A.in1 _ _ (by simp[hh]) λvals h1 d tk pv kp=>?_)
 refine aa (jy ?_ (hz vals pv));have j:(h1.push (cG "list" vals.toArray 0)).get? h1.objs.size=some (cG "list" vals.toArray 0):=au _ rfl;refine aa (bW (bI slot_list_sort ⟨_,j,rfl⟩ entry_list_sort ?body (args_list_sort _)))
 case body =>
  refine e9 (srt vals h1 d tk pv kp) (λfin s' ⟨e,q⟩=>?_) λ_ _ e=>e;subst e;exact⟨_,rfl,ad ⟨_,rfl,q⟩⟩
theorem bQ3 {h:bf} {a:Addr} {vs:List ae} {n:Nat} {out:Array ae} (ho:h.get? a=some (cG "list" vs.toArray n)):(∃ c,(hZ h a vs out).get? a=some (cG "list" out c))/\∀ b o,b≠a->h.get? b=some o->(hZ h a vs out).get? b=some o:=by
 unfold hZ;obtain⟨G,j⟩:∃ G,(h.update a (bX λ_=>(#[]:Array ae))).get? a=some (cG "list" #[] G):=⟨_,gx ho λ_=>#[]⟩;have I:=b6 h a (bX λ_=>(#[]:Array ae));have B:∀ b o,(h.update a (bX λ_=>(#[]:Array ae))).get? b=some o->(((h.update a (bX λ_=>(#[]:Array ae))).push (cG "tuple" vs.toArray 0)).push (cG "list" #[] 0)).get? b=some o:=λb o e=>ag _ (ag _ e);refine⟨⟨_,gx (B _ _ j) λ_=>out⟩,λb o D e=>?_⟩;have s2:=b6 (((h.update a (bX λ_=>(#[]:Array ae))).push (cG "tuple" vs.toArray 0)).push (cG "list" #[] 0)) a (bX λ_=>out);exact(s2.2 b D).trans (B b o ((I.2 b D).trans e))
theorem cJl {A:a7} {E:ae->ai->Prop} {a:Addr} {vs:List ae} {ss:List Str} {n:Nat} {P:iP->ai->Prop} (ho:s.heap.get? a=some (cG "list" vs.toArray n)) (hS:kb vs ss) (h64:vs.length<=sizeLine)
  (h:∀ (out:List ae) (ss':List Str) (h':bf) (c:Nat),kb out ss'->ss'.Perm ss->sortedS ss'=true->h'.get? a=some (cG "list" out.toArray c)->(∀ b o,b≠a->s.heap.get? b=some o->h'.get? b=some o)->P (.done (.ret .none)) { s with heap:=h' }) :
  aE (aJ prog w) A (b4.«list.sort» ⟨[.ref a],[]⟩) P E s:=by
 refine SF.treeK strKind_oneLt ho hS.keysOf (λD B rest e=>keyKind_strs (by rw[<- e];exact hS)) h64 λj I G=>?_
 obtain⟨ss',h1,h2,O⟩:=sorted_out_str hS I G;obtain⟨⟨c,L⟩,J⟩:=bQ3 (out:=(aU j).map (·.2)) ho;exact h _ ss' _ c h1 h2 O (by rw[L]) J
theorem cJm {A:a7} {E:ae->ai->Prop} {a:Addr} {vs:List ae} {ns:List Int} {n:Nat} {P:iP->ai->Prop} (ho:s.heap.get? a=some (cG "list" vs.toArray n)) (hI:iI vs ns) (h64:vs.length<=sizeLine)
  (h:∀ (out:List ae) (ns':List Int) (h':bf) (c:Nat),iI out ns'->ns'.Perm ns->ns'.Pairwise (·<=·)->h'.get? a=some (cG "list" out.toArray c)->(∀ b o,b≠a->s.heap.get? b=some o->h'.get? b=some o)->P (.done (.ret .none)) { s with heap:=h' }) :
  aE (aJ prog w) A (b4.«list.sort» ⟨[.ref a],[]⟩) P E s:=by
 refine SF.treeI ho hI h64 λout ns' h1 h2 D=>?_;obtain⟨⟨c,B⟩,j⟩:=bQ3 (out:=out) ho;exact h _ ns' _ c h1 h2 D (by rw[B]) j
end
section
variable {X:Cx} {K:Fg}
def Src (K:Fg) (H:Hp) (x:V) (us:List V):Prop:=∃ a,x=.ref a/\(SqL K H a us\/SqT K H a us\/∃ kvs:List (Key × V),H a=some (.dK kvs)/\us=kvs.map λp=>kV p.1)
theorem bXh:∀ {kvs:List (Key × V)} {vs:List (Key × ae)} {vals:List ae},KV kvs vs->vals.length=vs.length->(∀ (j:Nat) (v:ae),vals[j]?=some v->∃ (k:Key) (x:ae),vs[j]?=some (k,x)/\dQk k v=true)->Vals (kvs.map λp=>kV p.1) vals
 | [],_,vals,.nil,B,_=>by cases vals with
  | nil=>exact .nil
  | cons _ _=>simp at B
 | p::kvs,_,vals,.cons (b:=q) I G,B,h=>by
  cases vals with
  | nil=>simp at B
  | cons v vals =>
   refine .cons ?_ (bXh G (by simpa using B) λj v e=>by simpa using h (j + 1) v (by simpa using e))
   obtain⟨k,x,e,J⟩:=h 0 v rfl;have L:q=(k,x):=by simpa using e
   have D:p.1=k:=by rw[I.1,L]
   show RelV (kV p.1) v;rw[D];rcases aQh J with⟨i,t,rfl,rfl⟩ | ⟨y,t,rfl,rfl⟩
   ·exact⟨t,rfl⟩
   ·exact⟨t,rfl⟩
theorem Inv.toks {pins:List (Addr × Obj)} {σ:St} {H:Hp} {s:ai} (I:Inv X pins σ H s) {h':bf} (k:∀ b o,s.heap.get? b=some o->h'.get? b=some o) (d:Drawn) (tk:Nat):Inv X pins σ H { s with heap:=h',drawn:=d,toks:=tk }:=(I.kept (t':=tk) k).drawn d
theorem Inv.src {pins:List (Addr × Obj)} {σ:St} {H:Hp} {s:ai} (I:Inv X pins σ H s) (hK:X.K=K) {x:V} {u:ae} {us:List V} (h:Src K H x us) (r:RelV x u):Col X.prog X.w s u (λvals=>Vals us vals)/\us.length<=sizeLine:=by
 subst hK;obtain⟨a,rfl,h⟩:=h;cases r;rcases h with h | h | ⟨J,h,rfl⟩
 ·obtain⟨L,B,⟨o,n,O,U,_,hd⟩,D⟩:=I.list h;have Z:=B.length;exact⟨λA E R G q=>cJk (.inl rfl) O U hd (by lia) A E R G λvals h' d j e k=>q vals h' d j (by rw[e];exact B) k,D⟩
 ·obtain⟨L,B,⟨o,O,U,n,hd⟩,D⟩:=I.tuple h;have Z:=B.length;exact⟨λA E R G q=>cJk (.inr rfl) O U hd (by lia) A E R G λvals h' d j e k=>q vals h' d j (by rw[e];exact B) k,D⟩
 ·obtain⟨D,lo,vs,Y,hd⟩:=I.hok a _ h;have Z:J.length=vs.length:=bP Y;exact⟨λA E R G q=>dZg lo hd (by lia) A E R G λvals h' d j e k=>q vals h' d j (bXh Y e.1 e.2) k,by rw[af];exact D⟩
def fZ4 (K:Fg):List V->Hp->VK->Prop:=λxs H Q=>∃ (x:V) (ss:List Str),xs=[x]/\Src K H x (ss.map V.str)/\∀ (p:Addr) (out:List Str),H p=none->out.Perm ss->out.Pairwise (λa b=>HT.ltS b a=false)->Q (.ref p) (upd H p (.lst (out.map V.str)))
theorem bQt:∀ {l:List Str},sortedS l=true->l.Pairwise λa b=>HT.ltS b a=false
 | [],_=>.nil
 | [x],_=>cq _ _
 | x::y::l,h=>by
  have h':(!ltCps y.cps.toList x.cps.toList && risingS y l)=true:=h;rw[aQ] at h';have I:=bQt (l:=y::l) h'.2;have D:HT.ltS y x=false:=by
   have:=h'.1
   rw[dO,ltCps_eq] at this;exact this
  refine bb.mpr ⟨λz G=>?_,I⟩;rcases aB.mp G with rfl | G
  ·exact D
  ·have j:=(bb.mp I).1 z G;cases e:HT.ltS z x with
   | false=>rfl
   | true =>
    by_cases B:y=x
    ·subst B;rw[j] at e;cases e
    ·have:=HT.ltS_tot D B
     have:=HT.ltS_tr e this
     rw[j] at this;cases this
theorem cJn (hK:X.K=K:=by rfl) (hc:X.calm=true:=by rfl):CallR X (.builtin "sorted") (fZ4 K):=by
 intro pins s σ H xs us Q I r h;obtain⟨x,ss,rfl,L,q⟩:=h;obtain⟨u,rfl,J⟩:=aZo r;obtain⟨col,B⟩:=I.src hK L J;have len:∀ {vals:List ae},Vals (ss.map V.str) vals->vals.length=ss.length:=λv=>by have:=v.length;simpa using this.symm
 refine aJa (I.ok.hd hc) col (λvals v=>by rw[len v];simpa using B) λvals h1 d j pv kp=>?_
 have G:H h1.objs.size=none:=(I.toks kp d j).hok.fresh (Nat.le_refl _);refine cJl (s:={ s with heap:=h1.push (cG "list" vals.toArray 0),drawn:=d,toks:=j }) (au _ rfl) (bJa (H:=H) (ds:=ss) (xs:=ss.map V.str) (by
  clear B q L col J pv len
  induction ss with
  | nil=>exact .nil
  | cons a ss O=>exact .cons rfl O) pv) (by rw[len pv];simpa using B) λout D h' c a1 a2 Y U R=>⟨rfl,?_⟩
 have Z:=I.toks kp d j;obtain⟨v1,v2⟩:=bZc (H:=H) a1;refine⟨.ref h1.objs.size,_,Z.laid (a:=h1.objs.size) (o:=.lst (D.map V.str)) (t':=j) (λb o e=>R b o (Nat.ne_of_lt (ay e)) (ag _ e)) (Nat.le_refl _) ⟨?_,out,c,v1,U⟩,rfl,q _ _ G a2 (bQt Y)⟩
 have:=a2.length_eq
 rw[af,this];simpa using B
def fZ5 (K:Fg):List V->Hp->VK->Prop:=λxs H Q=>∃ (x:V) (ns:List Int),xs=[x]/\Src K H x (ns.map V.int)/\∀ (p:Addr) (out:List Int),H p=none->out.Perm ns->out.Pairwise (·<=·)->Q (.ref p) (upd H p (.lst (out.map V.int)))
theorem cJo (hK:X.K=K:=by rfl) (hc:X.calm=true:=by rfl):CallR X (.builtin "sorted") (fZ5 K):=by
 intro pins s σ H xs us Q I r h;obtain⟨x,ss,rfl,L,q⟩:=h;obtain⟨u,rfl,J⟩:=aZo r;obtain⟨col,D⟩:=I.src hK L J;have len:∀ {vals:List ae},Vals (ss.map V.int) vals->vals.length=ss.length:=λv=>by have:=v.length;simpa using this.symm
 refine aJa (I.ok.hd hc) col (λvals v=>by rw[len v];simpa using D) λvals h1 d j pv kp=>?_
 have G:H h1.objs.size=none:=(I.toks kp d j).hok.fresh (Nat.le_refl _);refine cJm (s:={ s with heap:=h1.push (cG "list" vals.toArray 0),drawn:=d,toks:=j }) (au _ rfl) (bQk pv) (by rw[len pv];simpa using D) λout B h' c a1 a2 U R O=>⟨rfl,?_⟩
 have Y:=I.toks kp d j;refine⟨.ref h1.objs.size,_,Y.laid (a:=h1.objs.size) (o:=.lst (B.map V.int)) (t':=j) (λb o e=>O b o (Nat.ne_of_lt (ay e)) (ag _ e)) (Nat.le_refl _) ⟨?_,out,c,aJu a1,R⟩,rfl,q _ _ G a2 U⟩
 have:=a2.length_eq
 rw[af,this];simpa using D
def fZ6 (K:Fg):List V->Hp->VK->Prop:=λxs H Q=>∃ (x:V) (us:List V) (ds:List (List Str)),xs=[x]/\Src K H x us/\a8 (dT K dS H) us ds/\∀ (p:Addr) (idx:List Nat),H p=none->idx.Perm (aH us.length)->(idx.map λi=>ds.getD i []).Pairwise (λa b=>HT.lexS b a=false)->(idx.map λi=>ds.getD i []).Perm ds->Q (.ref p) (upd H p (.lst (idx.map λi=>us.getD i V.non)))
theorem tsOf {pins:List (Addr × Obj)} {σ:St} {H:Hp} {s:ai} (I:Inv X pins σ H s) (hK:X.K=K) {h':bf} (k:∀ b o,s.heap.get? b=some o->h'.get? b=some o):∀ {us:List V} {vs:List ae} {ds:List (List Str)},Vals us vs->a8 (dT K dS H) us ds->a8 (KS.TS h') vs ds
 | _,_,_,.nil,.nil=>.nil
 | _,_,_,.cons r q,.cons d p=>by
  refine .cons ?_ (tsOf I hK k q p);obtain⟨b,xs,e,B,pp⟩:=d;rw[e] at r;cases r;rw[<- hK] at B;obtain⟨j,D,⟨o,G,z⟩,_⟩:=I.tuple B;exact⟨b,j.toArray,rfl,⟨o,k b o G,z⟩,aXg pp D⟩
theorem cQn {us:List V} {vs:List ae} (p:Vals us vs):∀ (idx:List Nat),(∀ i∈idx,i < us.length)->Vals (idx.map λi=>us.getD i V.non) (idx.map λi=>vs.getD i bM)
 | [],_=>.nil
 | i::idx,h=>by
  refine .cons ?_ (cQn p idx λj B=>h j (ao _ B));have hi:=h i am;obtain⟨u,e,r⟩:=p.get (ah hi);show RelV (us.getD i V.non) (vs.getD i bM);rw[aj,aj,e,ah hi];exact r
theorem cJp (hu:X.A.units + 8 < cb) (hK:X.K=K:=by rfl) (hc:X.calm=true:=by rfl):CallR X (.builtin "sorted") (fZ6 K):=by
 intro pins s σ H xs us Q I r h;obtain⟨x,ys,ds,rfl,hs,O,q⟩:=h;obtain⟨u,rfl,R⟩:=aZo r;obtain⟨col,hz⟩:=I.src hK hs R;have hl:ys.length=ds.length:=bP O;refine aJa (I.ok.hd hc) col (λvals v=>by rw[<- v.length];exact hz) λvals h1 d j pv kp=>?_
 have D:=pv.length;have L:=I.toks kp d j;have J:H h1.objs.size=none:=L.hok.fresh (Nat.le_refl _);refine KS.sort_tupsL (s:={ s with heap:=h1.push (cG "list" vals.toArray 0),drawn:=d,toks:=j }) (ds:=ds) (by show X.A.units + 1 + 1 < _;lia) (au _ rfl) (tsOf L hK (λb o e=>ag _ e) pv O) (by lia) λidx h' c B Z Y g U=>⟨rfl,?_⟩
 have G:∀ i∈idx,i < ys.length:=λi hi=>by have:=bu.mp (B.mem_iff.mp hi);lia
 have il:idx.length=vals.length:=by have:=B.length_eq;simpa using this
 refine⟨.ref h1.objs.size,_,L.laid (a:=h1.objs.size) (o:=.lst (idx.map λi=>ys.getD i V.non)) (t':=j) (λb o e=>U b o (Nat.ne_of_lt (ay e)) (ag _ e)) (Nat.le_refl _) ⟨?_,_,c,cQn pv idx G,g⟩,rfl,q _ idx J (by rw[D];exact B) Z Y⟩
 rw[af];lia
end
section
variable {κ:Type} [DecidableEq κ]
def valV (kvs:List (κ × V)) (k:κ):Option V:=(kvs.find? λkv=>decide (kv.1=k)).map (·.2)
def putK (kvs:List (κ × V)) (k:κ) (v:V):List (κ × V) :=
 if (kvs.any λkv=>decide (kv.1=k))=true then kvs.map (λkv=>if kv.1=k then (kv.1,v) else kv) else kvs++[(k,v)]
theorem bZf {p:κ × V} {r:List (κ × V)} {k:κ} (e:p.1=k):valV (p::r) k=some p.2:=by simp[valV,dA,e]
theorem bZg {p:κ × V} {r:List (κ × V)} {k:κ} (e:¬ p.1=k):valV (p::r) k=valV r k:=by simp[valV,dA,e]
theorem cQo (k:κ):∀ kvs:List (κ × V),(kvs.any λkv=>decide (kv.1=k))=(valV kvs k).isSome
 | []=>rfl
 | p::r=>by
  rw[jz]
  by_cases e:p.1=k
  ·simp only[bZf e,decide_eq_true e,Bool.true_or,Option.isSome_some]
  ·rw[bZg e,decide_eq_false e,Bool.false_or];exact cQo k r
theorem bJd (kvs:List (κ × V)) (k:κ) (v:V):(putK kvs k v).length<=kvs.length + 1:=by
 unfold putK
 split
 ·rw[af];omega
 ·rw[aq,aV,cu];omega
theorem RelO.isSome_eq {o:Option V} {u:Option ae} (r:RelO o u):o.isSome=u.isSome:=by
 cases o with
 | none=>cases u with
  | none=>rfl
  | some _=>exact(show False from r).elim
 | some _=>cases u with
  | none=>exact(show False from r).elim
  | some _=>rfl
theorem RelO.getD {o:Option V} {u:Option ae} {d:V} {d':ae} (r:RelO o u) (rd:RelV d d'):RelV (o.getD d) (u.getD d'):=by
 cases o with
 | none=>cases u with
  | none=>exact rd
  | some _=>exact(show False from r).elim
 | some _=>cases u with
  | none=>exact(show False from r).elim
  | some _=>exact r
end
section
variable {X:Cx} {pins:List (Addr × Obj)} {σ:St} {H:Hp} {s:ai} {a:Addr} {y v:V} {u r:ae} {o:Option V} {A:a7} {E:ae->ai->Prop}
theorem Inv.big (I:Inv X pins σ H s):e8 < s.heap.objs.size:=by
 have h:bn < s.heap.objs.size:=(I.mod.glob.keeps I.bk).lt;exact Nat.lt_trans (by decide) h
theorem cJq {h':bf} {t':Nat} {ob:HO} (I:Inv X pins σ H s) (mu:Mut (H a)) (hs:c8 a s.heap h') (he:∃ q,h'.get? a=some q) (new:ObjOk X.prog X.w (upd H a ob) h' a ob) :
  Inv X pins σ (upd H a ob) { s with heap:=h',toks:=t' } :=
 I.write (x:=a) (e:=a) mu (.inl rfl) (λb q j z=>(hs.2 b j).trans z) he new
end
structure M2 (X:Cx) (o:Expr) (m:Str) (apos:Pos) (e f:Expr) (cpos:Pos):Prop where
 base:d8 o m X.env (eval o X.env)=eval o X.env
 few:((cz cpos (av [e,f] X.env)).all (λx=>!x.1) && (iU cpos (fP [] X.env)).all (λx=>x.1.isSome)
  && decide (([e,f]:List Expr).length + ([]:List fy).length + (if ([]:List fy).isEmpty then 0 else 1) < 30))=true
 line:(apos.endLine == cpos.line)=true
 trees:cz cpos (av [e,f] X.env)=[(false,eval e X.env),(false,eval f X.env)]
section
variable {X:Cx} {K:Fg} {pos:Pos} {k:Nat}
section
variable {elt target iter:Expr} {ifs:List Expr} {gs:List ju} {scope:Scope} {N':List Str} {is:List (Option Nat)} {wi:ID} {g:TG} {gd:GD} {tt:TD} {tv:Addr->TB} {tb:BD} {oc:Option Str} {m:ae->Env->Sem Unit} {b:Bool}
theorem aQw (L L':List Nat) (hcalm:X.calm=true) (hN:X.N.Nodup)
  (hturn:∀ it acc env,iV (.ListComp elt (⟨target,iter,ifs,0⟩::gs) scope pos) 0 it acc env=aXp target ifs iter.pos (m acc env) (.compLoop (.ListComp elt (⟨target,iter,ifs,0⟩::gs) scope pos) 0 it acc env) it env)
  (cp:Cap X.N scope N' is) (hL:∀ σ,Free L (capt is σ)) (hi:PID K X target iter wi) (hgd:CG K L L' g gd)
  (hg:∀ cl C fp s H,PG (aQi X N' scope cl C fp s H oc) target g) (ht:∀ cl C fp s H,PTs (aQi X N' scope cl C fp s H oc) ifs (upT K tt)) (hbd:bXg K L' tv tb) (hb:∀ cl C fp s H D,PB (aQi X N' scope cl C fp s H oc) (m (.ref D) (kz scope cl C X.env)) (tv D))
  (hcf:∀ n acc,gD n scope.names acc=ocl oc n acc:=by intro _ _;rfl) (hpc:∀ h,jI h scope.names=ohp oc h:=by intro _;rfl)
  (hkind:scope.kind=.function:=by rfl) (hcell:∀ y∈scope.names,y.2=.cell->oc=some y.1:=by decide +kernel)
  (hu:∀ y∈scope.names,scope.names.lookup y.1=some y.2:=by decide +kernel) (hoc:∀ x,oc=some x->scope.names.lookup x=some .cell:=by intro x h;cases h <;> rfl)
  (hVb:okV scope.names X.env.scope.names=true:=by first | rfl | kernel_rfl)
  (hs:∀ x,eE iter X.env x=pure x:=by intro _;rfl) :
  PD K X (.ListComp elt (⟨target,iter,ifs,0⟩::gs) scope pos) (eZ6 b is wi gd tt tb):=.of (dQy hcalm hN hturn cp hi.o hg ht hb hcf hpc hkind hcell hu hoc hVb hs) (cJj hL hgd hbd)
theorem bZh {x:Str} {i:Nat} {pos' spos:Pos} (hix:X.N[i]?=some x) (hx:Loc X.env.scope x) (L L':List Nat) (hcalm:X.calm=true) (hN:X.N.Nodup)
  (hturn:∀ it acc env,iV (.ListComp elt (⟨target,iter,ifs,0⟩::gs) scope pos) 0 it acc env=aXp target ifs iter.pos (m acc env) (.compLoop (.ListComp elt (⟨target,iter,ifs,0⟩::gs) scope pos) 0 it acc env) it env)
  (cp:Cap X.N scope N' is) (hL:∀ σ,Free L (capt is σ)) (hi:PID K X target iter wi) (hgd:CG K L L' g gd)
  (hg:∀ cl C fp s H,PG (aQi X N' scope cl C fp s H oc) target g) (ht:∀ cl C fp s H,PTs (aQi X N' scope cl C fp s H oc) ifs (upT K tt)) (hbd:bXg K L' tv tb) (hb:∀ cl C fp s H D,PB (aQi X N' scope cl C fp s H oc) (m (.ref D) (kz scope cl C X.env)) (tv D))
  (hcf:∀ n acc,gD n scope.names acc=ocl oc n acc:=by intro _ _;rfl) (hpc:∀ h,jI h scope.names=ohp oc h:=by intro _;rfl)
  (hkind:scope.kind=.function:=by rfl) (hcell:∀ y∈scope.names,y.2=.cell->oc=some y.1:=by decide +kernel)
  (hu:∀ y∈scope.names,scope.names.lookup y.1=some y.2:=by decide +kernel) (hoc:∀ x,oc=some x->scope.names.lookup x=some .cell:=by intro x h;cases h <;> rfl)
  (hVb:okV scope.names X.env.scope.names=true:=by first | rfl | kernel_rfl)
  (hs:∀ x,eE iter X.env x=pure x:=by intro _;rfl)
  (hsw:g9 (.ListComp elt (⟨target,iter,ifs,0⟩::gs) scope pos) (some (.Name x pos')) spos.line X.env=pure true:=by first | rfl | kernel_rfl) (hf:X.fn x=true\/X.env.scope.names.lookup x=some .local:=by first | exact .inl rfl | exact .inr rfl | assumption) :
  PSD K X (.Assign [.Name x pos'] (.ListComp elt (⟨target,iter,ifs,0⟩::gs) scope pos) spos) (dAsg (eZ6 b is wi gd tt tb) (aQr i)):=.of (dJz hix hx hcalm hN hturn cp hi.o hg ht hb hcf hpc hkind hcell hu hoc hVb hs hsw hf) λR σ H G=>G.el λF S Γ E r B q c=>by
 refine cJj (tt:=tt) (b:=b) hL hgd hbd σ H _ ⟨F,S,Γ,_,r,B,q,λv d H1 O j I v1 J=>?_⟩;exact c.nx _ O _ H1 j I ((B.ext j).set v1 i) J
end
def dCut (t u:SD):SD:=λE Γ S=>∃ M:Gm->Sto->Prop,t { E with nx:=M } Γ S/\∀ Γ' S',M Γ' S'->u E Γ' S'
theorem bZi {st:Stmt} {rest:List Stmt} {t u:SD} (h1:PSD K X st t) (h2:PSsD K X rest u):PSsD K X (st::rest) (dCut t u):=.of (bJv h1.o h2.o) λJ σ H ⟨F,S,Γ,E,r,g,⟨M,q,I⟩,c⟩ =>
 ⟨F,S,Γ,{ E with nx:=M },r,g,q,fun Γ1 j σ1 H1 B D g1 G=>⟨F,j,Γ1,E,D,g1,I Γ1 j G,c.ext B⟩,c.rt,c.bk,c.ct⟩
abbrev SpD:=List D->Sto->DK->Prop
def spU (K:Fg) (sp:SpD):Sp:=λvs H Q _=>∃ F S ds QD,Rp K F S H/\RepL K (mt S F) H ds vs/\sp ds S QD/\Cn K F S H QD Q
theorem aQ7 {x:Str} {ps:List Str} {sp:SpD} {p:Pos} {e:Expr} {es:List Expr} {t:AD} (Df':Df X.prog X.w X.K X.mg X.base k x ps (spU K sp)) (hr:Room k X.A) (hg:Gl X x) (ha:PAD K X (e::es) t)
  (hdb:(x == ("__debug__" : Str))=false:=by decide) (he:av (e::es) X.env=(false,eval e X.env)::av es X.env:=by rfl) (hpl:(cz pos (av es X.env)).any (·.1)=false:=by rfl) :
  PD K X (.Call (.Name x p) (e::es) [] pos) (dCB sp t):=.of (dQw Df' hr hg ha.o hdb he hpl) fun σ H Q j=>j.el λF S Γ QD r g q c =>
 ⟨F,S,Γ,_,r,g,q,λvs ds H1 I B D v1 G=>by
  show spU K sp (vs++[]) H1 Q E0;rw[bz];exact⟨F,I,ds,QD,D,v1,G,Cn.shift c B⟩⟩
inductive Frz (S S':Sto):D->D->Prop where
 | same (d:D):Frz S S' d d
 | ref {a:Addr} {xs ys:List D} (h:S a=some (.lst xs)) (h':S' a=none) (l:Frz S S' (.tup xs) (.tup ys)):Frz S S' (.ref a) (.lst ys)
 | nil:Frz S S' (.tup []) (.tup [])
 | cons {d e:D} {ds es:List D} (h:Frz S S' d e) (l:Frz S S' (.tup ds) (.tup es)):Frz S S' (.tup (d::ds)) (.tup (e::es))
theorem dXw {F:Am} {S S':Sto} {H:Hp} (r:Rp K F S H) (hs:∀ a o,S' a=some o->S a=some o):∀ {d e:D},Frz S S' d e->(∀ v,RepV K (mt S F) H d v->RepV K (mt S' F) H e v)/\(∀ ds es,d=.tup ds->e=.tup es->∀ vs,RepL K (mt S F) H ds vs->RepL K (mt S' F) H es vs):=by
 intro d e h;have kp:Keep (mt S F) H (mt S' F) H:=(Ext.less (H:=H) hs).kp
 induction h with
 | same d=>exact⟨λv h=>h.keep kp,λds es e1 e2 vs l=>by cases e1;cases e2;exact l.keep kp⟩
 | @ref a xs ys h h' l O =>
  refine⟨λv j=>?_,λds es e1=>by cases e1⟩
  rw[rref j];obtain⟨us,R,J⟩:=r.obj a _ h;unfold RepV;refine⟨a,us,rfl,.inl ⟨λz=>?_,.inl R⟩,O.2 xs ys rfl rfl us J⟩;rcases z with z | z
  ·exact z h'
  ·rw[(r.frm a z).2] at h;cases h
 | nil=>exact⟨λv h=>h.keep kp,λds es e1 e2 vs l=>by cases e1;cases e2;exact l.keep kp⟩
 | @cons d e ds es h l G B =>
  have ls:∀ vs,RepL K (mt S F) H (d::ds) vs->RepL K (mt S' F) H (e::es) vs:=λvs l=>by
   unfold RepL at l ⊢;obtain⟨v,vs,rfl,I,L⟩:=l;exact⟨v,vs,rfl,G.1 v I,B.2 ds es rfl rfl vs L⟩
  refine⟨λv j=>?_,λY U e1 e2 vs l=>by cases e1;cases e2;exact ls vs l⟩
  unfold RepV at j ⊢;obtain⟨a,us,rfl,t,l⟩:=j;exact⟨a,us,rfl,t.keep kp,ls us l⟩
def rtD (Q:DK):DK:=λd S=>∃ d' S',(∀ a o,S' a=some o->S a=some o)/\Frz S S' d d'/\Q d' S'
theorem aQn {Q:DK} {d:D} {S:Sto} (h:Q d S):rtD Q d S:=⟨d,S,λ_ _ e=>e,.same d,h⟩
theorem bZj {Q:DK} {d:D} {S S':Sto} (hs:∀ a o,S' a=some o->S a=some o) (h:Q d S'):rtD Q d S:=⟨d,S',hs,.same d,h⟩
theorem fZ7 {Q:DK} {a:Addr} {xs:List D} {S S':Sto} (h:S a=some (.lst xs)) (hs:∀ a o,S' a=some o->S a=some o) (h':S' a=none) (q:Q (.lst xs) S'):rtD Q (.ref a) S:=⟨.lst xs,S',hs,.ref h h' (.same _),q⟩
def dZh (Q:DK):EndsD:={ nx:=λ_ S=>rtD Q .non S,rt:=rtD Q }
def bQu (N:List Str) (ds:List D):Gm:=ds.map some++fM (N.length - ds.length) none
theorem cQp {M:Am} {H:Hp} {N:List Str} {ds:List D} {vs:List V} (l:RepL K M H ds vs):RepG K M H (bQu N ds) (start N vs):=by
 have j:∀ n,RepG K M H (fM n none) (fM n none):=λn=>by
  induction n with
  | zero=>exact rfl
  | succ n B=>exact⟨none,_,rfl,B⟩
 have gen:∀ {ds:List D} {vs:List V} {g:Gm} {σ:St},RepL K M H ds vs->RepG K M H g σ->RepG K M H (ds.map some++g) (vs.map some++σ):=by
  intro ds
  induction ds with
  | nil=>intro vs g σ l h;unfold RepL at l;subst l;exact h
  | cons d ds B =>
   intro vs g σ l h;unfold RepL at l;obtain⟨v,vs,rfl,r,l⟩:=l;exact⟨v,_,rfl,r,B l h⟩
 unfold bQu start;rw[l.length];exact gen l (j _)
theorem aXk {P:aC} {w:aR} {mg:Str->Option ae} {base:bf} {x:Str} {st:Stmt} {N ps:List Str} {sp:SpD} (T:Tx K mg x st) (S:FnScope N ps (aQ8 st))
  (b:∀ {f:Addr} {fd:eA},Fun K x x st f fd->Binds K fd ps []) (len:∀ ds S Q,sp ds S Q->ds.length=ps.length)
  (h:∀ (f:Addr) (cdv:ae) (A:a7) (outer:List Env) (s:ai) (H:Hp) (E:XK),Room k (A.deeper (jt x (aQ8 st) s.heap.objs.size f cdv)) ->
   ∃ t,PSsD K (cxOf CX0 P w K mg base N x (aQ8 st) f cdv A outer s H E).nox (aZh st) t/\∀ ds S Q,sp ds S Q->t (dZh Q) (bQu N ds) S):Df P w K mg base (k + 1) x ps (spU K sp):=by
 refine T.df b λ{f fd} Y=>Y.ok S (λvs H Q E D=>by obtain⟨F,S,ds,QD,r,l,j,c⟩:=D;rw[l.length];exact len ds S QD j) (λcdv A outer s H vs Q Z L D=>?_)
 obtain⟨F,S,ds,QD,r,l,j,c⟩:=D;obtain⟨t,h1,h2⟩:=h f cdv A outer s H Z L;have fin:∀ v d H' S',Ext S H S' H'->Rp K F S' H'->RepV K (mt S' F) H' d v->rtD QD d S'->Q v H':=λv d H' S' G B v1 J=>by
  obtain⟨R,U,I,O,q⟩:=J;exact c v R H' U (G.trans (Ext.less I)) (B.less I) ((dXw B I O).1 v v1) q
 exact⟨_,h1.o,F,S,bQu N ds,dZh QD,r,cQp l,h2 ds S QD j,fun Γ' S' σ' H' G B g1 q=>fin .non .non H' S' G B (by unfold RepV;rfl) q,fin,λ_ _ _ _ _ _ _ q=>q.elim,λ_ _ _ _ _ _ _ q=>q.elim⟩
theorem fZ8 {M:Am} {H:Hp}:∀ {as:List Int},RepL K M H (as.map D.int) (as.map V.int)
 | []=>RepL.nil
 | a::as=>RepL.cons (by unfold RepV;rfl) fZ8
def dMt (rd:D->List D->Sto->DK->Prop) (ck:D->Sto->Prop) (to:ED) (t:AD):ED:=fun Γ S Q=>to Γ S λo S1=>ck o S1/\t Γ S1 λds S2=>rd o ds S2 Q
def MtD (K:Fg) (T:String) (r:V->List V->Hp->VK->Prop) (rd:D->List D->Sto->DK->Prop) (ck:D->Sto->Prop):Prop :=
 (∀ F S H d x,Rp K F S H->RepV K (mt S F) H d x->ck d S->tyV K T x H)/\∀ F S H d ds x vs Q QD,Rp K F S H->RepV K (mt S F) H d x->RepL K (mt S F) H ds vs->rd d ds S QD->Cn K F S H QD Q->r x vs H Q
theorem e_bm {T id:String} {name:Str} {r:V->List V->Hp->VK->Prop} {rd:D->List D->Sto->DK->Prop} {ck:D->Sto->Prop} {o e:Expr} {es:List Expr} {to:ED} {t:AD} {apos cpos:Pos} (M:MtD K T r rd ck)
  (pa:PlainAttrs T) (slot:Slot T name id) (hty:typeOf (.builtin id)=pure (.type "method_descriptor")) (hm:MtR X id r) (ho:PD K X o to) (ha:PAD K X (e::es) t) (hK:X.K=K:=by rfl)
  (hbase:d8 o name X.env (eval o X.env)=eval o X.env:=by rfl)
  (hfew:((cz cpos (av (e::es) X.env)).all (λx=>!x.1) && (iU cpos (fP [] X.env)).all (λx=>x.1.isSome)
   && decide ((e::es).length + ([]:List fy).length + (if ([]:List fy).isEmpty then 0 else 1) < 30))=true:=by rfl)
  (hline:(apos.endLine == cpos.line)=true:=by rfl) (hs:av (e::es) X.env=(false,eval e X.env)::av es X.env:=by rfl) (hplain:(cz cpos (av es X.env)).any (·.1)=false:=by rfl) :
  PD K X (.Call (.Attribute o name apos) (e::es) [] cpos) (dMt rd ck to t):=by
 subst hK;exact .of (fXz pa slot hty hm ho.o ha.o hbase hfew hline hs hplain) fun σ H Q J=>J.el λF S Γ QD r g q c =>
  ⟨F,S,Γ,_,r,g,q,λv d H1 I B G v1 ⟨U,R⟩=>⟨M.1 F I H1 d v G v1 U,F,I,Γ,_,G,g.ext B,R,λvs ds H2 Y j L v2 O=>M.2 F Y H2 d ds v vs Q QD L (v1.ext j) v2 O (Cn.shift c (B.trans j))⟩⟩
def ckL (d:D) (S:Sto):Prop:=match d with
 | .ref a=>∃ xs,S a=some (.lst xs)
 | _=>False
theorem ty_L {F:Am} {S:Sto} {H:Hp} {d:D} {x:V} (r:Rp K F S H) (h:RepV K (mt S F) H d x) (c:ckL d S):tyV K "list" x H:=by
 cases d with
 | ref a =>
  obtain⟨xs,j⟩:=c;rw[rref h];obtain⟨us,B,_⟩:=r.obj a _ j;exact .inl ⟨rfl,us,SqL.of B⟩
 | _=>exact c.elim
theorem Cn.write {F:Am} {S:Sto} {H:Hp} {QD:DK} {Q:VK} (c:Cn K F S H QD Q) (r:Rp K F S H) {a:Addr} {xs ys:List D} {us ws:List V} (hS:S a=some (.lst xs)) (l:RepL K (mt S F) H ys ws) {d:D} {v:V} (hv:RepV K (mt S F) H d v) (q:QD d (supd S a (.lst ys))):Q v (upd H a (.lst ws)):=by
 have j:S a≠none:=by rw[hS];exact λz=>by cases z
 have x:Ext S H (supd S a (.lst ys)) (upd H a (.lst ws)):=Ext.write j;exact c v d _ _ x (r.write j ⟨ws,aQa,l.ext x⟩) (hv.ext x) q
def appD:D->List D->Sto->DK->Prop:=λo ds S Q=>match o,ds with
 | .ref a,[y]=>∃ xs,S a=some (.lst xs)/\xs.length < sizeLine/\Q .non (supd S a (.lst (xs++[y])))
 | _,_=>False
theorem fZ9:MtD K "list" cXa appD ckL:=⟨λF S H d x r h c=>ty_L r h c,λF S H d ds x vs Q QD r h l q c=>by
 match d,ds,q with
 | .ref a,[y],⟨xs,B,G,q⟩ =>
  obtain⟨v,rfl,D⟩:=l.one;obtain⟨us,I,j⟩:=r.obj a _ B;rw[rref h];exact⟨a,us,v,rfl,rfl,I,by rw[j.length];exact G,c.write r (us:=us) B (j.app (RepL.cons D RepL.nil)) (by unfold RepV;rfl) q⟩⟩
def cJr:D->List D->Sto->DK->Prop:=λo ds S Q=>match o,ds with
 | .ref a,[.int i]=>∃ xs j y,S a=some (.lst xs)/\i=(j:Nat)/\(j:Nat) < 2 ^ 63/\xs[(j:Nat)]?=some y/\Q y (supd S a (.lst (xs.eraseIdx j)))
 | _,_=>False
theorem dZi:MtD K "list" dXa cJr ckL:=⟨λF S H d x r h c=>ty_L r h c,λF S H d ds x vs Q QD r h l q c=>by
 match d,ds,q with
 | .ref a,[.int i],⟨xs,j,y,D,hi,R,J,q⟩ =>
  obtain⟨v,rfl,I⟩:=l.one;obtain⟨us,L,B⟩:=r.obj a _ D;obtain⟨z,e1,G⟩:=B.get J;rw[rref h,rint I];have O:j < us.length:=by
   rcases Nat.lt_or_ge j us.length with z | z
   ·exact z
   ·rw[ci z] at e1;cases e1
  have U:seqIndex? i us.length=some j:=by
   subst hi
   have:ixN us.length (j:Int)=some j:=by unfold ixN;rw[if_pos (by lia),if_pos (by lia),ce]
   exact(bXx this).1
  exact⟨a,us,i,j,z,rfl,rfl,L,by lia,by subst hi;exact_mod_cast R,U,e1,c.write r (us:=us) D (B.erase j) G q⟩⟩
theorem aXw {o e:Expr} {to:ED} {t:AD} {apos cpos:Pos} (ho:PD K X o to) (ha:PAD K X [e] t) (hK:X.K=K:=by rfl)
  (hbase:d8 o "append" X.env (eval o X.env)=eval o X.env:=by rfl)
  (hfew:((cz cpos (av [e] X.env)).all (λx=>!x.1) && (iU cpos (fP [] X.env)).all (λx=>x.1.isSome)
   && decide (([e]:List Expr).length + ([]:List fy).length + (if ([]:List fy).isEmpty then 0 else 1) < 30))=true:=by rfl)
  (hline:(apos.endLine == cpos.line)=true:=by rfl) (hs:av [e] X.env=(false,eval e X.env)::av [] X.env:=by rfl) (hplain:(cz cpos (av [] X.env)).any (·.1)=false:=by rfl) :
  PD K X (.Call (.Attribute o "append" apos) [e] [] cpos) (dMt appD ckL to t):=e_bm fZ9 fo PySem.F.slot_list_append PySem.F.type_list_append bX3 ho ha hK hbase hfew hline hs hplain
theorem eZ7 {o e:Expr} {to:ED} {t:AD} {apos cpos:Pos} (ho:PD K X o to) (ha:PAD K X [e] t) (hK:X.K=K:=by rfl)
  (hbase:d8 o "pop" X.env (eval o X.env)=eval o X.env:=by rfl)
  (hfew:((cz cpos (av [e] X.env)).all (λx=>!x.1) && (iU cpos (fP [] X.env)).all (λx=>x.1.isSome)
   && decide (([e]:List Expr).length + ([]:List fy).length + (if ([]:List fy).isEmpty then 0 else 1) < 30))=true:=by rfl)
  (hline:(apos.endLine == cpos.line)=true:=by rfl) (hs:av [e] X.env=(false,eval e X.env)::av [] X.env:=by rfl) (hplain:(cz cpos (av [] X.env)).any (·.1)=false:=by rfl) :
  PD K X (.Call (.Attribute o "pop" apos) [e] [] cpos) (dMt cJr ckL to t):=e_bm dZi fo PySem.F.slot_list_pop PySem.F.type_list_pop dQu ho ha hK hbase hfew hline hs hplain
def ckS (d:D) (S:Sto):Prop:=match d with
 | .str _=>True
 | _=>False
def fZa (K:Fg):V->List V->Hp->VK->Prop:=λx vs H Q=>∃ z y us ss,x=.str z/\vs=[y]/\(∃ a,y=.ref a/\SqL K H a us)/\a8 (dS H) us ss/\(ss.map (·.length)).sum + ss.length * z.length<=16777216/\Q (.str (Txt.join z ss)) H
theorem eZ8 (hK:X.K=K:=by rfl):MtR X "str.join" (fZa K):=by
 subst hK;intro pins s σ H x xs v us Q I B rs h;obtain⟨z,y,ws,ss,rfl,rfl,⟨a,rfl,sq⟩,p,G,q⟩:=h;obtain⟨t,rfl⟩:=B;obtain⟨u,rfl,ru⟩:=rs.one;cases ru;obtain⟨D,r,pl,_⟩:=I.list sq;exact join_list pl.isList (bJa p r) G λj k=>⟨.str _,H,I.tok k,⟨j,rfl⟩,q⟩
def fZb:D->List D->Sto->DK->Prop:=λo ds S Q=>match o,ds with
 | .str z,[d]=>∃ ss,lsIs S d (ss.map D.str)/\(ss.map (·.length)).sum + ss.length * z.length<=16777216/\Q (.str (Txt.join z ss)) S
 | _,_=>False
theorem eZ9:MtD K "str" (fZa K) fZb ckS:=⟨λF S H d x r h c=>by
 cases d with
 | str z=>rw[rstr h];exact rfl
 | _=>exact c.elim,λF S H d ds x vs Q QD r h l q c=>by
 match d,ds,q with
 | .str z,[d],⟨ss,h1,D,q⟩ =>
  obtain⟨v,rfl,j⟩:=l.one;obtain⟨a,us,rfl,sq,B⟩:=lsIs.sl r j h1;rw[rstr h];exact⟨z,_,us,ss,rfl,rfl,⟨a,rfl,sq⟩,aJ9 B,D,c.str r q⟩⟩
theorem fZc {o e:Expr} {to:ED} {t:AD} {apos cpos:Pos} (ho:PD K X o to) (ha:PAD K X [e] t) (hK:X.K=K:=by rfl)
  (hbase:d8 o "join" X.env (eval o X.env)=eval o X.env:=by rfl)
  (hfew:((cz cpos (av [e] X.env)).all (λx=>!x.1) && (iU cpos (fP [] X.env)).all (λx=>x.1.isSome)
   && decide (([e]:List Expr).length + ([]:List fy).length + (if ([]:List fy).isEmpty then 0 else 1) < 30))=true:=by rfl)
  (hline:(apos.endLine == cpos.line)=true:=by rfl) (hs:av [e] X.env=(false,eval e X.env)::av [] X.env:=by rfl) (hplain:(cz cpos (av [] X.env)).any (·.1)=false:=by rfl) :
  PD K X (.Call (.Attribute o "join" apos) [e] [] cpos) (dMt fZb ckS to t):=e_bm eZ9 PySem.F.plainAttrs_str PySem.F.slot_str_join PySem.F.type_str_join (eZ8 hK) ho ha hK hbase hfew hline hs hplain
end
end L2
set_option maxHeartbeats 1000000
namespace L2
open PySem PySem.Spec PyProof.Rows
def leS (a b:Str):Bool:=!HT.ltS b a
def leT (a b:List Str):Bool:=!HT.lexS b a
theorem cQq:∀ a:List Str,HT.lexS a a=false
 | []=>rfl
 | x::xs=>by rw[HT.lexS_cons,if_pos rfl,cQq xs]
theorem fZd (a b c:Str) (h:leS a b=true) (h':leS b c=true):leS a c=true:=by
 unfold leS at *
 rw[dO] at *
 cases e:HT.ltS c a with
 | false=>rfl
 | true =>
  by_cases j:b=a
  ·subst j;rw[h'] at e;cases e
  ·have:=HT.ltS_tr e (HT.ltS_tot h j)
   rw[h'] at this;cases this
theorem eZa (a b:Str):(leS a b || leS b a)=true:=by
 unfold leS;cases e:HT.ltS b a with
 | false=>rfl
 | true=>rw[HT.ltS_as e];rfl
theorem dZj {a b:Str} (h:leS a b=true) (h':leS b a=true):a=b:=by
 unfold leS at *
 rw[dO] at *
 exact bj λn=>by
  have:=HT.ltS_tot h (λz=>n z.symm)
  rw[h'] at this;cases this
theorem fZe (a b c:List Str) (h:leT a b=true) (h':leT b c=true):leT a c=true:=by
 unfold leT at *
 rw[dO] at *
 cases e:HT.lexS c a with
 | false=>rfl
 | true =>
  by_cases j:b=a
  ·subst j;rw[h'] at e;cases e
  ·have:=HT.lexS_tr e (HT.lexS_tot h j)
   rw[h'] at this;cases this
theorem eZb (a b:List Str):(leT a b || leT b a)=true:=by
 unfold leT;cases e:HT.lexS b a with
 | false=>rfl
 | true=>rw[HT.lexS_as e];rfl
theorem dZk {a b:List Str} (h:leT a b=true) (h':leT b a=true):a=b:=by
 unfold leT at *
 rw[dO] at *
 exact bj λn=>by
  have:=HT.lexS_tot h (λz=>n z.symm)
  rw[h'] at this;cases this
def srS (l:List Str):List Str:=l.mergeSort leS
def srT (l:List (List Str)):List (List Str):=l.mergeSort leT
def srI (l:List Int):List Int:=l.mergeSort λa b=>decide (a<=b)
theorem aZt (l:List Str):(srS l).Perm l:=iF _ _
theorem aXx (l:List (List Str)):(srT l).Perm l:=iF _ _
theorem dZl (l:List Int):(srI l).Perm l:=iF _ _
theorem dXx (l:List Str):(srS l).Pairwise λa b=>leS a b=true:=gG fZd eZa l
theorem dXy (l:List (List Str)):(srT l).Pairwise λa b=>leT a b=true:=gG fZe eZb l
theorem fZf (l:List Int):(srI l).Pairwise λa b=>decide (a<=b)=true:=gG (le:=λa b=>decide (a<=b)) (λa b c h h'=>decide_eq_true (Int.le_trans (of_decide_eq_true h) (of_decide_eq_true h'))) (λa b=>by
 rcases Int.le_total a b with h | h
 ·rw[decide_eq_true h];rfl
 ·rw[decide_eq_true h,Bool.or_true]) l
theorem fZg {l out:List Str} (p:out.Perm l) (h:out.Pairwise λa b=>HT.ltS b a=false):out=srS l :=
 (p.trans (aZt l).symm).eq_of_pairwise (λ_ _ _ _ h h'=>dZj h h') (h.imp λh=>by unfold leS;rw[h];rfl) (dXx l)
theorem eZc {l out:List (List Str)} (p:out.Perm l) (h:out.Pairwise λa b=>HT.lexS b a=false):out=srT l :=
 (p.trans (aXx l).symm).eq_of_pairwise (λ_ _ _ _ h h'=>dZk h h') (h.imp λh=>by unfold leT;rw[h];rfl) (dXy l)
theorem fZh {l out:List Int} (p:out.Perm l) (h:out.Pairwise (·<=·)):out=srI l :=
 (p.trans (dZl l).symm).eq_of_pairwise (λ_ _ _ _ h h'=>Int.le_antisymm (of_decide_eq_true h) (of_decide_eq_true h')) (h.imp λh=>decide_eq_true h) (fZf l)
section
variable {X:Cx} {K:Fg} {pos:Pos} {k:Nat} {e:Expr} {t:AD} {p:Pos}
def rSum (K:Fg):List V->Hp->VK->Prop:=λxs H Q=>∃ (x:V) (ns:List Int),xs=[x]/\(∃ a,x=.ref a/\SqL K H a (ns.map V.int))/\Q (.int ns.sum) H
theorem dZm (hK:X.K=K:=by rfl) (hc:X.calm=true:=by rfl):CallR X (.builtin "sum") (rSum K):=by
 subst hK;intro pins s σ H xs us Q I r h;obtain⟨x,ns,rfl,⟨a,rfl,sq⟩,q⟩:=h;obtain⟨u,rfl,rx⟩:=aZo r;cases rx;obtain⟨J,G,pl,O⟩:=I.list sq;have hi:=bQk G;obtain⟨xs,j⟩:=hi.allInts.items;have B:=pl.isList;rw[j] at B;refine sum_intListG (I.ok.hd hc) B λh' D t' L=>?_;have e:preSum (numAt xs) xs.size=ns.sum:=by
  have h1:numsOf (intItems xs).toList=ns:=by rw[<- j];exact hi.numsOf
  rw[nums_intItems] at h1;rw[preSum_eq,bG (by simp),h1]
 rw[e];exact⟨.int ns.sum,H,I.kept (t':=D) L,⟨t',rfl⟩,q⟩
theorem bJe {M:Am} {H:Hp}:∀ {as:List Int} {xs:List V},RepL K M H (as.map D.int) xs->xs=as.map V.int
 | [],xs,h=>by rw[fx] at h;unfold RepL at h;exact h
 | a::as,xs,h=>by
  rw[aL] at h;unfold RepL at h;obtain⟨v,vs,rfl,r,l⟩:=h;unfold RepV at r;rw[r,bJe l];rfl
theorem cJs {M:Am} {H:Hp}:∀ {as:List Int},RepL K M H (as.map D.int) (as.map V.int)
 | []=>RepL.nil
 | a::as=>RepL.cons (by unfold RepV;rfl) cJs
theorem cJt {M:Am} {H:Hp}:∀ {as:List Str} {xs:List V},RepL K M H (as.map D.str) xs->xs=as.map V.str
 | [],xs,h=>by rw[fx] at h;unfold RepL at h;exact h
 | a::as,xs,h=>by
  rw[aL] at h;unfold RepL at h;obtain⟨v,vs,rfl,r,l⟩:=h;unfold RepV at r;rw[r,cJt l];rfl
theorem cJu {M:Am} {H:Hp}:∀ {as:List Str},RepL K M H (as.map D.str) (as.map V.str)
 | []=>RepL.nil
 | a::as=>RepL.cons (by unfold RepV;rfl) cJu
def sumD:RCD:=λds S Q=>match ds with
 | [d]=>∃ ns:List Int,lsIs S d (ns.map D.int)/\Q (.int ns.sum) S
 | _=>False
theorem fZi (hg:Gl X "sum") (hm:X.mg "sum" = none) (ha:PAD K X [e] t) (hK:X.K=K:=by rfl) (hc:X.calm=true:=by rfl) (he:av [e] X.env=(false,eval e X.env)::av [] X.env:=by rfl) (hpl:(cz pos (av [] X.env)).any (·.1)=false:=by rfl):PD K X (.Call (.Name "sum" p) [e] [] pos) (dCB sumD t):=aXh (dZm hK hc) (by
 intro F S H ds vs Q QD r l h c
 match ds,h with
 | [d],⟨ns,h1,q⟩ =>
  obtain⟨v,rfl,j⟩:=l.one;obtain⟨a,us,rfl,sq,B⟩:=lsIs.sl r j h1;rw[bJe B] at sq;exact⟨_,ns,rfl,⟨a,rfl,sq⟩,c.int r q⟩) hg hm eJo ha (by decide) (by decide) he hpl
def keyD:Key->D
 | .inl i=>.int i
 | .inr x=>.str x
def srcIs (S:Sto) (d:D) (xs:List D):Prop:=match d with
 | .tup ys=>xs=ys
 | .lst ys=>xs=ys
 | .ref a=>S a=some (.lst xs)\/∃ kvs,S a=some (.dk kvs)/\xs=kvs.map λp=>keyD p.1
 | _=>False
theorem cJv {M:Am} {H:Hp}:∀ {ks:List (Key × V)} {kvs:List (Key × D)},a8 (λ(p:Key × V) (q:Key × D)=>p.1=q.1/\RepV K M H q.2 p.2) ks kvs->RepL K M H (kvs.map λp=>keyD p.1) (ks.map λp=>kV p.1)
 | _,_,.nil=>RepL.nil
 | _,_,.cons (a:=a) (b:=b) h l=>by
  refine RepL.cons ?_ (cJv l);show RepV K M H (keyD b.1) (kV a.1);rw[h.1];cases b.1 <;> (unfold keyD kV RepV;rfl)
theorem srcIs.src {F:Am} {S:Sto} {H:Hp} (r:Rp K F S H) {d:D} {v:V} {xs:List D} (h:RepV K (mt S F) H d v) (l:srcIs S d xs):∃ us,Src K H v us/\RepL K (mt S F) H xs us:=by
 cases d with
 | tup ys=>cases l;obtain⟨a,us,rfl,sq,l⟩:=tup.st h;exact⟨us,⟨a,rfl,.inr (.inl sq)⟩,l⟩
 | lst ys=>cases l;obtain⟨a,us,rfl,sq,l⟩:=lsIs.sl r h (show lsIs S (.lst xs) xs from rfl);exact⟨us,⟨a,rfl,.inl sq⟩,l⟩
 | ref a =>
  rw[rref h];rcases l with l | ⟨G,l,rfl⟩
  ·obtain⟨us,B,j⟩:=r.obj a _ l;exact⟨us,⟨a,rfl,.inl (SqL.of B)⟩,j⟩
  ·obtain⟨I,B,j⟩:=r.obj a _ l;exact⟨_,⟨a,rfl,.inr (.inr ⟨I,B,rfl⟩)⟩,cJv j⟩
 | _=>exact l.elim
def tupS (t:List Str):D:=.tup (t.map D.str)
def srtD (b:Bool):RCD:=λds S Q=>match ds with
 | [d]=>(∃ ss:List Str,srcIs S d (ss.map D.str)/\newL b ((srS ss).map D.str) S Q)\/(∃ ns:List Int,srcIs S d (ns.map D.int)/\newL b ((srI ns).map D.int) S Q) \/
  ∃ ts:List (List Str),srcIs S d (ts.map tupS)/\newL b ((srT ts).map tupS) S Q
 | _=>False
def fJs (K:Fg):List V->Hp->VK->Prop:=λxs H Q=>fZ4 K xs H Q\/fZ5 K xs H Q\/fZ6 K xs H Q
theorem bZk {S:Sto} {F:Am} {H:Hp}:∀ {ts:List (List Str)} {us:List V},RepL K (mt S F) H (ts.map tupS) us->a8 (dT K dS H) us ts
 | [],us,h=>by rw[fx] at h;unfold RepL at h;subst h;exact .nil
 | a::as,xs,h=>by
  rw[aL] at h;unfold RepL at h;obtain⟨v,vs,rfl,r,l⟩:=h;exact .cons (bZd r) (bZk l)
theorem dXz {M:Am} {H:Hp} {ds:List D} {us:List V} (l:RepL K M H ds us):∀ (idx:List Nat),(∀ i∈idx,i < us.length)->RepL K M H (idx.map λi=>ds.getD i .non) (idx.map λi=>us.getD i .non)
 | [],_=>RepL.nil
 | i::idx,h=>by
  have hi:=h i am;refine RepL.cons ?_ (dXz l idx λj B=>h j (ao _ B));obtain⟨d,G,rd⟩:=l.get' (ah hi);show RepV K M H (ds.getD i .non) (us.getD i .non);rw[aj,aj,G,ah hi];exact rd
theorem fZj {b:Bool}:bXd K (fJs K) (srtD b):=by
 intro F S H ds vs Q QD r l h c
 match ds,h with
 | [d],h =>
  obtain⟨v,rfl,I⟩:=l.one;rcases h with⟨ss,h1,q⟩ | ⟨ss,h1,q⟩ | ⟨ts,h1,q⟩
  ·obtain⟨us,B,j⟩:=h1.src r I;rw[cJt j] at B;exact .inl ⟨v,ss,rfl,B,λp out D L J=>by
    rw[fZg L J];exact c.new r D cJu q⟩
  ·obtain⟨us,B,j⟩:=h1.src r I;rw[bJe j] at B;exact .inr (.inl ⟨v,ss,rfl,B,λp out D L J=>by
    rw[fZh L J];exact c.new r D cJs q⟩)
  ·obtain⟨us,B,j⟩:=h1.src r I;refine .inr (.inr ⟨v,us,ts,rfl,B,bZk j,λp idx D Y U R=>c.new r D ?_ q⟩);have Z:=j.length;rw[af] at Z;have G:∀ i∈idx,i < us.length:=λi hi=>bu.mp (Y.mem_iff.mp hi)
   have:=dXz j idx G
   rw[<- eZc R U,bH];have e:(idx.map λi=>(ts.map tupS).getD i .non)=idx.map (tupS ∘ λi=>ts.getD i []):=eI λi hi=>by
    have O:i < ts.length:=by have:=G i hi;omega
    show(ts.map tupS).getD i .non=tupS (ts.getD i []);rw[aj,aj,aF,ah O]
    rfl
   rw[<- e];exact this
theorem aJo {b:Bool} (hr:Room k X.A) (hg:Gl X "sorted") (hm:X.mg "sorted" = none) (ha:PAD K X [e] t) (hK:X.K=K:=by rfl) (hc:X.calm=true:=by rfl) (he:av [e] X.env=(false,eval e X.env)::av [] X.env:=by rfl) (hpl:(cz pos (av [] X.env)).any (·.1)=false:=by rfl):PD K X (.Call (.Name "sorted" p) [e] [] pos) (dCB (srtD b) t):=aXh ((cJn hK hc).or ((cJo hK hc).or (cJp (lt10 hr) hK hc))) fZj hg hm aX1 ha (by decide) (by decide) he hpl
end
end L2
set_option maxHeartbeats 4000000
namespace L2
open PySem PySem.Spec PyProof.Rows
theorem aZ6 {g:GD} {tt:TD} {tb:BD} {G:Sto->Prop} {Γ0:Gm} {xs acc:List D} {S:Sto} {Q:List D->Sto->Prop} (I:Nat->List D->Sto->Prop) (h0:I 0 acc S)
  (hs:∀ i x acc S (N:List D->Sto->Prop),xs[i]?=some x->I i acc S->(∀ acc' S',I (i + 1) acc' S'->N acc' S')->G S/\g x Γ0 S fun Γ2 S2=>tt Γ2 S2 λb S3=>if b=true then tb Γ2 S3 acc N else N acc S3)
  (hd:∀ acc S,I xs.length acc S->G S/\Q acc S):aZl g tt tb G Γ0 xs acc S Q:=by
 have gen:∀ n i acc S,i + n=xs.length->I i acc S->aZl g tt tb G Γ0 (xs.drop i) acc S Q:=by
  intro n
  induction n with
  | zero =>
   intro i acc S hi h;have e:i=xs.length:=by lia
   subst e;rw[ie];exact hd acc S h
  | succ n B =>
   intro i acc S hi h;have j:i < xs.length:=by lia
   rw[aXv j];exact hs i xs[i] acc S (λacc' J=>aZl g tt tb G Γ0 (xs.drop (i + 1)) acc' J Q) (ah j) h λacc' S' h'=>B (i + 1) acc' S' (by lia) h'
 simpa using gen xs.length 0 acc S (by lia) h0
theorem aQv {g:GD} {tb:SD} {G:Sto->Prop} {E:EndsD} {xs:List D} {Γ:Gm} {S:Sto} (I:Nat->Gm->Sto->Prop) (h0:I 0 Γ S)
  (hs:∀ i x Γ S (N:Gm->Sto->Prop),xs[i]?=some x->I i Γ S->(∀ Γ' S',I (i + 1) Γ' S'->N Γ' S')->G S/\g x Γ S fun Γ2 S2=>tb { E with nx:=N,ct:=N,bk:=E.nx } Γ2 S2)
  (hd:∀ Γ S,I xs.length Γ S->G S/\E.nx Γ S):forD g tb G E xs Γ S:=by
 have gen:∀ n i Γ S,i + n=xs.length->I i Γ S->forD g tb G E (xs.drop i) Γ S:=by
  intro n
  induction n with
  | zero =>
   intro i Γ S hi h;have e:i=xs.length:=by lia
   subst e;rw[ie];exact hd Γ S h
  | succ n B =>
   intro i Γ S hi h;have j:i < xs.length:=by lia
   rw[aXv j];exact hs i xs[i] Γ S (forD g tb G E (xs.drop (i + 1))) (ah j) h fun Γ' S' h'=>B (i + 1) Γ' S' (by lia) h'
 simpa using gen xs.length 0 Γ S (by lia) h0
theorem aJp {α:Type} {i:Nat} {te:ED} {Γ0:Gm} {S:Sto} {Q:List D->Sto->Prop} {enc:α->D} {f:α->D} {xs:List α} {acc:List D} (h:∀ x∈xs,∀ Q:DK,Q (f x) S->te (Γ0.set i (some (enc x))) S Q) (hn:acc.length + xs.length<=sizeLine)
  (q:Q (acc++xs.map f) S):aZl (aQr i) dYes (aJl te) (λ_=>True) Γ0 (xs.map enc) acc S Q:=by
 induction xs generalizing acc with
 | nil=>exact⟨trivial,by simpa using q⟩
 | cons x xs B =>
  refine⟨trivial,?_⟩;show aJl te (Γ0.set i (some (enc x))) S acc (λj I=>aZl (aQr i) dYes (aJl te) (λ_=>True) Γ0 (xs.map enc) j I Q);refine h x am _ ⟨by simp at hn;lia,B (λy G=>h y (ao _ G)) (by simp at hn ⊢;lia) (by simpa using q)⟩
theorem aZ3 {α:Type} {i:Nat} {tt:TD} {te:ED} {Γ0:Gm} {S:Sto} {Q:List D->Sto->Prop} {enc:α->D} {p:α->Bool} {f:α->D} {xs:List α} {acc:List D} (ht:∀ x∈xs,∀ Q:Bool->Sto->Prop,Q (p x) S->tt (Γ0.set i (some (enc x))) S Q) (h:∀ x∈xs,p x=true->∀ Q:DK,Q (f x) S->te (Γ0.set i (some (enc x))) S Q) (hn:acc.length + xs.length<=sizeLine)
  (q:Q (acc++(xs.filter p).map f) S):aZl (aQr i) tt (aJl te) (λ_=>True) Γ0 (xs.map enc) acc S Q:=by
 induction xs generalizing acc with
 | nil=>exact⟨trivial,by simpa using q⟩
 | cons x xs B =>
  refine⟨trivial,?_⟩;show tt (Γ0.set i (some (enc x))) S _;refine ht x am _ ?_;cases hp:p x with
  | true =>
   rw[if_pos rfl];refine h x am hp _ ⟨by simp at hn;lia,B (λy j=>ht y (ao _ j)) (λy j=>h y (ao _ j)) (by simp at hn ⊢;lia) ?_⟩
   rw[bt,hp] at q;simpa using q
  | false =>
   rw[if_neg (by simp)]
   refine B (λy j=>ht y (ao _ j)) (λy j=>h y (ao _ j)) (by simp at hn ⊢;lia) ?_
   rw[bt,hp] at q;simpa using q
def sg (c:Nat):Str:=⟨#[c]⟩
theorem fZk (c:Nat):(sg c).length=1:=rfl
theorem dJ0 (a b:List Nat):((⟨a.toArray⟩:Str)++(⟨b.toArray⟩:Str))=⟨(a++b).toArray⟩:=by
 show Str.mk (a.toArray++b.toArray)=_;simp
theorem dZn:(aG "" : Str)=⟨#[]⟩:=by decide
theorem eZd:∀ cs:List Nat,Txt.join (aG "") (cs.map sg)=⟨cs.toArray⟩:=λcs=>by
 show b4.Str.glued _ _=_;rw[StrLaws.glued_eq_join]
 induction cs with
 | nil=>rfl
 | cons c cs j =>
  cases cs with
  | nil=>rfl
  | cons d cs =>
   rw[aL] at j;show sg c++aG ""++Str.join (aG "") (sg d::cs.map sg)=_;rw[j,dZn];show((⟨[c].toArray⟩:Str)++(⟨([]:List Nat).toArray⟩:Str))++(⟨(d::cs).toArray⟩:Str)=_;rw[dJ0,dJ0]
   rfl
theorem bZl {α:Type} (f:α->D) (xs:List α) (lo hi:Option Int):cutD (xs.map f) lo hi=((xs.drop (HT.sIx xs.length 0 lo)).take (HT.sIx xs.length xs.length hi - HT.sIx xs.length 0 lo)).map f:=by
 unfold cutD;rw[af,List.map_take,List.map_drop]
theorem cJw {α β:Type} (f:α->β) (xs:List α) (i:Int):atI (xs.map f) i=(atI xs i).map f:=by
 unfold atI;rw[af];cases ixN xs.length i with
 | none=>rfl
 | some j=>simp
theorem fZl {α:Type} {xs:List α} {i:Int} (h0:0<=i) (h1:i < xs.length):∃ (h:i.toNat < xs.length),atI xs i=some xs[i.toNat]:=by
 have h:i.toNat < xs.length:=by lia
 refine⟨h,?_⟩
 have:=aXd (ah h)
 rwa [show((i.toNat:Nat):Int)=i by lia] at this
theorem bQv {n i:Nat} {x:D} (h:(rngD 0 n)[i]?=some x):i < n/\x=.int (i:Nat):=by
 obtain⟨h1,h2⟩:=aXu n 0 i x h;exact⟨h1,by rw[h2,Int.zero_add]⟩
def Off (a:Addr) (S S':Sto):Prop:=∀ b,b≠a->S' b=S b
theorem Off.trans {a:Addr} {S S1 S2:Sto} (h:Off a S S1) (h':Off a S1 S2):Off a S S2:=λb j=>(h' b j).trans (h b j)
section
variable {X:Cx} {K:Fg} {pos:Pos}
def zipD:List D->List D->List D
 | x::xs,y::ys=>.tup [x,y]::zipD xs ys
 | _,_=>[]
theorem bZm:∀ (xs ys:List D) (i:Nat) (d:D),(zipD xs ys)[i]?=some d->∃ x y,xs[i]?=some x/\ys[i]?=some y/\d=.tup [x,y]
 | [],_,i,d,h=>by simp[zipD] at h
 | _::_,[],i,d,h=>by simp[zipD] at h
 | x::xs,y::ys,0,d,h=>by simp[zipD] at h;exact⟨x,y,rfl,rfl,h.symm⟩
 | x::xs,y::ys,i + 1,d,h=>by
  have h':(zipD xs ys)[i]?=some d:=by simpa [zipD] using h
  obtain⟨u,v,h1,h2,e⟩:=bZm xs ys i d h';exact⟨u,v,by simpa using h1,by simpa using h2,e⟩
theorem cQr:∀ (xs ys:List D),(zipD xs ys).length=min xs.length ys.length
 | [],_=>by simp[zipD]
 | _::_,[]=>by simp[zipD]
 | x::xs,y::ys=>by simp[zipD,cQr xs ys]
theorem cQs {F:Am} {S:Sto} {H:Hp} {p:Addr} {x y:V} {d e:D} (r:Rp K F S H) (hp:H p=none) (rx:RepV K (mt S F) H d x) (ry:RepV K (mt S F) H e y):Ext S H S (upd H p (.tup [x,y]))/\Rp K F S (upd H p (.tup [x,y]))/\RepV K (mt S F) (upd H p (.tup [x,y])) (.tup [d,e]) (.ref p):=by
 have z:Ext S H S (upd H p (.tup [x,y])):=Ext.same (aQo hp);refine⟨z,r.same (aQo hp),?_⟩;unfold RepV;exact⟨p,_,rfl,.inl ⟨r.nmt hp,.inl aQa⟩,RepL.cons (rx.ext z) (RepL.cons (ry.ext z) RepL.nil)⟩
end
end L2
set_option maxHeartbeats 1000000
namespace L2
open PySem PySem.Spec PyProof.Rows
section
variable {X:Cx} {K:Fg} {pos:Pos} {k:Nat} {e:Expr} {te:ED}
def repS (z:Str) (n:Int):Str:=if n=1 then z else ⟨(fM n.toNat z.cps).foldl (·++·) #[]⟩
theorem cQt (a:Array Nat):∀ (n:Nat) (acc:Array Nat),((fM n a).foldl (·++·) acc).size=acc.size + n * a.size
 | 0,acc=>by simp
 | n + 1,acc=>by
  rw[List.replicate_succ,kf,cQt a n,cU,Nat.succ_mul];omega
theorem cQu {z:Str} {n:Int} (hz:z.length=1) (n1:1<=n):(repS z n).length=n.toNat:=by
 unfold repS
 split
 ·rename_i h;rw[hz,h];rfl
 ·show Array.size _=_;have j:z.cps.size=1:=hz;rw[cQt,j];simp
def fZm:R2:=λx y H Q=>∃ z n,x=.str z/\y=.int n/\z.length=1/\1<=n/\n<=100/\Q (.str (repS z n)) H
theorem eZe:OpR X (eH .Mult) fZm:=by
 intro pins s σ H x y v u Q I G D h;obtain⟨z,n,rfl,rfl,j,J,O,q⟩:=h;obtain⟨t,rfl⟩:=G;obtain⟨L,rfl⟩:=D;refine P.mul_str ?_ (λ_ _=>?_) (λ_ _=>?_) ?_
 ·rw[decide_eq_false (by omega),decide_eq_false (by omega)];rfl
 ·rw[j]
  have:=(Int.le_ediv_iff_mul_le (a:=1) (b:=2 ^ 63 - 1) (c:=n) (by omega)).mpr (by omega)
  omega
 ·rw[j];exact decide_eq_false (by rw[bh];omega)
 ·rw[if_neg (by omega)]
  unfold repS at q
  by_cases h1:n=1
  ·rw[if_pos (by rw[h1];rfl)]
   rw[if_pos h1] at q;exact⟨.str z,H,I,⟨_,rfl⟩,q⟩
  ·rw[if_neg (by rw[j];simp[h1])]
   have B:=cQu j J;unfold repS at B;rw[if_neg h1] at q B;exact⟨by rw[B,bh];omega,.str _,H,I.tok _,⟨_,rfl⟩,q⟩
def repD:R2D:=λd e S Q=>match d,e with
 | .str z,.int n=>z.length=1/\1<=n/\n<=100/\Q (.str (repS z n)) S
 | _,_=>False
theorem eZf:OpD K fZm repD:=by
 intro F S H d e x y Q QD r hd he h c
 match d,e,h with
 | .str z,.int n,⟨D,B,j,q⟩ =>
  rw[rstr hd,rint he];exact⟨z,n,rfl,rfl,D,B,j,c _ _ _ S (Ext.refl _ _) r (by unfold RepV;rfl) q⟩
theorem fJt {a b:Expr} {ta tb:ED} (ha:PD K X a ta) (hb:PD K X b tb):PD K X (.BinOp a .Mult b pos) (dOp repD ta tb):=e_op eZe eZf ha hb
end
section
variable {X:Cx} {K:Fg} {pos:Pos} {k:Nat}
def exrD:D->List D->Sto->DK->Prop:=λo ds S Q=>match o,ds with
 | .ref a,[.ref b]=>∃ xs ys,S a=some (.lst xs)/\S b=some (.lst ys)/\xs.length + ys.length<=sizeLine/\Q .non (supd S a (.lst (xs++ys)))
 | _,_=>False
theorem fZn:MtD K "list" cXb exrD ckL:=⟨λF S H d x r h c=>ty_L r h c,λF S H d ds x vs Q QD r h l q c=>by
 match d,ds,q with
 | .ref a,[.ref b],⟨xs,ys,D,j,I,q⟩ =>
  obtain⟨v,rfl,G⟩:=l.one;obtain⟨us,J,B⟩:=r.obj a _ D;obtain⟨ws,hw,lw⟩:=r.obj b _ j;rw[rref h,rref G];exact⟨a,b,us,ws,rfl,rfl,J,hw,by rw[B.length,lw.length];exact I,c.write r (us:=us) D (B.app lw) (by unfold RepV;rfl) q⟩⟩
theorem dZo {o e:Expr} {to:ED} {t:AD} {apos cpos:Pos} (ho:PD K X o to) (ha:PAD K X [e] t) (hK:X.K=K:=by rfl)
  (hbase:d8 o "extend" X.env (eval o X.env)=eval o X.env:=by rfl)
  (hfew:((cz cpos (av [e] X.env)).all (λx=>!x.1) && (iU cpos (fP [] X.env)).all (λx=>x.1.isSome)
   && decide (([e]:List Expr).length + ([]:List fy).length + (if ([]:List fy).isEmpty then 0 else 1) < 30))=true:=by rfl)
  (hline:(apos.endLine == cpos.line)=true:=by rfl) (hs:av [e] X.env=(false,eval e X.env)::av [] X.env:=by rfl) (hplain:(cz cpos (av [] X.env)).any (·.1)=false:=by rfl) :
  PD K X (.Call (.Attribute o "extend" apos) [e] [] cpos) (dMt exrD ckL to t):=e_bm fZn fo jA jB cXc ho ha hK hbase hfew hline hs hplain
end
end L2
set_option maxHeartbeats 4000000
namespace L2
open PySem PySem.Spec PyProof.Rows
end L2
set_option maxHeartbeats 1000000
namespace L2
open PySem PySem.Spec PyProof.Rows
def Its (x:Str):It:=⟨λi _=>i < x.cps.size,λi H v H'=>H'=H/\∃ c,x.cps[i]?=some c/\v=.str ⟨#[c]⟩,λi _=>i=x.cps.size⟩
theorem cQv {P:aC} {w:aR} {K:Fg} {tg:Expr} (x:Str) (t:Tok) (ty:String) (it:Addr) (hty:["enumerate", "zip", "dict_itemiterator", "dict_reverseitemiterator", "odict_iterator", "itertools.zip_longest", "itertools.pairwise"].contains ty=false)
  (W:∀ A:a7,A.handled=none->Walks P w A it [it] [it] x.cps.size (SignAt x) (λi h=>h.IsStrIter it ty x t i)) (hs:∀ (A:a7) (i:Nat) (s:ai) (Q:ae->ai->Prop) (E:ae->ai->Prop),s.heap.IsStrIter it ty x t i->Q (.ref it) s->aE (aJ P w) A (pyIter (.ref it)) Q E s) :
  Turn P w K tg (Its x) [it] it (λi h=>h.IsStrIter it ty x t i) where
 mem:=by simp
 obj:=λi h st b j=>by
  have e:b=it:=by simpa using j
  subst e;obtain⟨o,g,c,d⟩:=st;exact⟨o,g,λv z=>by rw[d] at z;cases z⟩
 keep:=λi h h' st k=>by
  obtain⟨o,g,r⟩:=st;exact⟨o,k it (by simp) o g,r⟩
 item:=by
  intro X R hw U O i pins s σ H E I hf st J;subst R hw U;obtain⟨f0,f1,f2,Y,f4,f5⟩:=hf it (by simp)
  refine(W X.A (I.ok.hd O)).item i s _ E J st λv h' B Z D G=>?_;obtain⟨c,u,L,rfl⟩:=Z;have I1:Inv X pins σ H { s with heap:=h',toks:=B }:=I.turned (t':=B) (λb o j e=>G b o (by simpa using j) e) f0 f1 Y f4 f5
  obtain⟨o,e,cl,d⟩:=id D;exact⟨_,rfl,dQn (s:={ s with heap:=h',toks:=B }) e cl d hty ⟨.str ⟨#[c]⟩,H,I1,⟨u,rfl⟩,⟨rfl,c,L,rfl⟩,D,λb j=>(hf b j).1⟩⟩
 done:=by
  intro X R hw U O i pins s σ H E I hf st J;subst R hw U;obtain⟨f0,f1,f2,Y,f4,f5⟩:=hf it (by simp)
  have e:i=x.cps.size:=J;subst e;exact(W X.A (I.ok.hd O)).done s _ E st λh' B G=>⟨rfl,I.turned (t':=B) (λb o j e=>G b o (by simpa using j) e) f0 f1 Y f4 f5⟩
 self:=λA i s Q E st h=>hs A i s Q E st h
section
variable {X:Cx} {tg:Expr}
def iStr (tl:TE):TI:=fun σ H R=>tl σ H λv H1=>∃ x,v=.str x/\R (Its x) H1
theorem fZo {l:Expr} {tl:TE} (hl:PE X l tl):PI X tg l (iStr tl):=by
 intro pins s σ H R I h;refine thn (hl pins s σ H _ I h) λv s1 ⟨y,H1,B,D,x,e,q⟩=>?_;subst e;obtain⟨t,rfl⟩:=D;refine wpAny_pyIter_strU ?_;have J:∀ b∈[s1.heap.objs.size],FpOk X pins H1 b:=λb G=>by
  have e:b=s1.heap.objs.size:=by simpa using G
  subst e;exact B.fpOk (Nat.le_refl _) (B.hok.fresh (Nat.le_refl _))
 refine⟨s1.heap.objs.size,[s1.heap.objs.size],(λi h=>h.IsStrIter s1.heap.objs.size (strIterType x) x t i),_,H1,rfl,B.kept (t':=s1.toks) λb o e=>ag _ e,?_,⟨_,au _ rfl,rfl,rfl⟩,J,q⟩;unfold strIterType
 split
 ·exact cQv x t _ _ (by decide) (λA j=>Walks.strAscii j _ x t) λA i s Q E st h=>wpAny_pyIter_striter_ascii st h
 ·exact cQv x t _ _ (by decide) (λA j=>Walks.strWide j _ x t) λA i s Q E st h=>wpAny_pyIter_striter_wide st h
end
section
variable {X:Cx} {K:Fg} {pos:Pos}
theorem eZg {F:Am} {S:Sto} {H:Hp} {x:Str} {G:Sto->Prop}:ItOk K F S H (Its x) (cZt x) G where
 go:=λJ f I H2 y j _ i d hd=>by
  unfold cZt at hd;rw[aF,a6] at hd;obtain⟨c,hc,rfl⟩:=hd;rw[aT] at hc;have hi:i < x.cps.size:=by
   rcases Nat.lt_or_ge i x.cps.size with z | z
   ·exact z
   ·rw[kc z] at hc;cases hc
  refine⟨hi,λz O ⟨D,L,hc',B⟩=>?_⟩;subst B;subst D;rw[hc] at hc';cases hc';exact⟨Ext.refl _ _,j,by unfold RepV;rfl⟩
 stop:=λJ f I H2 y j _=>by unfold cZt;rw[af];exact aZ
def fJu (te:ED):ID:=fun Γ S Q=>te Γ S λd S1=>match d with
 | .str x=>Q (cZt x) (λ_=>True) S1
 | _=>False
theorem fZp {tg l:Expr} {tl:ED} (hl:PD K X l tl):PID K X tg l (fJu tl):=.of (fZo hl.o) fun σ H Q B=>B.el λF S Γ QD r g q c =>
 ⟨F,S,Γ,_,r,g,q,λv d H1 I D G v1 j=>by
  match d,j with
  | .str x,j=>exact⟨x,rstr v1,c _ _ _ _ _ D G eZg j⟩⟩
end
end L2
set_option maxHeartbeats 4000000
namespace L2
open PySem PySem.Spec PyProof.Rows
section
variable {X:Cx}
def dZp (w:aR) (K:Fg):List V->Hp->VK->Prop:=λxs H Q=>∃ x ms,xs=[x]/\dSt w K H x ms/\ms.Nodup/\ms.length < 300/\∀ l ys out,H l=none->out.Perm ms->out.Pairwise (λa b=>HT.lexS a b=true)->a8 (dT K dS H) ys out->Q (.ref l) (upd H l (.lst ys))
theorem aXa {K:Fg} {w:aR} (hu:X.A.units + 8 < cb) (hK:X.K=K:=by rfl) (hw:X.w=w:=by rfl) (hc:X.calm=true:=by rfl):CallR X (.builtin "sorted") (dZp w K):=by
 subst hw;intro pins s σ H xs us Q I r h;obtain⟨x,ms,rfl,⟨p,es,ep,t,ps,rfl,hH,hf,J,O,pp,rfl⟩,nd,U,q⟩:=h;obtain⟨u,rfl,rx⟩:=aZo r;cases rx;obtain⟨hg,_⟩:=I.hok p _ hH;have hl:es.size=ps.length:=by have:=bP pp;simpa using this
 have hpl':ps.length < 300:=by simpa using U
 have hh:=I.ok.hd hc;refine f6 kind_sorted plain_sorted entry_sorted (args_sorted1 _) ?_;unfold b4.«sorted»;refine aa (m:=checkCount "sorted" 1 1 _) (ad ?_);refine aa (ST.collectT (by simp[hh]) hg hf J O (by lia) λvals h1 d D kp=>?_)
 obtain⟨ps',j,B⟩:=ST.paired_perm D pp;have hvl:vals.length=ps'.length:=bP B;have hpl2:ps'.length=ps.length:=j.length_eq;have Y:Inv X pins σ H { s with heap:=h1,drawn:=d }:=(I.kept (t':=s.toks) kp).drawn d
 refine aa (jy ?_ (by rw[bh];lia))
 have G:(h1.push (cG "list" vals.toArray 0)).get? h1.objs.size=some (cG "list" vals.toArray 0):=au _ rfl;refine aa (bW (bI slot_list_sort ⟨_,G,rfl⟩ entry_list_sort ?body (args_list_sort _)))
 case body =>
  refine KS.sort_tups (s:={ s with heap:=h1.push (cG "list" vals.toArray 0),drawn:=d }) (ds:=ps'.map (·.2)) (by show X.A.units + 1 + 1 < _;lia) G (fQf Y hK (λb o e=>ag _ e) B) ((j.map (·.2)).nodup_iff.mpr nd) (by rw[bh];lia) λidx h' c i1 i2 Z g kk=>⟨_,rfl,ad ⟨_,rfl,?_⟩⟩
  have R:∀ i∈idx,i < vals.length:=λi hi=>bu.mp (i1.mem_iff.mp hi);have zv:=KS.paired_idx B bM (V.non,[]) idx R;obtain⟨z1,z2⟩:=bZb zv;have eo:(idx.map λi=>(ps'.map (·.2)).getD i [])=(idx.map λi=>ps'.getD i (V.non,[])).map (·.2):=by
   rw[bH];exact eI λi _=>cQf ps' i
  rw[eo] at i2 Z;have L:H h1.objs.size=none:=Y.hok.fresh (Nat.le_refl _);have sm:Same H (upd H h1.objs.size (.lst ((idx.map λi=>ps'.getD i (V.non,[])).map (·.1)))):=aQo L;have il:idx.length=vals.length:=by have:=i1.length_eq;simpa using this
  have I2:Inv X pins σ (upd H h1.objs.size (.lst ((idx.map λi=>ps'.getD i (V.non,[])).map (·.1)))) { s with heap:=h',drawn:=d }:=Y.laid (t':=s.toks) (λb o e=>kk b o (Nat.ne_of_lt (ay e)) (ag _ e)) (Nat.le_refl _)
   ⟨by simp only[af];rw[bh];lia,_,c,z1,g⟩
  exact⟨.ref h1.objs.size,_,I2,rfl,q _ _ _ L (Z.trans (j.map (·.2))) i2 z2⟩
end
section
variable {X:Cx} {K:Fg} {pos:Pos} {k:Nat} {F:Am} {S:Sto} {H:Hp}
theorem Rp.ntup (r:Rp K F S H) {a:Addr} {xs:List V} (h:Rd H a (.tup xs)):¬ mt S F a:=λz=>by
 have no:∀ u,H a=some u->(∀ ys,u≠.tup ys)->(∀ o ys,u≠.frz o (.tup ys))->False:=λu e I G=>by
  rcases h with h | ⟨o,h⟩
  ·rw[e] at h;exact I _ (aM h)
  ·rw[e] at h;exact G _ _ (aM h)
 rcases z with z | z
 ·cases e:S a with
  | none=>exact z e
  | some o =>
   have q:=r.obj a o e;cases o with
   | lst ds=>obtain⟨us,j,_⟩:=q;exact no _ j (λ_ z=>by cases z) λ_ _ z=>by cases z
   | dk B=>obtain⟨us,j,_⟩:=q;exact no _ j (λ_ z=>by cases z) λ_ _ z=>by cases z
   | dt B=>obtain⟨us,j,_⟩:=q;exact no _ j (λ_ z=>by cases z) λ_ _ z=>by cases z
   | tb ps L=>obtain⟨us,j,_⟩:=q;exact no _ j (λ_ z=>by cases z) λ_ _ z=>by cases z
   | ex f O J=>obtain⟨us,j,D⟩:=J _ _ _ q;exact no _ j (λ_ z=>by subst z;exact D) λ_ _ z=>by subst z;exact D
 ·obtain⟨⟨zs,e,ct⟩,_⟩:=r.frm a z;exact no _ e (λ_ z=>by subst z;exact ct) λ_ _ z=>by subst z;exact ct
theorem bZn (r:Rp K F S H):∀ {xs:List V} {ts:List (List Str)},a8 (dT K dS H) xs ts->RepL K (mt S F) H (ts.map tupS) xs
 | _,_,.nil=>RepL.nil
 | _,_,.cons ⟨a,us,e,sq,p⟩ q=>by
  refine RepL.cons ?_ (bZn r q);subst e;unfold tupS RepV;refine⟨a,us,rfl,?_,cJa p⟩;rcases sq with h | h
  ·exact .inl ⟨r.ntup h,h⟩
  ·exact .inr (.inr h)
def eZh (b:Bool) (te:ED):ED:=fun Γ S Q=>te Γ S λd S1=>∃ ts:List (List Str),lsIs S1 d (ts.map tupS)/\ts.length < 300/\∀ out:List (List Str),out.Nodup->(∀ t,t∈out↔t∈ts)->out.Pairwise (λa b=>HT.lexS a b=true)->newL b (out.map tupS) S1 Q
theorem bJf {b:Bool} {e:Expr} {te:ED} {p p' pos':Pos} (hr:Room k X.A) (hg:Gl X "sorted") (hm:X.mg "sorted" = none) (hg':Gl X "set") (hm':X.mg "set" = none) (he:PD K X e te) (hK:X.K=K:=by rfl) (hc:X.calm=true:=by rfl)
  (h1:av [e] X.env=(false,eval e X.env)::av [] X.env:=by rfl) (h2:av [ig (.Name "set" p') [e] [] pos'] X.env=(false,eval (ig (.Name "set" p') [e] [] pos') X.env)::av [] X.env:=by rfl) (h3:(cz pos (av [] X.env)).any (·.1)=false:=by rfl) (h4:(cz pos' (av [] X.env)).any (·.1)=false:=by rfl) :
  PD K X (.Call (.Name "sorted" p) [.Call (.Name "set" p') [e] [] pos'] [] pos) (eZh b te) :=
 .of (aXo (aXa (lt64 hr) hK rfl hc) hg hm aX1 (aZp (aZz (cZp (lt64 hr) hK rfl hc) hg' hm' bJz (aZp he.o aXn h1) (by decide) (by decide) h1 h4) aXn h2) (by decide) (by decide) h2 h3) fun σ H Q L=>L.el λF S Γ QD r g q c =>
 ⟨F,S,Γ,_,r,g,q,λv d H1 D R I v1 J=>by
  obtain⟨U,hl,B,Y⟩:=J;obtain⟨a,us,rfl,sq,lu⟩:=lsIs.sl I v1 hl;refine⟨_,U,rfl,⟨a,us,rfl,sq,bZk lu⟩,by lia,λp ms H2 s2 nd mem st=>⟨_,ms,rfl,st,nd,?_,λl ys out j pm Z pp=>?_⟩⟩
  ·exact Nat.lt_of_le_of_lt (cXu nd mem).1 B
  ·have G:Rp K F D H2:=I.same s2;have O:Ext D H1 D H2:=Ext.same s2;exact Cn.new (Cn.shift c (R.trans O)) G j (bZn G pp) (Y out (pm.nodup_iff.mpr nd) (λt=>(pm.mem_iff).trans (mem t)) Z)⟩
end
end L2
set_option maxHeartbeats 1000000
namespace L2
open PySem PySem.Spec PyProof.Rows
section
variable {X:Cx}
def dSs (w:aR):Dn (List Str):=λH v ms=>∃ p es ep t,v=.ref p/\H p=some (stO p es ep t)/\t.fits es.size=true/\t.led=ST.ledOf w/\(t.plain=true->es.size<=1)/\kb (es.toList.map (·.2)) ms
theorem aJb {P:aC} {w:aR} {h:bf}:∀ {es:List (Int × ae)} {ms:List Str},a8 (λ(e:Int × ae) k=>(ST.strKd P w).is h k e.2) es ms->kb (es.map (·.2)) ms
 | _,_,.nil=>.nil
 | (a,v)::es,m::ms,.cons p q=>by
  have j:∃ t,v=.str m t:=by
   unfold ST.strKd at p;simp only[eg] at p;cases v <;> simp[ik] at p;subst p;exact⟨_,rfl⟩
  obtain⟨t,rfl⟩:=j;exact .cons m t (aJb q)
def eZi (w:aR) (K:Fg):List V->Hp->VK->Prop:=λxs H Q=>∃ x ds,xs=[x]/\dL K dS H x ds/\ds.length + 1<=300/\∀ p ms H',Same H H'->ms.Nodup->(∀ k,k∈ms↔k∈ds)->dSs w H' (.ref p) ms->Q (.ref p) H'
theorem bJg {K:Fg} {w:aR} (hu:X.A.units + 8 < cb) (hK:X.K=K:=by rfl) (hw:X.w=w:=by rfl) (hc:X.calm=true:=by rfl):CallR X (.type "set") (eZi w K):=by
 subst hK hw;intro pins s σ H xs us Q I r h;obtain⟨x,ds,rfl,⟨a,ys,rfl,U,p⟩,Y,q⟩:=h;obtain⟨u,rfl,rx⟩:=aZo r;cases rx;obtain⟨R,G,pl,_⟩:=I.list U;refine ST.call_setK (ST.strKd X.prog X.w) (I.ok.hd hc) hu pl.isList (cXv p G) (by rw[ar,<- G.length,p.length];exact Y) λh' L ms M _ Z=>?_
 obtain⟨es,ep,t,B,j,J⟩:=M.ex;have D:H s.heap.objs.size=none:=I.hok.fresh (Nat.le_refl _);have O:Same H (upd H s.heap.objs.size (stO s.heap.objs.size es ep t)):=aQo D;refine⟨.ref s.heap.objs.size,_,I.laid (t':=L) (o:=stO s.heap.objs.size es ep t) (λb o e=>Z b o (ay e) e) (Nat.le_refl _) ?_,rfl,q _ _ _ O M.nd M.mem ⟨_,es,ep,t,rfl,aQa,(ST.strKd X.prog X.w).fits B,j,λz=>(ST.strKd X.prog X.w).few B J M.nd z,aJb J⟩⟩;exact⟨(ST.strKd X.prog X.w).obj B,⟨_,(ST.strKd X.prog X.w).obj B⟩,λg1 g2 g k=>k _ g⟩
theorem bXi {l l':List ae} (p:l'.Perm l):∀ {m:List Str},kb l m->∃ m',m'.Perm m/\kb l' m':=by
 induction p with
 | nil=>intro m h;exact⟨m,.refl _,h⟩
 | cons x p L =>
  intro m h;cases h with
  | cons y t r =>
   obtain⟨m',I,h'⟩:=L r;exact⟨_::m',I.cons _,.cons _ _ h'⟩
 | swap x y l =>
  intro m h;cases h with
  | cons y t r =>
   cases r with
   | cons z u r=>exact⟨_,.swap _ _ _,.cons _ _ (.cons _ _ r)⟩
 | trans p q B j =>
  intro m h;obtain⟨O,G,h1⟩:=j h;obtain⟨J,D,h2⟩:=B h1;exact⟨J,D.trans G,h2⟩
def eZj (w:aR):List V->Hp->VK->Prop:=λxs H Q=>∃ x ms,xs=[x]/\dSs w H x ms/\ms.Nodup/\ms.length < 300/\∀ (l:Addr) (out:List Str),H l=none->out.Perm ms->out.Pairwise (λa b=>HT.ltS a b=true)->Q (.ref l) (upd H l (.lst (out.map V.str)))
theorem aXy {w:aR} (hw:X.w=w:=by rfl) (hc:X.calm=true:=by rfl):CallR X (.builtin "sorted") (eZj w):=by
 subst hw;intro pins s σ H xs us Q I r h;obtain⟨x,ms,rfl,⟨p,es,ep,t,rfl,hH,hf,L,R,pp⟩,nd,h64,q⟩:=h;obtain⟨u,rfl,rx⟩:=aZo r;cases rx;obtain⟨hg,_⟩:=I.hok p _ hH;have hl:es.size=ms.length:=by have:=pp.length;simpa using this
 have hh:=I.ok.hd hc;refine f6 kind_sorted plain_sorted entry_sorted (args_sorted1 _) ?_;unfold b4.«sorted»;refine aa (m:=checkCount "sorted" 1 1 _) (ad ?_);refine aa (ST.collectT (by simp[hh]) hg hf L R (by omega) λvals h1 d J kp=>?_)
 obtain⟨ms',j,B⟩:=bXi J pp;have hvl:vals.length=ms'.length:=B.length;have hml:ms'.length=ms.length:=j.length_eq;have I1:Inv X pins σ H { s with heap:=h1,drawn:=d }:=(I.kept (t':=s.toks) kp).drawn d
 refine aa (jy ?_ (by rw[bh];omega))
 have D:(h1.push (cG "list" vals.toArray 0)).get? h1.objs.size=some (cG "list" vals.toArray 0):=au _ rfl;refine aa (bW (bI slot_list_sort ⟨_,D,rfl⟩ entry_list_sort (SF.treeK strKind_oneLt (s:={ s with heap:=h1.push (cG "list" vals.toArray 0),drawn:=d }) D B.keysOf (λZ Y rest e=>keyKind_strs (by rw[<- e];exact B)) (by rw[bh];omega) λG a1 a2=>⟨_,rfl,?_⟩) (args_list_sort _)))
 refine ad ⟨_,rfl,?_⟩;obtain⟨out,o1,O,o3⟩:=sorted_out_str B a1 a2;obtain⟨v1,_⟩:=bZc (H:=H) o1;have U:H h1.objs.size=none:=I1.hok.fresh (Nat.le_refl _);obtain⟨e,he⟩:=sortedHeap_at (out:=(aU G).map (·.2)) D;have hol:=O.length_eq;have I2:Inv X pins σ (upd H h1.objs.size (.lst (out.map V.str))) { s with heap:=hZ (h1.push (cG "list" vals.toArray 0)) h1.objs.size vals ((aU G).map (·.2)),drawn:=d }:=I1.laid (t':=s.toks) (λb o g=>(sortedHeap_old (Nat.ne_of_lt (ay g)) (Nat.lt_trans (ay g) (ay D))).trans (ag _ g)) (Nat.le_refl _)
  ⟨by rw[af,bh];omega,((aU G).map (·.2)).toList,e,v1,by rw[Array.toArray_toList];exact he⟩
 exact⟨.ref h1.objs.size,_,I2,rfl,q _ _ U (O.trans j) (dXk o3 ((O.trans j).nodup_iff.mpr nd))⟩
end
section
variable {X:Cx} {K:Fg} {pos:Pos} {k:Nat}
theorem eZk {M:Am} {H:Hp}:∀ ss:List Str,RepL K M H (ss.map D.str) (ss.map V.str)
 | []=>RepL.nil
 | s::ss=>RepL.cons (by unfold RepV;rfl) (eZk ss)
def dZq (b:Bool) (te:ED):ED:=fun Γ S Q=>te Γ S λd S1=>∃ ss:List Str,lsIs S1 d (ss.map D.str)/\ss.length < 300/\∀ out:List Str,out.Nodup->(∀ t,t∈out↔t∈ss)->out.Pairwise (λa b=>HT.ltS a b=true)->newL b (out.map D.str) S1 Q
theorem bXj {b:Bool} {e:Expr} {te:ED} {p p' pos':Pos} (hr:Room k X.A) (hg:Gl X "sorted") (hm:X.mg "sorted" = none) (hg':Gl X "set") (hm':X.mg "set" = none) (he:PD K X e te) (hK:X.K=K:=by rfl) (hc:X.calm=true:=by rfl)
  (h1:av [e] X.env=(false,eval e X.env)::av [] X.env:=by rfl) (h2:av [ig (.Name "set" p') [e] [] pos'] X.env=(false,eval (ig (.Name "set" p') [e] [] pos') X.env)::av [] X.env:=by rfl) (h3:(cz pos (av [] X.env)).any (·.1)=false:=by rfl) (h4:(cz pos' (av [] X.env)).any (·.1)=false:=by rfl) :
  PD K X (.Call (.Name "sorted" p) [.Call (.Name "set" p') [e] [] pos'] [] pos) (dZq b te) :=
 .of (aXo (aXy rfl hc) hg hm aX1 (aZp (aZz (bJg (lt64 hr) hK rfl hc) hg' hm' bJz (aZp he.o aXn h1) (by decide) (by decide) h1 h4) aXn h2) (by decide) (by decide) h2 h3) fun σ H Q J=>J.el λF S Γ QD r g q c =>
 ⟨F,S,Γ,_,r,g,q,λv d H1 D O G v1 I=>by
  obtain⟨ss,hl,B,U⟩:=I;obtain⟨a,us,rfl,sq,Z⟩:=lsIs.sl G v1 hl;refine⟨_,ss,rfl,⟨a,us,rfl,sq,aJ9 Z⟩,by omega,λp ms H2 s2 nd mem st=>⟨_,ms,rfl,st,nd,Nat.lt_of_le_of_lt (cXu nd mem).1 B,λl out j pm Y=>?_⟩⟩
  have R:Rp K F D H2:=G.same s2;have L:Ext D H1 D H2:=Ext.same s2;exact Cn.new (Cn.shift c (O.trans L)) R j (eZk out) (U out (pm.nodup_iff.mpr nd) (λt=>(pm.mem_iff).trans (mem t)) Y)⟩
end
end L2
set_option maxHeartbeats 4000000
namespace L2
open PySem PySem.Spec PyProof.Rows
theorem cJx (a b:Addr) (xs ys:Array ae) (m n:Nat) (dc:Option Addr) (sl:Array (Option ae)) (h0:¬ (!xs.isEmpty && d9 (xs.size + ys.size))=true) (h1:xs.size<=sizeLine) (h2:xs.size + ys.size<=sizeLine + 1) :
  Meets (b4.«list.extend» ⟨[.ref a,.ref b],[]⟩) (λ_ R s=>s.heap.get? a=some { cls:=.type "list",dict:=none,data:=.seq xs m,slots:=#[] }/\s.heap.get? b=some { cls:=.type "tuple",dict:=dc,data:=.seq ys n,slots:=sl } /\
   R (.ok (.ret bM)) { s with heap:=s.heap.update a (bX λz=>z++ys),toks:=s.toks }) :=
 .of_wp λprog w A R s hyp=>by
  obtain⟨U,gl,Y,B,D⟩:=s;obtain⟨ga,j,fin⟩:=hyp;have O:=AutoSeq1.idx_int;have L:=gq;have J:=AutoSeq1.sub_list_list;have I:=AutoSeq1.sub_tuple_list;have G:=AutoSeq1.sub_list_tuple;have size:(xs++ys).size<=sizeLine + 1:=by rw[cU];exact h2
  wp_walk using (iD ga rfl (hz:=h1) (_hz':=size)),jC ga,jC j
  exact⟨_,rfl,fin⟩
section
variable {X:Cx} {K:Fg} {pos:Pos}
def fZq (K:Fg):V->List V->Hp->VK->Prop:=λx vs H Q=>∃ l b xs zs,x=.ref l/\vs=[.ref b]/\H l=some (.lst xs)/\SqT K H b zs/\xs.length + zs.length<=sizeLine/\Q .non (upd H l (.lst (xs++zs)))
theorem eZl (hK:X.K=K:=by rfl):MtR X "list.extend" (fZq K):=by
 subst hK;intro pins s σ H x vs v us Q I rx rv h;obtain⟨l,b,xs,zs,rfl,rfl,Y,hB,hz,q⟩:=h;cases rx;obtain⟨u,rfl,ru⟩:=rv.one;cases ru;obtain⟨z,j,n,r,hl,e⟩:=I.lstM Y;obtain⟨B,O,Z,_⟩:=I.tuple hB;obtain⟨⟨R,J,L,G⟩,g,U,n2,hd⟩:=id Z;simp only at U hd;subst U hd;have l1:=r.length;have l2:=O.length;have fits:j.toArray.size + B.toArray.size<=sizeLine:=by rw[ar,ar];lia
 have D:¬ (!j.toArray.isEmpty && d9 (j.toArray.size + B.toArray.size))=true:=by
  rw[bJy fits,fQ];exact a9
 refine j4 F.slot_list_extend ⟨_,e,rfl⟩ F.entry_list_extend (F.args_list_extend_2 _ _) (cJx l b j.toArray B.toArray n n2 _ _ D (by rw[ar];lia) (by lia)) ⟨e,g,?_⟩
 refine⟨.non,_,I.lset (its':=j++B) Y e (by simp) (r.append O) ?_,rfl,q⟩
 rw[aq];lia
def fZr:D->List D->Sto->DK->Prop:=λo ds S Q=>match o,ds with
 | .ref a,[.tup ys]=>∃ xs,S a=some (.lst xs)/\xs.length + ys.length<=sizeLine/\Q .non (supd S a (.lst (xs++ys)))
 | _,_=>False
theorem eZm:MtD K "list" (fZq K) fZr ckL:=⟨λF S H d x r h c=>ty_L r h c,λF S H d ds x vs Q QD r h l q c=>by
 match d,ds,q with
 | .ref a,[.tup ys],⟨xs,D,G,q⟩ =>
  obtain⟨v,rfl,j⟩:=l.one;obtain⟨us,I,B⟩:=r.obj a _ D;rw[rref h];unfold RepV at j;obtain⟨b,ws,rfl,t,lw⟩:=j;exact⟨a,b,us,ws,rfl,rfl,I,t.sq,by rw[B.length,lw.length];exact G,c.write r (us:=us) D (B.app lw) (by unfold RepV;rfl) q⟩⟩
theorem cJy {o e:Expr} {to:ED} {t:AD} {apos cpos:Pos} (ho:PD K X o to) (ha:PAD K X [e] t) (hK:X.K=K:=by rfl)
  (hbase:d8 o "extend" X.env (eval o X.env)=eval o X.env:=by rfl)
  (hfew:((cz cpos (av [e] X.env)).all (λx=>!x.1) && (iU cpos (fP [] X.env)).all (λx=>x.1.isSome)
   && decide (([e]:List Expr).length + ([]:List fy).length + (if ([]:List fy).isEmpty then 0 else 1) < 30))=true:=by rfl)
  (hline:(apos.endLine == cpos.line)=true:=by rfl) (hs:av [e] X.env=(false,eval e X.env)::av [] X.env:=by rfl) (hplain:(cz cpos (av [] X.env)).any (·.1)=false:=by rfl) :
  PD K X (.Call (.Attribute o "extend" apos) [e] [] cpos) (dMt fZr ckL to t):=e_bm eZm fo jA jB (eZl hK) ho ha hK hbase hfew hline hs hplain
end
end L2
set_option maxHeartbeats 1000000
namespace L2
open PySem PySem.Spec PyProof.Rows
section
variable {X:Cx} {K:Fg} {pos:Pos}
theorem fZs:bQ "abs" = some (.builtin "abs"):=by decide +kernel
def absD:RCD:=λds S Q=>match ds with
 | [.int i]=>Q (.int (if i < 0 then -i else i)) S
 | _=>False
theorem fZt {e:Expr} {t:AD} {p:Pos} (hg:Gl X "abs") (hm:X.mg "abs" = none) (ha:PAD K X [e] t) (he:av [e] X.env=(false,eval e X.env)::av [] X.env:=by rfl) (hpl:(cz pos (av [] X.env)).any (·.1)=false:=by rfl):PD K X (.Call (.Name "abs" p) [e] [] pos) (dCB absD t):=aXh dQp (by
 intro F S H ds vs Q QD r l h c
 match ds,h with
 | [.int i],q =>
  obtain⟨v,rfl,j⟩:=l.one;rw[rint j];exact⟨i,rfl,c _ _ _ S (Ext.refl _ _) r (by unfold RepV;rfl) q⟩) hg hm fZs ha (by decide) (by decide) he hpl
end
end L2
namespace ST
open PySem PySem.SetTable PySem.Spec PyProof.Rows
end ST
namespace L2
open PySem PySem.Spec PyProof.Rows
section
variable {X:Cx} {K:Fg} {pos:Pos} {k:Nat} {κ:Type}
theorem cJz {α β:Type} {f:α->β} (hf:∀ x y,f x=f y->x=y):∀ {l m:List α},l.map f=m.map f->l=m
 | [],[],_=>rfl
 | [],_::_,h=>by cases h
 | _::_,[],h=>by cases h
 | x::l,y::m,h=>by
  rw[aL,aL] at h;injection h with h1 h2
  rw[hf _ _ h1,cJz hf h2]
end
end L2
set_option maxHeartbeats 4000000
namespace HT
open PySem PyProof.Rows
end HT
namespace L2
open PySem PySem.Spec PyProof.Rows
def lexN (lt:D->D->Bool):List D->List D->Bool
 | [],[]=>false
 | [],_::_=>true
 | _::_,[]=>false
 | x::xs,y::ys=>if x=y then lexN lt xs ys else lt x y
def ltN:Nat->D->D->Bool
 | _,.int i,.int j=>decide (i < j)
 | _,.str x,.str y=>HT.ltS x y
 | n + 1,.tup xs,.tup ys=>lexN (ltN n) xs ys
 | n + 1,.lst xs,.lst ys=>lexN (ltN n) xs ys
 | _,_,_=>false
def okLs (ok:D->D->Bool) (n:Nat):List D->List D->Bool
 | x::xs,y::ys=>okE n x y && (if x=y then okLs ok n xs ys else ok x y)
 | _,_=>true
def okL:Nat->D->D->Bool
 | _,.int _,.int _=>true
 | _,.str _,.str _=>true
 | n + 1,.tup xs,.tup ys=>okLs (okL n) n xs ys
 | n + 1,.lst xs,.lst ys=>okLs (okL n) n xs ys
 | _,_,_=>false
end L2
set_option maxHeartbeats 1000000
namespace L2
open PySem PySem.Spec PyProof.Rows
end L2
set_option maxHeartbeats 4000000
namespace L2
open PySem PySem.Spec PyProof.Rows
end L2
set_option maxHeartbeats 1000000
namespace L2
open PySem PySem.Spec PyProof.Rows
end L2
namespace L2
open PySem PyProof.Rows
section
variable {K:az} {k:Nat}
theorem e_fn {P:aC} {w:aR} {mg:Str->Option ae} {base:bf} {x:Str} {st:Stmt} {N ps:List Str} {sp:SpD} {f:Addr} {fd:eA} (Fn:Fun K x x st f fd) (S:FnScope N ps (aQ8 st))
  (len:∀ ds S Q,sp ds S Q->ds.length=ps.length)
  (h:∀ (cdv:ae) (A:a7) (outer:List Env) (s:ai) (H:Hp) (E:XK),Room k (A.deeper (jt x (aQ8 st) s.heap.objs.size f cdv)) ->
   ∃ t,PSsD K (cxOf CX0 P w K mg base N x (aQ8 st) f cdv A outer s H E).nox (aZh st) t/\∀ ds S Q,sp ds S Q->t (dZh Q) (bQu N ds) S):FnOk P w K mg base CX0 (k + 1) f fd ps (spU K sp):=by
 refine Fn.ok S (λvs H Q E D=>by obtain⟨F,S,ds,QD,r,l,j,c⟩:=D;rw[l.length];exact len ds S QD j) (λcdv A outer s H vs Q Y L D=>?_)
 obtain⟨F,S,ds,QD,r,l,j,c⟩:=D;obtain⟨t,h1,h2⟩:=h cdv A outer s H Y L;have fin:∀ v d H' S',Ext S H S' H'->Rp K F S' H'->RepV K (mt S' F) H' d v->rtD QD d S'->Q v H':=λv d H' S' G B v1 J=>by
  obtain⟨R,U,I,O,q⟩:=J;exact c v R H' U (G.trans (Ext.less I)) (B.less I) ((dXw B I O).1 v v1) q
 exact⟨_,h1.o,F,S,bQu N ds,dZh QD,r,cQp l,h2 ds S QD j,fun Γ' S' σ' H' G B g1 q=>fin .non .non H' S' G B (by unfold RepV;rfl) q,fin,λ_ _ _ _ _ _ _ q=>q.elim,λ_ _ _ _ _ _ _ q=>q.elim⟩
end
theorem us1 {p:List ae->Prop} (h:∀ a,p [a]) (us:List ae) (ee:us.length=1):p us:=by
 cases us with
 | nil=>cases ee
 | cons a us =>
  cases us with
  | nil=>exact h a
  | cons z us=>exact absurd (Nat.succ.inj ee) (Nat.succ_ne_zero _)
theorem us2 {p:List ae->Prop} (h:∀ a b,p [a,b]) (us:List ae) (ee:us.length=2):p us:=by
 cases us with
 | nil=>cases ee
 | cons a us =>
  cases us with
  | nil=>cases ee
  | cons b us =>
   cases us with
   | nil=>exact h a b
   | cons z us=>exact absurd (Nat.succ.inj (Nat.succ.inj ee)) (Nat.succ_ne_zero _)
theorem us3 {p:List ae->Prop} (h:∀ a b c,p [a,b,c]) (us:List ae) (ee:us.length=3):p us:=by
 cases us with
 | nil=>cases ee
 | cons a us =>
  cases us with
  | nil=>cases ee
  | cons b us =>
   cases us with
   | nil=>cases ee
   | cons c us =>
    cases us with
    | nil=>exact h a b c
    | cons z us=>exact absurd (Nat.succ.inj (Nat.succ.inj (Nat.succ.inj ee))) (Nat.succ_ne_zero _)
theorem fsc {N ps:List Str} {sc:Scope} (a:sc.kind=.function:=by rfl) (b:sc.isCoroutine=false:=by rfl) (c:sc.isGenerator=false:=by rfl) (d:N.Nodup:=by decide +kernel) (e:N.take ps.length=ps:=by rfl) (f:∀ x∈ps,sc.names.lookup x=some .local\/sc.names.lookup x=some .cell:=by decide +kernel) (g:∀ y∈sc.names,y.2≠.free:=by decide +kernel):FnScope N ps sc:=⟨a,b,c,d,e,f,g⟩
end L2
namespace Att
open PySem PySem.Spec PySem.Calls PyProof.Rows PySem.W
theorem attach_callW {l:OpenLaw} {n:Nat} {q:aC} {loose:List Str} {XP:(Str->Option ae)->bf->Prop} {YP:aR->bf->Prop} {d:DefRec}
  (hn:l.most=some n) (hdf:d.params.defaults=[])
  (call:∀ (w:aR) (s₀ s₁:ai) (mg mb:Str->Option ae) (fa:Addr) (o:Obj) (pm cd doc:ae) (a:Addr) (vs:List ae) (ns:List Int),
   Ground q loose [] XP w s₀ mg mb s₁.heap->YP w s₁.heap ->
   s₁.heap.get? fa=some o->o.data=.func (docDef d.name d.params d.body d.scope pm cd doc)->s₁.heap.CodeRec cd d.name->mg d.name=some (.ref fa) ->
   s₁.heap.get? a=some { cls:=.type "list",data:=.seq vs.toArray }->iI vs ns->ns.length<=n->s₁.gens=#[]->(∀ x∈ns,x.natAbs < 2 ^ 1048576) ->
   jm (aJ l.prog w) callerA (.call (.ref fa) ⟨[.ref a],[]⟩) (λr s'=>r=.ok (.ret (.bool true))/\OldK s₁.heap s'.heap/\s'.os=s₁.os/\jj s'.gens) s₁) :
  WalkO q loose XP YP l.row.toRowW d [] (λf vs=>PySem.call f vs):=by
 intro w s₀ s₁ mg mb G Y fa o pm cd doc dV kV ho hd L R J hg args vals as j D Z I hlo;obtain rfl:dV=.none:=Dflts.none R hdf;obtain rfl:kV=.none:=Dflts.noKw R;obtain⟨a,vs,ns,rfl,rfl,B,hints,hlen⟩:=cXd hn j I;have hw:∀ x∈ns,x.natAbs < 2 ^ 1048576:=λx U=>by
  have h1:=layableW_item (layableW_arg D _ (List.mem_singleton_self _)) _ (List.mem_map_of_mem (f:=WData.int) U);have h2:=(layableW_iff.mp h1).2.2;have O:x≠0->x.natAbs.log2 + 1<=2 ^ 20:=λh0=>by
   have:(WData.int x).weight=if x == 0 then 0 else x.natAbs.log2 + 1:=by first | rfl | (unfold WData.weight;rfl)
   rw[this,if_neg (by simpa using h0)] at h2
   exact h2
  by_cases h0:x=0
  ·rw[h0];exact Nat.two_pow_pos _
  ·exact(Nat.log2_lt (by omega)).mp (O h0)
 refine enter_call (fW (call w s₀ s₁ mg mb fa o pm cd doc a vs ns G Y ho (fd_plain hd) L J B hints hlen hg hw) λr s' hq=>?_);obtain⟨rfl,h2,O,h4⟩:=hq;exact⟨.inl ⟨.bool true,.bool true,[],rfl,λ_=>rfl,.bool true,cXe l _,λ_=>⟨gT,λ_ hm=>(nomatch hm)⟩⟩,h2,O,h4⟩
end Att
namespace L2
open PySem PySem.Spec PyProof.Rows
def cQw (n:Nat):SpD:=λds S Q=>∃ ns:List Int,ds=[.lst (ns.map D.int)]/\ns.length<=n/\(∀ x∈ns,x.natAbs < 2 ^ 1048576)/\(∀ a,S a=none)/\∀ S',Q (.bl true) S'
theorem eZn {K:Fg} {n:Nat} {H:Hp} {a:Addr} {ns:List Int} (hl:ns.length<=n) (hw:∀ x∈ns,x.natAbs < 2 ^ 1048576) (hS:SqL K H a (ns.map V.int)):spU K (cQw n) [.ref a] H (λv _=>v=.bl true) λ_ _ _=>False:=by
 refine⟨λ_=>False,λ_=>none,[.lst (ns.map D.int)],λd _=>d=.bl true,⟨λa o e=>(by cases e),λ_ (h:False)=>h.elim⟩,RepL.cons ?_ RepL.nil,⟨ns,rfl,hl,hw,λ_=>rfl,λ_=>rfl⟩,λv d H' S' _ _ h e=>by subst e;exact rbl h⟩
 unfold RepV;refine⟨a,_,rfl,?_,fZ8⟩;rcases hS with r | z
 ·exact .inl ⟨λz=>z.elim (λw=>w rfl) id,r⟩
 ·exact .inr (.inr z)
theorem walkW {l:PySem.W.OpenLaw} {q:aC} {loose:List Str} {XP:(Str->Option ae)->bf->Prop} {YP:aR->bf->Prop} {d:DefRec} {K:Params->az} (hn:l.most=some 63) (hdf:d.params.defaults=[])
  (hY:∀ (w:aR) (h:bf),YP w h->(K w.params).In h)
  (F:∀ (w:aR) (mg:Str->Option ae) (fa:Addr) (h:bf),(K w.params).In h->h.Ns bn mg->mg d.name=some (.ref fa) ->
   ∃ fd:eA,(∀ (s:ai) (u:ae),BindsTo s fd ⟨[u],[]⟩ [("script",u)])/\∀ base:bf,(K w.params).In base->base.Ns bn mg->FnOk l.prog w (K w.params) mg base CX0 50 fa fd ["script"] (spU (K w.params) (cQw 63))) :
  PySem.W.WalkO q loose XP YP l.row.toRowW d [] (λf vs=>PySem.call f vs):=by
 refine Att.attach_callW hn hdf λw s₀ D mg U fa o pm cd doc a vs ns G Y Z hd J B j hints hlen I hw=>?_;have KX:=hY w _ Y;obtain⟨fd,L,R⟩:=F w mg fa _ KX G.T.g B;exact dQv KX G.T.g G.T.b G.T.builtins G.T.nolimit I j hints (Nat.le_trans hlen (by decide)) ⟨rfl,by decide,by decide⟩ R L (λH hO O=>eZn hlen hw O) λ_ _ _ z=>z
end L2
namespace Toy
open PySem L2
def top (i:Nat):Stmt:=PySem.Challenge.pw_corepetals_k71_cores_counted.main.body.getD i (.Pass ⟨0,0,0,0⟩)
end Toy
set_option maxHeartbeats 4000000
namespace L2
open PySem PySem.Spec PyProof.Rows
theorem bXk {α:Type} (l:List α) (i:Nat):∀ m,(aH m).filterMap (λk=>l[i + k]?)=(l.drop i).take m
 | 0=>rfl
 | m + 1=>by
  rw[fC,gZ,bXk l i m,bT]
  congr 1
  rw[iY];simp only[cE,List.filterMap_nil];cases l[i + m]? <;> rfl
theorem fZu (lo hi:Option Int) (n:Nat):ca lo hi 1 n=(aH (HT.sIx n n hi - HT.sIx n 0 lo)).map λk=>HT.sIx n 0 lo + k:=by
 have e:ca lo hi 1 n=sliceRange (ft lo hi none n).1 (ft lo hi none n).2.1 1:=rfl;obtain⟨h1,h2,_⟩:=aJd lo hi n;rw[e,h1,h2];unfold sliceRange;have j:(if (1:Int) > 0 then (if ((HT.sIx n 0 lo:Nat):Int) < ((HT.sIx n n hi:Nat):Int) then (((HT.sIx n n hi:Nat):Int) - ((HT.sIx n 0 lo:Nat):Int) + 1 - 1) / 1 else 0) else (if ((HT.sIx n 0 lo:Nat):Int) > ((HT.sIx n n hi:Nat):Int) then (((HT.sIx n 0 lo:Nat):Int) - ((HT.sIx n n hi:Nat):Int) - 1 - 1) / (-1) else 0)).toNat=HT.sIx n n hi - HT.sIx n 0 lo:=by
  rw[if_pos (by decide),Int.ediv_one]
  split <;> lia
 show(aH _).map _=_;rw[j];apply eI;intro k _;lia
theorem cutS_eq (z:Str) (lo hi:Option Int):cutS z lo hi=⟨((z.cps.toList.drop (HT.sIx z.length 0 lo)).take (HT.sIx z.length z.length hi - HT.sIx z.length 0 lo)).toArray⟩:=by
 unfold cutS;rw[fZu,af,dl];have D:HT.sIx z.length z.length hi<=z.length:=HT.sIx_le _ _ (Nat.le_refl _) hi;have B:z.cps.toList.length=z.length:=aZ
 by_cases h:(HT.sIx z.length z.length hi - HT.sIx z.length 0 lo == z.length)=true
 ·rw[if_pos h];have h':=hJ h
  by_cases h0:z.length=0
  ·have:z.cps=#[]:=Array.eq_empty_of_size_eq_zero h0
   cases z;simp only at this;subst this;simp
  ·have j:HT.sIx z.length 0 lo=0:=by lia
   rw[h',j,iX,bG (by lia)]
 ·rw[if_neg h,List.filterMap_map]
  congr 1
  have:=bXk z.cps.toList (HT.sIx z.length 0 lo) (HT.sIx z.length z.length hi - HT.sIx z.length 0 lo)
  rw[<- this]
  congr 2
  funext k;show z.cps[HT.sIx z.length 0 lo + k]?=_;rw[aT]
end L2
set_option maxHeartbeats 1000000
namespace L2
open PySem
def lettersZ:Str:=aG "abcdefghijklmnopqrstuvwxyz"
theorem bQ4 {i:Nat} (h:i < 26):atI lettersZ.cps.toList (i:Int)=some (97 + i):=by
 have:∀ j:Fin 26,lettersZ.cps.toList[j.val]?=some (97 + j.val):=by decide +kernel
 exact aXd (this ⟨i,h⟩)
end L2
set_option maxHeartbeats 4000000
namespace L2
open PySem
theorem z9999 {n:Nat} (h:n<=9999):n<=sizeLine:=by rw[bh];lia
theorem bQ5 {α:Type}:∀ (l:List α) (j:Nat) (h:j < l.length),(l[j]::l.eraseIdx j).Perm l
 | a::l,0,_=>.refl _
 | a::l,j + 1,h=>by
  have B:=bQ5 l j (by simpa using h)
  show(l[j]'(by simpa using h)::a::l.eraseIdx j).Perm (a::l)
  exact(kF.swap _ _ _).trans (B.cons a)
theorem dQ0 {α β:Type} {f:α->β} (g:β->α) (hg:∀ x,g (f x)=x) {vs us:List β} {xs:List α} (h:(vs++us).Perm (xs.map f)):∃ as bs:List α,vs=as.map f/\us=bs.map f/\(as++bs).Perm xs:=by
 have mem:∀ y∈vs++us,f (g y)=y:=λy j=>by
  obtain⟨x,_,rfl⟩:=bD.mp (h.mem_iff.mp j);rw[hg]
 have lift:∀ l:List β,(∀ y∈l,f (g y)=y)->l=(l.map g).map f:=λl B=>by
  rw[bH];apply h9 (by simp)
  intro i h1 h2;rw[ic];exact(B _ (cS h1)).symm
 refine⟨vs.map g,us.map g,lift vs λy j=>mem y (cH _ j),lift us λy j=>mem y (bi _ j),?_⟩;have p:=h.map g;rw[aO,bH] at p;have e:xs.map (g ∘ f)=xs:=by
  apply h9 (by simp)
  intro i h1 h2;rw[ic];exact hg _
 rwa [e] at p
def dStr':D->Str
 | .str s=>s
 | _=>⟨#[]⟩
end L2
namespace Toy
open PySem L2
end Toy
namespace Toy
variable {α:Type}
def ch:List α->Nat->List (List α)
 | _,0=>[[]]
 | [],_ + 1=>[]
 | x::xs,n + 1=>(ch xs n).map (x::·)++ch xs (n + 1)
theorem ch_zero (xs:List α):ch xs 0=[[]]:=by cases xs <;> rfl
theorem ch_cons (x:α) (xs:List α) (n:Nat):ch (x::xs) (n + 1)=(ch xs n).map (x::·)++ch xs (n + 1):=rfl
theorem cQx:∀ (xs:List α) (n:Nat),(ch xs n).length<=2 ^ xs.length
 | [],0=>by simp[ch]
 | [],n + 1=>by simp[ch]
 | x::xs,0=>by
  rw[ch_zero];exact Nat.one_le_two_pow
 | x::xs,n + 1=>by
  rw[ch_cons,aq,af,aV,Nat.pow_succ]
  have:=cQx xs n
  have:=cQx xs (n + 1)
  lia
theorem ch_mem:∀ {xs:List α} {n:Nat} {s:List α},s∈ch xs n->s.length=n/\s.Sublist xs
 | [],0,s,h=>by
  have:s=[]:=by simpa [ch] using h
  subst this;exact⟨rfl,.slnil⟩
 | [],n + 1,s,h=>by simp[ch] at h
 | x::xs,0,s,h=>by
  have:s=[]:=by simpa [ch] using h
  subst this;exact⟨rfl,List.nil_sublist _⟩
 | x::xs,n + 1,s,h=>by
  rw[ch_cons,aN,bD] at h;rcases h with⟨r,j,rfl⟩ | h
  ·obtain⟨a,b⟩:=ch_mem j;exact⟨by simp[a],b.cons_cons x⟩
  ·obtain⟨a,b⟩:=ch_mem h;exact⟨a,b.cons x⟩
end Toy
namespace Toy
variable {α:Type}
def ext (lt:α->α->Bool) (z:α) (sets:List α) (s:List α):List (List α):=(sets.filter λo=>lt (s.getLastD z) o).map λo=>s++[o]
theorem aZe {z:α}:∀ {s:List α},s≠[]->s.getLastD z∈s
 | [],h=>absurd rfl h
 | [x],_=>by simp
 | x::y::s,_=>by
  have:=aZe (z:=z) (s:=y::s) (by simp)
  simp only[je] at this ⊢;exact ao _ this
theorem getLastD_cons' {z x:α}:∀ {s:List α},s≠[]->(x::s).getLastD z=s.getLastD z
 | [],h=>absurd rfl h
 | y::s,_=>by simp[je]
theorem cQy:∀ xs:List α,ch xs 1=xs.map λx=>[x]
 | []=>rfl
 | x::xs=>by rw[ch_cons,ch_zero,cQy xs];rfl
theorem aZf {β:Type} {f g:α->List β}:∀ {l:List α},(∀ a∈l,f a=g a)->l.flatMap f=l.flatMap g
 | [],_=>rfl
 | a::l,h=>by rw[bV,bV,h a am,aZf λb j=>h b (ao _ j)]
theorem bXl {lt:α->α->Bool} {z:α}:∀ {sets:List α},sets.Pairwise (λa b=>lt a b=true/\lt b a=false)->(∀ a,lt a a=false)->∀ k,(ch sets (k + 1)).flatMap (ext lt z sets)=ch sets (k + 2)
 | [],_,_,k=>rfl
 | x::xs,J,irr,k=>by
  obtain⟨G,B⟩:=bb.mp J;have out:∀ s:List α,s≠[]->(∀ o∈s,o∈xs)->ext lt z (x::xs) s=ext lt z xs s:=λs j hm=>by
   unfold ext;rw[bt,(G _ (hm _ (aZe j))).2]
   rfl
  have tail:(ch xs (k + 1)).flatMap (ext lt z (x::xs))=ch xs (k + 2):=by
   rw[<- bXl B irr k];refine aZf λs j=>?_;obtain⟨h1,h2⟩:=ch_mem j;exact out s (by rintro rfl;simp at h1) λo I=>h2.subset I
  rw[ch_cons,dP,tail,ch_cons (n:=k + 1)]
  congr 1
  cases k with
  | zero =>
   rw[ch_zero,cQy];simp only[aL,fx,bV,ii,bz];unfold ext;have e:([x]:List α).getLastD z=x:=rfl;rw[e,bt,irr x];simp only[aS,if_false];rw[List.filter_eq_self.mpr λo I=>(G o I).1,bH]
   rfl
  | succ k =>
   rw[<- bXl B irr k,ij,List.map_flatMap];refine aZf λs j=>?_;obtain⟨h1,h2⟩:=ch_mem j;have D:s≠[]:=by rintro rfl;simp at h1
   unfold ext;rw[getLastD_cons' D,bt,(G _ (h2.subset (aZe D))).2];simp only[aS,if_false,bH]
   rfl
def flw (lt:α->α->Bool) (z:α) (ok:List α->Bool) (sets:List α):Nat->List (List α)
 | 0=>ch sets 2
 | j + 1=>((flw lt z ok sets j).flatMap (ext lt z sets)).filter ok
theorem aZ2 {β:Type} {f:α->List β} {q:β->Bool}:∀ l:List α,(l.flatMap f).filter q=l.flatMap λa=>(f a).filter q
 | []=>rfl
 | a::l=>by rw[bV,bV,d6,aZ2 l]
theorem flw_eq {lt:α->α->Bool} {z:α} {ok:List α->Bool} {sets:List α} (hp:sets.Pairwise (λa b=>lt a b=true/\lt b a=false)) (irr:∀ a,lt a a=false) (h2:∀ s∈ch sets 2,ok s=true)
  (pre:∀ s o,2<=s.length->(s++[o]).Sublist sets->ok (s++[o])=true->ok s=true):∀ j,flw lt z ok sets j=(ch sets (j + 2)).filter ok
 | 0=>(List.filter_eq_self.mpr h2).symm
 | j + 1=>by
  show((flw lt z ok sets j).flatMap (ext lt z sets)).filter ok=_;rw[flw_eq hp irr h2 pre j,<- bXl (z:=z) hp irr (j + 1),aZ2,aZ2];have key:∀ l:List (List α),(∀ s∈l,s∈ch sets (j + 2))->(l.filter ok).flatMap (λa=>(ext lt z sets a).filter ok)=l.flatMap λa=>(ext lt z sets a).filter ok:=λl=>by
   induction l with
   | nil=>intro _;rfl
   | cons s l G =>
    intro h;rw[bt,bV];cases hs:ok s with
    | true=>rw[if_pos rfl,bV,G λt B=>h t (ao _ B)]
    | false =>
     rw[if_neg (by simp),G λt B=>h t (ao _ B)]
     have:(ext lt z sets s).filter ok=[]:=by
      rw[fz];intro t B;unfold ext at B;rw[bD] at B;obtain⟨o,I,rfl⟩:=B;intro J;have D:s++[o]∈ch sets (j + 3):=by
       rw[<- bXl (z:=z) hp irr (j + 1),fq];exact⟨s,h s am,by unfold ext;rw[bD];exact⟨o,I,rfl⟩⟩
      have:=pre s o (by rw[(ch_mem (h s am)).1];lia) (ch_mem D).2 J
      rw[hs] at this;cases this
     rw[this,bY]
  exact key _ λs hs=>hs
end Toy
namespace Toy
variable {β:Type} [DecidableEq β]
def Sun (s:List (List β)):Prop:=s.Pairwise λa b=>∀ n,n∈a->n∈b->∀ o∈s,n∈o
def naG (s:List (List β)):List β:=(s.headD []).filter λn=>s.all λo=>decide (n∈o)
def lfG (s:List (List β)):List β:=s.flatMap λo=>o.filter λd=>!decide (d∈naG s)
def coG (s:List (List β)):Option (List β):=if s.length < 2\/¬ s.Nodup then none else if (lfG s).Nodup then some (naG s) else none
theorem mem_na {s:List (List β)} (hs:s≠[]) {n:β}:n∈naG s↔∀ o∈s,n∈o:=by
 unfold naG;rw[bq,bF];simp only[decide_eq_true_eq];refine⟨λh=>h.2,λh=>⟨?_,h⟩⟩;cases s with
 | nil=>exact absurd rfl hs
 | cons a s=>exact h a am
theorem cQz {s:List (List β)} (hs:s≠[]) (hn:∀ o∈s,o.Nodup):(lfG s).Nodup↔Sun s:=by
 unfold lfG Sun iW;rw[List.pairwise_flatMap];refine⟨λh=>h.2.imp_of_mem ?_,λh=>⟨λo O=>(hn o O).filter _,h.imp_of_mem ?_⟩⟩
 ·intro a b Y U j n na nb;refine bj λR=>?_;have B:n∉naG s:=λz=>R ((mem_na hs).mp z);exact j n (bq.mpr ⟨na,by simp[B]⟩) n (bq.mpr ⟨nb,by simp[B]⟩) rfl
 ·intro a b Y U j x L y J e;subst e;obtain⟨I,G⟩:=bq.mp L;obtain⟨D,_⟩:=bq.mp J
  have:x∉naG s:=by simpa using G
  exact this ((mem_na hs).mpr (j x I D))
theorem sorted_eq {lt:β->β->Prop} (irr:∀ a,¬ lt a a) (asy:∀ a b,lt a b->¬ lt b a):∀ {l m:List β},l.Pairwise lt->m.Pairwise lt->(∀ n,n∈l↔n∈m)->l=m
 | [],[],_,_,_=>rfl
 | [],b::m,_,_,h=>by have:=(h b).mpr am;simp at this
 | a::l,[],_,_,h=>by have:=(h a).mp am;simp at this
 | a::l,b::m,I,hm,h=>by
  obtain⟨la,D⟩:=bb.mp I;obtain⟨G,B⟩:=bb.mp hm;have e:a=b:=by
   rcases aB.mp ((h a).mp am) with z | z
   ·exact z
   ·rcases aB.mp ((h b).mpr am) with y | y
    ·exact y.symm
    ·exact absurd (G a z) (asy _ _ (la b y))
  subst e
  congr 1
  refine sorted_eq irr asy D B λn=>⟨λj=>?_,λj=>?_⟩
  ·rcases aB.mp ((h n).mp (ao _ j)) with z | z
   ·subst z;exact absurd (la n j) (irr n)
   ·exact z
  ·rcases aB.mp ((h n).mpr (ao _ j)) with z | z
   ·subst z;exact absurd (G n j) (irr n)
   ·exact z
def meG (a b:List β):List β:=a.filter λn=>decide (n∈b)
theorem mem_me {a b:List β} {n:β}:n∈meG a b↔n∈a/\n∈b:=by unfold meG;rw[bq];simp
def laG (s:List (List β)):Option (List β):=match s with
 | a::b::_=>if s.Pairwise λother one=>meG one other=meG a b then some (meG a b) else none
 | _=>none
theorem la_co {lt:β->β->Prop} (irr:∀ a,¬ lt a a) (asy:∀ a b,lt a b->¬ lt b a) {s:List (List β)} (h2:2<=s.length) (nd:s.Nodup) (hs:∀ o∈s,o.Pairwise lt):laG s=coG s:=by
 classical
 have j:s≠[]:=by rintro rfl;simp at h2
 have hnd:∀ o∈s,o.Nodup:=λo Y=>(hs o Y).imp (λ{x y} (h:lt x y) (e:x=y)=>irr y (e ▸ h));obtain⟨a,b,r,rfl⟩:∃ a b r,s=a::b::r:=by
  match s,h2 with
  | a::b::r,_=>exact⟨a,b,r,rfl⟩
 have D:∀ x∈a::b::r,∀ y,(meG x y).Pairwise lt:=λx O y=>(hs x O).filter _;have hco:coG (a::b::r)=if Sun (a::b::r) then some (naG (a::b::r)) else none:=by
  unfold coG;have Z:¬ ((a::b::r).length < 2\/¬ (a::b::r).Nodup):=λz=>z.elim (λz=>by simp only[aV] at z;lia) λz=>z nd
  rw[if_neg Z]
  have:=cQz j hnd
  by_cases h:Sun (a::b::r)
  ·rw[if_pos h,if_pos (this.mpr h)]
  ·rw[if_neg h,if_neg λz=>h (this.mp z)]
 rw[hco];show(if (a::b::r).Pairwise (λother one=>meG one other=meG a b) then some (meG a b) else none)=_
 have L:Sun (a::b::r)->meG a b=naG (a::b::r):=λh=>by
  refine sorted_eq irr asy (D a am b) ((hs a am).filter _) λn=>?_;rw[mem_me,mem_na j];refine⟨λ⟨na,nb⟩=>(bb.mp h).1 b am n na nb,λz=>⟨z a am,z b (ao _ am)⟩⟩
 have iff:(a::b::r).Pairwise (λother one=>meG one other=meG a b)↔Sun (a::b::r):=by
  constructor
  ·intro h;refine h.imp_of_mem λ{x y} O U B n nx R o Y=>?_;have hn:n∈meG a b:=B ▸ mem_me.mpr ⟨R,nx⟩;have all:∀ u∈a::b::r,∀ v∈a::b::r,u≠v->n∈u/\n∈v:=by
    have sym:∀ {l:List (List β)},l.Pairwise (λother one=>meG one other=meG a b)->∀ u∈l,∀ v∈l,u≠v->n∈u/\n∈v:=by
     intro l hl
     induction hl with
     | nil=>intro u hu;cases hu
     | @cons p l hp _ ih =>
      intro u hu v hv j;rcases aB.mp hu with eu | I <;> rcases aB.mp hv with ev | G
      ·exact absurd (eu.trans ev.symm) j
      ·have:=mem_me.mp ((hp v G).symm ▸ hn);rw[eu];exact⟨this.2,this.1⟩
      ·have:=mem_me.mp ((hp u I).symm ▸ hn);rw[ev];exact this
      ·exact ih u I v G j
    exact sym h
   have nab:a≠b:=λe=>(bN.mp nd).1 (e ▸ am)
   by_cases J:o=a
   ·rw[J];exact(mem_me.mp hn).1
   ·exact(all o Y a am J).1
  ·intro h;refine h.imp_of_mem λ{x y} O U B=>?_;refine sorted_eq irr asy (D y U x) (D a am b) λn=>?_;rw[mem_me,L h,mem_na j];exact⟨λ⟨R,nx⟩=>B n nx R,λz=>⟨z y U,z x O⟩⟩
 by_cases h:Sun (a::b::r)
 ·rw[if_pos h,if_pos (iff.mpr h),L h]
 ·rw[if_neg h,if_neg λz=>h (iff.mp z)]
end Toy
namespace Toy
variable {α β:Type}
theorem dQ1 (f:α->β):∀ (l:List α) (k:Nat),ch (l.map f) k=(ch l k).map λs=>s.map f
 | [],0=>rfl
 | [],k + 1=>rfl
 | x::l,0=>by rw[ch_zero,ch_zero];rfl
 | x::l,k + 1=>by
  rw[aL,ch_cons,ch_cons,dQ1 f l k,dQ1 f l (k + 1),aO,bH,bH]
  rfl
theorem dQ2 (l:List α) (z:α):(aH l.length).map (λi=>l.getD i z)=l:=by
 apply h9
 ·simp
 ·intro i h1 h2;simp only[ic,List.getElem_range,aj];rw[ah h2]
  rfl
def bg (row:List Nat):Nat:=if row=[] then 0 else row.getLastD 0 + 1
def exN (n:Nat) (s:List Nat):List (List Nat):=(bZ (bg s) (n - bg s)).map λo=>s++[o]
theorem aJh (n a:Nat):(aH n).filter (λo=>decide (a < o))=bZ (a + 1) (n - (a + 1)):=by
 induction n with
 | zero=>simp
 | succ n j =>
  rw[fC,d6,j]
  by_cases h:a < n
  ·simp only[bt,h,decide_true,if_true,kj];rw[show n + 1 - (a + 1)=(n - (a + 1)) + 1 by lia,jf]
   congr 2
   lia
  ·simp only[bt,h,decide_false,aS,if_false,kj,bz];rw[show n - (a + 1)=0 by lia,show n + 1 - (a + 1)=0 by lia]
theorem cZ0 (n:Nat):(aH n).Pairwise λa b=>decide (a < b)=true/\decide (b < a)=false:=by
 refine(List.pairwise_lt_range (n:=n)).imp λ{a b} h=>⟨decide_eq_true h,decide_eq_false (by lia)⟩
theorem fZv (n k:Nat):ch (aH n) (k + 1)=(ch (aH n) k).flatMap (exN n):=by
 cases k with
 | zero =>
  rw[ch_zero,cQy];simp only[bV,ii,bz];unfold exN bg;rw[if_pos rfl,List.range_eq_range']
  rfl
 | succ k =>
  rw[<- bXl (lt:=λa b=>decide (a < b)) (z:=0) (cZ0 n) (λa=>decide_eq_false (Nat.lt_irrefl a)) k];refine aZf λs B=>?_;have j:s≠[]:=by rintro rfl;have:=(ch_mem B).1;simp at this
  unfold ext exN bg;rw[if_neg j,aJh]
end Toy
set_option maxHeartbeats 1000000
namespace L2
open PySem
abbrev Srt (t:List Str):Prop:=t.Pairwise λa b=>HT.ltS a b=true
abbrev SrtT (ts:List (List Str)):Prop:=ts.Pairwise λa b=>HT.lexS a b=true
theorem Srt.ext {l m:List Str} (hl:Srt l) (hm:Srt m) (h:∀ n,n∈l↔n∈m):l=m :=
 Toy.sorted_eq (lt:=λa b=>HT.ltS a b=true) (λa=>by rw[HT.ltS_ir];simp) (λa b h=>by rw[HT.ltS_as h];simp) hl hm h
theorem Srt.nodup {t:List Str} (h:Srt t):t.Nodup:=h.imp λ{a b} h e=>by subst e;rw[HT.ltS_ir] at h;cases h
theorem SrtT.nodup {t:List (List Str)} (h:SrtT t):t.Nodup:=h.imp λ{a b} h e=>by subst e;rw[cQq] at h;cases h
theorem fZw {t:List Str} (nd:t.Nodup) (h:t.Pairwise λx y=>leS x y=true):Srt t:=by
 induction t with
 | nil=>exact .nil
 | cons a t B =>
  rw[bb] at h;rw[bN] at nd;refine bb.mpr ⟨λb j=>?_,B nd.2 h.2⟩
  have:=h.1 b j
  unfold leS at this;rw[dO] at this;exact HT.ltS_tot this λe=>nd.1 (by rw[<- e];exact j)
theorem eZo {t:List (List Str)} (nd:t.Nodup) (h:t.Pairwise λx y=>leT x y=true):SrtT t:=by
 induction t with
 | nil=>exact .nil
 | cons a t B =>
  rw[bb] at h;rw[bN] at nd;refine bb.mpr ⟨λb j=>?_,B nd.2 h.2⟩
  have:=h.1 b j
  unfold leT at this;rw[dO] at this;exact HT.lexS_tot this λe=>nd.1 (by rw[<- e];exact j)
theorem bJh {l:List Str} (nd:l.Nodup):Srt (srS l):=fZw ((aZt l).nodup_iff.mpr nd) (dXx l)
theorem eZp {l:List (List Str)} (nd:l.Nodup):SrtT (srT l):=eZo ((aXx l).nodup_iff.mpr nd) (dXy l)
theorem mem_srS {l:List Str} {x:Str}:x∈srS l↔x∈l:=(aZt l).mem_iff
theorem eZq {l:List (List Str)} {x:List Str}:x∈srT l↔x∈l:=(aXx l).mem_iff
def dd {α:Type} [DecidableEq α]:List α->List α
 | []=>[]
 | x::xs=>if x∈xs then dd xs else x::dd xs
theorem mem_dd {α:Type} [DecidableEq α] {x:α}:∀ {l:List α},x∈dd l↔x∈l
 | []=>Iff.rfl
 | y::l=>by
  unfold dd
  split
  ·next h =>
   rw[mem_dd,aB];exact⟨.inr,λz=>z.elim (λe=>by rw[e];exact h) id⟩
  ·rw[aB,aB,mem_dd]
theorem bZo {α:Type} [DecidableEq α]:∀ l:List α,(dd l).Nodup
 | []=>eB
 | y::l=>by
  unfold dd
  split
  ·exact bZo l
  ·next h=>exact bN.mpr ⟨λz=>h (mem_dd.mp z),bZo l⟩
def nms (ts:List (List Str)):List Str:=srS (dd ts.flatten)
theorem eZr (ts:List (List Str)):Srt (nms ts):=bJh (bZo _)
theorem mem_nms {ts:List (List Str)} {x:Str}:x∈nms ts↔∃ t∈ts,x∈t:=by
 unfold nms;rw[mem_srS,mem_dd,List.mem_flatten]
def mts {α:Type} [DecidableEq α] (one row:List α):Bool:=row.any λd=>decide (d∈one)
def has {α:Type} [DecidableEq α] (one row:List α):Bool:=row.all λd=>decide (d∈one)
theorem mts_iff {α:Type} [DecidableEq α] {one row:List α}:mts one row=true↔∃ x∈row,x∈one:=by unfold mts;simp
theorem has_iff {α:Type} [DecidableEq α] {one row:List α}:has one row=true↔∀ x∈row,x∈one:=by unfold has;simp
def wo {α:Type} [DecidableEq α] (one row:List α):List α:=one.filter λd=>!decide (d∈row)
theorem mem_wo {α:Type} [DecidableEq α] {one row:List α} {x:α}:x∈wo one row↔x∈one/\x∉row:=by unfold wo;rw[bq];simp
def lnk (ts:List (List Str)) (row:List Str):List (List Str):=srT ((ts.filter λt=>has t row).map λt=>wo t row)
end L2
set_option maxHeartbeats 4000000
namespace L2
open PySem
structure Enc (α:Type) where
 e:α->D
 inj:∀ {x y},e x=e y->x=y
 pl:∀ x,plain (e x)=true
 dep:Nat
 ok:∀ n x y,dep<=n->okE n (e x) (e y)=true
 lt:α->α->Bool
 okl:∀ n x y,dep<=n->okL n (e x) (e y)=true
 lte:∀ n x y,dep<=n->ltN n (e x) (e y)=lt x y
def lexG {α:Type} [DecidableEq α] (lt:α->α->Bool):List α->List α->Bool
 | [],[]=>false
 | [],_::_=>true
 | _::_,[]=>false
 | x::xs,y::ys=>if x=y then lexG lt xs ys else lt x y
def strE:Enc Str where
 e:=D.str
 inj:=λh=>by injection h
 pl:=λ_=>rfl
 dep:=0
 ok:=λn x y _=>by cases n <;> rfl
 lt:=HT.ltS
 okl:=λn x y _=>by cases n <;> rfl
 lte:=λn x y _=>by cases n <;> rfl
def tupE {α:Type} [DecidableEq α] (E:Enc α):Enc (List α) where
 e:=λl=>.tup (l.map E.e)
 inj:=λ{x y} h=>by
  injection h with h
  exact cJz (λa b e=>E.inj e) h
 pl:=λl=>by
  show aZn (l.map E.e)=true
  induction l with
  | nil=>rfl
  | cons x l ih=>show(plain (E.e x) && aZn (l.map E.e))=true;rw[E.pl,ih];rfl
 dep:=E.dep + 1
 ok:=λn x y h=>by
  obtain⟨m,rfl⟩:∃ m,n=m + 1:=⟨n - 1,by lia⟩
  show((x.map E.e).zip (y.map E.e)).all (λp=>okE m p.1 p.2)=true;rw[List.zip_map,iM,bF];exact λp _=>E.ok m p.1 p.2 (by lia)
 lt:=lexG E.lt
 okl:=λn x y h=>by
  obtain⟨m,rfl⟩:∃ m,n=m + 1:=⟨n - 1,by lia⟩
  show okLs (okL m) m (x.map E.e) (y.map E.e)=true
  induction x generalizing y with
  | nil=>cases y <;> rfl
  | cons a x ih =>
   cases y with
   | nil=>rfl
   | cons b y =>
    show(okE m (E.e a) (E.e b) && (if E.e a=E.e b then okLs (okL m) m (x.map E.e) (y.map E.e) else okL m (E.e a) (E.e b)))=true
    rw[E.ok m a b (by lia),fG]
    split
    ·exact ih y
    ·exact E.okl m a b (by lia)
 lte:=λn x y h=>by
  obtain⟨m,rfl⟩:∃ m,n=m + 1:=⟨n - 1,by lia⟩
  show lexN (ltN m) (x.map E.e) (y.map E.e)=lexG E.lt x y
  induction x generalizing y with
  | nil=>cases y <;> rfl
  | cons a x ih =>
   cases y with
   | nil=>rfl
   | cons b y =>
    show(if E.e a=E.e b then lexN (ltN m) (x.map E.e) (y.map E.e) else ltN m (E.e a) (E.e b))=if a=b then lexG E.lt x y else E.lt a b
    by_cases hab:a=b
    ·subst hab;rw[if_pos rfl,if_pos rfl];exact ih y
    ·rw[if_neg λz=>hab (E.inj z),if_neg hab];exact E.lte m a b (by lia)
abbrev setE:Enc (List Str):=tupE strE
section
variable {α:Type} [DecidableEq α] {E:Enc α}
theorem cZ1:∀ l:List α,aZn (l.map E.e)=true
 | []=>rfl
 | x::l=>by show(plain (E.e x) && aZn (l.map E.e))=true;rw[E.pl,cZ1 l];rfl
theorem fJv {x:α} {l:List α}:E.e x∈l.map E.e↔x∈l:=by
 rw[bD];exact⟨λ⟨y,h,e⟩=>by rw[<- E.inj e];exact h,λh=>⟨x,h,rfl⟩⟩
theorem in_e {neg:Bool} {x:α} {l:List α} [dm:Decidable (x∈l)] {d:D} {S:Sto} {Q:DK} (hE:E.dep<=8) (hd:sqIs S d (l.map E.e)) (q:Q (.bl (if neg then !decide (x∈l) else decide (x∈l))) S):inD neg (E.e x) d S Q:=by
 refine⟨l.map E.e,hd,cZ1 l,by rw[iM,bF];exact λy _=>E.ok 8 y x hE,?_⟩
 rw[decide_eq_decide.mpr (fJv (E:=E) (x:=x) (l:=l))];exact q
theorem in_t {neg:Bool} {x:α} {l:List α} [dm:Decidable (x∈l)] {d:D} {S:Sto} {Q:Bool->Sto->Prop} (hE:E.dep<=8) (hd:sqIs S d (l.map E.e)) (q:Q (if neg then !decide (x∈l) else decide (x∈l)) S):inD neg (E.e x) d S (λd S1=>∃ b,d=.bl b/\Q b S1):=in_e hE hd ⟨_,rfl,q⟩
end
def fzIs (d:D) (xs:List D):Prop:=d=.tup xs\/d=.lst xs
theorem fzIs.sq {S:Sto} {d:D} {xs:List D} (h:fzIs d xs):sqIs S d xs:=by rcases h with rfl | rfl <;> rfl
end L2
namespace Toy
open PySem L2
def cZ2:SpD:=λds S Q=>∃ (α:Type) (_:DecidableEq α) (E:Enc α) (one row:List α) (d1 d2:D),ds=[d1,d2]/\E.dep<=4/\fzIs d1 (one.map E.e)/\fzIs d2 (row.map E.e)/\row.length<=9999/\Q (.bl (mts one row)) S
def bQw:SpD:=λds S Q=>∃ (α:Type) (_:DecidableEq α) (E:Enc α) (one row:List α) (d1 d2:D),ds=[d1,d2]/\E.dep<=4/\fzIs d1 (one.map E.e)/\fzIs d2 (row.map E.e)/\row.length<=9999/\Q (.bl (has one row)) S
def aZw:SpD:=λds S Q=>∃ (α:Type) (_:DecidableEq α) (E:Enc α) (one row:List α) (d1 d2:D),ds=[d1,d2]/\E.dep<=4/\fzIs d1 (one.map E.e)/\fzIs d2 (row.map E.e)/\one.length<=9999/\Q (.tup ((wo one row).map E.e)) S
end Toy
namespace L2
open PySem
theorem Srt.filter {l:List Str} (h:Srt l) (p:Str->Bool):Srt (l.filter p):=fV p h
def dJ1:Str:=aG ""
theorem eZs {α:Type} {xs:List α} (h:xs≠[]) (z:α):atI xs (-1)=some (xs.getLastD z):=by
 rw[fJ4 xs h];cases xs with
 | nil=>exact absurd rfl h
 | cons x xs=>rw[je,List.getLast_eq_getLastD]
theorem dZr {x:Str} (h:1<=x.length):HT.ltS dJ1 x=true:=by
 unfold HT.ltS;refine decide_eq_true ?_;obtain⟨⟨l⟩⟩:=x;cases l with
 | nil=>exact absurd h (by decide)
 | cons c l =>
  show([]:List Nat) < c::l;exact List.nil_lt_cons _ _
end L2
namespace Toy
open PySem L2
structure CollB (most:Nat) (ts:List (List Str)):Prop where
 srt:SrtT ts
 each:∀ t∈ts,Srt t/\t.length<=6
 len:ts.length<=most
 nms:(nms ts).length<=12
 ne:∀ x∈L2.nms ts,HT.ltS dJ1 x=true
end Toy
namespace L2
open PySem
end L2
set_option maxHeartbeats 1000000
namespace L2
open PySem PySem.Spec PyProof.Rows
end L2
set_option maxHeartbeats 4000000
namespace Toy
open PySem L2
theorem eZt (z:Str) (u v:Option Int) {n:Nat} (h:z.length=n):(cutS z u v).length<=n:=by
 rw[cutS_eq];show(List.toArray _).size<=n;rw[ar,aK,bm]
 have:z.cps.toList.length=z.length:=by show _=z.cps.size;simp
 lia
theorem dJ2:∀ cs:List Nat,((cs.map sg).map (·.length)).sum=cs.length
 | []=>rfl
 | x::cs=>by rw[aL,aL,cB,dJ2 cs,fZk,aV];lia
end Toy
set_option maxHeartbeats 1000000
namespace L2
open PySem PySem.Spec PyProof.Rows
section
variable {X:Cx} {K:Fg} {pos:Pos}
theorem dZs {n k:Nat} (h:n < 2 ^ k) (hk:0 < k):n.log2 < k:=by
 by_cases h0:n=0
 ·subst h0;rw[Nat.log2_zero];exact hk
 ·exact(Nat.log2_lt h0).mpr h
end
section
variable {X:Cx} {K:Fg} {pos:Pos}
def fZx (i j:Int):Prop:=0<=j/\j<=1000/\i.natAbs < 2 ^ 4000000
theorem eZu:OpR X (eH .LShift) (rI fZx λi j=>.int (i * 2 ^ j.toNat)):=opI λi j _ _ _ _ _ B q=>lshift_int B.1 (by
 have h1:(0:Int)<=j:=B.1;have h2:j<=1000:=B.2.1;have D:=dZs B.2.2 (by decide)
 have G:kH i<=4000000:=by unfold kH;split <;> omega
 omega) q
theorem fZy {a b:Expr} {ta tb:ED} (ha:PD K X a ta) (hb:PD K X b tb):PD K X (.BinOp a .LShift b pos) (dOp (iiD fZx λi j=>.int (i * 2 ^ j.toNat)) ta tb):=e_op eZu od_I ha hb
end
end L2
namespace L2
open PySem
def DkD (S:Sto) (a:Addr) (n:Nat):Prop:=∃ g m t:Int,S a=some (.lst [.int g,.int m,.int t])/\0<=g/\0<=m/\m < 2 ^ 31/\0<=t/\t<=n
theorem DkD.mono {S:Sto} {a:Addr} {n k:Nat} (h:DkD S a n) (hk:n<=k):DkD S a k:=by
 obtain⟨g,m,t,B,D,m0,j,t0,t1⟩:=h;exact⟨g,m,t,B,D,m0,j,t0,by omega⟩
theorem cZu {g c:Int} {k:Nat} (g0:0<=g) (hg:g.natAbs < 2 ^ (1048600 + 206 * k)) (hc:c.natAbs < 2 ^ 1048576) (hk:k<=63):0<=g * 2 ^ (205:Int).toNat + c.natAbs/\(g * 2 ^ (205:Int).toNat + c.natAbs).natAbs < 2 ^ (1048600 + 206 * (k + 1)):=by
 have e:g * 2 ^ (205:Int).toNat + c.natAbs=((g.natAbs * 2 ^ 205 + c.natAbs:Nat):Int):=by
  rw[fD,Int.natCast_mul,Int.natCast_pow,Int.natAbs_of_nonneg g0];rfl
 rw[e];refine⟨Int.natCast_nonneg _,?_⟩;rw[Int.natAbs_natCast];have h1:g.natAbs * 2 ^ 205 < 2 ^ (1048600 + 206 * k) * 2 ^ 205:=Nat.mul_lt_mul_of_pos_right hg (Nat.two_pow_pos _);rw[<- Nat.pow_add] at h1;have h2:2 ^ 1048576<=2 ^ (1048600 + 206 * k + 205):=Nat.pow_le_pow_right (by decide) (by omega)
 have j:2 ^ (1048600 + 206 * (k + 1))=2 ^ (1048600 + 206 * k + 205) * 2:=by rw[<- Nat.pow_succ];congr 1
 rw[j];generalize 2 ^ (1048600 + 206 * k + 205)=M at *
 generalize 2 ^ 1048576=N at *
 generalize g.natAbs * 2 ^ 205=G at *
 omega
def cZ3:SpD:=λds S Q=>∃ ns:List Int,ds=[.lst (ns.map D.int)]/\ns.length<=63/\(∀ x∈ns,x.natAbs < 2 ^ 1048576)/\∀ a S',S a=none->Off a S S'->DkD S' a 0->Q (.ref a) S'
def aZu:SpD:=λds S Q=>∃ (a:Addr) (m:Int) (n:Nat),ds=[.ref a,.int m]/\DkD S a n/\n<=1000000/\1<=m/\m < 1000000/\∀ (r:Int) S',0<=r->r < m->Off a S S'->DkD S' a (n + 1)->Q (.int r) S'
def bXm:SpD:=λds S Q=>∃ (a:Addr) (many n:Nat),ds=[.ref a,.int many]/\DkD S a n/\n<=900000/\many<=12/\∀ (ws:List Str) S',ws.Nodup->ws.length=many->(∀ x∈ws,1<=x.length/\x.length<=8)->Off a S S'->DkD S' a (n + 9 + many)->Q (.lst (ws.map D.str)) S'
end L2
namespace Toy
open PySem L2
abbrev s_law_deck:Stmt:=top 12
theorem sc_law_deck:FnScope ["script", "great", "mixed", "cell"] ["script"] (aQ8 s_law_deck):=fsc
section
variable {P:aC} {w:aR} {K:az} {mg:Str->Option ae} {base:bf} {pt cc:Addr}
theorem bJi (T:Tx K mg "_law_deck" s_law_deck) (B:Bs mg) (AB:mg "abs" = none):Df P w K mg base 1 "_law_deck" ["script"] (spU K cZ3):=by
 refine aXk T sc_law_deck (λF=>F.binds λ_ _ _ _ _ _=>us1 λ_=>rfl) ?_ λf cdv A outer s H E hr=>⟨_,(aQ2 (aQ9 (i:=1) sc_law_deck.nd rfl (aW rfl) aQ5)
  (aQ2 (aQ9 (i:=2) sc_law_deck.nd rfl (aW rfl) (aQm (k:=false) (bQd aQ5 (aZx rfl B.len (aQ0 (dv 0) aQ1))) aQ5))
  (aQ2 (aZb cf rfl (aZ5 (e_sl (b:=false) (dv 0) aXi (aZr aQ5))) (aQl (i:=3) sc_law_deck.nd rfl (aW rfl)) (aQ4 (aXt (fQr hr (fZt rfl AB (aQ0 (dv 3) aQ1)) (fJ8 aQ5 aQ5)) (aQ4 (aQ9 (i:=1) sc_law_deck.nd rfl (aW rfl) (aQm (k:=false) (fZy (dv 1) aQ5) (fZt rfl AB (aQ0 (dv 3) aQ1))))) (aQ4 (aQ9 (i:=2) sc_law_deck.nd rfl (aW rfl) (aJj (aQm (k:=false) (bQd (dv 2) aQ5) (dv 3)) aQ5))))))
  (aQ4 (aQq (aZj (b:=true) (aQ0 (dv 1) (aQ0 (dv 2) (aQ0 aQ5 aQ1))))))))),?_⟩
 ·rintro ds S Q ⟨ns,rfl,_⟩;rfl
 ·rintro ds S Q ⟨ns,rfl,h63,hw,q⟩;have e:cutD (ns.map D.int) none (some 63)=ns.map D.int:=cQl _ rfl (by show HT.sIx _ _ (some ((63:Nat):Int))=_;rw[HT.sIx_nat];simp;omega)
  have Y:(3:Nat)<=sizeLine:=z9999 (by decide)
  refine⟨_,rfl,.inl ⟨by decide,by decide⟩,?_⟩
  refine⟨63,rfl,_,rfl,ns.map D.int,e,aQv (λi Γ S'=>S'=S/\∃ (g x:Int) (G:Option D),Γ=[some (.lst (ns.map D.int)),some (.int g),some (.int x),G]/\0<=g/\g.natAbs < 2 ^ (1048600 + 206 * i)/\0<=x/\x < 2 ^ 31) ⟨rfl,0,17 * ((ns.map D.int).length:Int) + 11,none,rfl,kD _,Nat.two_pow_pos _,by rw[af];omega,by rw[af];omega⟩ ?_ ?_⟩
  ·rintro i y Γ S1 N L ⟨rfl,g,x,G,rfl,j,g1,x0,I⟩ R;rw[aF,a6] at L;obtain⟨c,O,rfl⟩:=L;obtain⟨hi,_⟩:=aA.mp O;have cw:=hw c (ak O);have U:(if c < 0 then -c else c)=(c.natAbs:Int):=by split <;> omega
   obtain⟨n0,Z⟩:=cZu (k:=i) j g1 cw (by omega)
   refine⟨trivial,⟨by decide,by decide,by decide⟩,_,rfl,ite2 (λc0=>?_) λc0=>?_⟩
   ·have J:g.natAbs < 2 ^ 4000000:=Nat.lt_of_lt_of_le g1 (Nat.pow_le_pow_right (by decide) (by omega))
    refine⟨⟨by decide,by decide,J⟩,R _ _ ⟨rfl,_,x,_,rfl,?_,?_,x0,I⟩⟩
    ·show 0<=g * 2 ^ (205:Int).toNat + (if c < 0 then -c else c)
     rw[U];exact n0
    ·show(g * 2 ^ (205:Int).toNat + (if c < 0 then -c else c)).natAbs < _
     rw[U];exact Z
   ·refine⟨.inl ⟨by omega,by omega⟩,by show(0:Int) < 1999999871;decide,R _ _ ⟨rfl,g,_,_,rfl,j,Nat.lt_of_lt_of_le g1 (Nat.pow_le_pow_right (by decide) (by omega)),iA _ (by decide),?_⟩⟩
    exact Int.lt_of_lt_of_le (gz _ (by decide)) (by decide)
  ·rintro Γ S1 ⟨rfl,g,x,G,rfl,j,g1,x0,I⟩;exact⟨trivial,Y,λp hp=>aQn (q p _ hp (λb J=>supd_ne J) ⟨g,x,0,aQ3,j,x0,I,kD _,kD _⟩)⟩
end
abbrev s_law_draw:Stmt:=top 13
theorem sc_law_draw:FnScope ["deck", "most", "found", "turn", "one"] ["deck", "most"] (aQ8 s_law_draw):=fsc
section
variable {P:aC} {w:aR} {K:az} {mg:Str->Option ae} {base:bf} {pt cc:Addr}
theorem bJj (T:Tx K mg "_law_draw" s_law_draw) (B:Bs mg):Df P w K mg base 1 "_law_draw" ["deck", "most"] (spU K aZu):=by
 refine aXk T sc_law_draw (λF=>F.binds λ_ _ _ _ _ _=>us2 λ_ _=>rfl) ?_ λf R A outer s H E O=>⟨_,(aQ2 (dXv (aQm (k:=false) (e_ix (dv 0) aQ5) aQ5) (dXu (dv 0) aQ5))
  (aQ2 (aXt (fJc O (e_ix (dv 0) aQ5) aQ5) (aQ2 (aQ9 (i:=2) sc_law_draw.nd rfl (aW rfl) (aJj (e_ix (dv 0) aQ5) (dv 1)))
  (aQ2 (dXv (dXl (e_ix (dv 0) aQ5) (dv 1)) (dXu (dv 0) aQ5))
  (aQ4 (aQq (dv 2))))) aZ1)
  (aQ2 (aQ9 (i:=3) sc_law_draw.nd rfl (aW rfl) (e_ix (dv 0) aQ5))
  (aQ2 (aQ9 (i:=4) sc_law_draw.nd rfl (aW rfl) (aJj (aQm (k:=false) (aQm (k:=false) (e_ix (dv 0) aQ5) (bQd (bQd aQ5 (dv 3)) (dv 3))) (bQd aQ5 (dv 3))) aQ5))
  (aQ2 (aQ9 (i:=4) sc_law_draw.nd rfl (aW rfl) (aJj (bQd (dv 4) (dv 4)) aQ5))
  (aQ4 (aQq (aJj (dXl (aJj (aQm (k:=false) (bQd (dv 4) aQ5) (bQd (dv 3) aQ5)) aQ5) aQ5) (dv 1))))))))),?_⟩
 ·rintro ds S Q ⟨a,m,n,rfl,_⟩;rfl
 ·rintro ds S Q ⟨a,m,n,rfl,⟨g,x,t,I,J,x0,G,t0,t1⟩,hn,Z,Y,q⟩;have j:supd S a (.lst [.int g,.int x,.int (t + 1)]) a=some (.lst [.int g,.int x,.int (t + 1)]):=aQ3;have md:∀ z:Int,0<=z % m/\z % m < m:=λz=>⟨iA _ (by omega),gz _ (by omega)⟩
  have L:∀ (z k:Int),0 < k->k < 2 ^ 32->-(2 ^ 64) < z % k/\z % k < 2 ^ 64:=λz k h1 h2=>⟨by have:=iA z (show k≠0 by omega);omega,by have:=gz z h1;omega⟩
  refine⟨_,_,I,rfl,_,_,I,rfl,?_⟩;refine⟨_,_,j,rfl,_,rfl,ite2 (λU=>?_) λU=>?_⟩
  ·refine⟨_,_,j,rfl,by show(0:Int) < m;omega,_,_,j,rfl,⟨by omega,by omega⟩,_,_,j,rfl,aQn (q _ _ (md g).1 (md g).2 (λb D=>by rw[supd_ne D];exact supd_ne D) ⟨g / m,x,t + 1,?_,Int.ediv_nonneg J (by omega),x0,G,by omega,by omega⟩)⟩
   exact aQ3
  ·refine⟨_,_,j,rfl,_,_,j,rfl,.inl ⟨by decide,by decide⟩,.inr ⟨by omega,by omega⟩,.inl ⟨by decide,by decide⟩,by show(0:Int) < 2147483543;decide,.inl (L _ _ (by decide) (by decide)),by show(0:Int) < 2147483497;decide,.inr ⟨by decide,by decide⟩,.inr ⟨by decide,by decide⟩,by show(0:Int) < 2147483477;decide,⟨by decide,by decide⟩,by show(0:Int) < m;omega,aQn (q _ _ (md _).1 (md _).2 (λb D=>supd_ne D) ⟨g,x,t + 1,j,J,x0,G,by omega,by omega⟩)⟩
end
end Toy
namespace L2
open PySem
theorem eZv {u v:Str} {c d:Nat} (h:u++(⟨#[c]⟩:Str)++v=u++(⟨#[d]⟩:Str)++v):c=d:=by
 have e:(u.cps++#[c]++v.cps).toList=(u.cps++#[d]++v.cps).toList:=congrArg (λs:Str=>s.cps.toList) h;rw[bJ,bJ,bJ,bJ] at e;have B:=List.append_cancel_right e;have j:=List.append_cancel_left B;exact(List.cons.inj j).1
theorem dQ3 (u v:Str) {cs:List Nat} (nd:cs.Nodup):(cs.map λc=>u++(⟨#[c]⟩:Str)++v).Nodup:=by
 unfold iW;rw[eY];exact kP (λ{a b} j e=>j (eZv e)) nd
theorem dZt (b:Nat):((aH 12).map λk=>97 + (b + k) % 26).Nodup:=by
 unfold iW;rw[eY];refine du ?_ (jJ (n:=12));intro i j hi D B e
 have:=bu.mp hi
 have:=bu.mp D
 exact B (by omega)
end L2
namespace Toy
open PySem L2
theorem dZu {a:Addr} {ys:List D} {n:Nat} {S:Sto} (dk:DkD S a n) (hn:n + ys.length<=1000000) (h8:ys.length<=8) {Q:List D->Sto->Prop}
  (q:∀ (cs:List Nat) S',cs.length=ys.length->Off a S S'->DkD S' a (n + ys.length)->Q ((cs.map sg).map D.str) S') :
  aZl (aQr 0) dYes (aJl (dOp ixD (dVar 1) (dCB aZu (bJb (dVar 2) (bJb (dC (.int 26)) dNil))))) (λ_=>True) [none,some (.str lettersZ),some (.ref a)] ys [] S Q:=by
 refine aZ6 (λi acc S'=>∃ cs:List Nat,acc=(cs.map sg).map D.str/\cs.length=i/\Off a S S'/\DkD S' a (n + i)) ⟨[],rfl,rfl,λ_ _=>rfl,dk⟩ ?_ ?_
 ·rintro i x acc Sx N Y ⟨cs,rfl,B,U,I⟩ Z;have hi:=(aA.mp Y).1;refine⟨trivial,a,26,n + i,rfl,I,by lia,by decide,by decide,λJ L R O j G=>?_⟩
  obtain⟨k,rfl⟩:∃ k:Nat,J=k:=⟨J.toNat,by lia⟩
  exact⟨z9999 (by decide),_,bQ4 (by lia:k < 26),z9999 (by rw[af,af];lia),Z _ _ ⟨cs++[97 + k],by rw[aO,aO];rfl,by rw[aq,B];rfl,U.trans j,G⟩⟩
 ·rintro acc L ⟨cs,rfl,B,j,G⟩;exact⟨trivial,q cs L B j G⟩
theorem fZz {a lp:Addr} {n:Nat} {S:Sto} {xs:List D} {m:Nat} (hal:a≠lp) (dk:DkD S a n) (hn:n + m<=1000000) (hS:S lp=some (.lst xs)) (hm:m<=xs.length) (hx:xs.length<=999) {Q:List D->Sto->Prop}
  (q:∀ vs us S',(vs++us).Perm xs->vs.length=m->S' lp=some (.lst us)->DkD S' a (n + m)->(∀ b,b≠lp->b≠a->S' b=S b)->Q vs S') :
  aZl (aQr 0) dYes (aJl (dMt cJr ckL (dVar 1) (bJb (dCB aZu (bJb (dVar 2) (bJb (dCB lenD (bJb (dVar 1) dNil)) dNil))) dNil))) (λ_=>True) [none,some (.ref lp),some (.ref a)] (rngD 0 m) [] S Q:=by
 refine aZ6 (λi acc S'=>∃ us:List D,acc.length=i/\S' lp=some (.lst us)/\(acc++us).Perm xs/\DkD S' a (n + i)/\∀ b,b≠lp->b≠a->S' b=S b) ⟨xs,rfl,hS,.refl _,dk,λ_ _ _=>rfl⟩ ?_ ?_
 ·rintro i x vs S' N R ⟨us,G,L,pm,I,B⟩ hN;obtain⟨hi,rfl⟩:=bQv R;have hul:us.length + i=xs.length:=by have:=pm.length_eq;rw[aq] at this;omega
  refine⟨trivial,⟨_,L⟩,_,L,a,(us.length:Int),n + i,rfl,I,by omega,by omega,by omega,λr S2 r0 r1 J Z=>?_⟩
  obtain⟨j,rfl⟩:∃ j:Nat,r=j:=⟨r.toNat,by omega⟩
  have hj:j < us.length:=by omega
  have U:S2 lp=some (.lst us):=(J lp (b8 hal)).trans L;obtain⟨g,x,t,Y,d1,d2,d3,d4,d5⟩:=Z;refine⟨_,j,us[j],U,rfl,by omega,ah hj,by rw[bh];omega,hN _ _ ⟨us.eraseIdx j,?_,aQ3,?_,⟨g,x,t,(supd_ne hal).trans Y,d1,d2,d3,d4,by omega⟩,λb hb O=>(supd_ne hb).trans ((J b O).trans (B b hb O))⟩⟩
  ·rw[aq,G];rfl
  ·refine kF.trans ?_ pm;rw[aY];exact(List.perm_append_left_iff vs).mpr (bQ5 us j hj)
 ·rintro vs S' ⟨us,G,L,pm,I,B⟩;rw[aQt] at G I;exact⟨trivial,q vs us S' pm G L I B⟩
end Toy
namespace L2
open PySem Toy
def wordsD:List Str:=[aG "a",aG "b",aG "ab",aG "ba",aG "sets",aG "put",aG "take",aG "core",aG "way",aG "row",aG "none",aG "near"]
def made0 (b k:Nat):Str:=sg (97 + (b + k) % 26)++repS (aG "q") (1 + (k:Int) % 7)
theorem ok0:∀ b,b < 26->(wordsD++(aH 12).map (made0 b)).Nodup/\∀ x∈wordsD++(aH 12).map (made0 b),1<=x.length/\x.length<=8:=by decide +kernel
def dZv (u v:Str) (b k:Nat):Str:=u++sg (97 + (b + k) % 26)++v
theorem nd1 (u v:Str) (b:Nat):((aH 12).map (dZv u v b)).Nodup:=by
 have e:(aH 12).map (dZv u v b)=((aH 12).map λk=>97 + (b + k) % 26).map λc=>u++(⟨#[c]⟩:Str)++v:=by rw[bH];rfl
 rw[e];exact dQ3 u v (dZt b)
theorem eZw {z:Str} (hz:z.length=7) (p:Nat) (h:Option Int):(cutS z none (some (p:Int))).length + (cutS z (some (p:Int)) h).length<=7:=by
 have j:z.cps.toList.length=7:=by rw[aZ];exact hz
 have D:(cutS z none (some (p:Int))).length<=min p 7:=by
  rw[cutS_eq];show(List.toArray _).size<=_;rw[ar,aK,HT.sIx_nat,hz];omega
 have B:(cutS z (some (p:Int)) h).length<=7 - min p 7:=by
  rw[cutS_eq];show(List.toArray _).size<=_;rw[ar,aK,bm,HT.sIx_nat,hz,j];omega
 omega
theorem DkD.eq {S S':Sto} {a:Addr} {n:Nat} (h:DkD S a n) (e:S' a=S a):DkD S' a n:=by
 obtain⟨g,m,t,j,r⟩:=h;exact⟨g,m,t,e.trans j,r⟩
theorem DkD.ne {S:Sto} {a p:Addr} {n:Nat} (h:DkD S a n) (hp:S p=none):p≠a:=by
 obtain⟨g,m,t,j,_⟩:=h;rintro rfl;rw[j] at hp;cases hp
def spd_sets:SpD:=λds S Q=>∃ (a:Addr) (most wide n:Nat),ds=[.ref a,.int most,.int wide]/\DkD S a n/\n<=800000/\most<=14/\1<=wide/\wide<=12/\∀ (ts:List (List Str)) S',CollB most ts->Off a S S'->DkD S' a (n + 500)->Q (.tup (ts.map tupS)) S'
end L2
namespace Toy
open PySem L2
theorem bZp {a:Addr} {tt:TD} {Γr:Gm} {ws:List Str} {n:Nat} {S:Sto} (dk:DkD S a n) (hn:n + ws.length<=1000000) (hw:ws.length<=9999)
  (h:∀ (x:Str) (S:Sto) (k:Nat),DkD S a k->k<=1000000->∀ Q:Bool->Sto->Prop,(∀ c S',Off a S S'->DkD S' a (k + 1)->Q c S')->tt (some (.str x)::Γr) S Q) {Q:List D->Sto->Prop}
  (q:∀ (os:List Str) S',os.Sublist ws->Off a S S'->DkD S' a (n + ws.length)->Q (os.map D.str) S') :
  aZl (aQr 0) tt (aJl (dVar 0)) (λ_=>True) (none::Γr) (ws.map D.str) [] S Q:=by
 refine aZ6 (λi acc S'=>∃ os:List Str,acc=os.map D.str/\os.Sublist (ws.take i)/\Off a S S'/\DkD S' a (n + i)) ⟨[],rfl,List.nil_sublist _,λ_ _=>rfl,dk⟩ ?_ ?_
 ·rintro i x acc S' N O ⟨os,rfl,G,J,j⟩ R;rw[aF,a6] at O;obtain⟨y,L,rfl⟩:=O;obtain⟨hi,_⟩:=aA.mp L;have U:ws.take (i + 1)=ws.take i++[y]:=by rw[bT,L];rfl
  refine⟨trivial,h y S' (n + i) j (by omega) _ λc Y B I=>?_⟩
  have ol:=G.length_le;rw[aK] at ol;cases c with
  | true =>
   rw[if_pos rfl];refine⟨z9999 (by rw[af];omega),R _ _ ⟨os++[y],by rw[aO];rfl,?_,J.trans B,I⟩⟩
   rw[U];exact G.append (List.Sublist.refl _)
  | false =>
   rw[if_neg (by simp)]
   refine R _ _ ⟨os,rfl,?_,J.trans B,I⟩;rw[U];exact G.trans (jD _ _)
 ·rintro acc S' ⟨os,rfl,G,J,j⟩;rw[af] at G j;rw[cv] at G;exact⟨trivial,q os S' G J j⟩
end Toy
namespace L2
open PySem Toy
theorem fJw {P:Int->Prop} {l:List Int} {i:Int} (h0:0<=i) (h1:i < l.length) (hP:∀ x∈l,P x):∃ v,atI (l.map D.int) i=some (.int v)/\P v:=by
 obtain⟨h,e⟩:=fZl h0 h1;exact⟨_,by rw[cJw,e];rfl,hP _ (cS h)⟩
end L2
namespace Toy
open PySem L2
abbrev s_law_names:Stmt:=top 14
theorem sc_law_names:FnScope ["deck", "many", "letters", "spare", "begin", "near", "place", "alike", "k", "sign"] ["deck", "many"] (aQ8 s_law_names):=fsc
section
variable {P:aC} {w:aR} {K:az} {mg:Str->Option ae} {base:bf} {pt cc:Addr}
theorem bXn (T:Tx K mg "_law_names" s_law_names) (B:Bs mg) (d_law_draw:Df P w K mg base 1 "_law_draw" ["deck", "most"] (spU K aZu)):Df P w K mg base 2 "_law_names" ["deck", "many"] (spU K bXm):=by
 refine aXk T sc_law_names (λF=>F.binds λ_ _ _ _ _ _=>us2 λ_ _=>rfl) ?_ λf cdv A outer s H E hr=>⟨_,(aQ2 (aQ9 (i:=2) sc_law_names.nd rfl (gb rfl) aZ9)
  (aQ2 (aQ9 (i:=3) sc_law_names.nd rfl (gb rfl) (aZj (b:=true) (aQ0 aZ9 (aQ0 aZ9 (aQ0 aZ9 (aQ0 aZ9 (aQ0 aZ9 (aQ0 aZ9 (aQ0 aZ9 (aQ0 aZ9 (aQ0 aZ9 (aQ0 aZ9 (aQ0 aZ9 (aQ0 aZ9 aQ1))))))))))))))
  (aQ2 (aQ9 (i:=4) sc_law_names.nd rfl (aW rfl) (aQ7 d_law_draw hr rfl (aQ0 (dv 0) (aQ0 aQ5 aQ1))))
  (aQ2 (aQ9 (i:=5) sc_law_names.nd rfl (aW rfl) (fZc aZ9 (aQ0 (aQw (N':=["k", "letters", "deck"]) (oc:=none) (b:=false) [0] [] rfl sc_law_names.nd (λ_ _ _=>aQc _ _ _ _ _ _ _ _ _) (.own (.cap (i:=2) rfl (by decide +kernel) (.cap (i:=0) rfl (by decide +kernel) .nil))) (aQg rfl) (aZa rfl B.range (aQ0 aQ5 aQ1)) (cg_name (i:=0)) (λ_ _ _ _ _=>aQb (i:=0) (nd_ ["k", "letters", "deck"]) rfl (aW rfl) (.inr rfl)) (λ_ _ _ _ _=>aZs) aQf (λ_ _ _ _ _ _=>aQe rfl (by exact PD.o (e_ix (dv 1) (aQ7 d_law_draw hr rfl (aQ0 (dv 2) (aQ0 aQ5 aQ1))))))) aQ1)))
  (aQ2 (aQ9 (i:=5) sc_law_names.nd rfl (aW rfl) (aQm (k:=false) (dv 5) (e_ix (dv 2) (dv 4))))
  (aQ2 (aQ9 (i:=6) sc_law_names.nd rfl (aW rfl) (aQm (k:=false) (aQ7 d_law_draw hr rfl (aQ0 (dv 0) (aQ0 aQ5 aQ1))) (aJj (dv 4) aQ5)))
  (aQ2 (aQ9 (i:=7) sc_law_names.nd rfl (aW rfl) (aQ7 d_law_draw hr rfl (aQ0 (dv 0) (aQ0 aQ5 aQ1))))
  (aQ2 (aQ9 (i:=3) sc_law_names.nd rfl (gb rfl) (e_sl (b:=true) (dv 3) (aZr (bQd aQ5 (dv 7))) aXi))
  (aQ2 (aZb cf rfl (aZa rfl B.range (aQ0 aQ5 aQ1)) (aQl (i:=8) sc_law_names.nd rfl (aW rfl)) (aQ2 (aQ9 (i:=9) sc_law_names.nd rfl (aW rfl) (e_ix (dv 2) (aJj (aQm (k:=false) (dv 4) (dv 8)) aQ5)))
  (aQ4 (aXj (aXw (dv 3) (aQ0 (e_ix (aZj (b:=false) (aQ0 (aQm (k:=false) (dv 9) (fJt aZ9 (aQm (k:=false) aQ5 (aJj (dv 8) aQ5)))) (aQ0 (aQm (k:=false) (aQm (k:=false) (e_sl (b:=false) (dv 5) aXi (aZr (dv 6))) (dv 9)) (e_sl (b:=false) (dv 5) (aZr (dv 6)) (aZr (aJj (dv 4) aQ5)))) aQ1))) (dv 7)) aQ1))))))
  (aQ4 (aQq (aQw (N':=["k", "spare", "deck"]) (oc:=none) (b:=false) [0] [] rfl sc_law_names.nd (λ_ _ _=>aQc _ _ _ _ _ _ _ _ _) (.own (.cap (i:=3) rfl (by decide +kernel) (.cap (i:=0) rfl (by decide +kernel) .nil))) (aQg rfl) (aZa rfl B.range (aQ0 (dv 1) aQ1)) (cg_name (i:=0)) (λ_ _ _ _ _=>aQb (i:=0) (nd_ ["k", "spare", "deck"]) rfl (aW rfl) (.inr rfl)) (λ_ _ _ _ _=>aZs) aQf (λ_ _ _ _ _ _=>aQe rfl (by exact PD.o (eZ7 (dv 1) (aQ0 (aQ7 d_law_draw hr rfl (aQ0 (dv 2) (aQ0 (aZx rfl B.len (aQ0 (dv 1) aQ1)) aQ1))) aQ1)))))))))))))))),?_⟩
 ·rintro ds S Q ⟨a,many,n,rfl,_⟩;rfl
 ·rintro ds S Q ⟨a,many,n,rfl,dk,hn,hm,q⟩;refine⟨z9999 (by show 12<=9999;decide),λp1 hp1=>?_⟩
  have L:=dk.ne hp1;refine⟨a,26,n,rfl,dk.eq (supd_ne (b8 L)),by omega,by decide,by decide,λb' S1 b0 b1 Y dk1=>?_⟩
  obtain⟨b,rfl⟩:∃ b:Nat,b'=b:=⟨b'.toNat,by omega⟩
  refine⟨trivial,⟨by decide,by decide⟩,?_⟩
  refine dZu dk1 (by rw[aQt];show n + 1 + 6<=_;omega) (by rw[aQt];show 6<=8;decide) λbs S2 hbl U dk2=>?_
  rw[aQt] at hbl dk2;have hb6:bs.length=6:=hbl;refine⟨bs.map sg,rfl,by rw[dJ2,hb6,af];show 6 + _ * 0<=_;omega,?_⟩
  rw[eZd];generalize hbase:(⟨bs.toArray⟩:Str)=base;have hbl6:base.length=6:=by rw[<- hbase];show bs.toArray.size=6;rw[ar];exact hb6
  refine⟨z9999 (by decide),_,bQ4 (by omega:b < 26),z9999 (by show base.length + 1<=9999;omega),?_⟩
  generalize Z:base++(⟨#[97 + b]⟩:Str)=near;have hn7:near.length=7:=by
   rw[<- Z];show(base.cps++#[97 + b]).size=7;rw[cU];show base.length + 1=7;omega
  refine⟨a,7,n + 1 + 6,rfl,dk2,by omega,by decide,by decide,λj S3 p0 p1' R dk3=>⟨by show(0:Int) < 2;decide,?_⟩⟩
  obtain⟨pl,hpl⟩:∃ pl:Nat,j + (b:Int) % 2=pl:=⟨(j + (b:Int) % 2).toNat,by omega⟩
  refine⟨a,2,n + 1 + 6 + 1,rfl,dk3,by omega,by decide,by decide,λal S4 l0 l1 O dk4=>?_⟩
  have hSp:S4 p1=some (.lst (wordsD.map D.str)):=(O p1 L).trans ((R p1 L).trans ((U p1 L).trans ((Y p1 L).trans aQ3)));refine⟨.inl ⟨by decide,by decide⟩,_,rfl,_,hSp,λp2 hp2=>?_⟩
  have h2a:=dk4.ne hp2;obtain⟨ws,mk,J,hnd,hlen,hmk⟩:∃ (ws:List Str) (mk:Nat->Str),cutD (wordsD.map D.str) (some (12 * al)) none=ws.map D.str/\(ws++(aH 12).map mk).Nodup/\(∀ x∈ws++(aH 12).map mk,1<=x.length/\x.length<=8)/\∀ k:Nat,atI [D.str ((⟨#[97 + (b + k) % 26]⟩:Str)++repS (aG "q") (1 + (k:Int) % 7)),D.str (cutS near none (some (j + (b:Int) % 2))++(⟨#[97 + (b + k) % 26]⟩:Str)++cutS near (some (j + (b:Int) % 2)) (some ((b:Int) % 8)))] al=some (.str (mk k)):=by
   have h:al=0\/al=1:=by omega
   rw[hpl];rcases h with rfl | rfl
   ·exact⟨wordsD,made0 b,rfl,(ok0 b (by omega)).1,(ok0 b (by omega)).2,λk=>rfl⟩
   ·refine⟨[],dZv (cutS near none (some (pl:Int))) (cutS near (some (pl:Int)) (some ((b:Int) % 8))) b,rfl,nd1 _ _ _,λx hx=>?_,λk=>rfl⟩;obtain⟨k,_,rfl⟩:=bD.mp hx
    have:=eZw hn7 pl (some ((b:Int) % 8))
    have e:∀ u v:Str,(dZv u v b k).length=u.length + 1 + v.length:=λu v=>by
     show(u.cps++#[97 + (b + k) % 26]++v.cps).size=_;rw[cU,cU];rfl
    rw[e];omega
  rw[J];refine⟨⟨by decide,by decide⟩,aQv (λi Γ S'=>(∃ x8 x9:Option D,Γ=[some (.ref a),some (.int many),some (.str lettersZ),some (.ref p2),some (.int (b:Nat)),some (.str near),some (.int (j + (b:Int) % 2)),some (.int al),x8,x9])/\S' p2=some (.lst ((ws++(aH i).map mk).map D.str))/\∀ c,c≠p2->S' c=S4 c) ⟨⟨none,none,rfl⟩,by rw[aQ3];simp,λc I=>supd_ne I⟩ ?_ ?_⟩
  ·rintro i x Γ S' N hx ⟨⟨x8,x9,rfl⟩,hf,G⟩ hN;obtain⟨hi,rfl⟩:=bQv hx;have hi12:i < 12:=hi;have hlt:atI lettersZ.cps.toList (((b:Int) + (i:Int)) % 26)=some (97 + (b + i) % 26):=by
    have e:((b:Int) + (i:Int)) % 26=(((b + i) % 26:Nat):Int):=by omega
    rw[e];exact bQ4 (by omega)
   have n7:near.length<=1000000:=by omega
   have c7:∀ u v:Option Int,(cutS near u v).length<=7:=λu v=>eZt near u v hn7;have r8:(repS (aG "q") (1 + (i:Int) % 7)).length<=7:=by rw[cQu rfl (by omega)];omega
   refine⟨trivial,by show(0:Int) < 26;decide,z9999 (by decide),_,hlt,⟨_,hf⟩,?_⟩
   refine⟨by show(0:Int) < 7;decide,rfl,by omega,by omega,z9999 (by show 1 + (repS (aG "q") (1 + (i:Int) % 7)).length<=9999;omega),?_⟩
   refine⟨_,rfl,n7,z9999 (by show(cutS near none (some (j + (b:Int) % 2))).length + 1<=9999;have:=c7 none (some (j + (b:Int) % 2));omega),_,rfl,by show(0:Int) < 8;decide,_,rfl,n7,?_,z9999 (by show 2<=9999;decide),_,_,rfl,hmk i,_,hf,?_,hN _ _ ⟨⟨_,_,rfl⟩,?_,λc I=>(supd_ne I).trans (G c I)⟩⟩
   ·refine z9999 ?_;have h1:=c7 none (some (j + (b:Int) % 2));have h2:=c7 (some (j + (b:Int) % 2)) (some ((b:Int) % 8));show((cutS near none (some (j + (b:Int) % 2))).cps++#[97 + (b + i) % 26]).size + (cutS near (some (j + (b:Int) % 2)) (some ((b:Int) % 8))).length<=9999;rw[cU];show(cutS near none (some (j + (b:Int) % 2))).length + 1 + _<=9999;omega
   ·rw[af,aq,af,dl,bh]
    have:ws.length<=12:=by
     have:=congrArg eM J
     rw[af] at this;rw[<- this];unfold cutD;rw[aK,bm];show _<=12
     have:(wordsD.map D.str).length=12:=rfl
     omega
    omega
   ·rw[aQ3,fC];simp
  ·rintro Γ S' ⟨⟨x8,x9,rfl⟩,hf,G⟩;rw[aQt] at hf;have dk5:DkD S' a (n + 9):=(dk4.eq (G a (b8 h2a))).mono (by omega)
   have hw12:ws.length<=12:=by
    have:=congrArg eM J
    rw[af] at this;rw[<- this];unfold cutD;rw[aK,bm]
    have:(wordsD.map D.str).length=12:=rfl
    omega
   refine⟨trivial,⟨by omega,by omega⟩,?_⟩
   rw[ce];refine fZz (m:=many) (b8 h2a) dk5 (by omega) hf (by rw[af,aq,af,dl];show many<=_ + 12;omega) (by rw[af,aq,af,dl];show _ + 12<=999;omega) λvs us S9 pm hvl hl9 dk9 off9=>?_
   obtain⟨as,bs',rfl,rfl,pn⟩:=dQ0 (f:=D.str) dStr' (λ_=>rfl) pm;rw[af] at hvl;refine bZj (S':=λc=>if c=a then S9 c else S c) (λc o e=>?_) (q as _ (dq.mp (pn.nodup_iff.mpr hnd)).1 hvl (λx hx=>hlen x (pn.mem_iff.mp (cH _ hx))) (λc I=>if_neg I) (dk9.eq (if_pos rfl)))
   by_cases I:c=a
   ·rw[if_pos I] at e;exact e
   ·rw[if_neg I] at e;have n1:c≠p1:=by rintro rfl;rw[hp1] at e;cases e
    have e4:S4 c=some o:=(O c I).trans ((R c I).trans ((U c I).trans ((Y c I).trans ((supd_ne n1).trans e))));have n2:c≠p2:=by rintro rfl;rw[hp2] at e4;cases e4
    exact(off9 c n2 I).trans ((G c n2).trans e4)
end
abbrev s_law_sets:Stmt:=top 15
theorem sc_law_sets:FnScope ["deck", "most", "wide", "names", "kind", "core", "parts", "found", "k", "own"] ["deck", "most", "wide"] (aQ8 s_law_sets):=fsc
section
variable {P:aC} {w:aR} {K:az} {mg:Str->Option ae} {base:bf} {pt cc:Addr}
theorem bJk (T:Tx K mg "_law_sets" s_law_sets) (B:Bs mg) (d_law_draw:Df P w K mg base 2 "_law_draw" ["deck", "most"] (spU K aZu)) (d_law_names:Df P w K mg base 2 "_law_names" ["deck", "many"] (spU K bXm)):Df P w K mg base 3 "_law_sets" ["deck", "most", "wide"] (spU K spd_sets):=by
 refine aXk T sc_law_sets (λF=>F.binds λ_ _ _ _ _ _=>us3 λ_ _ _=>rfl) ?_ λf cdv A outer s H E L=>⟨_,(aQ2 (aQ9 (i:=3) sc_law_sets.nd rfl (aW rfl) (aQ7 d_law_names L rfl (aQ0 (dv 0) (aQ0 (aQm (k:=false) aQ5 (aQ7 d_law_draw L rfl (aQ0 (dv 0) (aQ0 (dv 2) aQ1)))) aQ1))))
  (aQ2 (aQ9 (i:=4) sc_law_sets.nd rfl (gb rfl) (aQ7 d_law_draw L rfl (aQ0 (dv 0) (aQ0 aQ5 aQ1))))
  (aQ2 (bZh (i:=5) rfl (aW rfl) (N':=["name", "deck"]) (oc:=none) (b:=false) [0] [] rfl sc_law_sets.nd (λ_ _ _=>aQc _ _ _ _ _ _ _ _ _) (.own (.cap (i:=0) rfl (by decide +kernel) .nil)) (aQg rfl) (aZ5 (dv 3)) (cg_name (i:=0)) (λ_ _ _ _ _=>aQb (i:=0) (nd_ ["name", "deck"]) rfl (aW rfl) (.inr rfl)) (λ_ _ _ _ _=>aQu (by exact(bQe L (aQ7 d_law_draw L rfl (aQ0 (dv 1) (aQ0 aQ5 aQ1))) aQ5))) aQf (λ_ _ _ _ _ _=>aQe rfl (by exact PD.o (dv 0))))
  (aQ2 (aQ9 (i:=6) sc_law_sets.nd rfl (gb rfl) (aQm (k:=false) aQ5 (aQ7 d_law_draw L rfl (aQ0 (dv 0) (aQ0 aQ5 aQ1)))))
  (aQ2 (aQ9 (i:=7) sc_law_sets.nd rfl (aW rfl) (aZj (b:=true) aQ1))
  (aQ2 (aZb cf rfl (aZa rfl B.range (aQ0 (e_ix (aZj (b:=false) (aQ0 (aQ7 d_law_draw L rfl (aQ0 (dv 0) (aQ0 (aQm (k:=false) (dv 1) aQ5) aQ1))) (aQ0 (dv 1) aQ1))) (cJf rfl B.int (aQ0 (e_eq L (aQ7 d_law_draw L rfl (aQ0 (dv 0) (aQ0 aQ5 aQ1))) aQ5) aQ1))) aQ1)) (aQl (i:=8) sc_law_sets.nd rfl (gb rfl)) (aQ2 (bZh (i:=9) rfl (aW rfl) (N':=["name", "deck", "kind"]) (oc:=none) (b:=false) [0] [] rfl sc_law_sets.nd (λ_ _ _=>aQc _ _ _ _ _ _ _ _ _) (.own (.cap (i:=0) rfl (by decide +kernel) (.cap (i:=4) rfl (by decide +kernel) .nil))) (aQg rfl) (aZ5 (dv 3)) (cg_name (i:=0)) (λ_ _ _ _ _=>aQb (i:=0) (nd_ ["name", "deck", "kind"]) rfl (aW rfl) (.inr rfl)) (λ_ _ _ _ _=>aQu (by exact(bQe L (aQ7 d_law_draw L rfl (aQ0 (dv 1) (aQ0 (e_ix (aZj (b:=false) (aQ0 aQ5 (aQ0 aQ5 (aQ0 aQ5 (aQ0 aQ5 (aQ0 aQ5 aQ1)))))) (dv 2)) aQ1))) aQ5))) aQf (λ_ _ _ _ _ _=>aQe rfl (by exact PD.o (dv 0))))
  (bZi (aXt (bQe L (dv 4) aQ5) (aQ4 (aQ9 (i:=9) sc_law_sets.nd rfl (aW rfl) (aQm (k:=false) (aQm (k:=false) (dv 5) (e_sl (b:=false) (dv 9) aXi (aZr aQ5))) (aQw (N':=["at", "name", "parts", "k"]) (oc:=none) (b:=false) [0,1] [] rfl sc_law_sets.nd (λ_ _ _=>aQc _ _ _ _ _ _ _ _ _) (.own (.own (.cap (i:=6) rfl (by decide +kernel) (.cap (i:=8) rfl (by decide +kernel) .nil)))) (aQg rfl) (fZ3 rfl B.enumerate (aQ0 (dv 3) aQ1)) (bQ2 (i:=0) (j:=1)) (λ_ _ _ _ _=>aJc rfl (aQj (aQb (i:=0) (nd_ ["at", "name", "parts", "k"]) rfl (aW rfl) (.inr rfl)) (aQj (aQb (i:=1) (nd_ ["at", "name", "parts", "k"]) rfl (aW rfl) (.inr rfl)) aZy))) (λ_ _ _ _ _=>aQu (by exact(bQe L (aJj (dv 0) (dv 2)) (aJj (dv 3) (dv 2))))) aQf (λ_ _ _ _ _ _=>aQe rfl (by exact PD.o (dv 1))))))) aZ1)
  (bZi (aXt (bQe L (dv 4) aQ5) (aQ4 (aQ9 (i:=9) sc_law_sets.nd rfl (aW rfl) (aZj (b:=false) (aQ0 (e_ix (dv 3) (aQ7 d_law_draw L rfl (aQ0 (dv 0) (aQ0 (aZx rfl B.len (aQ0 (dv 3) aQ1)) aQ1)))) (aQ0 (e_ix (dv 3) (aQ7 d_law_draw L rfl (aQ0 (dv 0) (aQ0 (aZx rfl B.len (aQ0 (dv 3) aQ1)) aQ1)))) aQ1))))) aZ1)
  (bZi (aXt (bQe L (dv 4) aQ5) (aQ4 (aQ9 (i:=9) sc_law_sets.nd rfl (aW rfl) (e_sl (b:=false) (dv 3) aXi (aZr (aQ7 d_law_draw L rfl (aQ0 (dv 0) (aQ0 (aQm (k:=false) (aZx rfl B.len (aQ0 (dv 3) aQ1)) aQ5) aQ1))))))) aZ1)
  (aQ4 (aXj (aXw (dv 7) (aQ0 (aZk rfl B.tuple (aQ0 (aJo (b:=false) L rfl B.sorted (aQ0 (e_sl (b:=false) (bXj (b:=false) L rfl B.sorted rfl B.set (dv 9)) aXi (aZr aQ5)) aQ1)) aQ1)) aQ1)))))))))
  (aQ4 (aQq (aZk rfl B.tuple (aQ0 (bJf (b:=false) L rfl B.sorted rfl B.set (dv 7)) aQ1)))))))))),?_⟩
 ·rintro ds S Q ⟨a,most,wide,n,rfl,_⟩;rfl
 ·rintro ds S Q ⟨a,most,wide,n,rfl,dk,hn,hm,hw1,hw2,q⟩;refine⟨a,wide,n,rfl,dk,by omega,by omega,by omega,λr S1 r0 r1 off1 dk1=>?_⟩
  obtain⟨w,rfl⟩:∃ w:Nat,r=w:=⟨r.toNat,by omega⟩
  refine⟨a,1 + w,n + 1,by rw[fD];rfl,dk1,by omega,by omega,λws S2 nd wl wlen off2 dk2=>?_⟩
  refine⟨a,5,n + 1 + 9 + (1 + w),rfl,dk2,by omega,by decide,by decide,λkind S3 k0 k1 off3 dk3=>?_⟩
  refine⟨ws.map D.str,rfl,bZp dk3 (by omega) (by omega) (λx S k dk hk Q q=>⟨a,3,k,rfl,dk,hk,by decide,by decide,λr S' _ _ off dk'=>⟨rfl,_,rfl,q _ S' off dk'⟩⟩) λcore S4 hcs off4 dk4=>?_⟩
  refine⟨a,5,n + 1 + 9 + (1 + w) + 1 + ws.length,rfl,dk4,by omega,by decide,by decide,λpt S5 p0 p1 off5 dk5=>?_⟩
  refine⟨z9999 (by show 0<=9999;decide),λfp hfp=>?_⟩
  have G:=dk5.ne hfp;have hfpS:S fp=none:=(off1 fp G).symm.trans ((off2 fp G).symm.trans ((off3 fp G).symm.trans ((off4 fp G).symm.trans ((off5 fp G).symm.trans hfp))));refine⟨a,(most:Int) + 1,n + 1 + 9 + (1 + w) + 1 + ws.length + 1,rfl,dk5.eq (supd_ne (b8 G)),by omega,by omega,by omega,λr6 S6 r60 r61 off6 dk6=>?_⟩
  refine⟨z9999 (by show 2<=9999;decide),a,3,n + 1 + 9 + (1 + w) + 1 + ws.length + 2,rfl,dk6,by omega,by decide,by decide,λr7 S7 r70 r71 off7 dk7=>⟨rfl,?_⟩⟩
  obtain⟨cnt,hv,cm⟩:∃ cnt:Nat,atI [D.int r6,.int (most:Nat)] (if (if false=true then !decide (D.int r7=D.int 0) else decide (D.int r7=D.int 0))=true then 1 else 0)=some (.int (cnt:Nat))/\cnt<=most:=by
   obtain⟨c6,rfl⟩:∃ c:Nat,r6=c:=⟨r6.toNat,by omega⟩
   have gen:∀ b:Bool,∃ cnt:Nat,atI [D.int (c6:Nat),.int (most:Nat)] (if b=true then 1 else 0)=some (.int (cnt:Nat))/\cnt<=most:=λb=>by
    cases b with
    | true=>exact⟨most,rfl,Nat.le_refl _⟩
    | false=>exact⟨c6,rfl,by omega⟩
   exact gen _
  refine⟨_,_,rfl,hv,⟨by omega,by omega⟩,?_⟩
  rw[ce];have hf7:S7 fp=some (.lst []):=(off7 fp G).trans ((off6 fp G).trans aQ3);have hoff:∀ b,b≠a->b≠fp->S7 b=S b:=λb h1 h2=>((((((off7 b h1).trans (off6 b h1)).trans (supd_ne h2)).trans (off5 b h1)).trans (off4 b h1)).trans (off3 b h1)).trans ((off2 b h1).trans (off1 b h1));have wne:1<=ws.length:=by omega
  have w12:ws.length<=12:=by omega
  generalize hN0:n + 1 + 9 + (1 + w) + 1 + ws.length + 3=N0 at *
  refine aQv (λi Γ S'=>∃ (x8 x9:Option D) (fs:List (List Str)),Γ=[some (.ref a),some (.int (most:Nat)),some (.int (wide:Nat)),some (.lst (ws.map D.str)),some (.int kind),some (.lst (core.map D.str)),some (.int (2 + pt)),some (.ref fp),x8,x9]/\S' fp=some (.lst (fs.map tupS))/\fs.length=i/\(∀ t∈fs,Srt t/\t.length<=6/\∀ x∈t,x∈ws)/\(∀ b,b≠a->b≠fp->S' b=S b)/\DkD S' a (N0 + 20 * i)) ⟨none,none,[],rfl,hf7,rfl,(λ_ h=>by cases h),hoff,dk7.mono (by omega)⟩ ?_ ?_
  ·rintro i x Γ S' N Y ⟨x8,x9,fs,rfl,hf,hfl,hts,hob,dk⟩ hN;obtain⟨hi,rfl⟩:=bQv Y;have hi14:i < cnt:=hi;obtain⟨v,hpv,v1,v2⟩:=fJw (P:=λv=>1<=v/\v<=9) (l:=[2,4,9,9,9]) (i:=kind) k0 (by simpa using k1) (by decide)
   refine⟨trivial,ws.map D.str,rfl,bZp dk (by omega) (by omega) (λx S k dk hk Q q=>⟨z9999 (by show 5<=9999;decide),_,_,rfl,hpv,a,v,k,rfl,dk,hk,by omega,by omega,λr S' _ _ off dk'=>⟨rfl,_,rfl,q _ S' off dk'⟩⟩) λown S8 hos off8 dk8=>?_⟩
   have hf8:S8 fp=some (.lst (fs.map tupS)):=(off8 fp G).trans hf;have ho8:∀ b,b≠a->b≠fp->S8 b=S b:=λb h1 h2=>(off8 b h1).trans (hob b h1 h2);refine⟨fun Γ S'=>∃ own:List Str,Γ=[some (.ref a),some (.int (most:Nat)),some (.int (wide:Nat)),some (.lst (ws.map D.str)),some (.int kind),some (.lst (core.map D.str)),some (.int (2 + pt)),some (.ref fp),some (.int (i:Nat)),some (.lst (own.map D.str))]/\(∀ x∈own,x∈ws)/\own.length<=40/\S' fp=some (.lst (fs.map tupS))/\(∀ b,b≠a->b≠fp->S' b=S b)/\DkD S' a (N0 + 20 * i + ws.length),?_,?_⟩
   ·refine⟨rfl,_,rfl,ite2 (λc=>?_) λc=>⟨own,rfl,λx Y=>hos.subset Y,by have:=hos.length_le;omega,hf8,ho8,dk8⟩⟩
    obtain⟨cs,ec,J,Z⟩:∃ cs:List Str,cutD (own.map D.str) none (some 1)=cs.map D.str/\(∀ x∈cs,x∈own)/\cs.length<=own.length:=⟨_,bZl _ _ _ _,λx Y=>cI (cJ Y),by rw[aK,bm];omega⟩
    have ol:=hos.length_le;have cl:=hcs.length_le;refine⟨1,rfl,_,rfl,?_⟩;rw[ec];refine⟨_,_,rfl,rfl,z9999 (by rw[af,af];omega),?_⟩
    refine aZ6 (λj acc S'=>S'=S8/\∃ os:List Str,acc=os.map D.str/\os.length<=j/\∀ x∈os,x∈ws) ⟨rfl,[],rfl,Nat.le_refl _,λ_ h=>by cases h⟩ ?_ ?_
    ·rintro j y acc S' N2 hy ⟨rfl,os,rfl,osl,osm⟩ hN2;obtain⟨z,hz,rfl⟩:=aX6 _ _ _ _ hy;rw[aF,a6] at hz;obtain⟨x,Y,rfl⟩:=hz;have hj:=(aA.mp Y).1;refine⟨trivial,rfl,rfl,by show(0:Int) < 2 + pt;omega,by show(0:Int) < 2 + pt;omega,rfl,_,rfl,ite2 (λc=>⟨z9999 (by rw[af];omega),hN2 _ _ ⟨rfl,os++[x],by rw[aO];rfl,by rw[aq];show os.length + 1<=_;omega,λy hy=>?_⟩⟩) λc=>hN2 _ _ ⟨rfl,os,rfl,by omega,osm⟩⟩
     rcases aN.mp hy with h | h
     ·exact osm y h
     ·rw[aI.mp h];exact ak Y
    ·rintro acc S' ⟨rfl,os,rfl,osl,osm⟩;rw[aX5,af] at osl;refine⟨trivial,_,_,rfl,rfl,z9999 (by rw[aq,af,af,af];omega),core++cs++os,by rw[aO,aO];rfl,λy hy=>?_,by rw[aq,aq];omega,hf8,ho8,dk8⟩
     rcases aN.mp hy with h | h
     ·rcases aN.mp h with h | h
      ·exact hcs.subset h
      ·exact hos.subset (J y h)
     ·exact osm y h
   rintro Γ S9 ⟨own,rfl,how,hol,O,R,U⟩;refine⟨fun Γ S'=>∃ own:List Str,Γ=[some (.ref a),some (.int (most:Nat)),some (.int (wide:Nat)),some (.lst (ws.map D.str)),some (.int kind),some (.lst (core.map D.str)),some (.int (2 + pt)),some (.ref fp),some (.int (i:Nat)),some (.lst (own.map D.str))]/\(∀ x∈own,x∈ws)/\own.length<=40/\S' fp=some (.lst (fs.map tupS))/\(∀ b,b≠a->b≠fp->S' b=S b)/\DkD S' a (N0 + 20 * i + ws.length + 2),?_,?_⟩
   ·refine⟨rfl,_,rfl,ite2 (λc=>?_) λc=>⟨own,rfl,how,hol,O,R,U.mono (by omega)⟩⟩
    have pick:∀ r:Int,0<=r->r < ((ws.map D.str).length:Nat)->∃ x∈ws,atI (ws.map D.str) r=some (D.str x):=λr r0 r1=>by
     obtain⟨j,rfl⟩:∃ j:Nat,r=j:=⟨r.toNat,by omega⟩
     rw[af] at r1;have hj:j < ws.length:=by omega
     exact⟨ws[j],cS hj,aXd (j:=j) (by rw[aF,ah hj];rfl)⟩
    refine⟨_,rfl,a,((ws.map D.str).length:Nat),N0 + 20 * i + ws.length,rfl,U,by omega,by rw[af];omega,by rw[af];omega,λr S10 r0 r1 I dk10=>?_⟩
    obtain⟨x1,hx1,e1⟩:=pick r r0 r1;refine⟨_,_,rfl,e1,_,rfl,a,((ws.map D.str).length:Nat),N0 + 20 * i + ws.length + 1,rfl,dk10,by omega,by rw[af];omega,by rw[af];omega,λr S11 r0 r1 off11 dk11=>?_⟩
    obtain⟨x2,hx2,e2⟩:=pick r r0 r1;refine⟨_,_,rfl,e2,z9999 (by show 2<=9999;decide),[x1,x2],rfl,λy hy=>?_,by show 2<=40;decide,(off11 fp G).trans ((I fp G).trans O),λb h1 h2=>(off11 b h1).trans ((I b h1).trans (R b h1 h2)),dk11⟩
    rcases aB.mp hy with rfl | hy
    ·exact hx1
    ·rw[aI.mp hy];exact hx2
   clear own how hol O R U S9;rintro Γ S9 ⟨own,rfl,how,hol,O,R,U⟩;refine⟨fun Γ S'=>∃ own:List Str,Γ=[some (.ref a),some (.int (most:Nat)),some (.int (wide:Nat)),some (.lst (ws.map D.str)),some (.int kind),some (.lst (core.map D.str)),some (.int (2 + pt)),some (.ref fp),some (.int (i:Nat)),some (.lst (own.map D.str))]/\(∀ x∈own,x∈ws)/\own.length<=40/\S' fp=some (.lst (fs.map tupS))/\(∀ b,b≠a->b≠fp->S' b=S b)/\DkD S' a (N0 + 20 * i + ws.length + 3),?_,?_⟩
   ·refine⟨rfl,_,rfl,ite2 (λc=>?_) λc=>⟨own,rfl,how,hol,O,R,U.mono (by omega)⟩⟩
    refine⟨_,rfl,a,((ws.map D.str).length:Nat) + 1,N0 + 20 * i + ws.length + 2,rfl,U,by omega,by omega,by rw[af];omega,λr S10 r0 r1 I dk10=>?_⟩
    obtain⟨cs,ec,J,Z⟩:∃ cs:List Str,cutD (ws.map D.str) none (some r)=cs.map D.str/\(∀ x∈cs,x∈ws)/\cs.length<=ws.length:=⟨_,bZl _ _ _ _,λx Y=>cI (cJ Y),by rw[aK,bm];omega⟩
    refine⟨r,rfl,_,rfl,?_⟩;rw[ec];exact⟨cs,rfl,J,by omega,(I fp G).trans O,λb h1 h2=>(I b h1).trans (R b h1 h2),dk10⟩
   clear own how hol O R U S9;rintro Γ S9 ⟨own,rfl,how,hol,O,R,U⟩;refine⟨⟨_,O⟩,own,rfl,by omega,λout ond omem opw=>?_⟩
   obtain⟨cs,ec,J,Z,hcnd⟩:∃ cs:List Str,cutD (out.map D.str) none (some 6)=cs.map D.str/\(∀ x∈cs,x∈out)/\cs.length<=6/\cs.Nodup:=by
    refine⟨_,bZl _ _ _ _,λx Y=>cI (cJ Y),?_,ond.sublist ((gH _ _).trans (jn _ _))⟩
    have:HT.sIx out.length out.length (some ((6:Nat):Int))=min 6 out.length:=HT.sIx_nat _ _ 6
    rw[aK];show min (HT.sIx out.length out.length (some ((6:Nat):Int)) - _) _<=6;omega
   refine⟨6,rfl,_,rfl,?_⟩;rw[ec];refine .inl ⟨cs,rfl,_,rfl,_,O,z9999 (by rw[af];omega),hN _ _ ⟨_,_,fs++[srS cs],rfl,by rw[aQ3,aO];rfl,by rw[aq,hfl];rfl,λt ht=>?_,λb h1 h2=>(supd_ne h2).trans (R b h1 h2),(U.eq (supd_ne (b8 G))).mono (by omega)⟩⟩
   rcases aN.mp ht with h | h
   ·exact hts t h
   ·rw[aI.mp h];exact⟨bJh hcnd,by rw[(aZt _).length_eq];exact Z,λx Y=>how x ((omem x).mp (J x (mem_srS.mp Y)))⟩
  ·rintro Γ S' ⟨x8,x9,fs,rfl,hf,hfl,hts,hob,dk⟩;rw[aQt] at hfl dk;refine⟨trivial,fs,hf,by omega,λout ond omem opw=>⟨_,rfl,?_⟩⟩
   have ol:=ond.length_le_of_subset λt ht=>(omem t).mp ht;have osi:∀ t∈out,Srt t/\t.length<=6/\∀ x∈t,x∈ws:=λt ht=>hts t ((omem t).mp ht);have onm:∀ x∈L2.nms out,x∈ws:=λx Y=>by
    obtain⟨t,ht,hxt⟩:=mem_nms.mp Y;exact(osi t ht).2.2 x hxt
   refine bZj (S':=λc=>if c=a then S' c else S c) (λc o e=>?_) (q out _ { srt:=opw,each:=λt ht=>⟨(osi t ht).1,(osi t ht).2.1⟩,len:=by omega,nms:=Nat.le_trans ((eZr _).nodup.length_le_of_subset onm) (by omega),ne:=λx Y=>dZr (wlen x (onm x Y)).1 } (λc hc=>if_neg hc) ((dk.eq (if_pos rfl)).mono (by omega)))
   by_cases z:c=a
   ·rw[if_pos z] at e;exact e
   ·rw[if_neg z] at e;have zf:c≠fp:=by rintro rfl;rw[hfpS] at e;cases e
    rw[hob c z zf];exact e
end
end Toy
set_option maxHeartbeats 4000000
namespace L2
open PySem
end L2
namespace Toy
open PySem L2
end Toy
namespace L2
open PySem
open Toy (ch ch_cons ch_zero ch_mem coG naG lfG meG laG Sun la_co flw flw_eq mem_na mem_me)
def flO (ts:List (List Str)) (m:Nat):List (List (List Str)):=(ch ts m).filter λs=>(coG s).isSome
end L2
namespace Toy
open PySem L2
end Toy
namespace L2
open PySem
open Toy (ch ch_cons ch_zero ch_mem coG naG lfG meG laG Sun la_co flw flw_eq mem_na mem_me)
end L2
namespace L2
open PySem
open Toy (ch ch_cons ch_zero ch_mem coG naG lfG meG laG Sun la_co flw flw_eq mem_na mem_me)
theorem me_comm {a b:List Str} (ha:Srt a) (hb:Srt b):meG a b=meG b a:=Srt.ext (fV _ ha) (fV _ hb) λn=>by rw[mem_me,mem_me];exact⟨λh=>⟨h.2,h.1⟩,λh=>⟨h.2,h.1⟩⟩
def Fm (s:List (List Str)) (c:List Str):Prop:=s.Pairwise λa b=>meG a b=c
theorem fJx {s:List (List Str)} (h2:2<=s.length) (nd:s.Nodup) (hs:∀ o∈s,Srt o) {c:List Str}:coG s=some c↔Fm s c:=by
 rw[<- la_co (lt:=λa b=>HT.ltS a b=true) (λa=>by rw[HT.ltS_ir];simp) (λa b h=>by rw[HT.ltS_as h];simp) h2 nd hs]
 match s,h2,hs with
 | a::b::r,_,hs =>
  have eq:∀ d:List Str,((a::b::r).Pairwise λother one=>meG one other=d)↔Fm (a::b::r) d:=λd=>by
   unfold Fm;constructor
   ·intro h;refine du ?_ h;intro x y B j e;rw[me_comm (hs x B) (hs y j)];exact e
   ·intro h;refine du ?_ h;intro x y B j e;rw[me_comm (hs y j) (hs x B)];exact e
  have D:∀ d,Fm (a::b::r) d->meG a b=d:=λd h=>(bb.mp h).1 b am;show(if (a::b::r).Pairwise (λother one=>meG one other=meG a b) then some (meG a b) else none)=some c↔_
  constructor
  ·intro h
   split at h
   ·next G=>cases h;exact(eq _).mp G
   ·cases h
  ·intro h
   have:=D c h
   subst this;rw[if_pos ((eq _).mpr h)]
end L2
namespace Toy
open PySem L2
end Toy
namespace L2
open PySem
open Toy (ch ch_mem cQx meG)
end L2
set_option maxHeartbeats 1000000
namespace Toy
open PySem L2
abbrev s_law_meet:Stmt:=top 17
theorem sc_law_meet:FnScope ["one", "other"] ["one", "other"] (aQ8 s_law_meet):=fsc
def aXl:SpD:=λds S Q=>∃ a b:List Str,ds=[tupS a,tupS b]/\a.length<=9999/\Q (tupS (meG a b)) S
section
variable {P:aC} {w:aR} {K:az} {mg:Str->Option ae} {base:bf} {pt cc:Addr}
theorem bJl (T:Tx K mg "_law_meet" s_law_meet) (B:Bs mg):Df P w K mg base 1 "_law_meet" ["one", "other"] (spU K aXl):=by
 refine aXk T sc_law_meet (λF=>F.binds λ_ _ _ _ _ _=>us2 λ_ _=>rfl) ?_ λf I A outer s H E G=>⟨_,(aQ4 (aQq (aZk rfl B.tuple (aQ0 (aQw (N':=["name", "other"]) (oc:=none) (b:=false) [0] [] rfl sc_law_meet.nd (λ_ _ _=>aQc _ _ _ _ _ _ _ _ _) (.own (.cap (i:=1) rfl (by decide +kernel) .nil)) (aQg rfl) (aZ5 (dv 0)) (cg_name (i:=0)) (λ_ _ _ _ _=>aQb (i:=0) (nd_ ["name", "other"]) rfl (aW rfl) (.inr rfl)) (λ_ _ _ _ _=>aQu (by exact(fQp G (dv 0) (dv 1)))) aQf (λ_ _ _ _ _ _=>aQe rfl (by exact PD.o (dv 0)))) aQ1)))),?_⟩
 ·rintro ds S Q ⟨one,row,rfl,_⟩;rfl
 ·rintro ds S Q ⟨one,row,rfl,J,q⟩;exact⟨one.map D.str,rfl,aZ3 (p:=λn=>decide (n∈row)) (f:=D.str) (λx j Q q=>in_t (neg:=false) (E:=strE) (by decide) rfl q) (λx j _ Q q=>q) (z9999 (by show 0 + one.length<=_;omega)) ⟨_,rfl,aQn q⟩⟩
end
end Toy
set_option maxHeartbeats 4000000
namespace L2
open PySem
open Toy (ch ch_mem coG naG lfG meG mem_na mem_me)
end L2
namespace L2
open PySem
open Toy (meG mem_me)
end L2
namespace L2
open PySem
open Toy
theorem eZx {P:Prop} [Decidable P] (h:P):D.bl (if false=true then !decide P else decide P)=D.bl true:=by rw[decide_eq_true h];rfl
theorem fJy {P:Prop} [Decidable P] (h:¬ P):D.bl (if false=true then !decide P else decide P)=D.bl false:=by rw[decide_eq_false h];rfl
theorem fJz {P:Prop} [Decidable P] (h:P):D.bl (if true=true then !decide P else decide P)=D.bl false:=by rw[decide_eq_true h];rfl
end L2
set_option maxHeartbeats 1000000
namespace Toy
open PySem L2
section
variable {α β:Type}
def apP (R:α->α->Bool):(α->Bool)->List α->Nat->Nat
 | _,_,0=>1
 | _,[],_ + 1=>0
 | p,a::l,k + 1=>(if p a=true then apP R (λb=>p b && R a b) l k else 0) + apP R p l (k + 1)
def pwB (R:α->α->Bool):List α->Bool
 | []=>true
 | a::s=>s.all (R a) && pwB R s
def twP (R:α->α->Bool) (p:α->Bool) (x y:α) (l:List α):Nat->Nat
 | 0=>0
 | j + 1=>apP R (λc=>(p c && R x c) && R y c) l j
theorem aQz (R:α->α->Bool) (p:α->Bool) (l:List α):apP R p l 0=1:=by cases l <;> rfl
theorem dQ4 (R:α->α->Bool):∀ (l:List α) (k:Nat) (p:α->Bool),((ch l k).filter λs=>s.all p && pwB R s).length=apP R p l k
 | l,0,p=>by rw[ch_zero,aQz];rfl
 | [],k + 1,p=>rfl
 | a::l,k + 1,p=>by
  rw[ch_cons,d6,aq,dQ4 R l (k + 1) p,km,af];show _=(if p a=true then _ else 0) + _
  congr 1
  cases h:p a with
  | false =>
   rw[if_neg a9,gF,fz];intro s _ z;have z:((p a && s.all p) && (s.all (R a) && pwB R s))=true:=z;rw[h] at z;cases z
  | true =>
   rw[if_pos rfl,<- dQ4 R l k]
   congr 1
   refine eZ λs hm=>?_;clear hm;show((p a && s.all p) && (s.all (R a) && pwB R s))=((s.all λb=>p b && R a b) && pwB R s);rw[h,fG,<- Bool.and_assoc]
   congr 1
   induction s with
   | nil=>rfl
   | cons b s j =>
    rw[iq,iq,iq,<- j];cases p b <;> cases R a b <;> cases s.all p <;> rfl
theorem aXz {R R':α->α->Bool}:∀ (l:List α) (k:Nat) (p p':α->Bool),(∀ a∈l,p a=p' a)->(∀ a∈l,∀ b∈l,p a=true->p b=true->R a b=R' a b)->apP R p l k=apP R' p' l k
 | l,0,p,p',_,_=>by rw[aQz,aQz]
 | [],k + 1,p,p',_,_=>rfl
 | a::l,k + 1,p,p',h,B=>by
  show(if p a=true then _ else 0) + _=(if p' a=true then _ else 0) + _
  rw[<- h a am,aXz l (k + 1) p p' (λb j=>h b (ao _ j)) λb j c D=>B b (ao _ j) c (ao _ D)]
  congr 1
  by_cases e:p a=true
  ·rw[if_pos e,if_pos e];refine aXz l k _ _ (λb j=>?_) λb j c D h1 h2=>B b (ao _ j) c (ao _ D) ((aQ _ _).mp h1).1 ((aQ _ _).mp h2).1;show(p b && R a b)=(p' b && R' a b);rw[<- h b (ao _ j)];cases hp:p b with
   | false=>rfl
   | true=>rw[B a am b (ao _ j) e hp]
  ·rw[if_neg e,if_neg e]
theorem aX9 (R:α->α->Bool) (q:α->Bool):∀ (l:List α) (k:Nat) (p:α->Bool),apP R p (l.filter q) k=apP R (λa=>p a && q a) l k
 | l,0,p=>by rw[aQz,aQz]
 | [],k + 1,p=>rfl
 | a::l,k + 1,p=>by
  rw[bt];show _=(if (p a && q a)=true then _ else 0) + _
  cases hq:q a with
  | false=>rw[if_neg a9,fQ,if_neg a9,Nat.zero_add,aX9 R q l (k + 1) p]
  | true =>
   rw[if_pos rfl,kL];show(if p a=true then _ else 0) + _=_
   rw[aX9 R q l (k + 1) p]
   congr 1
   by_cases e:p a=true
   ·rw[if_pos e,if_pos e,aX9 R q l k];refine aXz l k _ _ (λb _=>?_) λ_ _ _ _ _ _=>rfl;show((p b && R a b) && q b)=((p b && q b) && R a b);cases p b <;> cases R a b <;> cases q b <;> rfl
   ·rw[if_neg e,if_neg e]
theorem bJm (f:β->α) (R:α->α->Bool):∀ (l:List β) (k:Nat) (p:α->Bool),apP R p (l.map f) k=apP (λa b=>R (f a) (f b)) (λa=>p (f a)) l k
 | l,0,p=>by rw[aQz,aQz]
 | [],k + 1,p=>rfl
 | a::l,k + 1,p=>by
  rw[aL];show(if p (f a)=true then _ else 0) + _=(if p (f a)=true then _ else 0) + _
  rw[bJm f R l (k + 1) p,bJm f R l k]
theorem dZw {R:α->α->Bool} (sy:∀ a b,R a b=R b a) {l l':List α} (h:l.Perm l'):∀ (k:Nat) (p:α->Bool),apP R p l k=apP R p l' k:=by
 induction h with
 | nil=>intro k p;rfl
 | @cons a l l' _ D =>
  intro k p;cases k with
  | zero=>rfl
  | succ k =>
   show(if p a=true then _ else 0) + _=(if p a=true then _ else 0) + _
   rw[D (k + 1) p,D k]
 | @swap a b l =>
  intro k p;cases k with
  | zero=>rfl
  | succ k =>
   show(if p b=true then apP R (λc=>p c && R b c) (a::l) k else 0) + ((if p a=true then apP R (λc=>p c && R a c) l k else 0) + apP R p l (k + 1))=(if p a=true then apP R (λc=>p c && R a c) (b::l) k else 0) + ((if p b=true then apP R (λc=>p c && R b c) l k else 0) + apP R p l (k + 1))
   have key:∀ x y:α,(if p x=true then apP R (λc=>p c && R x c) (y::l) k else 0)=(if p x=true/\p y=true/\R x y=true then twP R p x y l k else 0) + (if p x=true then apP R (λc=>p c && R x c) l k else 0):=λx y=>by
    by_cases e:p x=true
    ·rw[if_pos e,if_pos e];cases k with
     | zero =>
      rw[aQz,aQz]
      split <;> rfl
     | succ j =>
      show(if (p y && R x y)=true then _ else 0) + _=_
      congr 1
      by_cases B:p y=true/\R x y=true
      ·rw[if_pos (by rw[B.1,B.2];rfl),if_pos ⟨e,B.1,B.2⟩];rfl
      ·rw[if_neg (λz=>B ((aQ _ _).mp z)),if_neg (λz=>B z.2)]
    ·rw[if_neg e,if_neg e,if_neg (λz=>e z.1)]
   rw[key b a,key a b];have s1:(if p b=true/\p a=true/\R b a=true then twP R p b a l k else 0)=(if p a=true/\p b=true/\R a b=true then twP R p a b l k else 0):=by
    rw[sy b a]
    by_cases e:p a=true/\p b=true/\R a b=true
    ·rw[if_pos e,if_pos ⟨e.2.1,e.1,e.2.2⟩];cases k with
     | zero=>rfl
     | succ j =>
      show apP R _ l j=apP R _ l j;refine aXz l j _ _ (λc _=>?_) λ_ _ _ _ _ _=>rfl;show((p c && R b c) && R a c)=((p c && R a c) && R b c);cases p c <;> cases R a c <;> cases R b c <;> rfl
    ·rw[if_neg e,if_neg (λz=>e ⟨z.2.1,z.1,z.2.2⟩)]
   rw[s1];omega
 | trans _ _ h1 h2=>intro k p;rw[h1 k p,h2 k p]
end
def geq (one:List Str) (n:Str):Bool:=!HT.lexS [n] (one.take 1)
def stK (many:Nat) (one:List Str) (e:Nat × List Str):List (Nat × List Str):=(e.1,e.2.filter (geq one))::if e.1 < many/\mts one (e.2.filter (geq one))=false then [(e.1 + 1,srS (e.2.filter (geq one)++one))] else []
def finK (many:Nat):List (List Str)->Nat × List Str->List (Nat × List Str)
 | [],e=>[e]
 | o::R,e=>(stK many o e).flatMap (finK many R)
theorem eZy {o o':List Str} (s':Srt o') (h:HT.lexS o o'=true\/o=o') (so:Srt o):∀ n∈o',geq o n=true:=by
 intro n hn;unfold geq;cases o with
 | nil=>rfl
 | cons x r =>
  show(!(if n=x then HT.lexS [] [] else HT.ltS n x))=true
  by_cases e:n=x
  ·rw[if_pos e];rfl
  ·rw[if_neg e]
   have:HT.ltS n x=false:=by
    cases o' with
    | nil=>cases hn
    | cons y D =>
     have j:y=n\/HT.ltS y n=true:=by
      rcases aB.mp hn with rfl | hn
      ·exact .inl rfl
      ·exact .inr ((bb.mp s').1 n hn)
     have B:x=y\/HT.ltS x y=true:=by
      rcases h with h | h
      ·rw[HT.lexS_cons] at h
       by_cases q:x=y
       ·exact .inl q
       ·rw[if_neg q] at h;exact .inr h
      ·injection h with h _;exact .inl h
     rcases B with rfl | B
     ·rcases j with rfl | j
      ·exact absurd rfl e
      ·exact HT.ltS_as j
     ·rcases j with rfl | j
      ·exact HT.ltS_as B
      ·exact HT.ltS_as (HT.ltS_tr B j)
   rw[this];rfl
theorem dQ5 {o o' t:List Str} (s':Srt o') (h:HT.lexS o o'=true\/o=o') (so:Srt o):mts o' (t.filter (geq o))=mts o' t:=by
 refine eG.mpr ?_;rw[mts_iff,mts_iff];constructor
 ·rintro⟨x,h1,h2⟩;exact⟨x,(bq.mp h1).1,h2⟩
 ·rintro⟨x,h1,h2⟩;exact⟨x,bq.mpr ⟨h1,eZy s' h so x h2⟩,h2⟩
theorem bJn {many:Nat}:∀ (R:List (List Str)) (e:Nat × List Str) (p:List Str->Bool),SrtT R->(∀ o∈R,Srt o)->e.1<=many->(∀ o∈R,p o=!mts o e.2)->((finK many R e).filter λk=>decide (k.1=many)).length=apP (λa b=>!mts b a) p R (many - e.1)
 | [],e,p,_,_,he,_=>by
  show([e].filter _).length=_;rw[bt]
  by_cases q:e.1=many
  ·rw[if_pos (decide_eq_true q),q,Nat.sub_self];rfl
  ·rw[if_neg (by rw[decide_eq_false q];exact a9)]
   obtain⟨k,J⟩:∃ k,many - e.1=k + 1:=⟨many - e.1 - 1,by omega⟩
   rw[J];rfl
 | o::R,e,p,U,O,he,I=>by
  have G:=O o am;have B:=(bb.mp U);have D:∀ x∈R,Srt x:=λx j=>O x (ao _ j);have mo:mts o (e.2.filter (geq o))=mts o e.2:=dQ5 G (.inr rfl) G;have L:∀ x∈R,mts x (e.2.filter (geq o))=mts x e.2:=λx j=>dQ5 (D x j) (.inl (B.1 x j)) G;have c1:((finK many R (e.1,e.2.filter (geq o))).filter λk=>decide (k.1=many)).length=apP (λa b=>!mts b a) p R (many - e.1):=bJn R (e.1,e.2.filter (geq o)) p B.2 D he λx j=>by rw[I x (ao _ j)];show _=!mts x (e.2.filter (geq o));rw[L x j]
  show(((stK many o e).flatMap (finK many R)).filter _).length=_;unfold stK;rw[bV,d6,aq,c1]
  by_cases q:e.1=many
  ·rw[if_neg (λz=>by omega),q,Nat.sub_self,aQz,aQz];rfl
  obtain⟨k,J⟩:∃ k,many - e.1=k + 1:=⟨many - e.1 - 1,by omega⟩
  rw[J];show _=(if p o=true then _ else 0) + apP _ p R (k + 1)
  have po:=I o am
  by_cases m:mts o e.2=false
  ·have Y:p o=true:=by rw[po,m];rfl
   rw[if_pos ⟨by omega,by rw[mo];exact m⟩,if_pos Y,bV,ii,bz]
   have Z:((finK many R (e.1 + 1,srS (e.2.filter (geq o)++o))).filter λk=>decide (k.1=many)).length=apP (λa b=>!mts b a) (λb=>p b && (λa b=>!mts b a) o b) R (many - (e.1 + 1)):=bJn R (e.1 + 1,srS (e.2.filter (geq o)++o)) (λb=>p b && !mts b o) B.2 D (by show e.1 + 1<=many;omega) λx j=>by
    show(p x && !mts x o)=!mts x (srS (e.2.filter (geq o)++o));rw[I x (ao _ j),<- L x j,<- Bool.not_or]
    congr 1
    refine eG.mpr ?_;rw[Bool.or_eq_true,mts_iff,mts_iff,mts_iff];constructor
    ·rintro(⟨y,h1,h2⟩ | ⟨y,h1,h2⟩)
     ·exact⟨y,mem_srS.mpr (cH _ h1),h2⟩
     ·exact⟨y,mem_srS.mpr (bi _ h1),h2⟩
    ·rintro⟨y,h1,h2⟩;rcases aN.mp (mem_srS.mp h1) with h | h
     ·exact .inl ⟨y,h,h2⟩
     ·exact .inr ⟨y,h,h2⟩
   rw[Z,show many - (e.1 + 1)=k by omega]
   exact Nat.add_comm _ _
  ·have m:mts o e.2=true:=by cases h:mts o e.2 with | true=>rfl | false=>exact absurd h m
   rw[if_neg (λz=>by rw[mo,m] at z;cases z.2),if_neg (by rw[po,m];exact a9),Nat.zero_add]
   rfl
end Toy
set_option maxHeartbeats 4000000
namespace L2
open PySem
open Toy
end L2
namespace L2
open PySem
theorem eZz (xs:List D) (i:Nat):cutD xs none (some (i:Int))=xs.take i:=by
 show(xs.drop 0).take (HT.sIx xs.length xs.length (some ((i:Nat):Int)) - 0)=_;rw[HT.sIx_nat,iX,Nat.sub_zero];rcases Nat.le_total i xs.length with h | h
 ·rw[Nat.min_eq_left h]
 ·rw[Nat.min_eq_right h,cv,bG h]
end L2
set_option maxHeartbeats 1000000
namespace Toy
open PySem L2
section
variable {κ:Type} [DecidableEq κ]
def valK (l:List (κ × Nat)) (k:κ):Nat:=((l.find? λp=>decide (p.1=k)).map (·.2)).getD 0
def addK (l:List (κ × Nat)) (k:κ) (n:Nat):List (κ × Nat):=if (l.any λp=>decide (p.1=k))=true then l.map (λp=>if p.1=k then (p.1,valK l k + n) else p) else l++[(k,valK l k + n)]
def sumF (f:κ->Nat) (l:List (κ × Nat)):Nat:=(l.map λp=>p.2 * f p.1).sum
theorem aXm (f:κ->Nat) (l m:List (κ × Nat)):sumF f (l++m)=sumF f l + sumF f m:=by unfold sumF;rw[aO,List.sum_append]
theorem any_key {l:List (κ × Nat)} {k:κ}:(l.any λp=>decide (p.1=k))=true↔k∈l.map (·.1):=by
 rw[jN,bD];exact⟨λ⟨p,h,e⟩=>⟨p,h,of_decide_eq_true e⟩,λ⟨p,h,e⟩=>⟨p,h,decide_eq_true e⟩⟩
theorem dQ6 {l:List (κ × Nat)} {k:κ} (h:k∉l.map (·.1)):valK l k=0:=by
 unfold valK;rw[List.find?_eq_none.mpr λp j e=>h (bD.mpr ⟨p,j,of_decide_eq_true e⟩)]
 rfl
theorem dQ7 (f:κ->Nat) (k:κ) (v:Nat):∀ l:List (κ × Nat),(l.map (·.1)).Nodup->k∈l.map (·.1)->sumF f (l.map λp=>if p.1=k then (p.1,v) else p) + valK l k * f k=sumF f l + v * f k
 | [],_,h=>by cases h
 | p::l,nd,h=>by
  obtain⟨D,B⟩:=bN.mp (show(p.1::l.map (·.1)).Nodup from nd)
  show(if p.1=k then (p.1,v) else p).2 * f (if p.1=k then (p.1,v) else p).1 + sumF f (l.map _) + valK (p::l) k * f k=p.2 * f p.1 + sumF f l + v * f k
  by_cases e:p.1=k
  ·have:(l.map λp=>if p.1=k then (p.1,v) else p)=l:=by
    conv=>rhs;rw[<- List.map_id l]
    refine eI λq G=>if_neg λz=>D ?_;rw[e,<- z];exact List.mem_map_of_mem G
   have j:valK (p::l) k=p.2:=by
    unfold valK;rw[dA,decide_eq_true e];rfl
   rw[if_pos e,this,j,<- e];show v * f p.1 + sumF f l + p.2 * f p.1=_;omega
  ·have j:valK (p::l) k=valK l k:=by
    unfold valK;rw[dA,decide_eq_false e]
   have hm:k∈l.map (·.1):=(aB.mp (show k∈p.1::l.map (·.1) from h)).resolve_left λz=>e z.symm
   have:=dQ7 f k v l B hm
   rw[if_neg e,j];omega
theorem bQ6 {l:List (κ × Nat)} {k:κ} {n:Nat}:(addK l k n).map (·.1)=if k∈l.map (·.1) then l.map (·.1) else l.map (·.1)++[k]:=by
 unfold addK
 by_cases h:k∈l.map (·.1)
 ·rw[if_pos (any_key.mpr h),if_pos h,bH];refine eI λp _=>?_;show(if p.1=k then (p.1,_) else p).1=p.1
  split <;> rfl
 ·rw[if_neg (λz=>h (any_key.mp z)),if_neg h,aO];rfl
theorem bZq {l:List (κ × Nat)} (nd:(l.map (·.1)).Nodup) (k:κ) (n:Nat):((addK l k n).map (·.1)).Nodup:=by
 rw[bQ6]
 split
 ·exact nd
 ·next h=>exact dq.mpr ⟨nd,cq ..,λx B y j e=>h (by rw[aI.mp j] at e;exact e ▸ B)⟩
theorem aJq (l:List (κ × Nat)) (k:κ) (n:Nat):(addK l k n).length<=l.length + 1:=by
 have:=congrArg eM (bQ6 (l:=l) (k:=k) (n:=n))
 rw[af] at this;rw[this]
 split
 ·rw[af];omega
 ·rw[aq,af];exact Nat.le_refl _
theorem bZr (f:κ->Nat) {l:List (κ × Nat)} (nd:(l.map (·.1)).Nodup) (k:κ) (n:Nat):sumF f (addK l k n)=sumF f l + n * f k:=by
 unfold addK
 by_cases h:k∈l.map (·.1)
 ·rw[if_pos (any_key.mpr h)]
  have:=dQ7 f k (valK l k + n) l nd h
  rw[Nat.add_mul] at this;omega
 ·rw[if_neg (λz=>h (any_key.mp z)),aXm,dQ6 h];show _ + ((0 + n) * f k + 0)=_;rw[Nat.zero_add,Nat.add_zero]
end
structure CtK (many:Nat) (ts:List (List Str)) (l:List ((Nat × List Str) × Nat)):Prop where
 nd:(l.map (·.1)).Nodup
 sum:∀ f,sumF f l=((ts.foldl (λL o=>L.flatMap (stK many o)) [(0,[])]).map f).sum
theorem dQ8 (many:Nat):∀ (R:List (List Str)) (L:List (Nat × List Str)),R.foldl (λL o=>L.flatMap (stK many o)) L=L.flatMap (finK many R)
 | [],L=>by
  show L=L.flatMap λe=>[e];rw[List.flatMap_singleton']
 | o::R,L=>by
  show R.foldl _ (L.flatMap (stK many o))=_;rw[dQ8 many R,List.flatMap_assoc];rfl
theorem cZ4 {α β:Type} (f:β->Nat) (g:α->List β):∀ L:List α,((L.flatMap g).map f).sum=(L.map λa=>((g a).map f).sum).sum
 | []=>rfl
 | a::L=>by rw[bV,aO,List.sum_append,cZ4 f g L];rfl
structure TnK (many:Nat) (o:List Str) (done:List ((Nat × List Str) × Nat)) (ways:List ((Nat × List Str) × Nat)):Prop where
 nd:(ways.map (·.1)).Nodup
 sum:∀ f,sumF f ways=sumF (λe=>((stK many o e).map f).sum) done
 len:ways.length<=2 * done.length
theorem TnK.nil {many:Nat} {o:List Str}:TnK many o [] []:=⟨eB,λ_=>rfl,Nat.le_refl _⟩
theorem TnK.one {many:Nat} {o:List Str} {done ways:List ((Nat × List Str) × Nat)} (h:TnK many o done ways) (e:Nat × List Str) (n:Nat) (c:¬ (e.1 < many/\mts o (e.2.filter (geq o))=false)):TnK many o (done++[(e,n)]) (addK ways (e.1,e.2.filter (geq o)) n):=by
 refine⟨bZq h.nd _ _,λf=>?_,by have:=aJq ways (e.1,e.2.filter (geq o)) n;have:=h.len;rw[aq];show _<=2 * (done.length + 1);omega⟩
 rw[bZr f h.nd,h.sum,aXm]
 congr 1
 show _=n * ((stK many o e).map f).sum + 0;unfold stK;rw[if_neg c];show _=n * (f _ + 0) + 0;rw[Nat.add_zero,Nat.add_zero]
theorem TnK.two {many:Nat} {o:List Str} {done ways:List ((Nat × List Str) × Nat)} (h:TnK many o done ways) (e:Nat × List Str) (n:Nat) (c:e.1 < many/\mts o (e.2.filter (geq o))=false):TnK many o (done++[(e,n)]) (addK (addK ways (e.1,e.2.filter (geq o)) n) (e.1 + 1,srS (e.2.filter (geq o)++o)) n):=by
 refine⟨bZq (bZq h.nd _ _) _ _,λf=>?_,?_⟩
 ·rw[bZr f (bZq h.nd _ _),bZr f h.nd,h.sum,aXm,Nat.add_assoc]
  congr 1
  show _=n * ((stK many o e).map f).sum + 0;unfold stK;rw[if_pos c];show _=n * (f _ + (f _ + 0)) + 0;rw[Nat.mul_add,Nat.mul_add,Nat.mul_zero];omega
 ·have:=aJq ways (e.1,e.2.filter (geq o)) n
  have:=aJq (addK ways (e.1,e.2.filter (geq o)) n) (e.1 + 1,srS (e.2.filter (geq o)++o)) n
  have:=h.len
  rw[aq];show _<=2 * (done.length + 1);omega
theorem CtK.start (many:Nat):CtK many [] [((0,[]),1)]:=⟨cq ..,λf=>by show 1 * f _ + 0=f _ + 0;rw[Nat.one_mul]⟩
theorem CtK.turn {many:Nat} {ts:List (List Str)} {o:List Str} {l ways:List ((Nat × List Str) × Nat)} (h:CtK many ts l) (t:TnK many o l ways):CtK many (ts++[o]) ways:=by
 refine⟨t.nd,λf=>?_⟩;rw[t.sum,h.sum,List.foldl_append];show _=((List.flatMap _ _).map f).sum;rw[cZ4]
theorem CtK.told {many:Nat} {ts:List (List Str)} {l:List ((Nat × List Str) × Nat)} (h:CtK many ts l) (sR:SrtT ts) (hs:∀ o∈ts,Srt o):((l.filter λp=>decide (p.1.1=many)).map (·.2)).sum=apP (λa b=>!mts b a) (λ_=>true) ts many:=by
 have e:((l.filter λp=>decide (p.1.1=many)).map (·.2)).sum=sumF (λk=>if k.1=many then 1 else 0) l:=by
  clear h;unfold sumF
  induction l with
  | nil=>rfl
  | cons p l j =>
   rw[bt]
   by_cases q:p.1.1=many
   ·rw[if_pos (decide_eq_true q),aL,cB,j,aL,cB];show _=p.2 * (if p.1.1=many then 1 else 0) + _
    rw[if_pos q,Nat.mul_one]
   ·rw[if_neg (by rw[decide_eq_false q];exact a9),j,aL,cB]
    show _=p.2 * (if p.1.1=many then 1 else 0) + _
    rw[if_neg q,Nat.mul_zero,Nat.zero_add]
 have B:∀ L:List (Nat × List Str),(L.map λk=>if k.1=many then 1 else 0).sum=(L.filter λk=>decide (k.1=many)).length:=λL=>by
  induction L with
  | nil=>rfl
  | cons k L j =>
   rw[aL,cB,j,bt]
   by_cases q:k.1=many
   ·rw[if_pos q,if_pos (decide_eq_true q),aV];omega
   ·rw[if_neg q,if_neg (by rw[decide_eq_false q];exact a9)];omega
 rw[e,h.sum,B,dQ8];rw[bV,ii,bz];rw[bJn ts (0,[]) (λ_=>true) sR hs (Nat.zero_le _) λo _=>rfl]
 rfl
theorem dQ9 {α:Type} {R:α->α->Bool}:∀ {s:List α},pwB R s=true↔s.Pairwise λa b=>R a b=true
 | []=>⟨λ_=>.nil,λ_=>rfl⟩
 | a::s=>by
  show(s.all (R a) && pwB R s)=true↔_;rw[aQ,bF,bb,dQ9]
theorem fX0 (a b:List Str):mts a b=mts b a:=by
 refine eG.mpr ?_;rw[mts_iff,mts_iff];exact⟨λ⟨x,h1,h2⟩=>⟨x,h2,h1⟩,λ⟨x,h1,h2⟩=>⟨x,h2,h1⟩⟩
def cwc (ts:List (List Str)) (m:Nat) (c:List Str):Nat:=((ch ts m).filter λs=>decide (coG s=some c)).length
def lkC (ts:List (List Str)) (c:List Str):List (List Str):=srT ((ts.filter λt=>has t c).map λt=>wo t c)
theorem dQa {a b c:List Str} (ha:Srt a) (hc:Srt c) (pa:has a c=true) (pb:has b c=true):meG a b=c↔mts (wo b c) (wo a c)=false:=by
 have pa:=has_iff.mp pa;have pb:=has_iff.mp pb;constructor
 ·intro h;rw[<- Bool.not_eq_true,mts_iff];rintro⟨x,h1,h2⟩;rw[mem_wo] at h1 h2;exact h1.2 (by rw[<- h];exact mem_me.mpr ⟨h1.1,h2.1⟩)
 ·intro h;refine Srt.ext (fV _ ha) hc λn=>?_;rw[mem_me];constructor
  ·rintro⟨h1,h2⟩;refine bj λz=>?_
   have:mts (wo b c) (wo a c)=true:=mts_iff.mpr ⟨n,mem_wo.mpr ⟨h1,z⟩,mem_wo.mpr ⟨h2,z⟩⟩
   rw[h] at this;cases this
  ·exact λj=>⟨pa n j,pb n j⟩
theorem fX1 {ts:List (List Str)} (nd:ts.Nodup) (hs:∀ t∈ts,Srt t) {m:Nat} (m2:2<=m) {c:List Str} (hc:Srt c):cwc ts m c=apP (λa b=>!mts b a) (λ_=>true) (lkC ts c) m:=by
 unfold lkC;rw[dZw (λa b=>by rw[fX0]) (aXx _),bJm,aX9,<- dQ4]
 unfold cwc
 congr 1
 refine eZ λs h=>?_;obtain⟨sl,sub⟩:=ch_mem h;have sn:s.Nodup:=nd.sublist sub;have ss:∀ o∈s,Srt o:=λo O=>hs o (sub.subset O);refine eG.mpr ?_;rw[decide_eq_true_iff,fJx (by omega) sn ss,aQ,bF,dQ9]
 constructor
 ·intro G;have all:∀ x∈s,(true && has x c)=true:=by
   obtain⟨a,b,r,rfl⟩:∃ a b r,s=a::b::r:=by
    cases s with
    | nil=>rw[cu] at sl;omega
    | cons a s =>
     cases s with
     | nil=>rw[dX] at sl;omega
     | cons b s=>exact⟨a,b,s,rfl⟩
   have h1:=(bb.mp G).1;intro x J;rw[fG,has_iff];intro n I;rcases aB.mp J with rfl | J
   ·have:=h1 b am
    rw[<- this] at I;exact(mem_me.mp I).1
   ·have:=h1 x J
    rw[<- this] at I;exact(mem_me.mp I).2
  refine⟨all,du (λ{a b} D L e=>?_) G⟩;have B:=all a D;have j:=all b L;rw[fG] at B j;rw[(dQa (ss a D) hc B j).mp e];rfl
 ·rintro⟨all,G⟩;refine du (λ{a b} D L e=>?_) G;have B:=all a D;have j:=all b L;rw[fG] at B j;refine(dQa (ss a D) hc B j).mpr ?_;cases z:mts (wo b c) (wo a c) with
  | false=>rfl
  | true=>rw[z] at e;cases e
theorem bXo {α β:Type} [DecidableEq β] (g:α->Option β) (cs:List β) (nd:cs.Nodup):∀ (L:List α),(∀ x∈L,∀ c,g x=some c->c∈cs)->(cs.map λc=>(L.filter λs=>decide (g s=some c)).length).sum=(L.filter λs=>(g s).isSome).length
 | [],_=>by
  show(cs.map λ_=>0).sum=0;clear nd
  induction cs with
  | nil=>rfl
  | cons c cs j=>rw[aL,cB,j λ_ h=>nomatch h]
 | x::L,h=>by
  have j:=bXo g cs nd L λy G=>h y (ao _ G);have key:∀ cs:List β,(cs.map λc=>((x::L).filter λs=>decide (g s=some c)).length).sum=(cs.map λc=>if g x=some c then 1 else 0).sum + (cs.map λc=>(L.filter λs=>decide (g s=some c)).length).sum:=λcs=>by
   induction cs with
   | nil=>rfl
   | cons c cs j =>
    rw[aL,cB,aL,cB,aL,cB,j,bt]
    by_cases e:g x=some c
    ·rw[if_pos e,if_pos (decide_eq_true e),aV];omega
    ·rw[if_neg e,if_neg (by rw[decide_eq_false e];exact a9)];omega
  rw[key,j,bt];cases hx:g x with
  | none =>
   have z:(cs.map λc=>if (none:Option β)=some c then 1 else 0).sum=0:=by
    clear nd h j key
    induction cs with
    | nil=>rfl
    | cons c cs j=>rw[aL,cB,j];rfl
   rw[z,if_neg (by exact a9),Nat.zero_add]
  | some c =>
   have hm:=h x am c hx;have z:∀ cs:List β,cs.Nodup->c∈cs->(cs.map λd=>if some c=some d then 1 else 0).sum=1:=λcs=>by
    induction cs with
    | nil=>intro _ z;cases z
    | cons d cs j =>
     intro nd hm;obtain⟨D,B⟩:=bN.mp nd;rw[aL,cB]
     by_cases e:c=d
     ·subst e;rw[if_pos rfl]
      have:(cs.map λd=>if some c=some d then 1 else 0).sum=0:=by
       clear j nd hm B
       induction cs with
       | nil=>rfl
       | cons e cs j =>
        rw[aL,cB,if_neg (λq=>D (by injection q with q;rw[q];exact am)),j λq=>D (ao _ q)]
      rw[this]
     ·rw[if_neg (λq=>e (by injection q)),j B ((aB.mp hm).resolve_left e)]
   rw[z cs nd hm,if_pos (by exact rfl),aV,Nat.add_comm]
theorem cwf {ts:List (List Str)} {m:Nat} {cs:List (List Str)} (nd:cs.Nodup) (h:∀ s∈ch ts m,∀ c,coG s=some c->c∈cs):(cs.map (cwc ts m)).sum=(flO ts m).length:=bXo coG cs nd (ch ts m) h
def cr71 (ts:List (List Str)) (r:List Nat):List Str:=meG (ts.getD (r.getD 0 0) []) (ts.getD (r.getD 1 0) [])
def tk71 (ts:List (List Str)) (c:List Str) (r:List Nat):List Str:=r.flatMap λi=>wo (ts.getD i []) c
def okC (ts:List (List Str)) (c:List Str) (r:List Nat):Bool:=(r.all λi=>has (ts.getD i []) c) && decide (tk71 ts c r).Nodup
def okN (ts:List (List Str)) (r:List Nat):Bool:=okC ts (cr71 ts r) r
def itC (ts:List (List Str)) (c:List Str) (L:List (List Nat)):Nat->List (List Nat)
 | 0=>L
 | t + 1=>(itC ts c L t).flatMap λr=>(exN ts.length r).filter (okC ts c)
def itN (ts:List (List Str)) (L:List (List Nat)):Nat->List (List Nat)
 | 0=>L
 | t + 1=>(itN ts L t).flatMap λr=>(exN ts.length r).filter (okN ts)
theorem dJ3 {ts:List (List Str)} {r l:List Nat} (h:2<=r.length):cr71 ts (r++l)=cr71 ts r:=by
 match r,h with
 | a::b::r,_=>rfl
theorem it_C {ts:List (List Str)} {c:List Str} {L:List (List Nat)} (hL:∀ r∈L,2<=r.length/\cr71 ts r=c):∀ t,itC ts c L t=itN ts L t/\∀ r∈itC ts c L t,2<=r.length/\cr71 ts r=c
 | 0=>⟨rfl,hL⟩
 | t + 1=>by
  obtain⟨e,h⟩:=it_C hL t;have key:∀ r∈itC ts c L t,∀ x∈exN ts.length r,2<=x.length/\cr71 ts x=c:=λr B x j=>by
   obtain⟨o,_,rfl⟩:=bD.mp j;obtain⟨h1,h2⟩:=h r B;exact⟨by rw[aq];omega,by rw[dJ3 h1];exact h2⟩
  refine⟨?_,λx j=>?_⟩
  ·show(itC ts c L t).flatMap _=(itN ts L t).flatMap _;rw[<- e];refine aZf λr B=>eZ λx j=>?_;unfold okN;rw[(key r B x j).2]
  ·obtain⟨r,B,j⟩:=fq.mp j;exact key r B x (bq.mp j).1
theorem bXp (ts:List (List Str)) (L M:List (List Nat)):∀ t,itN ts (L++M) t=itN ts L t++itN ts M t
 | 0=>rfl
 | t + 1=>by show(itN ts (L++M) t).flatMap _=_;rw[bXp ts L M t,dP];rfl
theorem dJ4 (ts:List (List Str)):∀ t,itN ts [] t=[]
 | 0=>rfl
 | t + 1=>by show(itN ts [] t).flatMap _=_;rw[dJ4 ts t];rfl
theorem dQb (ts:List (List Str)) (t:Nat):∀ L:List (List Nat),(L.flatMap λp=>itN ts [p] t)=itN ts L t
 | []=>(dJ4 ts t).symm
 | p::L=>by rw[bV,dQb ts t L];exact(bXp ts [p] L t).symm
def fl71 (ts:List (List Str)) (m:Nat):List (List Nat):=(ch (aH ts.length) 2).flatMap λp=>itC ts (cr71 ts p) [p] (m - 2)
theorem eX0 {n:Nat} {s:List Nat} (h:s≠[]):ext (λa b=>decide (a < b)) 0 (aH n) s=exN n s:=by
 unfold ext exN bg;rw[if_neg h,aJh]
theorem fX2 (a b:List Str):has a (meG a b)=true/\has b (meG a b)=true:=⟨has_iff.mpr λx j=>(mem_me.mp j).1,has_iff.mpr λx j=>(mem_me.mp j).2⟩
theorem dQc {ts:List (List Str)} (nd:∀ t∈ts,t.Nodup) (i j:Nat):okN ts [i,j]=true:=by
 have B:∀ i,(ts.getD i []).Nodup:=λi=>by
  rw[aj];cases h:ts[i]? with
  | none=>exact eB
  | some t=>exact nd t (ak h)
 show(_ && _)=true;have G:=fX2 (ts.getD i []) (ts.getD j []);rw[aQ];refine⟨?_,decide_eq_true ?_⟩
 ·show(has (ts.getD i []) (meG (ts.getD i []) (ts.getD j [])) && (has (ts.getD j []) (meG (ts.getD i []) (ts.getD j [])) && true))=true;rw[G.1,G.2];rfl
 ·show(wo (ts.getD i []) _++(wo (ts.getD j []) _++[])).Nodup;rw[bz];refine dq.mpr ⟨(B i).sublist iG,(B j).sublist iG,λx D y I e=>?_⟩;subst e;exact(mem_wo.mp D).2 (mem_me.mpr ⟨(mem_wo.mp D).1,(mem_wo.mp I).1⟩)
theorem eX1 {ts:List (List Str)} {s:List Nat} {o:Nat} (h2:2<=s.length) (h:okN ts (s++[o])=true):okN ts s=true:=by
 unfold okN okC at h ⊢;rw[dJ3 h2,aQ,decide_eq_true_eq] at h;rw[aQ,decide_eq_true_eq];refine⟨?_,h.2.sublist ?_⟩
 ·rw[List.all_append,aQ] at h;exact h.1.1
 ·unfold tk71;rw[dP];exact jD _ _
theorem bZs {ts:List (List Str)} (nd:∀ t∈ts,t.Nodup) {m:Nat} (m2:2<=m):fl71 ts m=(ch (aH ts.length) m).filter (okN ts):=by
 obtain⟨j,rfl⟩:∃ j,m=j + 2:=⟨m - 2,by omega⟩
 unfold fl71;have e:(ch (aH ts.length) 2).flatMap (λp=>itC ts (cr71 ts p) [p] (j + 2 - 2))=(ch (aH ts.length) 2).flatMap λp=>itN ts [p] j:=aZf λp J=>(it_C (λr B=>by
  rw[aI.mp B];exact⟨by rw[(ch_mem J).1];exact Nat.le_refl _,rfl⟩) j).1
 rw[e,dQb];have f:=flw_eq (lt:=λa b=>decide (a < b)) (z:=0) (ok:=okN ts) (sets:=aH ts.length) (cZ0 _) (λa=>by simp) (λs I=>by
  obtain⟨l,_⟩:=ch_mem I
  match s,l with
  | [a,b],_=>exact dQc nd a b) (λs o h2 _ h=>eX1 h2 h) j
 rw[<- f];have gen:∀ t,itN ts (ch (aH ts.length) 2) t=flw (λa b=>decide (a < b)) 0 (okN ts) (aH ts.length) t/\∀ r∈itN ts (ch (aH ts.length) 2) t,r≠[]:=λt=>by
  induction t with
  | zero=>exact⟨rfl,λr B z=>by subst z;cases (ch_mem B).1⟩
  | succ t D =>
   refine⟨?_,λr B z=>?_⟩
   ·show(itN ts _ t).flatMap _=((flw _ _ _ _ t).flatMap _).filter _;rw[aZ2,<- D.1];exact aZf λr B=>by rw[eX0 (D.2 r B)]
   ·obtain⟨x,_,G⟩:=fq.mp B;obtain⟨o,_,e⟩:=bD.mp (bq.mp G).1;subst z;simp at e
 exact(gen j).1
theorem bXq (ts:List (List Str)) (m:Nat):(ch (aH ts.length) m).map (λr=>r.map λi=>ts.getD i [])=ch ts m:=by
 rw[<- dQ1,dQ2]
theorem cZ5 {ts:List (List Str)} (nd:ts.Nodup) (ne:∀ t∈ts,t.Nodup) {m:Nat} (m2:2<=m) {r:List Nat} (hr:r∈ch (aH ts.length) m):okN ts r=(coG (r.map λi=>ts.getD i [])).isSome/\(okN ts r=true->coG (r.map λi=>ts.getD i [])=some (cr71 ts r)):=by
 have hs:(r.map λi=>ts.getD i [])∈ch ts m:=by rw[<- bXq];exact bD.mpr ⟨r,hr,rfl⟩
 obtain⟨sl,ss⟩:=ch_mem hs;have snd:=ss.nodup nd;have U:∀ o∈(r.map λi=>ts.getD i []),o.Nodup:=λo D=>ne o (ss.subset D);obtain⟨rl,_⟩:=ch_mem hr;obtain⟨a,b,r,rfl⟩:∃ a b r',r=a::b::r':=by
  match r,(show 2<=r.length by omega) with
  | a::b::r,_=>exact⟨a,b,r,rfl⟩
 generalize Z:((a::b::r).map λi=>ts.getD i [])=s at *
 have j:s=ts.getD a []::ts.getD b []::r.map λi=>ts.getD i []:=Z.symm;have hc:cr71 ts (a::b::r)=meG (ts.getD a []) (ts.getD b []):=rfl;have B:s≠[]:=by rw[j];exact List.cons_ne_nil _ _
 have Y:naG s=(ts.getD a []).filter λn=>s.all λo=>decide (n∈o):=by rw[j];rfl
 have L:((a::b::r).all λi=>has (ts.getD i []) (cr71 ts (a::b::r)))=s.all λo=>has o (cr71 ts (a::b::r)):=by rw[<- Z,iM];rfl
 have O:(s.all λo=>has o (cr71 ts (a::b::r)))=true->naG s=cr71 ts (a::b::r):=λh=>by
  rw[Y,hc];refine eZ λn hn=>?_;rw[eG,bF,decide_eq_true_eq];refine⟨λz=>of_decide_eq_true (z _ (by rw[j];exact ao _ am)),λz o D=>decide_eq_true ?_⟩
  exact has_iff.mp (bF.mp h o D) n (mem_me.mpr ⟨hn,z⟩)
 have J:∀ c,naG s=c->lfG s=tk71 ts c (a::b::r):=λc e=>by
  unfold lfG tk71;rw[e,<- Z,ij]
  rfl
 have co:coG s=if (lfG s).Nodup then some (naG s) else none:=by
  unfold coG;rw[if_neg];rintro(z | z)
  ·omega
  ·exact z snd
 have iff:okN ts (a::b::r)=true↔coG s=some (cr71 ts (a::b::r)):=by
  unfold okN okC;rw[aQ,decide_eq_true_eq,L,co];constructor
  ·rintro⟨h1,h2⟩;have e:=O h1;rw[if_pos (by rw[J _ e];exact h2),e]
  ·intro h
   by_cases z:(lfG s).Nodup
   ·rw[if_pos z] at h;have e:=aM h;refine⟨bF.mpr λo D=>has_iff.mpr λx G=>?_,by rw[<- J _ e];exact z⟩
    rw[<- e] at G;exact(mem_na B).mp G o D
   ·rw[if_neg z] at h;cases h
 refine⟨?_,iff.mp⟩;cases h:okN ts (a::b::r) with
 | true=>rw[iff.mp h];rfl
 | false =>
  cases hk:coG s with
  | none=>rfl
  | some c =>
   have z:=hk;rw[co] at z
   by_cases R:(lfG s).Nodup
   ·rw[if_pos R] at z;have e:naG s=c:=aM z;have I:=(cQz B U).mp R;have ec:(s.all λo=>has o (cr71 ts (a::b::r)))=true:=bF.mpr λo D=>has_iff.mpr λx G=>by
     rw[hc,mem_me] at G;rw[j] at I D;exact(bb.mp I).1 _ am x G.1 G.2 o D
    have:=iff.mpr (by rw[hk,<- e,O ec])
    rw[h] at this;cases this
   ·rw[if_neg R] at z;cases z
theorem fX3 {ts:List (List Str)} (nd:ts.Nodup) (ne:∀ t∈ts,t.Nodup) {m:Nat} (m2:2<=m) (c:List Str):((fl71 ts m).filter λr=>decide (cr71 ts r=c)).length=cwc ts m c:=by
 unfold cwc;rw[bZs ne m2,<- bXq,km,af,List.filter_filter]
 congr 1
 refine eZ λr j=>?_;obtain⟨h1,h2⟩:=cZ5 nd ne m2 j;show(decide (cr71 ts r=c) && okN ts r)=decide (coG (r.map λi=>ts.getD i [])=some c);cases h:okN ts r with
 | true=>rw[kL,h2 h];exact decide_eq_decide.mpr ⟨λz=>by rw[z],λz=>aM z⟩
 | false =>
  rw[h] at h1;rw[fQ];cases hk:coG (r.map λi=>ts.getD i []) with
  | none=>rfl
  | some c=>rw[hk] at h1;cases h1
theorem fX4 {ts:List (List Str)} (nd:ts.Nodup) (ne:∀ t∈ts,t.Nodup) {m:Nat} (m2:2<=m):(fl71 ts m).length=(flO ts m).length:=by
 unfold flO;rw[bZs ne m2,<- bXq,km,af]
 congr 1
 exact eZ λr j=>(cZ5 nd ne m2 j).1
theorem eX2 {ts:List (List Str)} (nd:ts.Nodup) (ne:∀ t∈ts,t.Nodup) {m:Nat} (m2:2<=m) {s:List (List Str)} {c:List Str}:(s∈ch ts m/\coG s=some c)↔∃ r∈fl71 ts m,cr71 ts r=c/\s=r.map λi=>ts.getD i []:=by
 rw[bZs ne m2];constructor
 ·rintro⟨B,D⟩;rw[<- bXq] at B;obtain⟨r,j,rfl⟩:=bD.mp B;obtain⟨h1,h2⟩:=cZ5 nd ne m2 j;have ok:okN ts r=true:=by rw[h1,D];rfl
  exact⟨r,bq.mpr ⟨j,ok⟩,aM ((h2 ok).symm.trans D),rfl⟩
 ·rintro⟨r,j,rfl,rfl⟩;obtain⟨h1,h2⟩:=bq.mp j;exact⟨by rw[<- bXq];exact bD.mpr ⟨r,h1,rfl⟩,(cZ5 nd ne m2 h1).2 h2⟩
theorem dZx (ts:List (List Str)) (m:Nat):fl71 ts m=(aH ts.length).flatMap λi=>(bZ (i + 1) (ts.length - (i + 1))).flatMap λj=>itC ts (meG (ts.getD i []) (ts.getD j [])) [[i,j]] (m - 2):=by
 unfold fl71;have B:ch (aH ts.length) 1=(aH ts.length).map λi=>[i]:=cQy _;rw[fZv,B,ij,List.flatMap_assoc];refine aZf λi _=>?_;show((bZ (bg [i]) (ts.length - bg [i])).map λo=>[i]++[o]).flatMap _=_;rw[ij]
 rfl
theorem aZv {α β:Type} {f:α->List β} {b:Nat}:∀ {L:List α},(∀ r∈L,(f r).length<=b)->(L.flatMap f).length<=L.length * b
 | [],_=>by simp
 | r::L,h=>by
  rw[bV,aq,aV,Nat.succ_mul]
  have:=aZv (L:=L) λr j=>h r (ao _ j)
  have:=h r am
  omega
theorem dQd (n:Nat) (r:List Nat):(exN n r).length<=n:=by unfold exN;rw[af,gB];omega
theorem dQe {ts:List (List Str)} {c:List Str} {L:List (List Nat)} (h:ts.length<=14):∀ t,(itC ts c L t).length<=L.length * 14 ^ t
 | 0=>by show L.length<=L.length * 1;omega
 | t + 1=>by
  have j:=dQe (c:=c) (L:=L) h t;have h2:=aZv (f:=λr=>(exN ts.length r).filter (okC ts c)) (b:=14) (L:=itC ts c L t) λr _=>Nat.le_trans (br _ _) (Nat.le_trans (dQd _ r) h);show((itC ts c L t).flatMap _).length<=_;have B:=Nat.mul_le_mul_right 14 j;rw[Nat.pow_succ,<- Nat.mul_assoc];exact Nat.le_trans h2 B
theorem fX5 {ts:List (List Str)} {c:List Str} {L:List (List Nat)} (hL:∀ r∈L,okC ts c r=true/\r≠[]/\∀ i∈r,i < ts.length):∀ t,∀ r∈itC ts c L t,okC ts c r=true/\r≠[]/\∀ i∈r,i < ts.length
 | 0=>hL
 | t + 1=>λr B=>by
  obtain⟨x,j,h⟩:=fq.mp B;obtain⟨h1,h2⟩:=bq.mp h;obtain⟨o,D,rfl⟩:=bD.mp h1;refine⟨h2,by simp,λi hi=>?_⟩
  rcases aN.mp hi with z | z
  ·exact(fX5 hL t x j).2.2 i z
  ·rw[aI.mp z]
   have:=List.mem_range'_1.mp D
   omega
theorem dJ5 {ts:List (List Str)} {c:List Str} {L:List (List Nat)} {k:Nat} (hL:∀ r∈L,r.length=k):∀ t,∀ r∈itC ts c L t,r.length=k + t
 | 0=>hL
 | t + 1=>λr B=>by
  obtain⟨x,j,h⟩:=fq.mp B;obtain⟨o,D,rfl⟩:=bD.mp (bq.mp h).1;rw[aq,dJ5 hL t x j];rfl
theorem cZ6 (ts:List (List Str)) (c:List Str) (r:List Nat) (o:Nat):tk71 ts c (r++[o])=tk71 ts c r++wo (ts.getD o []) c:=by
 unfold tk71;rw[dP];show _++(wo _ _++[])=_;rw[bz]
theorem eX3 {ts:List (List Str)} {c:List Str} {r:List Nat} {o:Nat} (h:okC ts c r=true) (nd:(ts.getD o []).Nodup):okC ts c (r++[o])=(has (ts.getD o []) c && !mts (tk71 ts c r) (wo (ts.getD o []) c)):=by
 unfold okC at h ⊢;rw[aQ,decide_eq_true_eq] at h;rw[List.all_append,h.1,cZ6,fG];show(has (ts.getD o []) c && true && _)=_;rw[kL]
 congr 1
 cases e:mts (tk71 ts c r) (wo (ts.getD o []) c) with
 | true =>
  obtain⟨x,h1,h2⟩:=mts_iff.mp e;exact decide_eq_false λz=>(dq.mp z).2.2 x h2 x h1 rfl
 | false =>
  refine decide_eq_true (dq.mpr ⟨h.2,nd.sublist iG,λx B y j z=>?_⟩);subst z;rw[mts_iff.mpr ⟨x,j,B⟩] at e;cases e
theorem eX4 {t c:List Str} (ht:t.Nodup) (hc:c.Nodup):(wo t c).length + c.length=t.length↔has t c=true:=by
 have e:(wo t c).length + (meG t c).length=t.length:=by
  unfold wo meG;rw[<- iE,<- iE,List.length_eq_countP_add_countP (p:=λx=>decide (x∈c)) (l:=t)]
  have:(t.countP λd=>!decide (d∈c))=t.countP λa=>decide ¬(decide (a∈c)=true):=List.countP_congr λx _=>by simp
  omega
 have sub:meG t c ⊆ c:=λx j=>(mem_me.mp j).2;have nm:(meG t c).Nodup:=ht.filter _;constructor
 ·intro h;refine has_iff.mpr λx j=>?_;have D:(meG t c).length=c.length:=by omega
  by_cases z:x∈meG t c
  ·exact(mem_me.mp z).1
  ·have:=(bN.mpr ⟨z,nm⟩).length_le_of_subset (l₂:=c) λy B=>by
    rcases aB.mp B with rfl | B
    ·exact j
    ·exact sub B
   rw[aV] at this;omega
 ·intro h;have h1:=nm.length_le_of_subset sub;have h2:=hc.length_le_of_subset (l₂:=meG t c) λx j=>mem_me.mpr ⟨has_iff.mp h x j,j⟩;omega
def cs71 (ts:List (List Str)):List (List Str):=(ch (aH ts.length) 2).map (cr71 ts)
theorem dZy {ts:List (List Str)} {m:Nat} (ne:∀ t∈ts,t.Nodup) (m2:2<=m) {r:List Nat} (h:r∈fl71 ts m):cr71 ts r∈cs71 ts:=by
 obtain⟨p,B,j⟩:=fq.mp h;obtain⟨_,h⟩:=it_C (ts:=ts) (c:=cr71 ts p) (L:=[p]) (λr j=>by rw[aI.mp j];exact⟨by rw[(ch_mem B).1];exact Nat.le_refl _,rfl⟩) (m - 2)
 exact bD.mpr ⟨p,B,(h r j).2.symm⟩
theorem eX5:∀ n:Nat,n<=14->(ch (aH n) 2).length<=91:=by decide +kernel
theorem cZ7 {ts:List (List Str)} (h:ts.length<=14):(cs71 ts).length<=91:=by
 unfold cs71;rw[af];exact eX5 _ h
end Toy
namespace L2
open PySem
open Toy (ch ch_zero ch_cons ch_mem)
end L2
set_option maxHeartbeats 4000000
namespace L2
open PySem Toy
end L2
set_option maxHeartbeats 1000000
namespace L2
open PySem Toy
abbrev ltn:Nat->Nat->Bool:=λi j=>decide (i < j)
def natE:Enc Nat where
 e:=λi=>D.int (i:Nat)
 inj:=λh=>by injection h with h;omega
 pl:=λ_=>rfl
 dep:=0
 ok:=λn x y _=>by cases n <;> rfl
 lt:=ltn
 okl:=λn x y _=>by cases n <;> rfl
 lte:=λn x y _=>by
  have:ltN n (D.int (x:Nat)) (D.int (y:Nat))=decide ((x:Int) < (y:Int)):=by cases n <;> rfl
  rw[this];exact decide_eq_decide.mpr (by omega)
end L2
namespace Toy
open PySem L2
abbrev s_law_flowers:Stmt:=top 18
theorem sc_law_flowers:FnScope ["sets", "many", "found", "first", "one", "second", "core", "rows", "turn", "longer", "row", "taken", "more", "left", "good"] ["sets", "many"] (aQ8 s_law_flowers):=fsc
def rowD (ts:List (List Str)) (r:List Nat):D:=.tup [.lst (r.map natE.e),tupS (cr71 ts r)]
def aXb:SpD:=λds S Q=>∃ (ts:List (List Str)) (m:Nat),ds=[.tup (ts.map tupS),.int m]/\ts.length<=14/\2<=m/\m<=6/\ts.Nodup/\(∀ t∈ts,Srt t/\t.length<=6)/\Q (.lst ((fl71 ts m).map (rowD ts))) S
section
variable {P:aC} {w:aR} {K:az} {mg:Str->Option ae} {base:bf} {pt cc:Addr}
theorem bQf (T:Tx K mg "_law_flowers" s_law_flowers) (B:Bs mg) (d_law_meet:Df P w K mg base 1 "_law_meet" ["one", "other"] (spU K aXl)):Df P w K mg base 2 "_law_flowers" ["sets", "many"] (spU K aXb):=by
 refine aXk T sc_law_flowers (λF=>F.binds λ_ _ _ _ _ _=>us2 λ_ _=>rfl) ?_ λf cdv A outer s H E hr=>⟨_,(aQ2 (aQ9 (i:=2) sc_law_flowers.nd rfl (aW rfl) (aZj (b:=true) aQ1))
  (aQ2 (aZb cf rfl (fZ2 rfl B.enumerate (aQ0 (dv 0) aQ1)) (cQm rfl (aZd (aQl (i:=3) sc_law_flowers.nd rfl (aW rfl)) (aZd (aQl (i:=4) sc_law_flowers.nd rfl (aW rfl)) bZe))) (aQ4 (aZb cf rfl (bXf rfl B.range (aQ0 (aQm (k:=false) (dv 3) aQ5) (aQ0 (aZx rfl B.len (aQ0 (dv 0) aQ1)) aQ1))) (aQl (i:=5) sc_law_flowers.nd rfl (aW rfl)) (aQ2 (aQ9 (i:=6) sc_law_flowers.nd rfl (gb rfl) (aQ7 d_law_meet hr rfl (aQ0 (dv 4) (aQ0 (e_ix (dv 0) (dv 5)) aQ1))))
  (aQ2 (aQ9 (i:=7) sc_law_flowers.nd rfl (aW rfl) (aZj (b:=true) (aQ0 (aX3 (aQ0 (aZj (b:=false) (aQ0 (dv 3) (aQ0 (dv 5) aQ1))) (aQ0 (aQw (N':=["name", "core"]) (oc:=none) (b:=false) [0] [] rfl sc_law_flowers.nd (λ_ _ _=>aQc _ _ _ _ _ _ _ _ _) (.own (.cap (i:=6) rfl (by decide +kernel) .nil)) (aQg rfl) (aZ5 (aQm (k:=false) (dv 4) (e_ix (dv 0) (dv 5)))) (cg_name (i:=0)) (λ_ _ _ _ _=>aQb (i:=0) (nd_ ["name", "core"]) rfl (aW rfl) (.inr rfl)) (λ_ _ _ _ _=>aQu (by exact(cQi hr (dv 0) (dv 1)))) aQf (λ_ _ _ _ _ _=>aQe rfl (by exact PD.o (dv 0)))) aQ1))) aQ1)))
  (aQ2 (aZb cf rfl (aZa rfl B.range (aQ0 (fJ7 (dv 1) aQ5) aQ1)) (aQl (i:=8) sc_law_flowers.nd rfl (aW rfl)) (aQ2 (aQ9 (i:=9) sc_law_flowers.nd rfl (aW rfl) (aZj (b:=true) aQ1))
  (aQ2 (aZb cf rfl (aZ5 (dv 7)) (cQm rfl (aZd (aQl (i:=10) sc_law_flowers.nd rfl (aW rfl)) (aZd (aQl (i:=11) sc_law_flowers.nd rfl (gb rfl)) bZe))) (aQ4 (aZb cf rfl (bXf rfl B.range (aQ0 (aQm (k:=false) (e_ix (dv 10) (fJ9 aQ5)) aQ5) (aQ0 (aZx rfl B.len (aQ0 (dv 0) aQ1)) aQ1))) (aQl (i:=12) sc_law_flowers.nd rfl (aW rfl)) (aQ2 (bZh (i:=13) rfl (aW rfl) (N':=["name", "core"]) (oc:=none) (b:=false) [0] [] rfl sc_law_flowers.nd (λ_ _ _=>aQc _ _ _ _ _ _ _ _ _) (.own (.cap (i:=6) rfl (by decide +kernel) .nil)) (aQg rfl) (aZ5 (e_ix (dv 0) (dv 12))) (cg_name (i:=0)) (λ_ _ _ _ _=>aQb (i:=0) (nd_ ["name", "core"]) rfl (aW rfl) (.inr rfl)) (λ_ _ _ _ _=>aQu (by exact(cQi hr (dv 0) (dv 1)))) aQf (λ_ _ _ _ _ _=>aQe rfl (by exact PD.o (dv 0))))
  (aQ2 (aQ9 (i:=14) sc_law_flowers.nd rfl (aW rfl) (e_eq hr (aQm (k:=false) (aZx rfl B.len (aQ0 (dv 13) aQ1)) (aZx rfl B.len (aQ0 (dv 6) aQ1))) (aZx rfl B.len (aQ0 (e_ix (dv 0) (dv 12)) aQ1))))
  (aQ4 (aXt (PWD.pt (dXs (aJg (dv 14)) (cJc (bQe hr (aQw (N':=["name", "taken"]) (oc:=none) (b:=false) [0] [] rfl sc_law_flowers.nd (λ_ _ _=>aQc _ _ _ _ _ _ _ _ _) (.own (.cap (i:=11) rfl (by decide +kernel) .nil)) (aQg rfl) (aZ5 (dv 13)) (cg_name (i:=0)) (λ_ _ _ _ _=>aQb (i:=0) (nd_ ["name", "taken"]) rfl (aW rfl) (.inr rfl)) (λ_ _ _ _ _=>aQu (by exact(fQp hr (dv 0) (dv 1)))) aQf (λ_ _ _ _ _ _=>aQe rfl (by exact PD.o (dv 0)))) (aZj (b:=false) aQ1))))) (aQ4 (aXj (aXw (dv 9) (aQ0 (aX3 (aQ0 (aQm (k:=false) (dv 10) (aZj (b:=false) (aQ0 (dv 12) aQ1))) (aQ0 (aQm (k:=false) (dv 11) (dv 13)) aQ1))) aQ1)))) aZ1)))))))
  (aQ4 (aQ9 (i:=7) sc_law_flowers.nd rfl (aW rfl) (dv 9))))))
  (aQ4 (aXj (dZo (dv 2) (aQ0 (aQw (N':=["row", "taken", "core"]) (oc:=none) (b:=true) [0,1] [] rfl sc_law_flowers.nd (λ_ _ _=>aQc _ _ _ _ _ _ _ _ _) (.own (.own (.cap (i:=6) rfl (by decide +kernel) .nil))) (aQg rfl) (aZ5 (dv 7)) (bQ2 (i:=0) (j:=1)) (λ_ _ _ _ _=>aJc rfl (aQj (aQb (i:=0) (nd_ ["row", "taken", "core"]) rfl (aW rfl) (.inr rfl)) (aQj (aQb (i:=1) (nd_ ["row", "taken", "core"]) rfl (aW rfl) (.inr rfl)) aZy))) (λ_ _ _ _ _=>aZs) aQf (λ_ _ _ _ _ _=>aQe rfl (by exact PD.o (aX3 (aQ0 (dv 0) (aQ0 (dv 2) aQ1)))))) aQ1))))))))))
  (aQ4 (aQq (dv 2))))),?_⟩
 ·rintro ds S Q ⟨ts,m,rfl,_⟩;rfl
 ·rintro ds S Q ⟨ts,m,rfl,hn,m2,m6,nd,he,q⟩;obtain⟨n,en⟩:∃ n,n=ts.length:=⟨_,rfl⟩;have gt:∀ i,i < n->atI (ts.map tupS) ((i:Nat):Int)=some (tupS (ts.getD i [])):=λi hi=>aXd (by rw[aF,ah (en ▸ hi),aj,ah (en ▸ hi)];rfl)
  have gs:∀ i,Srt (ts.getD i [])/\(ts.getD i []).length<=6:=λi=>by
   rw[aj];cases h:ts[i]? with
   | none=>exact⟨.nil,by decide⟩
   | some t=>exact he t (ak h)
  have el:(ts.map tupS).length=n:=by rw[af,en]
  rw[dZx,<- en] at q;rw[<- en] at hn;obtain⟨G,hG⟩:∃ G:Nat->Nat->List (List Nat),G=λi j=>itC ts (meG (ts.getD i []) (ts.getD j [])) [[i,j]] (m - 2):=⟨_,rfl⟩;have Gl:∀ i j,(G i j).length<=38416:=λi j=>by
   rw[hG];refine Nat.le_trans (dQe (by omega) (m - 2)) ?_
   have:=Nat.pow_le_pow_right (n:=14) (by decide) (show m - 2<=4 by omega)
   show 1 * _<=_;omega
  have q:Q (.lst (((aH n).flatMap λi=>(bZ (i + 1) (n - (i + 1))).flatMap λj=>G i j).map (rowD ts))) S:=by rw[hG];exact q
  refine⟨z9999 (by decide),λfp hfp=>?_⟩
  refine aQv (λi Γ S'=>∃ x3 x4 x5 x6 x7 x8 x9 Y U O J I:Option D,Γ=[some (.tup (ts.map tupS)),some (.int (m:Nat)),some (.ref fp),x3,x4,x5,x6,x7,x8,x9,Y,U,O,J,I]/\S' fp=some (.lst (((aH i).flatMap λi=>(bZ (i + 1) (n - (i + 1))).flatMap λj=>G i j).map (rowD ts)))/\∀ b o,S b=some o->S' b=some o) ⟨_,_,_,_,_,_,_,_,_,_,_,_,rfl,aQ3,λb o e=>by rw[supd_ne (by rintro rfl;rw[hfp] at e;cases e)];exact e⟩ ?_ ?_
  ·rintro i x Γ S1 N Z ⟨x3,x4,x5,x6,x7,x8,x9,Y,U,O,J,I,rfl,h1,hs1⟩ hN;obtain⟨e,hy,rfl⟩:=aX6 _ _ _ _ Z;rw[aF,a6] at hy;obtain⟨t,ht,rfl⟩:=hy;have hi:i < n:=by rw[en];exact(aA.mp ht).1
   have et:t=ts.getD i []:=by rw[aj,ht];rfl
   subst et;rw[Int.zero_add];refine⟨trivial,rfl,rfl,?_⟩;have ec:(((ts.map tupS).length:Int) - (((i:Nat):Int) + 1)).toNat=n - (i + 1):=by rw[el];omega
   refine⟨_,rfl,⟨by omega,by omega,by omega,by rw[el];omega⟩,?_⟩
   rw[ec];refine aQv (λk Γ S'=>∃ x5 x6 x7 x8 x9 Y U O J I:Option D,Γ=[some (.tup (ts.map tupS)),some (.int (m:Nat)),some (.ref fp),some (.int (i:Nat)),some (tupS (ts.getD i [])),x5,x6,x7,x8,x9,Y,U,O,J,I]/\S' fp=some (.lst ((((aH i).flatMap λi=>(bZ (i + 1) (n - (i + 1))).flatMap λj=>G i j)++(bZ (i + 1) k).flatMap λj=>G i j).map (rowD ts)))/\∀ b o,S b=some o->S' b=some o) ⟨_,_,_,_,_,_,_,_,_,_,rfl,by simpa using h1,hs1⟩ ?_ ?_
   ·rintro k x Γ S2 N2 Z ⟨x5,x6,x7,x8,x9,Y,U,O,J,I,rfl,h2,hs2⟩ hN2;obtain⟨hk,rfl⟩:=aXu _ _ k x Z;have ej:(((i:Nat):Int) + 1) + (k:Nat)=((i + 1 + k:Nat):Int):=by omega
    rw[ej];have hj:i + 1 + k < n:=by omega
    have er:bZ (i + 1) (k + 1)=bZ (i + 1) k++[i + 1 + k]:=by rw[jf];simp
    rw[er] at hN2;generalize i + 1 + k=j at hj hN2;refine⟨trivial,_,_,rfl,gt j hj,ts.getD i [],ts.getD j [],rfl,by have:=(gs i).2;omega,?_⟩
    have hs0:=(gs i);have ti6:=(gs i).2;have tj6:=(gs j).2;have sc:Srt (meG (ts.getD i []) (ts.getD j [])):=(gs i).1.filter _;have c6:(meG (ts.getD i []) (ts.getD j [])).length<=6:=Nat.le_trans (br _ _) ti6;have hok:∀ t,∀ r∈itC ts (meG (ts.getD i []) (ts.getD j [])) [[i,j]] t,okC ts (meG (ts.getD i []) (ts.getD j [])) r=true/\r≠[]/\∀ i∈r,i < ts.length:=fX5 λr hr=>by
     rw[aI.mp hr];refine⟨dQc (λt ht=>(he t ht).1.nodup) i j,by simp,λx Z=>?_⟩
     rw[<- en];simp only[aB,db,or_false] at Z;rcases Z with rfl | rfl <;> assumption
    have htk:((ts.getD i [])++(ts.getD j [])).filter (λx=>!decide (x∈meG (ts.getD i []) (ts.getD j [])))=tk71 ts (meG (ts.getD i []) (ts.getD j [])) [i,j]:=by
     rw[d6];show _=wo _ _++(wo _ _++[]);rw[bz];rfl
    have hilen:∀ t,t<=4->(itC ts (meG (ts.getD i []) (ts.getD j [])) [[i,j]] t).length<=38416:=λt h4=>by
     refine Nat.le_trans (dQe (by omega) t) ?_
     have:=Nat.pow_le_pow_right (n:=14) (by decide) h4
     show 1 * _<=_;omega
    have hGij:G i j=itC ts (meG (ts.getD i []) (ts.getD j [])) [[i,j]] (m - 2):=by rw[hG]
    have hcr:∀ r∈itC ts (meG (ts.getD i []) (ts.getD j [])) [[i,j]] (m - 2),cr71 ts r=meG (ts.getD i []) (ts.getD j []):=λr hr=>((it_C (λr hr=>by rw[aI.mp hr];exact⟨Nat.le_refl 2,rfl⟩) (m - 2)).2 r hr).2
    generalize meG (ts.getD i []) (ts.getD j [])=c at sc c6 hok htk hilen hGij hcr;refine⟨z9999 (by show 2<=9999;decide),_,_,rfl,gt j hj,z9999 (by rw[af,af];omega),_,rfl,?_⟩
    rw[<- aO];refine aZ3 (p:=λx=>!decide (x∈c)) (f:=D.str) (λx Z Q q=>in_t (neg:=true) (E:=strE) (by decide) rfl q) (λx Z _ Q q=>q) (z9999 (by rw[aq];show 0 + _<=_;omega)) ?_
    rw[htk,bY];refine⟨z9999 (by show 2<=9999;decide),z9999 (by show 1<=9999;decide),λrp hrp=>⟨⟨by omega,by omega⟩,?_⟩⟩
    have em:(((m:Nat):Int) - 2).toNat=m - 2:=by omega
    rw[em];have hrf:rp≠fp:=by rintro rfl;rw[hrp] at h2;cases h2
    have hrS:S rp=none:=by
     cases e:S rp with
     | none=>rfl
     | some o=>rw[hs2 _ _ e] at hrp;cases hrp
    obtain⟨gW,erw⟩:∃ gW:List Nat->D,gW=λr=>.tup [.lst (r.map natE.e),.lst ((tk71 ts c r).map D.str)]:=⟨_,rfl⟩;have hst:(List.map gW [[i,j]])=[D.tup [D.lst [D.int (i:Nat),D.int (j:Nat)],D.lst ((tk71 ts c [i,j]).map D.str)]]:=by rw[erw];rfl
    rw[<- hst];refine aQv (λt Γ S'=>∃ (rp:Addr) (x8 x9 Y U O J I:Option D),Γ=[some (.tup (ts.map tupS)),some (.int (m:Nat)),some (.ref fp),some (.int (i:Nat)),some (tupS (ts.getD i [])),some (.int (j:Nat)),some (tupS c),some (.ref rp),x8,x9,Y,U,O,J,I]/\S2 rp=none/\S' rp=some (.lst ((itC ts c [[i,j]] t).map gW))/\∀ b o,S2 b=some o->S' b=some o) ⟨rp,_,_,_,_,_,_,_,rfl,hrp,aQ3,λb o e=>by rw[supd_ne (by rintro rfl;rw[hrp] at e;cases e)];exact e⟩ ?_ ?_
    ·clear hrp hrf hrS rp hst;rintro t x Γ S3 N3 Z ⟨rp,x8,x9,Y,U,O,J,I,rfl,hrp,h3,hs3⟩ hN3;obtain⟨ht,rfl⟩:=bQv Z;refine⟨trivial,z9999 (by decide),λlp hlp=>?_⟩
     have hlr:lp≠rp:=by rintro rfl;rw[hlp] at h3;cases h3
     have hlS:S2 lp=none:=by
      cases e:S2 lp with
      | none=>rfl
      | some o=>rw[hs3 _ _ e] at hlp;cases hlp
     have hR:=hok t;have hRr:=dJ5 (ts:=ts) (c:=c) (L:=[[i,j]]) (k:=2) (λr hr=>by rw[aI.mp hr];rfl) t
     have hRl:=hilen t (by omega)
     have hnx:itC ts c [[i,j]] (t + 1)=(itC ts c [[i,j]] t).flatMap λr=>(exN n r).filter (okC ts c):=by rw[en];rfl
     rw[hnx] at hN3;clear hnx;generalize itC ts c [[i,j]] t=R at h3 hR hRl hN3 hRr;refine⟨_,(supd_ne (b8 hlr)).trans h3,?_⟩;refine aQv (λu Γ S'=>∃ (Y U O J I:Option D),Γ=[some (.tup (ts.map tupS)),some (.int (m:Nat)),some (.ref fp),some (.int (i:Nat)),some (tupS (ts.getD i [])),some (.int (j:Nat)),some (tupS c),some (.ref rp),some (.int (t:Nat)),some (.ref lp),Y,U,O,J,I]/\S' rp=some (.lst (R.map gW))/\S' lp=some (.lst (((R.take u).flatMap λr=>(exN n r).filter (okC ts c)).map gW))/\∀ b o,S2 b=some o->S' b=some o)
      ⟨_,_,_,_,_,rfl,(supd_ne (b8 hlr)).trans h3,aQ3,λb o e=>by rw[supd_ne (by rintro rfl;rw[hlS] at e;cases e)];exact hs3 b o e⟩ ?_ ?_
     ·rintro u x Γ S4 N4 Z ⟨Y,U,O,J,I,rfl,h4,h5,hs4⟩ hN4;rw[aF,a6] at Z;obtain⟨r,hr,rfl⟩:=Z;obtain⟨ok,rne,rlt⟩:=hR r (ak hr);have hu:=(aA.mp hr).1;have tk:R.take (u + 1)=R.take u++[r]:=by rw[bT,hr];rfl
      rw[tk,dP,gU] at hN4;have hacc:((R.take u).flatMap λr=>(exN n r).filter (okC ts c)).length<=38416 * 14:=by
       refine Nat.le_trans (aZv (b:=14) λr _=>Nat.le_trans (br _ _) (Nat.le_trans (dQd _ r) hn)) ?_;rw[aK];exact Nat.mul_le_mul_right 14 (by omega)
      generalize (R.take u).flatMap (λr=>(exN n r).filter (okC ts c))=A0 at h5 hN4 hacc;have er:gW r=.tup [.lst (r.map natE.e),.lst ((tk71 ts c r).map D.str)]:=by rw[erw]
      rw[er];refine⟨h4,rfl,rfl,?_⟩;have rlast:r.getLastD 0∈r:=aZe rne;have rl:=rlt _ rlast;rw[<- en] at rl;have ebg:bg r=r.getLastD 0 + 1:=by unfold bg;rw[if_neg rne]
      have lt:atI (r.map natE.e) (-1)=some (natE.e (r.getLastD 0)):=by rw[cJw,eZs rne 0];rfl
      have er2:gW r=.tup [.lst (r.map natE.e),.lst ((tk71 ts c r).map D.str)]:=by rw[erw]
      have eci:(((ts.map tupS).length:Int) - (((r.getLastD 0:Nat):Int) + 1)).toNat=n - bg r:=by rw[el];omega
      have hex:exN n r=(bZ (bg r) (n - bg r)).map λo=>r++[o]:=rfl;refine⟨_,_,rfl,lt,_,rfl,⟨by omega,by omega,by omega,by rw[el];omega⟩,?_⟩
      rw[eci];rw[hex] at hN4;refine aQv (λv Γ S'=>∃ (O J I:Option D),Γ=[some (.tup (ts.map tupS)),some (.int (m:Nat)),some (.ref fp),some (.int (i:Nat)),some (tupS (ts.getD i [])),some (.int (j:Nat)),some (tupS c),some (.ref rp),some (.int (t:Nat)),some (.ref lp),some (.lst (r.map natE.e)),some (.lst ((tk71 ts c r).map D.str)),O,J,I]/\S' rp=some (.lst (R.map gW))/\S' lp=some (.lst ((A0++(((bZ (bg r) v).map λo=>r++[o]).filter (okC ts c))).map gW))/\∀ b o,S2 b=some o->S' b=some o) ⟨_,_,_,rfl,h4,by simpa using h5,hs4⟩ ?_ ?_
      ·rintro v x Γ S5 N5 Z ⟨O,J,I,rfl,h6,h7,hs5⟩ hN5;obtain⟨hv,rfl⟩:=aXu _ _ v x Z;have eo:(((r.getLastD 0:Nat):Int) + 1) + (v:Nat)=((bg r + v:Nat):Int):=by omega
       rw[eo];have ho:bg r + v < n:=by omega
       have er':bZ (bg r) (v + 1)=bZ (bg r) v++[bg r + v]:=by rw[jf];simp
       have e6:((bZ (bg r) (v + 1)).map λo=>r++[o]).filter (okC ts c)=((bZ (bg r) v).map λo=>r++[o]).filter (okC ts c)++[r++[bg r + v]].filter (okC ts c):=by rw[er',aO,d6];rfl
       rw[e6,<- aY] at hN5;clear e6;have hlen7:(A0++(((bZ (bg r) v).map λo=>r++[o]).filter (okC ts c))).length<=38416 * 14 + 14:=by
        rw[aq]
        have:=br (okC ts c) ((bZ (bg r) v).map λo=>r++[o])
        rw[af,gB] at this;omega
       generalize A0++(((bZ (bg r) v).map λo=>r++[o]).filter (okC ts c))=A1 at h7 hlen7 hN5;generalize bg r + v=o at ho hN5;have hput:=eX3 (o:=o) ok (gs o).1.nodup;have so:=gs o;have hhl:=eX4 so.1.nodup sc.nodup;have htp:=cZ6 ts c r o;have htl:(tk71 ts c r).length<=9999:=by
        refine Nat.le_trans (aZv (b:=6) λi _=>Nat.le_trans (br _ _) (gs i).2) ?_
        have:=hRr r (ak hr)
        omega
       refine⟨trivial,_,_,rfl,gt o ho,_,rfl,aZ3 (p:=λx=>!decide (x∈c)) (f:=D.str) (λx Z Q q=>in_t (neg:=true) (E:=strE) (by decide) rfl q) (λx Z _ Q q=>q) (z9999 (by show 0 + _<=_;omega)) ?_⟩
       rw[bY];refine⟨_,rfl,_,rfl,_,_,rfl,gt o ho,_,rfl,rfl,?_⟩;have ewo:(ts.getD o []).filter (λx=>!decide (x∈c))=wo (ts.getD o []) c:=rfl;rw[ewo];refine ite2 (λc1=>?_) λc1=>?_
       ·refine⟨_,rfl,aZ3 (p:=λx=>decide (x∈tk71 ts c r)) (f:=D.str) (λx Z Q q=>in_t (neg:=false) (E:=strE) (by decide) rfl q) (λx Z _ Q q=>q) (z9999 (by have:=br (λd=>!decide (d∈c)) (ts.getD o []);show 0 + (wo (ts.getD o []) c).length<=_;unfold wo;omega)) ?_⟩
        rw[bY];have hhas:has (ts.getD o []) c=true:=hhl.mp (by
         have h:=of_decide_eq_true (show decide (D.int (((wo (ts.getD o []) c).map D.str).length + (c.map D.str).length)=D.int ((ts.getD o []).map D.str).length)=true from c1)
         injection h with h
         rw[af,af,af] at h
         omega)
        have ok2:okE 9 (.lst (((wo (ts.getD o []) c).filter λx=>decide (x∈tk71 ts c r)).map D.str)) (.lst [])=true:=by unfold okE;rw[eO];rfl
        have wl:(wo (ts.getD o []) c).length<=6:=Nat.le_trans (br _ _) so.2;have rl9:=hRr r (ak hr);cases hm:mts (tk71 ts c r) (wo (ts.getD o []) c) with
        | false =>
         have e0:((wo (ts.getD o []) c).filter λx=>decide (x∈tk71 ts c r))=[]:=fz.mpr λx Z z=>by
          rw[mts_iff.mpr ⟨x,Z,of_decide_eq_true z⟩] at hm;cases hm
         rw[e0] at ok2;rw[hhas,hm] at hput;rw[e0];refine⟨z9999 (by show 0<=9999;decide),ok2,true,eZx rfl,ite2 (λ_=>?_) λz=>absurd rfl z⟩
         refine⟨⟨_,h7⟩,z9999 (by show 1<=9999;decide),_,_,rfl,rfl,z9999 (by rw[af];show r.length + 1<=_;omega),_,_,rfl,rfl,?_,z9999 (by show 2<=9999;decide),_,h7,?_,hN5 _ _ ⟨_,_,_,rfl,?_,?_,λb o e=>?_⟩⟩
         ·rw[af,af,bh];omega
         ·rw[af,bh];omega
         ·rw[supd_ne (b8 hlr)];exact h6
         ·have ef:[r++[o]].filter (okC ts c)=[r++[o]]:=by rw[bt,hput];rfl
          have ew:gW (r++[o])=.tup [.lst (r.map natE.e++[D.int (o:Nat)]),.lst ((tk71 ts c r).map D.str++(wo (ts.getD o []) c).map D.str)]:=by rw[erw];show D.tup [.lst ((r++[o]).map natE.e),.lst ((tk71 ts c (r++[o])).map D.str)]=_;rw[htp,aO,aO];rfl
          rw[aQ3,ef,aO,List.map_singleton,ew]
         ·rw[supd_ne (by rintro rfl;rw[hlS] at e;cases e)];exact hs5 b o e
        | true =>
         have ne:((wo (ts.getD o []) c).filter λx=>decide (x∈tk71 ts c r)).map D.str≠[]:=λz=>by
          obtain⟨x,h1,h2⟩:=mts_iff.mp hm
          have:=List.map_eq_nil_iff.mp z
          have h3:x∈((wo (ts.getD o []) c).filter λx=>decide (x∈tk71 ts c r)):=bq.mpr ⟨h1,decide_eq_true h2⟩;rw[this] at h3;cases h3
         rw[hm] at hput;refine⟨z9999 (by show 0<=9999;decide),ok2,false,fJy (λz=>ne (by injection z)),ite2 (λz=>by cases z) λ_=>hN5 _ _ ⟨_,_,_,rfl,h6,?_,hs5⟩⟩
         have ef:[r++[o]].filter (okC ts c)=[]:=by rw[bt,hput,fF,fQ];rfl
         rw[ef,bz];exact h7
       ·have hhas:has (ts.getD o []) c=false:=by
         cases h:has (ts.getD o []) c with
         | false=>rfl
         | true =>
          have h2:=hhl.mpr h;refine absurd (show decide (D.int (((wo (ts.getD o []) c).map D.str).length + (c.map D.str).length)=D.int ((ts.getD o []).map D.str).length)=true from decide_eq_true ?_) c1
          rw[af,af,af];exact congrArg D.int (by omega)
        rw[hhas] at hput;refine ite2 (λz=>by cases z) λ_=>hN5 _ _ ⟨_,_,_,rfl,h6,?_,hs5⟩
        have ef:[r++[o]].filter (okC ts c)=[]:=by rw[bt,hput,Bool.false_and];rfl
        rw[ef,bz];exact h7
      ·rintro Γ S5 ⟨O,J,I,rfl,h6,h7,hs5⟩;rw[aQt] at h7;exact⟨trivial,hN4 _ _ ⟨_,_,_,_,_,rfl,h6,h7,hs5⟩⟩
     ·rintro Γ S4 ⟨Y,U,O,J,I,rfl,h4,h5,hs4⟩;rw[af,cv] at h5;exact⟨h4,hN3 _ _ ⟨lp,_,_,_,_,_,_,_,rfl,hlS,h5,hs4⟩⟩
    ·clear hrp hrf hrS rp hst;rintro Γ S3 ⟨rp,x8,x9,Y,U,O,J,I,rfl,hrp,h3,hs3⟩;rw[aQt,<- hGij] at h3;rw[<- hGij] at hcr;refine⟨trivial,?_⟩;have hf:S3 fp=some (.lst _):=hs3 _ _ h2;have gl:=Gl i j;have hacc:((((aH i).flatMap λi=>(bZ (i + 1) (n - (i + 1))).flatMap λj=>G i j)++(bZ (i + 1) k).flatMap λj=>G i j).map (rowD ts)).length<=15 * (14 * 38416):=by
      rw[af,aq];have a1:=aZv (f:=λj=>G i j) (b:=38416) (L:=bZ (i + 1) k) λj _=>Gl i j;have a2:=aZv (f:=λi=>(bZ (i + 1) (n - (i + 1))).flatMap λj=>G i j) (b:=14 * 38416) (L:=aH i) λi _=>by
       refine Nat.le_trans (aZv (b:=38416) λj _=>Gl i j) ?_;rw[gB];exact Nat.mul_le_mul_right _ (by omega)
      rw[gB] at a1;rw[dl] at a2;have a3:=Nat.mul_le_mul_right 38416 (show k<=14 by omega)
      have a4:=Nat.mul_le_mul_right (14 * 38416) (show i<=14 by omega)
      omega
     refine⟨⟨_,hf⟩,_,h3,?_⟩;refine aZ6 (λk acc S'=>acc=((G i j).take k).map (rowD ts)/\S'=S3) ⟨rfl,rfl⟩ ?_ ?_
     ·rintro k x acc S' N Z ⟨rfl,rfl⟩ hN;rw[aF,a6] at Z;obtain⟨r,hr,rfl⟩:=Z;have er:gW r=.tup [.lst (r.map natE.e),.lst ((tk71 ts c r).map D.str)]:=by rw[erw]
      have tk:(G i j).take (k + 1)=(G i j).take k++[r]:=by rw[bT,hr];rfl
      have hc:=hcr r (ak hr);rw[er];rw[tk,aO] at hN;have e2:rowD ts r=.tup [.lst (r.map natE.e),tupS c]:=by unfold rowD;rw[hc]
      refine⟨h3,rfl,rfl,z9999 (by show 2<=9999;decide),?_,hN _ _ ⟨by rw[List.map_singleton,e2],rfl⟩⟩
      rw[af,aK,bh];omega
     ·rintro acc S' ⟨rfl,rfl⟩;rw[af,cv];refine⟨h3,λbp hbp=>?_⟩;have hbf:bp≠fp:=by rintro rfl;rw[hf] at hbp;cases hbp
      refine⟨_,_,(supd_ne (b8 hbf)).trans hf,aQ3,?_,hN2 _ _ ⟨_,_,_,_,_,_,_,_,_,_,rfl,?_,λb o e=>?_⟩⟩
      ·rw[af (as:=G i j),bh];omega
      ·rw[aQ3,dP,gU,<- aY,aO (l₂:=G i j)]
      ·rw[supd_ne (by rintro rfl;rw[hfp] at e;cases e)]
       have e3:=hs3 _ _ (hs2 _ _ e);rw[supd_ne (by rintro rfl;rw[hbp] at e3;cases e3)]
       exact e3
   ·rintro Γ S2 ⟨x5,x6,x7,x8,x9,Y,U,O,J,I,rfl,h2,hs2⟩;rw[aQt] at h2;refine⟨trivial,hN _ _ ⟨_,_,_,_,_,_,_,_,_,_,_,_,rfl,?_,hs2⟩⟩;rw[fC,dP,gU];exact h2
  ·rintro Γ S1 ⟨x3,x4,x5,x6,x7,x8,x9,Y,U,O,J,I,rfl,h1,hs1⟩;rw[aX5,el] at h1;exact⟨trivial,fZ7 (S':=S) h1 hs1 hfp q⟩
end
end Toy
namespace L2
open PySem PySem.Spec PyProof.Rows
section
variable {X:Cx}
def eX6 (w:aR) (K:Fg):List V->Hp->VK->Prop:=λxs H Q=>∃ x ds,xs=[x]/\dT K dS H x ds/\ds.length + 1<=300/\∀ p ms H',Same H H'->ms.Nodup->(∀ k,k∈ms↔k∈ds)->dSs w H' (.ref p) ms->Q (.ref p) H'
theorem bJo {K:Fg} {w:aR} (hu:X.A.units + 8 < cb) (hK:X.K=K:=by rfl) (hw:X.w=w:=by rfl) (hc:X.calm=true:=by rfl):CallR X (.type "set") (eX6 w K):=by
 subst hK hw;intro pins s σ H xs us Q I r h;obtain⟨x,ds,rfl,⟨a,ys,rfl,U,p⟩,Y,q⟩:=h;obtain⟨u,rfl,rx⟩:=aZo r;cases rx;obtain⟨R,G,pl,_⟩:=I.tuple U;refine ST.call_setT (ST.strKd X.prog X.w) (I.ok.hd hc) hu pl (cXv p G) (by rw[ar,<- G.length,p.length];exact Y) λh' L ms M _ Z=>?_
 obtain⟨es,ep,t,B,j,J⟩:=M.ex;have D:H s.heap.objs.size=none:=I.hok.fresh (Nat.le_refl _);have O:Same H (upd H s.heap.objs.size (stO s.heap.objs.size es ep t)):=aQo D;refine⟨.ref s.heap.objs.size,_,I.laid (t':=L) (o:=stO s.heap.objs.size es ep t) (λb o e=>Z b o (ay e) e) (Nat.le_refl _) ?_,rfl,q _ _ _ O M.nd M.mem ⟨_,es,ep,t,rfl,aQa,(ST.strKd X.prog X.w).fits B,j,λz=>(ST.strKd X.prog X.w).few B J M.nd z,aJb J⟩⟩;exact⟨(ST.strKd X.prog X.w).obj B,⟨_,(ST.strKd X.prog X.w).obj B⟩,λg1 g2 g k=>k _ g⟩
end
section
variable {X:Cx} {K:Fg} {pos:Pos} {k:Nat}
def dZz (b:Bool) (te:ED):ED:=fun Γ S Q=>te Γ S λd S1=>∃ ss:List Str,d=tupS ss/\ss.length < 300/\∀ out:List Str,out.Nodup->(∀ t,t∈out↔t∈ss)->out.Pairwise (λa b=>HT.ltS a b=true)->newL b (out.map D.str) S1 Q
theorem bXr {b:Bool} {e:Expr} {te:ED} {p p' pos':Pos} (hr:Room k X.A) (hg:Gl X "sorted") (hm:X.mg "sorted" = none) (hg':Gl X "set") (hm':X.mg "set" = none) (he:PD K X e te) (hK:X.K=K:=by rfl) (hc:X.calm=true:=by rfl)
  (h1:av [e] X.env=(false,eval e X.env)::av [] X.env:=by rfl) (h2:av [ig (.Name "set" p') [e] [] pos'] X.env=(false,eval (ig (.Name "set" p') [e] [] pos') X.env)::av [] X.env:=by rfl) (h3:(cz pos (av [] X.env)).any (·.1)=false:=by rfl) (h4:(cz pos' (av [] X.env)).any (·.1)=false:=by rfl) :
  PD K X (.Call (.Name "sorted" p) [.Call (.Name "set" p') [e] [] pos'] [] pos) (dZz b te) :=
 .of (aXo (aXy rfl hc) hg hm aX1 (aZp (aZz (bJo (lt64 hr) hK rfl hc) hg' hm' bJz (aZp he.o aXn h1) (by decide) (by decide) h1 h4) aXn h2) (by decide) (by decide) h2 h3) fun σ H Q G=>G.el λF S Γ QD r g q c =>
 ⟨F,S,Γ,_,r,g,q,λv d H1 D J O v1 ⟨ss,Z,B,R⟩=>by
  subst Z;refine⟨_,ss,rfl,bZd v1,by lia,λp ms H2 s2 nd mem st=>⟨_,ms,rfl,st,nd,Nat.lt_of_le_of_lt (nd.length_le_of_subset λx Y=>(mem x).mp Y) B,λl out j pm U=>?_⟩⟩
  have L:Rp K F D H2:=O.same s2;have I:Ext D H1 D H2:=Ext.same s2;exact Cn.new (Cn.shift c (J.trans I)) L j (eZk out) (R out (pm.nodup_iff.mpr nd) (λt=>(pm.mem_iff).trans (mem t)) U)⟩
end
end L2
namespace Toy
open PySem L2
abbrev s_law_some:Stmt:=top 19
theorem sc_law_some:FnScope ["deck", "sets", "cores", "found", "k", "row", "other", "names", "more", "spare"] ["deck", "sets", "cores"] (aQ8 s_law_some):=fsc
def spL7:List Str:=["a", "b", "c", "d", "e", "f", "g", "h", "i", "j", "k", "l", "m"].map aG
def spW7:List Str:=spL7.map λx=>aG "spare"++x
theorem spW7_nd:spW7.Nodup:=by decide
theorem eX7:cZt (aG "abcdefghijklm")=spL7.map D.str:=by rfl
def bQ7:SpD:=λds S Q=>∃ (a:Addr) (ts cs:List (List Str)) (n:Nat),ds=[.ref a,.tup (ts.map tupS),.lst (cs.map tupS)]/\DkD S a n/\n<=900000/\CollB 14 ts/\cs.length<=99/\(∀ c∈cs,Srt c/\c.length<=6/\∀ x∈c,x∈nms ts)/\∀ (out:List (List Str)) S',out.length<=99->(∀ c∈out,Srt c/\c.length<=99)->Off a S S'->DkD S' a (n + 50)->Q (.lst (out.map tupS)) S'
section
variable {P:aC} {w:aR} {K:az} {mg:Str->Option ae} {base:bf} {pt cc:Addr}
theorem bJp (T:Tx K mg "_law_some" s_law_some) (B:Bs mg) (d_law_draw:Df P w K mg base 1 "_law_draw" ["deck", "most"] (spU K aZu)) (d_law_meet:Df P w K mg base 1 "_law_meet" ["one", "other"] (spU K aXl)):Df P w K mg base 2 "_law_some" ["deck", "sets", "cores"] (spU K bQ7):=by
 refine aXk T sc_law_some (λF=>F.binds λ_ _ _ _ _ _=>us3 λ_ _ _=>rfl) ?_ λf cdv A outer s H E U=>⟨_,(aQ2 (aQ9 (i:=3) sc_law_some.nd rfl (aW rfl) (aZj (b:=true) (aQ0 (aX3 aQ1) aQ1)))
  (aQ2 (aZb cf rfl (aZa rfl B.range (aQ0 (bQd aQ5 (cJf rfl B.int (aQ0 (e_ne U (dv 2) (aZj (b:=false) aQ1)) aQ1))) aQ1)) (aQl (i:=4) sc_law_some.nd rfl (aW rfl)) (aQ4 (aXj (aXw (dv 3) (aQ0 (e_ix (dv 2) (aQ7 d_law_draw U rfl (aQ0 (dv 0) (aQ0 (aZx rfl B.len (aQ0 (dv 2) aQ1)) aQ1)))) aQ1)))))
  (bZi (aXt (eQt U (dv 1) (aX3 aQ1)) (aQ2 (aQ9 (i:=5) sc_law_some.nd rfl (aW rfl) (e_ix (dv 1) (aQ7 d_law_draw U rfl (aQ0 (dv 0) (aQ0 (aZx rfl B.len (aQ0 (dv 1) aQ1)) aQ1)))))
  (aQ2 (aQ9 (i:=6) sc_law_some.nd rfl (aW rfl) (e_ix (dv 1) (aQ7 d_law_draw U rfl (aQ0 (dv 0) (aQ0 (aZx rfl B.len (aQ0 (dv 1) aQ1)) aQ1)))))
  (aQ2 (aQ9 (i:=3) sc_law_some.nd rfl (aW rfl) (aQm (k:=true) (dv 3) (aZj (b:=false) (aQ0 (dv 5) (aQ0 (aQ7 d_law_meet U rfl (aQ0 (dv 5) (aQ0 (dv 6) aQ1))) (aQ0 (aZk rfl B.tuple (aQ0 (aQw (N':=["name", "deck"]) (oc:=none) (b:=false) [0] [] rfl sc_law_some.nd (λ_ _ _=>aQc _ _ _ _ _ _ _ _ _) (.own (.cap (i:=0) rfl (by decide +kernel) .nil)) (aQg rfl) (aZ5 (dv 5)) (cg_name (i:=0)) (λ_ _ _ _ _=>aQb (i:=0) (nd_ ["name", "deck"]) rfl (aW rfl) (.inr rfl)) (λ_ _ _ _ _=>aQu (by exact(bQe U (aQ7 d_law_draw U rfl (aQ0 (dv 1) (aQ0 aQ5 aQ1))) aQ5))) aQf (λ_ _ _ _ _ _=>aQe rfl (by exact PD.o (dv 0)))) aQ1)) aQ1))))))
  (aQ4 (aXj (aXw (dv 3) (aQ0 (aZk rfl B.tuple (aQ0 (bXr (b:=false) U rfl B.sorted rfl B.set (aQm (k:=false) (dv 5) (dv 6))) aQ1)) aQ1))))))) aZ1)
  (aQ2 (aQ9 (i:=7) sc_law_some.nd rfl (gb rfl) (aZj (b:=true) aQ1))
  (aQ2 (aZb cf rfl (aZ5 (dv 1)) (aQl (i:=5) sc_law_some.nd rfl (aW rfl)) (aQ4 (aXj (cJy (dv 7) (aQ0 (dv 5) aQ1)))))
  (aQ2 (bZh (i:=8) rfl (aW rfl) (N':=["word", "names"]) (oc:=none) (b:=false) [0] [] rfl sc_law_some.nd (λ_ _ _=>aQc _ _ _ _ _ _ _ _ _) (.own (.cap (i:=7) rfl (by decide +kernel) .nil)) (aQg rfl) (aZ5 (aQw (N':=["sign"]) (oc:=none) (b:=false) [0] [] rfl sc_law_some.nd (λ_ _ _=>aQc _ _ _ _ _ _ _ _ _) (.own .nil) (aQg rfl) (fZp aZ9) (cg_name (i:=0)) (λ_ _ _ _ _=>aQb (i:=0) (nd_ ["sign"]) rfl (aW rfl) (.inr rfl)) (λ_ _ _ _ _=>aZs) aQf (λ_ _ _ _ _ _=>aQe rfl (by exact PD.o (aQm (k:=false) aZ9 (dv 0)))))) (cg_name (i:=0)) (λ_ _ _ _ _=>aQb (i:=0) (nd_ ["word", "names"]) rfl (aW rfl) (.inr rfl)) (λ_ _ _ _ _=>aQu (by exact(cQi U (dv 0) (dv 1)))) aQf (λ_ _ _ _ _ _=>aQe rfl (by exact PD.o (dv 0))))
  (aQ2 (aQ9 (i:=9) sc_law_some.nd rfl (gb rfl) (e_ix (dv 8) (aQ7 d_law_draw U rfl (aQ0 (dv 0) (aQ0 (aZx rfl B.len (aQ0 (dv 8) aQ1)) aQ1)))))
  (aQ4 (aQq (aQm (k:=false) (dv 3) (aQw (N':=["row", "spare"]) (oc:=none) (b:=false) [0] [] rfl sc_law_some.nd (λ_ _ _=>aQc _ _ _ _ _ _ _ _ _) (.own (.cap (i:=9) rfl (by decide +kernel) .nil)) (aQg rfl) (aZ5 (dv 3)) (cg_name (i:=0)) (λ_ _ _ _ _=>aQb (i:=0) (nd_ ["row", "spare"]) rfl (aW rfl) (.inr rfl)) (λ_ _ _ _ _=>aZs) aQf (λ_ _ _ _ _ _=>aQe rfl (by exact PD.o (aZk rfl B.tuple (aQ0 (aJo (b:=false) U rfl B.sorted (aQ0 (aQm (k:=false) (dv 0) (aX3 (aQ0 (dv 1) aQ1))) aQ1)) aQ1))))))))))))))),?_⟩
 ·rintro ds S Q ⟨a,ts,cs,n,rfl,_⟩;rfl
 ·rintro ds S Q ⟨a,ts,cs,n,rfl,dk,hn,hC,c9,hc,q⟩;refine⟨z9999 (by show 0<=9999;decide),z9999 (by show 1<=9999;decide),λp0 hp0=>?_⟩
  have O:=dk.ne hp0;refine⟨z9999 (by show 0<=9999;decide),by unfold okE;rw[eO];rfl,?_⟩
  refine⟨.inl ⟨by decide,by decide⟩,?_⟩
  obtain⟨j,hj,j3⟩:∃ j:Int,(3:Int) * (if (if true=true then !decide (D.lst (cs.map tupS)=D.lst []) else decide (D.lst (cs.map tupS)=D.lst []))=true then 1 else 0)=j/\(j=0\/(j=3/\cs≠[])):=by
   cases cs with
   | nil=>exact⟨0,by rw[decide_eq_true (show D.lst (([]:List (List Str)).map tupS)=D.lst [] from rfl)];rfl,.inl rfl⟩
   | cons c cs=>exact⟨3,rfl,.inr ⟨rfl,by simp⟩⟩
  refine⟨⟨by rw[hj];omega,by rw[hj];omega⟩,?_⟩
  rw[hj];refine aQv (λi Γ S'=>∃ (x4:Option D) (fs:List (List Str)),Γ=[some (.ref a),some (.tup (ts.map tupS)),some (.lst (cs.map tupS)),some (.ref p0),x4,none,none,none,none,none]/\S' p0=some (.lst (fs.map tupS))/\fs.length=1 + i/\(∀ c∈fs,Srt c/\c.length<=12/\∀ x∈c,x∈L2.nms ts)/\DkD S' a (n + i)/\∀ b,b≠a->b≠p0->S' b=S b) ⟨none,[[]],rfl,aQ3,rfl,λc hc=>?_,dk.eq (supd_ne (b8 O)),λb _ h=>supd_ne h⟩ ?_ ?_
  ·rw[aI.mp hc];exact⟨.nil,by decide,λx hx=>by cases hx⟩
  ·rintro i x Γ S1 N hx ⟨x4,fs,rfl,hf,R,J,G,ho⟩ hN;obtain⟨hi,rfl⟩:=bQv hx;have i3:i < 3:=by omega
   have cne:cs≠[]:=by rcases j3 with h | h;omega;exact h.2
   have cl:0 < cs.length:=dj.mpr cne;refine⟨trivial,⟨_,hf⟩,_,rfl,a,((cs.map tupS).length:Nat),n + i,rfl,G,by omega,by rw[af];omega,by rw[af];omega,λr S2 r0 r1 off dk2=>?_⟩
   rw[af] at r1;obtain⟨k,rfl⟩:∃ k:Nat,r=k:=⟨r.toNat,by omega⟩
   have kl:k < cs.length:=by omega
   have hf2:=(off p0 O).trans hf;refine⟨_,_,rfl,aXd (by rw[aF,ah kl];rfl),_,hf2,z9999 (by rw[af];omega),hN _ _ ⟨_,fs++[cs[k]],rfl,by rw[aQ3,aO];rfl,by rw[aq,R];show _ + 1=_;omega,λc hc'=>?_,?_,λb h1 h2=>?_⟩⟩
   ·rcases aN.mp hc' with h | h
    ·exact J c h
    ·rw[aI.mp h];obtain⟨h1,h2,h3⟩:=hc _ (cS kl);exact⟨h1,by omega,h3⟩
   ·exact(dk2.eq (supd_ne (b8 O))).mono (by omega)
   ·rw[supd_ne h2,off b h1,ho b h1 h2]
  ·rintro Γ S1 ⟨x4,fs,rfl,hf,R,J,G,ho⟩;rw[aQt] at R G;refine⟨trivial,?_⟩;have hn3:fs.length<=4/\DkD S1 a (n + 3):=⟨by omega,G.mono (by omega)⟩
   obtain⟨R,G⟩:=hn3;refine⟨fun Γ' S'=>∃ (p:Addr) (x4 x5 x6:Option D) (fs:List (List Str)),Γ'=[some (.ref a),some (.tup (ts.map tupS)),some (.lst (cs.map tupS)),some (.ref p),x4,x5,x6,none,none,none]/\S p=none/\S' p=some (.lst (fs.map tupS))/\fs.length<=8/\(∀ c∈fs,Srt c/\c.length<=12/\∀ x∈c,x∈L2.nms ts)/\DkD S' a (n + 20)/\(∀ b o,b≠a->S b=some o->S' b=some o),?_,?_⟩
   ·have ho':∀ b o,b≠a->S b=some o->S1 b=some o:=λb o h1 h2=>by rw[ho b h1 (by rintro rfl;rw[hp0] at h2;cases h2)];exact h2
    refine⟨z9999 (by show 0<=9999;decide),by unfold okE;rw[eO];rfl,_,rfl,ite2 (λc=>?_) λc=>⟨p0,_,_,_,fs,rfl,hp0,hf,by omega,J,G.mono (by omega),ho'⟩⟩
    have tne:ts≠[]:=by rintro rfl;simp at c
    have tl:0 < ts.length:=dj.mpr tne;have l14:=hC.len;have pick:∀ r:Int,0<=r->r < ((ts.map tupS).length:Nat)->∃ t∈ts,atI (ts.map tupS) r=some (tupS t):=λr r0 r1=>by
     rw[af] at r1;obtain⟨k,rfl⟩:∃ k:Nat,r=k:=⟨r.toNat,by omega⟩
     have kl:k < ts.length:=by omega
     exact⟨ts[k],cS kl,aXd (by rw[aF,ah kl];rfl)⟩
    refine⟨_,rfl,a,((ts.map tupS).length:Nat),n + 3,rfl,G,by omega,by rw[af];omega,by rw[af];omega,λr S2 r0 r1 Z dk2=>?_⟩
    obtain⟨t1,m1,e1⟩:=pick r r0 r1;refine⟨_,_,rfl,e1,?_⟩;refine⟨_,rfl,a,((ts.map tupS).length:Nat),n + 4,rfl,dk2,by omega,by rw[af];omega,by rw[af];omega,λr S3 r0 r1 I dk3=>?_⟩
    obtain⟨t2,m2,e2⟩:=pick r r0 r1;refine⟨_,_,rfl,e2,?_⟩;obtain⟨s1,l1⟩:=hC.each t1 m1;obtain⟨s2,l2⟩:=hC.each t2 m2;refine⟨t1,t2,rfl,by omega,t1.map D.str,rfl,bZp dk3 (by omega) (by omega) (λx S k dk hk Q q=>⟨a,2,k,rfl,dk,hk,by decide,by decide,λr S' _ _ off dk'=>⟨rfl,_,rfl,q _ S' off dk'⟩⟩) λos S4 hos Y dk4=>?_⟩
    have hf4:=(Y p0 O).trans ((I p0 O).trans ((Z p0 O).trans hf));refine⟨_,rfl,z9999 (by show 3<=9999;decide),_,_,hf4,rfl,z9999 (by rw[af];show _ + 3<=_;omega),λp1 hp1=>?_⟩
    refine⟨⟨_,aQ3⟩,z9999 (by rw[af,af];omega),t1++t2,(by show _=D.tup _;rw[aO]),by rw[aq];omega,λout ond omem opw=>?_⟩
    have ol:=ond.length_le_of_subset (λx hx=>(omem x).mp hx);rw[aq] at ol;refine⟨_,rfl,_,aQ3,z9999 (by rw[aq,af];show fs.length + 3 + 1<=_;omega),p1,_,_,_,fs++[t1,meG t1 t2,os,out],rfl,?_,?_,by rw[aq];show _ + 4<=_;omega,λc hc=>?_,dk4.eq ?_ |>.mono (by omega),λb o h1 h2=>?_⟩
    ·cases e:S p1 with
     | none=>rfl
     | some o =>
      have L:p1≠a:=dk4.ne hp1
      have:=ho' _ _ L e
      rw[<- Z p1 L,<- I p1 L,<- Y p1 L,hp1] at this;cases this
    ·rw[aQ3,aO];simp;exact⟨rfl,rfl⟩
    ·have n1:∀ t∈ts,∀ x∈t,x∈L2.nms ts:=λt ht x hx=>mem_nms.mpr ⟨t,ht,hx⟩;have me1:=br (λn=>decide (n∈t2)) t1;have os1:=hos.length_le;rcases aN.mp hc with h | h
     ·exact J c h
     ·simp only[aB,db,or_false] at h;rcases h with rfl | rfl | rfl | rfl
      ·exact⟨s1,by omega,n1 _ m1⟩
      ·exact⟨s1.filter _,by unfold meG;omega,λx hx=>n1 _ m1 x (mem_me.mp hx).1⟩
      ·exact⟨List.Pairwise.sublist hos s1,by omega,λx hx=>n1 _ m1 x (hos.subset hx)⟩
      ·refine⟨opw,by omega,λx hx=>?_⟩
       rcases aN.mp ((omem x).mp hx) with h | h
       ·exact n1 _ m1 x h
       ·exact n1 _ m2 x h
    ·have L:p1≠a:=dk4.ne hp1;rw[supd_ne (b8 L),supd_ne (b8 L)]
    ·have e1:=ho' b o h1 h2;have e4:S4 b=some o:=by rw[Y b h1,I b h1,Z b h1];exact e1
     have nb:b≠p1:=by rintro rfl;rw[hp1] at e4;cases e4
     rw[supd_ne nb,supd_ne nb];exact e4
   ·clear hf R J G ho hj j3 hp0 O;rintro Γ S1 ⟨p,x4,x5,x6,fs,rfl,hSp,hf,R,J,G,ho⟩;refine⟨z9999 (by show 0<=9999;decide),λnp hnp=>?_⟩
    have hnpp:np≠p:=by rintro rfl;rw[hf] at hnp;cases hnp
    have hna:np≠a:=G.ne hnp;refine⟨_,rfl,aQv (λk Γ S'=>∃ (x5:Option D) (us:List Str),Γ=[some (.ref a),some (.tup (ts.map tupS)),some (.lst (cs.map tupS)),some (.ref p),x4,x5,x6,some (.ref np),none,none]/\S' np=some (.lst (us.map D.str))/\us.length<=6 * k/\(∀ x,x∈us↔∃ t∈ts.take k,x∈t)/\∀ b,b≠np->S' b=S1 b) ⟨x5,[],rfl,aQ3,by decide,λx=>by simp,λb h=>supd_ne h⟩ ?_ ?_⟩
    ·rintro k x Γ S2 N hx ⟨x5,us,rfl,h2,ul,um,ho2⟩ hN;rw[aF,a6] at hx;obtain⟨t,hx,rfl⟩:=hx;have kl:=(aA.mp hx).1;have t6:=(hC.each t (ak hx)).2;have l14:=hC.len;refine⟨trivial,⟨_,h2⟩,_,h2,z9999 (by rw[af,af];omega),hN _ _ ⟨_,us++t,rfl,by rw[aQ3,aO],by rw[aq];omega,λx=>?_,λb h=>by rw[supd_ne h];exact ho2 b h⟩⟩
     rw[bT,hx,aN,um];constructor
     ·rintro(⟨u,hu,hxu⟩ | h)
      ·exact⟨u,cH _ hu,hxu⟩
      ·exact⟨t,bi _ (by simp),h⟩
     ·rintro⟨u,hu,hxu⟩;rcases aN.mp hu with h | h
      ·exact .inl ⟨u,h,hxu⟩
      ·have:u=t:=by simpa using h
       rw[this] at hxu;exact .inr hxu
    ·rintro Γ S2 ⟨x5,us,rfl,h2,ul,um,ho2⟩;rw[af] at ul um;rw[cv] at um;have l14:=hC.len;refine⟨trivial,?_⟩;show aZl _ _ _ _ _ (cZt _) _ _ _;rw[eX7];refine aJp (f:=λx=>D.str (aG "spare"++x)) (λx hx Q q=>⟨?_,q⟩) (z9999 (by decide)) ?_
     ·have:∀ x∈spL7,(aG "spare").length + x.length<=9999:=by decide
      exact z9999 (this x hx)
     refine⟨_,rfl,?_⟩;show aZl _ _ _ _ _ ([]++spL7.map λx=>D.str (aG "spare"++x)) _ _ _;rw[bY,show(spL7.map λx=>D.str (aG "spare"++x))=spW7.map D.str by unfold spW7;rw[bH];rfl]
     refine aZ3 (p:=λn=>!decide (n∈us)) (f:=D.str) (λx hx Q q=>in_t (neg:=true) (E:=strE) (by decide) h2 q) (λx hx _ Q q=>q) (z9999 (by decide)) ?_
     rw[bY];have hw:∀ w∈spW7.filter (λn=>!decide (n∈us)),w∉L2.nms ts:=λw hw z=>by
      have h:=(bq.mp hw).2;have h':w∉us:=by simpa using h
      exact h' ((um w).mpr (mem_nms.mp z))
     have hlw:0 < (spW7.filter (λn=>!decide (n∈us))).length:=by
      cases e:spW7.filter (λn=>!decide (n∈us)) with
      | nil =>
       have h:∀ x∈spW7,x∈L2.nms ts:=λx hx=>by
        have:=fz.mp e x hx
        exact mem_nms.mpr ((um x).mp (by simpa using this))
       have:=spW7_nd.length_le_of_subset h
       have l:spW7.length=13:=rfl
       have:=hC.nms
       omega
      | cons w us=>exact Nat.succ_pos _
     have hlw2:=br (λn=>!decide (n∈us)) spW7;have l13:spW7.length=13:=rfl;generalize spW7.filter (λn=>!decide (n∈us))=W at hw hlw hlw2;refine⟨_,rfl,a,((W.map D.str).length:Nat),n + 20,rfl,G.eq (ho2 a (b8 hna)),by omega,by rw[af];omega,by rw[af];omega,λr S3 r0 r1 I dk3=>?_⟩
     rw[af] at r1;obtain⟨k,rfl⟩:∃ k:Nat,r=k:=⟨r.toNat,by omega⟩
     have kl:k < W.length:=by omega
     refine⟨_,_,rfl,aXd (by rw[aF,ah kl];rfl),?_⟩
     have hw1:=hw _ (cS kl);generalize W[k]=w at hw1;have hpa:p≠a:=by
      rintro rfl;obtain⟨g,m,t,e,_⟩:=dk;rw[hSp] at e;cases e
     have hf3:S3 p=some (.lst (fs.map tupS)):=(I p hpa).trans ((ho2 p (b8 hnpp)).trans hf);refine⟨_,hf3,aZ6 (λk acc S'=>acc=((fs.take k).map λc=>srS (c++[w])).map tupS/\S'=S3) ⟨rfl,rfl⟩ ?_ ?_⟩
     ·rintro k x acc S' N hx ⟨rfl,rfl⟩ hN;rw[aF,a6] at hx;obtain⟨c,hx,rfl⟩:=hx;have c12:=(J c (ak hx)).2.1;have kl:=(aA.mp hx).1;refine⟨hf3,z9999 (by show 1<=9999;decide),z9999 (by rw[af];show c.length + 1<=_;omega),.inl ⟨c++[w],(by show _=_;rw[aO];rfl),_,rfl,z9999 (by rw[af,af,aK];omega),hN _ _ ⟨?_,rfl⟩⟩⟩
      rw[bT,hx,aO,aO];rfl
     ·rintro acc S' ⟨rfl,rfl⟩;rw[af,cv];refine⟨hf3,_,_,hf3,rfl,z9999 (by rw[af,af,af];omega),?_⟩
      have e:fs.map tupS++(fs.map λc=>srS (c++[w])).map tupS=(fs++fs.map λc=>srS (c++[w])).map tupS:=by rw[aO]
      show rtD Q _ _;rw[e];refine bZj (S':=λc=>if c=a then S' c else S c) (λc o e=>?_) (q _ _ (by rw[aq,af];omega) (λc hc=>?_) (λc hc=>if_neg hc) ((dk3.eq (if_pos rfl)).mono (by omega)))
      ·by_cases z:c=a
       ·rw[if_pos z] at e;exact e
       ·rw[if_neg z] at e;have e1:=ho _ _ z e;have nn:c≠np:=by rintro rfl;rw[hnp] at e1;cases e1
        rw[I c z,ho2 c nn];exact e1
      ·rcases aN.mp hc with h | h
       ·obtain⟨h1,h2,_⟩:=J c h;exact⟨h1,by omega⟩
       ·obtain⟨d,hd,rfl⟩:=bD.mp h;obtain⟨h1,h2,h3⟩:=J d hd;refine⟨bJh (dq.mpr ⟨h1.nodup,by simp,λx hx y hy z=>?_⟩),by rw[(aZt _).length_eq,aq];show _ + 1<=_;omega⟩
        rw[aI.mp hy] at z;rw[z] at hx;exact hw1 (h3 w hx)
end
end Toy
namespace L2
open PySem PySem.Spec PyProof.Rows
section
variable {prog:aC} {w:aR} {A:a7} {E:ae->ai->Prop} {s:ai} {z ti to j1 j2 t1 t2:Addr} {m:Nat} {us vs:Array ae} {p q:ae}
theorem eX8 {u v:ae} {R:ae->ai->Prop} (ap:ZipApart z ti to j1 j2 t1 t2) (g:iH s.heap z ti to .none) (gi:ff s.heap ti (.ref j1) (.ref j2)) (go:ff s.heap to p q)
  (e1:s.heap.IsTupleIter j1 t1 m) (e2:s.heap.IsTupleIter j2 t2 m) (b1:s.heap.IsTuple t1 us) (b2:s.heap.IsTuple t2 vs) (hu:us[m]?=some u) (hv:vs[m]?=some v)
  (k:∀ h',iH h' z ti to (eR s.heap.objs.size)->ff h' to u v->h'.IsTupleIter j1 t1 (m + 1)->h'.IsTupleIter j2 t2 (m + 1)->ff h' s.heap.objs.size u v ->
   (∀ c o,c≠z->c≠to->c≠j1->c≠j2->s.heap.get? c=some o->h'.get? c=some o)->R (.ref s.heap.objs.size) { s with heap:=h' }) :
  aE (aJ prog w) A (b4.«zip.__next__» ⟨[.ref z],[]⟩) (λf s'=>∃ y,f=.done (.ret y)/\R y s') E s:=by
 refine aa (m:=field (.ref z) 2) (cj g rfl (x:=.bool false) rfl (aa (m:=field (.ref z) 3) (cj g rfl (x:=.ref ti) rfl (aa (cP gi rfl ?_)))));refine aa (m:=dw (.ref z)) ?_;unfold dw;refine aa (cj g rfl (x:=.none) rfl (ad ?_));simp only[if_true];refine aa (dN (aa (cj g rfl (x:=.ref to) rfl (aa (bd g (by simp) λha ga sa=>?_)))))
 have ga':iH ha z ti to .ellipsis:=ga;refine aa ?_;simp only[jR,List.zipIdx_nil,cZ,fR];refine aa (aa (iu (aa (m:=cM (.ref j1)) (bZ9 (e1.extBut sa.extBut ap.i1z) (b1.extBut sa.extBut ap.l1z) hu λhb eb j=>ad ?_))));have ob:ff hb to p q:=j.extBut _ _ ap.TOi1 (sa.extBut _ _ ap.TOz go);refine aa (cP ob rfl (aa (iy ob λhc oc sc=>aa (wpAny_letGo (ad ?_)))));have O:ff hc to u q:=oc;refine aa (aa (iu (aa (m:=cM (.ref j2)) (bZ9 (((e2.extBut sa.extBut ap.i2z).extBut j.extBut ap.i12.symm).extBut sc.extBut ap.TOi2.symm) (((b2.extBut sa.extBut ap.l2z).extBut j.extBut ap.l2i1).extBut sc.extBut ap.l2TO) hv λhd ed sd=>ad ?_))));have od:ff hd to u q:=sd.extBut _ _ ap.TOi2 O;refine aa (cP od rfl (aa (iy od λhe oe B=>aa (wpAny_letGo (ad (ad ?_))))));have D:ff he to u v:=oe;refine aa (cP D rfl (aa (wpAny_newTuple ?_)));have size:he.objs.size=s.heap.objs.size:=B.1.trans (sd.1.trans (sc.1.trans (j.1.trans sa.1)));have ge:iH he z ti to .ellipsis:=B.extBut _ _ ap.TOz.symm (sd.extBut _ _ ap.i2z.symm (sc.extBut _ _ ap.TOz.symm (j.extBut _ _ ap.i1z.symm ga')));have stay:∀ c o,c≠z->c≠to->c≠j1->c≠j2->s.heap.get? c=some o->he.get? c=some o:=λc o J I Y U x=>B.extBut _ _ I (sd.extBut _ _ U (sc.extBut _ _ I (j.extBut _ _ Y (sa.extBut _ _ J x))));have f1:he.IsTupleIter j1 t1 (m + 1):=((eb.extBut sc.extBut ap.TOi1.symm).extBut sd.extBut ap.i12).extBut B.extBut ap.TOi1.symm;have f2:he.IsTupleIter j2 t2 (m + 1):=ed.extBut B.extBut ap.TOi2.symm;have zl:z < he.objs.size:=ay ge;refine aa (m:=gc (.ref z) (.ref he.objs.size)) ?_;unfold gc;have gf:iH (he.push { cls:=.type "tuple",data:=.seq #[u,v] }) z ti to .ellipsis:=ag _ ge;refine aa (bd gf (by simp) λhg gg sg=>?_)
 have Z:iH hg z ti to (eR he.objs.size):=gg;refine bd Z (by simp) λL gh sh=>?_
 have G:iH L z ti to (eR he.objs.size):=gh;have lift:∀ c o,c≠z->he.get? c=some o->L.get? c=some o:=λc o n x=>sh.extBut _ _ n (sg.extBut _ _ n (ag _ x));have new:ff L he.objs.size u v:=sh.extBut _ _ (Nat.ne_of_gt zl) (sg.extBut _ _ (Nat.ne_of_gt zl) (au _ rfl));rw[size] at G new;refine ad ⟨_,rfl,?_⟩;show R (.ref he.objs.size) _;rw[size];exact k L G (lift _ _ ap.TOz D) (f1.at λo x=>lift _ o ap.i1z x) (f2.at λo x=>lift _ o ap.i2z x) new λc o J I Y U x=>lift c o J (stay c o J I Y U x)
theorem fX6 {R:Fin->ai->Prop} (hh:A.handled=none) (ap:ZipApart z ti to j1 j2 t1 t2) (g:iH s.heap z ti to .none) (gi:ff s.heap ti (.ref j1) (.ref j2)) (go:ff s.heap to p q)
  (e1:s.heap.IsTupleIter j1 t1 m) (e2:s.heap.IsTupleIter j2 t2 m) (b1:s.heap.IsTuple t1 us) (b2:s.heap.IsTuple t2 vs) (no:us[m]?=none\/vs[m]?=none)
  (k:∀ h' e,(∀ c o,c≠z->c≠to->c≠j1->c≠j2->s.heap.get? c=some o->h'.get? c=some o)->(∃ o,h'.get? e=some o/\o.cls=.type "StopIteration")->E (.ref e) { s with heap:=h' }) :
  aE (aJ prog w) A (b4.«zip.__next__» ⟨[.ref z],[]⟩) R E s:=by
 refine aa (m:=field (.ref z) 2) (cj g rfl (x:=.bool false) rfl (aa (m:=field (.ref z) 3) (cj g rfl (x:=.ref ti) rfl (aa (cP gi rfl ?_)))));refine aa (m:=dw (.ref z)) ?_;unfold dw;refine aa (cj g rfl (x:=.none) rfl (ad ?_));simp only[if_true];refine aa (dN (aa (cj g rfl (x:=.ref to) rfl (aa (bd g (by simp) λha ga sa=>?_)))))
 have I:iH ha z ti to .ellipsis:=ga;refine aa ?_;simp only[jR,List.zipIdx_nil,cZ,fR];have last:∀ (h2:bf) (e:Addr),iH h2 z ti to .ellipsis->(∀ c o,c≠z->c≠to->c≠j1->c≠j2->s.heap.get? c=some o->h2.get? c=some o)->(∃ o,h2.get? e=some o/\o.cls=.type "StopIteration")->∀ L,c8 z h2 L->E (.ref e) { s with heap:=L }:=λh2 e g2 st ⟨o,ho,G⟩ L s3 =>
  have ne:e≠z:=λx=>by subst x;rw[g2] at ho;cases ho;simp at G
  k L e (λc o B U D O x=>s3.extBut _ _ B (st c o B U D O x)) ⟨o,s3.extBut _ _ ne ho,G⟩
 cases hu:us[m]? with
 | none =>
  refine aa (aa (iu (aa (m:=cM (.ref j1)) (cQa hh (e1.extBut sa.extBut ap.i1z) (b1.extBut sa.extBut ap.l1z) hu λJ e j ex=>?_))));have Z:iH J z ti to .ellipsis:=j _ _ ap.i1z.symm I;exact bd Z (by simp) λG _ sc=>last J e Z (λc o B _ D _ x=>j _ _ D (sa.extBut _ _ B x)) ex G sc
 | some u =>
  have hv:vs[m]?=none:=no.elim (λx=>by rw[hu] at x;cases x) id
  refine aa (aa (iu (aa (m:=cM (.ref j1)) (bZ9 (e1.extBut sa.extBut ap.i1z) (b1.extBut sa.extBut ap.l1z) hu λJ eb j=>ad ?_))));have Y:ff J to p q:=j.extBut _ _ ap.TOi1 (sa.extBut _ _ ap.TOz go);refine aa (cP Y rfl (aa (iy Y λG oc sc=>aa (wpAny_letGo (ad ?_)))));refine aa (aa (iu (aa (m:=cM (.ref j2)) (cQa hh (((e2.extBut sa.extBut ap.i2z).extBut j.extBut ap.i12.symm).extBut sc.extBut ap.TOi2.symm) (((b2.extBut sa.extBut ap.l2z).extBut j.extBut ap.l2i1).extBut sc.extBut ap.l2TO) hv λhd e sd ex=>?_))));have gd:iH hd z ti to .ellipsis:=sd _ _ ap.i2z.symm (sc.extBut _ _ ap.TOz.symm (j.extBut _ _ ap.i1z.symm I));exact bd gd (by simp) λhe _ se=>last hd e gd (λc o B U D O x=>sd _ _ O (sc.extBut _ _ U (j.extBut _ _ D (sa.extBut _ _ B x)))) ex he se
theorem eX9 {u v:ae} {R:Option ae->ai->Prop} (ap:ZipApart z ti to j1 j2 t1 t2) (g:iH s.heap z ti to .none) (gi:ff s.heap ti (.ref j1) (.ref j2)) (go:ff s.heap to p q)
  (e1:s.heap.IsTupleIter j1 t1 m) (e2:s.heap.IsTupleIter j2 t2 m) (b1:s.heap.IsTuple t1 us) (b2:s.heap.IsTuple t2 vs) (hu:us[m]?=some u) (hv:vs[m]?=some v)
  (k:∀ h',iH h' z ti to (eR s.heap.objs.size)->ff h' to u v->h'.IsTupleIter j1 t1 (m + 1)->h'.IsTupleIter j2 t2 (m + 1)->ff h' s.heap.objs.size u v ->
   (∀ c o,c≠z->c≠to->c≠j1->c≠j2->s.heap.get? c=some o->h'.get? c=some o)->R (some (.ref s.heap.objs.size)) { s with heap:=h' }):aE (aJ prog w) A (fh (.ref z)) R E s:=by
 have ty:s.TypeIs (.ref z) "zip":=⟨_,g,rfl⟩;exact aa (fc (bK (name:=aG "__next__") ty F.slot_zip_next (bI F.slot_zip_next ty F.entry_zip_next (eX8 ap g gi go e1 e2 b1 b2 hu hv λh' J I G D B j=>ad (k h' J I G D B j)) (F.args_zip_next_1 _))))
theorem eXa {R:Option ae->ai->Prop} (hh:A.handled=none) (ap:ZipApart z ti to j1 j2 t1 t2) (g:iH s.heap z ti to .none) (gi:ff s.heap ti (.ref j1) (.ref j2)) (go:ff s.heap to p q)
  (e1:s.heap.IsTupleIter j1 t1 m) (e2:s.heap.IsTupleIter j2 t2 m) (b1:s.heap.IsTuple t1 us) (b2:s.heap.IsTuple t2 vs) (no:us[m]?=none\/vs[m]?=none)
  (k:∀ h',(∀ c o,c≠z->c≠to->c≠j1->c≠j2->s.heap.get? c=some o->h'.get? c=some o)->R none { s with heap:=h' }):aE (aJ prog w) A (fh (.ref z)) R E s:=by
 have ty:s.TypeIs (.ref z) "zip":=⟨_,g,rfl⟩;refine aa (fc (bK (name:=aG "__next__") ty F.slot_zip_next (bI F.slot_zip_next ty F.entry_zip_next (fX6 hh ap g gi go e1 e2 b1 b2 no λh' e st ⟨o,j,B⟩=>?_) (F.args_zip_next_1 _))));exact aa (fk (T := "StopIteration") (b:=true) ⟨o,j,B⟩ i7 (ad (k _ st)))
abbrev tiO (t:Addr):Obj:={ cls:=.type "tuple_iterator",data:=.fields #[.ref t,.int 0 0] }
abbrev zt2 (h:bf) (a b:Addr):bf:=(h.push (tiO a)).push (tiO b)
abbrev zt3 (h:bf) (a b:Addr):bf:=(zt2 h a b).push { cls:=.type "tuple",data:=.seq #[.ref h.objs.size,.ref (h.push (tiO a)).objs.size] }
abbrev zt4 (h:bf) (a b:Addr):bf:=(zt3 h a b).push { cls:=.type "tuple",data:=.seq #[.none,.none] }
abbrev zt5 (h:bf) (a b:Addr):bf:=(zt4 h a b).push { cls:=.type "zip",data:=.fields #[.none,.bool false,.bool false,.ref (zt2 h a b).objs.size,.ref (zt3 h a b).objs.size] }
theorem fX7 (a b:Addr) (us vs:Array ae):Meets (b4.«zip.__new__» ⟨[.type "zip",.ref a,.ref b],[]⟩) (λ_ R s=>(s.heap.IsTuple a us/\s.heap.IsTuple b vs)/\R (.ok (.ret (.ref (zt4 s.heap a b).objs.size))) { s with heap:=zt5 s.heap a b }) :=
 .of_wp λprog w A R s G=>by
  obtain⟨⟨O,L⟩,k⟩:=G;obtain⟨B,g,d,j,os⟩:=s;have D:=sub_zip;have J:j9 (ai.heap ⟨B,g,d,j,os⟩) a us:=O;have I:j9 (ai.heap ⟨B.push (tiO a),g,d,j,os⟩) b vs:=j9.at L λo x=>ag _ x
  wp_walk using eN J,eN I
  exact⟨_,rfl,k⟩
theorem eXb {a b:Addr} {R:ae->ai->Prop} (b1:s.heap.IsTuple a us) (b2:s.heap.IsTuple b vs)
  (k:∀ h',iH h' (s.heap.objs.size + 4) (s.heap.objs.size + 2) (s.heap.objs.size + 3) .none->ff h' (s.heap.objs.size + 2) (.ref s.heap.objs.size) (.ref (s.heap.objs.size + 1))->ff h' (s.heap.objs.size + 3) .none .none ->
   h'.IsTupleIter s.heap.objs.size a 0->h'.IsTupleIter (s.heap.objs.size + 1) b 0->(∀ c o,s.heap.get? c=some o->h'.get? c=some o)->R (.ref (s.heap.objs.size + 4)) { s with heap:=h' }):aE (aJ prog w) A (call (.type "zip") [.ref a,.ref b]) R E s:=by
 refine callType_new F.called_zip (by decide) (F.typeCall_zip_2 _ _) (F.newCall_zip_2 _ _) (λobj=>F.args_object_init_3 obj _ _) F.entry_zip_new (fX7 a b us vs) ⟨⟨b1,b2⟩,?_⟩
 have up:∀ {h:bf} {o:Obj} {c:Addr} {x:Obj},h.get? c=some x->(h.push o).get? c=some x:=λx=>ag _ x;have s1:(s.heap.push (tiO a)).objs.size=s.heap.objs.size + 1:=b5 ..;have s2:(zt2 s.heap a b).objs.size=s.heap.objs.size + 2:=by rw[b5,s1]
 have s3:(zt3 s.heap a b).objs.size=s.heap.objs.size + 3:=by rw[b5,s2]
 have s4:(zt4 s.heap a b).objs.size=s.heap.objs.size + 4:=by rw[b5,s3]
 have j:(zt5 s.heap a b).get? (zt4 s.heap a b).objs.size=some _:=au _ rfl;have B:(zt5 s.heap a b).get? (zt3 s.heap a b).objs.size=some _:=up (au _ rfl);have D:(zt5 s.heap a b).get? (zt2 s.heap a b).objs.size=some _:=up (up (au _ rfl));have G:(zt5 s.heap a b).get? (s.heap.push (tiO a)).objs.size=some _:=up (up (up (au _ rfl)));have I:(zt5 s.heap a b).get? s.heap.objs.size=some _:=up (up (up (up (au _ rfl))));show _/\_;rw[s2,s3,s4] at j;rw[s1,s2] at D;rw[s3] at B;rw[s1] at G;rw[s4];exact⟨⟨_,j,rfl⟩,k _ j D B ⟨_,I,rfl,rfl⟩ ⟨_,G,rfl,rfl⟩ λc o x=>up (up (up (up (up x))))⟩
end
def ItzT (K:Fg) (a b:Addr):It:=⟨λi H=>∃ xs ys x y,SqT K H a xs/\SqT K H b ys/\xs[i]?=some x/\ys[i]?=some y,λi H x H'=>∃ p y z,H p=none/\x=.ref p/\H'=upd H p (.tup [y,z])/\(∀ xs,SqT K H a xs->xs[i]?=some y)/\∀ ys,SqT K H b ys->ys[i]?=some z,
 λi H=>∃ xs ys,SqT K H a xs/\SqT K H b ys/\(xs.length<=i\/ys.length<=i)⟩
def zstT (z TI TO i1 i2 a b:Addr) (i:Nat) (h:bf):Prop:=iH h z TI TO .none/\ff h TI (.ref i1) (.ref i2)/\(∃ u v,ff h TO u v)/\h.IsTupleIter i1 a i/\h.IsTupleIter i2 b i
theorem cZ8 {z TI TO i1 i2 a b c:Addr} {i:Nat} {h:bf} (st:zstT z TI TO i1 i2 a b i h) (hc:c∈[z,TI,TO,i1,i2]):∃ o,h.get? c=some o/\∀ v,o.data≠.cell v:=by
 obtain⟨J,I,⟨u,v,G⟩,⟨U,B,O,D⟩,⟨R,j,L,hd2⟩⟩:=st;simp only[aB,db,or_false] at hc;rcases hc with rfl | rfl | rfl | rfl | rfl
 ·exact⟨_,J,λv z=>by cases z⟩
 ·exact⟨_,I,λv z=>by cases z⟩
 ·exact⟨_,G,λv z=>by cases z⟩
 ·exact⟨_,B,λv z=>by rw[D] at z;cases z⟩
 ·exact⟨_,j,λv z=>by rw[hd2] at z;cases z⟩
theorem dQf {P:aC} {w:aR} {K:Fg} {elts:List Expr} {x1:Nat} {pos:Pos} (z TI TO i1 i2 a b:Addr) (D:ZipApart z TI TO i1 i2 a b):Turn P w K (.Tuple elts x1 pos) (ItzT K a b) [z,TI,TO,i1,i2] z (zstT z TI TO i1 i2 a b) where
 mem:=by simp
 obj:=λi h st c U=>cZ8 st U
 keep:=λi h h' st k=>by
  obtain⟨hz,L,⟨u,v,R⟩,⟨o1,ho1,r1⟩,⟨o2,ho2,r2⟩⟩:=st;exact⟨k z (by simp) _ hz,k TI (by simp) _ L,⟨u,v,k TO (by simp) _ R⟩,⟨o1,k i1 (by simp) _ ho1,r1⟩,⟨o2,k i2 (by simp) _ ho2,r2⟩⟩
 item:=by
  intro X hP hw hK U i pins s σ H E I hf st hg;subst hP hw hK;have sto:=λc U=>cZ8 (c:=c) st U;obtain⟨xs,ys,x,y,Z,Y,hx,hy⟩:=hg;obtain⟨its,rv,p1,hz1⟩:=I.tuple Z;obtain⟨jts,rw',p2,hz2⟩:=I.tuple Y;obtain⟨u,hu,ru⟩:=rv.get hx;obtain⟨v,hv,rv'⟩:=rw'.get hy;obtain⟨hz,L,⟨t1,t2,R⟩,st1,st2⟩:=st;refine eX9 D hz L R st1 st2 p1 p2 (by simpa using hu) (by simpa using hv) λh' a1 a2 a3 a4 a5 hk=>⟨_,rfl,?_⟩
  refine wpAny_letOwnedTupleGo_zip a1 λh2 hz2' J=>?_;have O:∀ c o,c∉[z,TI,TO,i1,i2]->s.heap.get? c=some o->h2.get? c=some o:=λc o n g=>(J.2 c (by simp at n;exact n.1)).trans (hk c o (by simp at n;exact n.1) (by simp at n;exact n.2.2.1) (by simp at n;exact n.2.2.2.1) (by simp at n;exact n.2.2.2.2) g)
  have hzl:z < s.heap.objs.size:=ay hz;have j:H s.heap.objs.size=none:=I.hok.fresh (Nat.le_refl _);have nT:∀ c o,s.heap.get? c=some o->c≠s.heap.objs.size:=λc o g=>Nat.ne_of_lt (ay g);have nH:∀ c u,H c=some u->c∉[z,TI,TO,i1,i2]:=λc u g U=>by have:=(hf c U).1;rw[g] at this;cases this
  have tupT:h2.get? s.heap.objs.size=some { cls:=.type "tuple",data:=.seq #[u,v] }:=(J.2 _ (Nat.ne_of_gt hzl)).trans a5;have hok:HOk X.prog X.w (upd H s.heap.objs.size (.tup [x,y])) h2:=λc ob g=>by
   by_cases B:c=s.heap.objs.size
   ·subst B;rw[aQa] at g;cases g;refine⟨by rw[bh];show 2<=_;decide,[u,v],.cons ru (.cons rv' .nil),⟨_,tupT,rfl,0,rfl⟩,λo e=>by rw[tupT] at e;cases e;rfl⟩
   ·rw[upd_ne B] at g;refine(I.hok c ob g).stay (λe w' G q=>?_) (λe q=>?_) λe ys q=>?_
    ·rcases G with rfl | G
     ·exact O _ _ (nH _ _ g) q
     ·exact O _ _ (nH _ _ G) q
    ·rw[upd_ne (aQ6 q j)];exact q
    ·rw[upd_ne (aQ6 q j)];exact q
  have un:Un (frs X.stack) [z,TI,TO,i1,i2] H (upd H s.heap.objs.size (.tup [x,y])) s.heap h2 :=
   ⟨λc o g _ _ B=>O c o B g,λc o g _ _ B=>⟨o.slots,O c o B g⟩,λc o g n _=>by rw[upd_ne (nT c o g)];exact n,λc o g B=>⟨o,O c o B g⟩,
    λc ys g=>by rw[upd_ne (aQ6 g j)];exact g,λc o v g=>by rw[upd_ne (aQ6 g j)];exact g,λc ps g=>⟨#[],by rw[upd_ne (aQ6 g j),g];simp⟩⟩
  have I2:Inv X pins σ (upd H s.heap.objs.size (.tup [x,y])) { s with heap:=h2 }:=I.call' (s':={ s with heap:=h2 }) rfl un hok I.bare λc B=>by
   have fe:=hf c B;exact⟨fe.2.2.2.1,fe.2.1,fe.2.2.2.2.1,fe.2.2.2.2.2⟩
  refine⟨.ref s.heap.objs.size,_,I2,rfl,⟨_,x,y,j,rfl,rfl,λys hy=>by rw[I.tuple_inj hy Z];exact hx,λys hy'=>by rw[I.tuple_inj hy' Y];exact hy⟩,⟨hz2',?_,⟨u,v,?_⟩,?_,?_⟩,λc B=>?_⟩
  ·exact(J.2 TI D.TIz).trans (hk TI _ D.TIz D.TITO D.TIi1 D.TIi2 L)
  ·exact(J.2 TO D.TOz).trans a2
  ·obtain⟨o,g,r⟩:=a3;exact⟨o,(J.2 i1 D.i1z).trans g,r⟩
  ·obtain⟨o,g,r⟩:=a4;exact⟨o,(J.2 i2 D.i2z).trans g,r⟩
  ·obtain⟨o,g,_⟩:=sto c B;rw[upd_ne (Nat.ne_of_lt (ay g))];exact(hf c B).1
 done:=by
  intro X hP hw hK U i pins s σ H E I hf st hg;subst hP hw hK;obtain⟨xs,ys,Z,Y,hx⟩:=hg;obtain⟨its,rv,p1,hz1⟩:=I.tuple Z;obtain⟨jts,rw',p2,hz2⟩:=I.tuple Y;obtain⟨hz,L,⟨t1,t2,R⟩,st1,st2⟩:=st;have hh:X.A.in1.handled=none:=by have:=I.ok.hd U;simp[this]
  have l1:=rv.length;have l2:=rw'.length;refine eXa (hh) D hz L R st1 st2 p1 p2 (by rcases hx with h | h;exact .inl (by simp;omega);exact .inr (by simp;omega)) λh' hk=>⟨rfl,?_⟩
  have O:∀ c o,c∉[z,TI,TO,i1,i2]->s.heap.get? c=some o->h'.get? c=some o:=λc o n g=>hk c o (by simp at n;exact n.1) (by simp at n;exact n.2.2.1) (by simp at n;exact n.2.2.2.1) (by simp at n;exact n.2.2.2.2) g
  have nH:∀ c u,H c=some u->c∉[z,TI,TO,i1,i2]:=λc u g U=>by have:=(hf c U).1;rw[g] at this;cases this
  have hok:HOk X.prog X.w H h':=λc ob g=>(I.hok c ob g).stay (λe w' G q=>by
    rcases G with rfl | G
    ·exact O _ _ (nH _ _ g) q
    ·exact O _ _ (nH _ _ G) q) (λe q=>q) λe ys q=>q
  have un:Un (frs X.stack) [z,TI,TO,i1,i2] H H s.heap h' :=
   ⟨λc o g _ _ B=>O c o B g,λc o g _ _ B=>⟨o.slots,O c o B g⟩,λc o g n _=>n,λc o g B=>⟨o,O c o B g⟩,λc ys g=>g,λc o v g=>g,λc ps g=>⟨#[],by rw[g];simp⟩⟩
  exact I.call' (s':={ s with heap:=h' }) rfl un hok I.bare λc B=>by
   have fe:=hf c B;exact⟨fe.2.2.2.1,fe.2.1,fe.2.2.2.2.1,fe.2.2.2.2.2⟩
 self:=λA i s Q E st h=>wpAny_pyIter_zip st.1 h
section
variable {X:Cx}
def gQ0 (K:Fg) (ta:TA):TI:=fun σ H R=>ta σ H λvs H1=>∃ a b,vs=[.ref a,.ref b]/\(∃ xs,SqT K H1 a xs)/\(∃ ys,SqT K H1 b ys)/\R (ItzT K a b) H1
theorem eXc {e f:Expr} {ta:TA} {p pos:Pos} {elts:List Expr} {x1:Nat} {tpos:Pos} {K:Fg} (hg:Gl X "zip") (hm:X.mg "zip" = none) (ha:PA X [e,f] ta) (hs:av [e,f] X.env=[(false,eval e X.env),(false,eval f X.env)]:=by rfl) (hs2:av [f] X.env=[(false,eval f X.env)]:=by rfl) (hK:X.K=K:=by rfl) :
  PI X (.Tuple elts x1 tpos) (.Call (.Name "zip" p) [e,f] [] pos) (gQ0 K ta):=by
 subst hK;intro pins s σ H R I h;refine Call_ (ld_blt I hg hm PyProof.Rows.boot_zip (cT (thn (ha pos pins s σ H _ I h) λus s1 ⟨vs,H1,B,r1,q1⟩=>?_) (by rw[hs,hs2]) (by rw[hs2];rfl)))
 obtain⟨a,b,rfl,⟨xs,J⟩,⟨ys,G⟩,q⟩:=q1;cases r1 with
 | cons r rr =>
  cases rr with
  | cons r' rr =>
   cases rr;cases r;cases r';obtain⟨its,rv,pl,D⟩:=B.tuple J;obtain⟨jts,rw',j,hz'⟩:=B.tuple G;have O:a < s1.heap.objs.size:=by obtain⟨o,e,_⟩:=id pl;exact ay e
   have L:b < s1.heap.objs.size:=by obtain⟨o,e,_⟩:=id j;exact ay e
   refine eXb pl j λh' D Y U h1 h2 hk=>wpAny_pyIter_zip D ?_;refine⟨s1.heap.objs.size + 4,[s1.heap.objs.size + 4,s1.heap.objs.size + 2,s1.heap.objs.size + 3,s1.heap.objs.size,s1.heap.objs.size + 1],_,_,H1,rfl,B.kept (t':=s1.toks) hk,dQf _ (s1.heap.objs.size + 2) (s1.heap.objs.size + 3) s1.heap.objs.size (s1.heap.objs.size + 1) a b ?_,⟨D,Y,⟨_,_,U⟩,h1,h2⟩,λc hb=>?_,q⟩
   ·exact zipApart_new O L
   ·have Z:s1.heap.objs.size<=c:=by
     simp only[aB,db,or_false] at hb;rcases hb with rfl | rfl | rfl | rfl | rfl
     ·exact Nat.le_add_right _ _
     ·exact Nat.le_add_right _ _
     ·exact Nat.le_add_right _ _
     ·exact Nat.le_refl _
     ·exact Nat.le_add_right _ _
    exact B.fpOk Z (B.hok.fresh Z)
end
section
variable {X:Cx} {K:Fg} {pos:Pos}
theorem dX0 {F:Am} {S:Sto} {H:Hp} {p q:Addr} {xs ys:List D} {us vs:List V} {G:Sto->Prop} (t:TupAt K (mt S F) H p us) (l:RepL K (mt S F) H xs us) (t':TupAt K (mt S F) H q vs) (l':RepL K (mt S F) H ys vs):ItOk K F S H (ItzT K p q) (zipD xs ys) G where
 go:=λZ f Y H2 x I _ i d hd=>by
  obtain⟨e1,e2,h1,h2,rfl⟩:=bZm xs ys i d hd;obtain⟨v1,g1,B⟩:=l.get h1;obtain⟨v2,g2,j⟩:=l'.get h2;have s1:SqT K H2 p us:=(t.keep (x.kpF f)).sq;have s2:SqT K H2 q vs:=(t'.keep (x.kpF f)).sq;refine⟨⟨us,vs,v1,v2,s1,s2,g1,g2⟩,λz H3 ⟨b,y,y',O,R,U,L,J⟩=>?_⟩;subst R;subst U
  have:=L us s1
  rw[g1] at this;cases this
  have:=J vs s2
  rw[g2] at this;cases this;exact cQs I O (B.keep (x.kpF f)) (j.keep (x.kpF f))
 stop:=λZ f Y H2 x I _=>⟨us,vs,(t.keep (x.kpF f)).sq,(t'.keep (x.kpF f)).sq,by rw[cQr,l.length,l'.length];omega⟩
def gQ1 (ta:AD):ID:=fun Γ S Q=>ta Γ S λds S1=>match ds with
 | [.tup xs,.tup ys]=>Q (zipD xs ys) (λ_=>True) S1
 | _=>False
theorem eXd {e f:Expr} {ta:AD} {p:Pos} {elts:List Expr} {x1:Nat} {tpos:Pos} (hg:Gl X "zip") (hm:X.mg "zip" = none) (ha:PAD K X [e,f] ta) (hs:av [e,f] X.env=[(false,eval e X.env),(false,eval f X.env)]:=by rfl) (hs2:av [f] X.env=[(false,eval f X.env)]:=by rfl) (hK:X.K=K:=by rfl) :
  PID K X (.Tuple elts x1 tpos) (.Call (.Name "zip" p) [e,f] [] pos) (gQ1 ta):=.of (eXc hg hm ha.o hs hs2 hK) fun σ H Q J=>J.el λF S Γ QD r g q c =>
 ⟨F,S,Γ,_,r,g,q,λvs ds H1 R x1 L v1 D=>by
  match ds,D with
  | [.tup xs,.tup ys],D =>
   obtain⟨v,w,rfl,I,j⟩:=v1.two;unfold RepV at I j;obtain⟨p,us,rfl,t,l⟩:=I;obtain⟨q,B,rfl,G,O⟩:=j;exact⟨p,q,rfl,⟨us,t.sq⟩,⟨B,G.sq⟩,c _ _ _ _ _ x1 L (dX0 t l G O) D⟩⟩
end
end L2
namespace Toy
open PySem L2
abbrev s_law_same:Stmt:=top 16
theorem sc_law_same:FnScope ["found", "due"] ["found", "due"] (aQ8 s_law_same):=fsc
def trD:Nat->D->Prop
 | _,.non=>True
 | _,.str _=>True
 | _,.int _=>True
 | n + 1,.tup xs=>xs.length<=9999/\∀ x∈xs,trD n x
 | _,_=>False
def bZt (n:Nat):SpD:=λds S Q=>∃ (m:Nat) (d:D),ds=[d,d]/\m < n/\m<=6/\trD m d/\Q (.bl true) S
def bQ8:SpD:=bZt 7
section
variable {P:aC} {w:aR} {K:az} {mg:Str->Option ae} {base:bf} {pt cc:Addr}
theorem dQg {k n:Nat} (T:Tx K mg "_law_same" s_law_same) (B:Bs mg) (d_law_same:Df P w K mg base k "_law_same" ["found", "due"] (spU K (bZt n))):Df P w K mg base (k + 1) "_law_same" ["found", "due"] (spU K (bZt (n + 1))):=by
 refine aXk T sc_law_same (λF=>F.binds λ_ _ _ _ _ _=>us2 λ_ _=>rfl) ?_ λf O A outer s H E D=>⟨_,(aQ2 (aXt (fJd D (dv 1) fQh) (aQ4 (aQq (e_is D (dv 0) fQh))) aZ1)
  (aQ2 (aXt (aJg (cZq rfl B.isinstance (aQ0 (dv 1) (aQ0 (e_ty rfl B.tuple bZ0) aQ1)))) (aQ2 (aXt (PWD.pt (fJh (cQj (aJg (cZq rfl B.isinstance (aQ0 (dv 0) (aQ0 (e_ty rfl B.tuple bZ0) aQ1))))) (fQu (eQt D (aZx rfl B.len (aQ0 (dv 0) aQ1)) (aZx rfl B.len (aQ0 (dv 1) aQ1)))))) (aQ4 (aQq e_bl)) aZ1)
  (aQ4 (aQq (e_eq D (aQw (N':=["one", "other"]) (oc:=none) (b:=false) [0,1] [] rfl sc_law_same.nd (λ_ _ _=>aQc _ _ _ _ _ _ _ _ _) (.own (.own .nil)) (aQg rfl) (eXd rfl B.zip (aQ0 (dv 0) (aQ0 (dv 1) aQ1))) (bQ2 (i:=0) (j:=1)) (λ_ _ _ _ _=>aJc rfl (aQj (aQb (i:=0) (nd_ ["one", "other"]) rfl (aW rfl) (.inr rfl)) (aQj (aQb (i:=1) (nd_ ["one", "other"]) rfl (aW rfl) (.inr rfl)) aZy))) (λ_ _ _ _ _=>aQu (by exact(cQj (aJg (aQ7 d_law_same D rfl (aQ0 (dv 0) (aQ0 (dv 1) aQ1))))))) aQf (λ_ _ _ _ _ _=>aQe rfl (by exact PD.o aQ5))) (aZj (b:=false) aQ1))))) aZ1)
  (aQ2 (aXt (aJg (cZq rfl B.isinstance (aQ0 (dv 1) (aQ0 (e_ty rfl B.str dXd) aQ1)))) (aQ4 (aQq (eQv (cZq rfl B.isinstance (aQ0 (dv 0) (aQ0 (e_ty rfl B.str dXd) aQ1))) (fQt (e_eq D (dv 0) (dv 1)))))) aZ1)
  (aQ4 (aQq (eQv (cZq rfl B.isinstance (aQ0 (dv 0) (aQ0 (e_ty rfl B.int dXc) aQ1))) (eQv (fJg (cZq rfl B.isinstance (aQ0 (dv 0) (aQ0 (e_ty rfl B.bool dJv) aQ1)))) (fQt (e_eq D (dv 0) (dv 1)))))))))),?_⟩
 ·rintro ds S Q ⟨m,d,rfl,_⟩;rfl
 ·rintro ds S Q ⟨m,d,rfl,hm,R,G,q⟩;cases d with
  | non=>exact⟨_,rfl,ite2 (λ_=>aQn q) λc=>absurd rfl c⟩
  | str x =>
   refine⟨_,rfl,ite2 (λc=>by cases c) λ_=>⟨_,_,rfl,rfl,_,_,rfl,rfl,_,_,rfl,rfl,_,rfl,rfl,?_⟩⟩
   rw[eZx rfl];exact aQn q
  | int i =>
   refine⟨_,rfl,ite2 (λc=>by cases c) λ_=>⟨_,_,rfl,rfl,_,_,rfl,rfl,_,_,rfl,rfl,_,rfl,_,_,rfl,rfl,_,rfl,_,rfl,rfl,?_⟩⟩
   rw[eZx rfl];exact aQn q
  | tup xs =>
   cases m with
   | zero=>exact G.elim
   | succ m =>
    refine⟨_,rfl,ite2 (λc=>by cases c) λ_=>⟨_,_,rfl,rfl,_,_,rfl,rfl,_,rfl,_,rfl,rfl,_,fJz rfl,?_⟩⟩
    refine aZ6 (λ_ acc S'=>acc=[]/\S'=S) ⟨rfl,rfl⟩ ?_ ?_
    ·rintro i x acc S' N J ⟨rfl,rfl⟩ L;obtain⟨y,z,I,hz,rfl⟩:=bZm _ _ _ _ J;rw[I] at hz;cases hz;exact⟨trivial,rfl,rfl,m,y,rfl,by omega,by omega,G.2 y (ak I),L _ _ ⟨rfl,rfl⟩⟩
    ·rintro acc S' ⟨rfl,rfl⟩;exact⟨trivial,z9999 (by decide),rfl,aQn q⟩
  | bl _=>cases m <;> exact G.elim
  | ty _=>cases m <;> exact G.elim
  | ref _=>cases m <;> exact G.elim
  | lst _=>cases m <;> exact G.elim
theorem cZ9 (T:Tx K mg "_law_same" s_law_same) (B:Bs mg):∀ n:Nat,Df P w K mg base (1 + n) "_law_same" ["found", "due"] (spU K (bZt n))
 | 0=>T.df (λF=>F.binds λ_ _ _ _ _ _=>us2 λ_ _=>rfl) λF=>F.ok sc_law_same (λvs H Q E ⟨_,_,_,_,_,_,⟨_,_,_,h,_⟩,_⟩=>absurd h (Nat.not_lt_zero _)) λj A outer s H vs Q G D ⟨_,_,_,_,_,_,⟨_,_,_,h,_⟩,_⟩=>absurd h (Nat.not_lt_zero _)
 | n + 1=>dQg T B (cZ9 T B n)
theorem bJq (T:Tx K mg "_law_same" s_law_same) (B:Bs mg):Df P w K mg base 8 "_law_same" ["found", "due"] (spU K bQ8):=by
 exact cZ9 T B 7
end
abbrev s_has_all:Stmt:=top 1
theorem sc_has_all:FnScope ["one", "row"] ["one", "row"] (aQ8 s_has_all):=fsc
section
variable {P:aC} {w:aR} {K:az} {mg:Str->Option ae} {base:bf} {pt cc:Addr}
theorem cZv (T:Tx K mg "has_all" s_has_all) (B:Bs mg):Df P w K mg base 1 "has_all" ["one", "row"] (spU K bQw):=by
 refine aXk T sc_has_all (λF=>F.binds λ_ _ _ _ _ _=>us2 λ_ _=>rfl) ?_ λf L A outer s H E I=>⟨_,(aQ4 (aQq (fJi rfl B.all (aQ0 (aQw (N':=["name", "one"]) (oc:=none) (b:=false) [0] [] rfl sc_has_all.nd (λ_ _ _=>aQc _ _ _ _ _ _ _ _ _) (.own (.cap (i:=0) rfl (by decide +kernel) .nil)) (aQg rfl) (aZ5 (dv 1)) (cg_name (i:=0)) (λ_ _ _ _ _=>aQb (i:=0) (nd_ ["name", "one"]) rfl (aW rfl) (.inr rfl)) (λ_ _ _ _ _=>aZs) aQf (λ_ _ _ _ _ _=>aQe rfl (by exact PD.o (e_in I (dv 0) (dv 1))))) aQ1)))),?_⟩
 ·rintro ds S Q ⟨α,dα,E,one,row,j,J,rfl,_⟩;rfl
 ·rintro ds S Q ⟨α,dα,E,one,row,j,J,rfl,R,h1,h2,O,q⟩;have go:∀ Q':List D->Sto->Prop,Q' (row.map λd=>D.bl (decide (d∈one))) S->aZl (aQr 0) dYes (aJl (dOp (inD false) (dVar 0) (dVar 1))) (λ_=>True) [none,some j] (row.map E.e) [] S Q':=λQ' G =>
   aJp (f:=λd=>D.bl (decide (d∈one))) (λd hd Q q=>in_e (neg:=false) (E:=E) (by omega) h1.sq q) (z9999 (by show 0 + row.length<=_;omega)) G
  have e:(row.map λd=>decide (d∈one)).all id=has one row:=by unfold has;rw[iM];rfl
  rw[<- e] at q;rcases h2 with rfl | rfl
  ·exact⟨row.map E.e,rfl,go _ ⟨row.map λd=>decide (d∈one),by show _=_;rw[bH];rfl,aQn q⟩⟩
  ·exact⟨row.map E.e,rfl,go _ ⟨row.map λd=>decide (d∈one),by show _=_;rw[bH];rfl,aQn q⟩⟩
end
abbrev s_without_names:Stmt:=top 3
theorem sc_without_names:FnScope ["one", "row"] ["one", "row"] (aQ8 s_without_names):=fsc
section
variable {P:aC} {w:aR} {K:az} {mg:Str->Option ae} {base:bf} {pt cc:Addr}
theorem aJm (T:Tx K mg "without_names" s_without_names) (B:Bs mg):Df P w K mg base 1 "without_names" ["one", "row"] (spU K aZw):=by
 refine aXk T sc_without_names (λF=>F.binds λ_ _ _ _ _ _=>us2 λ_ _=>rfl) ?_ λf O A outer s H E J=>⟨_,(aQ4 (aQq (aZk rfl B.tuple (aQ0 (aQw (N':=["name", "row"]) (oc:=none) (b:=false) [0] [] rfl sc_without_names.nd (λ_ _ _=>aQc _ _ _ _ _ _ _ _ _) (.own (.cap (i:=1) rfl (by decide +kernel) .nil)) (aQg rfl) (aZ5 (dv 0)) (cg_name (i:=0)) (λ_ _ _ _ _=>aQb (i:=0) (nd_ ["name", "row"]) rfl (aW rfl) (.inr rfl)) (λ_ _ _ _ _=>aQu (by exact(cQi J (dv 0) (dv 1)))) aQf (λ_ _ _ _ _ _=>aQe rfl (by exact PD.o (dv 0)))) aQ1)))),?_⟩
 ·rintro ds S Q ⟨α,dα,E,one,row,L,j,rfl,_⟩;rfl
 ·rintro ds S Q ⟨α,dα,E,one,row,L,j,rfl,U,h1,h2,R,q⟩;have go:∀ Q':List D->Sto->Prop,Q' ((wo one row).map E.e) S->aZl (aQr 0) (aJ7 (dOp (inD true) (dVar 0) (dVar 1))) (aJl (dVar 0)) (λ_=>True) [none,some j] (one.map E.e) [] S Q':=λQ' G =>
   aZ3 (p:=λn=>!decide (n∈row)) (f:=E.e) (λx I Q q=>in_t (neg:=true) (E:=E) (by omega) h2.sq q) (λx I _ Q q=>q) (z9999 (by show 0 + one.length<=_;omega)) G
  rcases h1 with rfl | rfl
  ·exact⟨one.map E.e,rfl,go _ ⟨_,rfl,aQn q⟩⟩
  ·exact⟨one.map E.e,rfl,go _ ⟨_,rfl,aQn q⟩⟩
end
abbrev s_link_of:Stmt:=top 5
theorem sc_link_of:FnScope ["sets", "row"] ["sets", "row"] (aQ8 s_link_of):=fsc
theorem fX8 {ts:List (List Str)} {row:List Str} (nd:ts.Nodup) (hs:∀ t∈ts,Srt t):((ts.filter λt=>has t row).map λt=>wo t row).Nodup:=by
 unfold iW;rw[eY];refine du ?_ (nd.filter _);intro a b J G B e;obtain⟨J,I⟩:=bq.mp J;obtain⟨G,D⟩:=bq.mp G;refine B ((hs a J).ext (hs b G) λn=>?_)
 by_cases j:n∈row
 ·exact⟨λ_=>has_iff.mp D n j,λ_=>has_iff.mp I n j⟩
 ·have:=mem_wo (one:=a) (row:=row) (x:=n)
  rw[e,mem_wo] at this;exact⟨λh=>(this.mpr ⟨h,j⟩).1,λh=>(this.mp ⟨h,j⟩).1⟩
def bQx:SpD:=λds S Q=>∃ (ts:List (List Str)) (row:List Str),ds=[.tup (ts.map tupS),tupS row]/\ts.length<=20/\row.length<=9999/\(∀ t∈ts,t.length<=9999)/\Q (.tup ((lnk ts row).map tupS)) S
section
variable {P:aC} {w:aR} {K:az} {mg:Str->Option ae} {base:bf} {pt cc:Addr}
theorem cZw (T:Tx K mg "link_of" s_link_of) (B:Bs mg) (d_has_all:Df P w K mg base 1 "has_all" ["one", "row"] (spU K bQw)) (d_without_names:Df P w K mg base 1 "without_names" ["one", "row"] (spU K aZw)):Df P w K mg base 2 "link_of" ["sets", "row"] (spU K bQx):=by
 refine aXk T sc_link_of (λF=>F.binds λ_ _ _ _ _ _=>us2 λ_ _=>rfl) ?_ λf I A outer s H E j=>⟨_,(aQ4 (aQq (aZk rfl B.tuple (aQ0 (aJo (b:=false) j rfl B.sorted (aQ0 (aQw (N':=["one", "row"]) (oc:=none) (b:=false) [0] [] rfl sc_link_of.nd (λ_ _ _=>aQc _ _ _ _ _ _ _ _ _) (.own (.cap (i:=1) rfl (by decide +kernel) .nil)) (aQg rfl) (aZ5 (dv 0)) (cg_name (i:=0)) (λ_ _ _ _ _=>aQb (i:=0) (nd_ ["one", "row"]) rfl (aW rfl) (.inr rfl)) (λ_ _ _ _ _=>aQu (by exact(aJg (aQ7 d_has_all j rfl (aQ0 (dv 0) (aQ0 (dv 1) aQ1)))))) aQf (λ_ _ _ _ _ _=>aQe rfl (by exact PD.o (aQ7 d_without_names j rfl (aQ0 (dv 0) (aQ0 (dv 1) aQ1)))))) aQ1)) aQ1)))),?_⟩
 ·rintro ds S Q ⟨D,row,rfl,_⟩;rfl
 ·rintro ds S Q ⟨D,row,rfl,J,j,he,q⟩;refine⟨_,rfl,aZ3 (p:=λt=>has t row) (f:=λt=>tupS (wo t row)) (λt G Q q=>⟨Str,inferInstance,strE,t,row,tupS t,tupS row,rfl,by decide,.inl rfl,.inl rfl,j,q⟩) (λt G _ Q q=>⟨Str,inferInstance,strE,t,row,tupS t,tupS row,rfl,by decide,.inl rfl,.inl rfl,he t G,q⟩) (z9999 (by show 0 + D.length<=_;omega)) ?_⟩
  exact .inr (.inr ⟨(D.filter λt=>has t row).map λt=>wo t row,by rw[bY,bH];rfl,_,rfl,aQn q⟩)
end
abbrev s_meets:Stmt:=top 2
theorem sc_meets:FnScope ["one", "row"] ["one", "row"] (aQ8 s_meets):=fsc
section
variable {P:aC} {w:aR} {K:az} {mg:Str->Option ae} {base:bf} {pt cc:Addr}
theorem dX1 (T:Tx K mg "meets" s_meets) (B:Bs mg):Df P w K mg base 1 "meets" ["one", "row"] (spU K cZ2):=by
 refine aXk T sc_meets (λF=>F.binds λ_ _ _ _ _ _=>us2 λ_ _=>rfl) ?_ λf L A outer s H E I=>⟨_,(aQ4 (aQq (fJj rfl B.any (aQ0 (aQw (N':=["name", "one"]) (oc:=none) (b:=false) [0] [] rfl sc_meets.nd (λ_ _ _=>aQc _ _ _ _ _ _ _ _ _) (.own (.cap (i:=0) rfl (by decide +kernel) .nil)) (aQg rfl) (aZ5 (dv 1)) (cg_name (i:=0)) (λ_ _ _ _ _=>aQb (i:=0) (nd_ ["name", "one"]) rfl (aW rfl) (.inr rfl)) (λ_ _ _ _ _=>aZs) aQf (λ_ _ _ _ _ _=>aQe rfl (by exact PD.o (e_in I (dv 0) (dv 1))))) aQ1)))),?_⟩
 ·rintro ds S Q ⟨α,dα,E,one,row,j,J,rfl,_⟩;rfl
 ·rintro ds S Q ⟨α,dα,E,one,row,j,J,rfl,R,h1,h2,O,q⟩;have go:∀ Q':List D->Sto->Prop,Q' (row.map λd=>D.bl (decide (d∈one))) S->aZl (aQr 0) dYes (aJl (dOp (inD false) (dVar 0) (dVar 1))) (λ_=>True) [none,some j] (row.map E.e) [] S Q':=λQ' G =>
   aJp (f:=λd=>D.bl (decide (d∈one))) (λd hd Q q=>in_e (neg:=false) (E:=E) (by omega) h1.sq q) (z9999 (by show 0 + row.length<=_;omega)) G
  have e:(row.map λd=>decide (d∈one)).any id=mts one row:=by unfold mts;rw[List.any_map];rfl
  rw[<- e] at q;rcases h2 with rfl | rfl
  ·exact⟨row.map E.e,rfl,go _ ⟨row.map λd=>decide (d∈one),by show _=_;rw[bH];rfl,aQn q⟩⟩
  ·exact⟨row.map E.e,rfl,go _ ⟨row.map λd=>decide (d∈one),by show _=_;rw[bH];rfl,aQn q⟩⟩
end
end Toy
namespace L2
open PySem PySem.Spec PyProof.Rows
def EsAt (h:bf) (d:Addr) (es:Array jF) (ep:Nat):Prop:=∃ o,h.get? d=some o/\o.ExactDict/\o.data=.dict es ep
section
variable {prog:aC} {w:aR} {A:a7} {E:ae->ai->Prop} {s:ai} {d it:Addr} {es:Array jF} {ep i:Nat}
theorem EsAt.ty (x:EsAt s.heap d es ep):s.TypeIs (.ref d) "dict":=by
 obtain⟨o,e,c,_⟩:=x;exact⟨o,e,c.1⟩
end
section
variable {κ β:Type} [DecidableEq κ]
def valX (kvs:List (κ × β)) (k:κ):Option β:=(kvs.find? λkv=>decide (kv.1=k)).map (·.2)
def putX (kvs:List (κ × β)) (k:κ) (v:β):List (κ × β):=if (kvs.any λkv=>decide (kv.1=k))=true then kvs.map (λkv=>if kv.1=k then (kv.1,v) else kv) else kvs++[(k,v)]
theorem dX2 {p:κ × β} {r:List (κ × β)} {k:κ} (e:p.1=k):valX (p::r) k=some p.2:=by simp[valX,dA,e]
theorem dX3 {p:κ × β} {r:List (κ × β)} {k:κ} (e:¬ p.1=k):valX (p::r) k=valX r k:=by simp[valX,dA,e]
end
structure KnD (P:aC) (w:aR) (K:Fg) (κ:Type) [DecidableEq κ] where
 knd:HeapKind P w κ
 enc:κ->D
 room:∀ {A:a7},A.units + 8 < cb->knd.room A.in1
 key:∀ {X:Cx} {pins:List (Addr × Obj)} {σ:St} {H:Hp} {s:ai} {M:Am} {k:κ} {b:Addr},X.prog=P->X.w=w->X.K=K->Inv X pins σ H s->RepV K M H (enc k) (.ref b)->knd.is s.heap k b
 ref:∀ {M:Am} {H:Hp} {k:κ} {v:V},RepV K M H (enc k) v->∃ b,v=.ref b
section
variable {P:aC} {w:aR} {K:Fg} {κ:Type} [DecidableEq κ]
abbrev KX (N:KnD P w K κ) (M:Am) (H:Hp) (p:κ × V) (q:κ × Addr × ae):Prop:=p.1=q.1/\RepV K M H (N.enc p.1) (.ref q.2.1)/\RelV p.2 q.2.2
def DxV (N:KnD P w K κ) (o:Obj) (M:Am) (H:Hp) (a:Addr) (kw:List (κ × V)):Prop:=∃ es ep,∃ xs:List (κ × Addr × ae),H a=some (cdO a o)/\o.ExactDict/\o.data=.dict es ep/\es.toList=xs.map (entryOfKey N.knd)/\(xs.map (·.1)).Nodup/\kw.length<=sizeLine/\(a == e8)=false/\a8 (KX N M H) kw xs
variable {N:KnD P w K κ} {M M':Am} {H H':Hp} {a:Addr} {o:Obj} {kw:List (κ × V)}
theorem DxV.keep (h:DxV N o M H a kw) (k:Keep M H M' H') (e:H' a=H a):DxV N o M' H' a kw:=by
 obtain⟨es,ep,xs,h1,h2,J,I,G,D,B,j⟩:=h;exact⟨es,ep,xs,e.trans h1,h2,J,I,G,D,B,Paired.imp (λ_ _ z=>⟨z.1,z.2.1.keep k,z.2.2⟩) j⟩
theorem dJ6 {xs:List (κ × Addr × ae)} (r:a8 (KX N M H) kw xs) (k:κ):RelO (valV kw k) ((atKey xs k).map (·.2)):=by
 induction r with
 | nil=>exact gy
 | @cons p q ps j h t B =>
  obtain⟨h1,_,h2⟩:=h
  by_cases e:p.1=k
  ·have b:atKey (q::j) k=some q.2:=by simp[atKey,dA,h1.symm.trans e]
   rw[bZf e,b];exact h2
  ·have D:¬ q.1=k:=λz=>e (h1.trans z);have b:atKey (q::j) k=atKey j k:=by simp[atKey,dA,D]
   rw[bZg e,b];exact B
theorem dJ7 {xs:List (κ × Addr × ae)} (r:a8 (KX N M H) kw xs) (k:κ) {b:Addr} {y:V} {u:ae} (hb:RepV K M H (N.enc k) (.ref b)) (ry:RelV y u):a8 (KX N M H) (putK kw k y) (storedH xs k b u):=by
 have e:(kw.any λj=>decide (j.1=k))=(atKey xs k).isSome:=by rw[cQo,(dJ6 r k).isSome_eq,Option.isSome_map]
 unfold putK storedH;rw[e]
 by_cases q:(atKey xs k).isSome=true
 ·rw[if_pos q,if_pos q];clear e q
  induction r with
  | nil=>exact .nil
  | @cons p q ps G h t B =>
   rw[aL,aL];refine .cons ?_ B;obtain⟨h1,h2,D⟩:=h;unfold putAt
   by_cases e:p.1=k
   ·rw[if_pos e,if_pos (h1.symm.trans e)];exact⟨h1,h2,ry⟩
   ·rw[if_neg e,if_neg (λz=>e (h1.trans z))];exact⟨h1,h2,D⟩
 ·rw[if_neg q,if_neg q];exact a8.snoc r ⟨rfl,hb,ry⟩
theorem DxV.at {X:Cx} {pins:List (Addr × Obj)} {σ:St} {s:ai} (h:DxV N o M H a kw) (hP:X.prog=P) (hw:X.w=w) (hK:X.K=K) (I:Inv X pins σ H s) :
  s.heap.get? a=some o/\∃ xs,s.heap.DictOfH N.knd a xs/\a8 (KX N M H) kw xs:=by
 obtain⟨es,ep,xs,h1,h2,R,O,L,h6,Z,B⟩:=h;obtain⟨j,_⟩:=I.hok a _ h1;refine⟨j,xs,⟨o,es,ep,j,h2,R,O,λx J=>?_,L⟩,B⟩;obtain⟨p,Y,G,D,U⟩:=ST.paired_mem' B x J;rw[<- G];exact N.key hP hw hK I D
theorem DxV.no (h:DxV N o M H a kw):o.ExactDict:=by
 obtain⟨es,ep,xs,h1,h2,_⟩:=h;exact h2
theorem DxV.lo (h:DxV N o M H a kw):(a == e8)=false:=by
 obtain⟨es,ep,xs,h1,h2,J,I,G,D,j,B⟩:=h;exact j
theorem DxV.len (h:DxV N o M H a kw):kw.length<=sizeLine:=by
 obtain⟨es,ep,xs,h1,h2,J,I,G,j,D,B⟩:=h;exact j
end
section
variable {X:Cx} {K:Fg} {κ:Type} [DecidableEq κ] {pos:Pos} {k:Nat}
theorem dX4 {N:KnD X.prog X.w K κ} (M:Am):PE X (.Dict [] [] pos) (λ_ H Q=>∀ p,H p=none->∀ o,DxV N o M (upd H p (cdO p o)) p []->Q (.ref p) (upd H p (cdO p o))):=λpins s σ H Q I h=>by
 have j:(s.heap.push { cls:=.type "dict",data:=.dict #[] }).get? s.heap.objs.size=some { cls:=.type "dict",data:=.dict #[] }:=au _ rfl;have lo:(s.heap.objs.size == e8)=false:=beq_eq_false_iff_ne.mpr (b8 (Nat.ne_of_lt I.big));exact wpAny_Dict_empty ⟨.ref s.heap.objs.size,_,I.laid (a:=s.heap.objs.size) (o:=cdO s.heap.objs.size { cls:=.type "dict",data:=.dict #[] }) (t':=s.toks) (λ_ _ q=>ag _ q) (Nat.le_refl _) ⟨j,⟨_,j⟩,λg1 g2 g k=>k _ g⟩,rfl,
  h _ (I.hok.fresh (Nat.le_refl _)) _ ⟨#[],0,[],aQa,⟨rfl,rfl,rfl⟩,rfl,rfl,eB,Nat.zero_le _,lo,.nil⟩⟩
def gQ2 {P:aC} {w:aR} (N:KnD P w K κ) (td ty tx:TE):TE:=fun σ H Q=>td σ H λx H1=>(∃ a o M kw,x=.ref a/\DxV N o M H1 a kw)/\ty σ H1 λy H2=>tx σ H2 λz H3=>∃ a o M kw k,x=.ref a/\DxV N o M H3 a kw/\RepV K M H3 (N.enc k) y/\Q ((valV kw k).getD z) H3
theorem eXe {N:KnD X.prog X.w K κ} {o e f:Expr} {apos cpos:Pos} {td ty tx:TE} (hu:X.A.units + 8 < cb) (hK:X.K=K) (ho:PE X o td) (he:PE X e ty) (hf:PE X f tx) (m:M2 X o "get" apos e f cpos):PE X (.Call (.Attribute o "get" apos) [e,f] [] cpos) (gQ2 N td ty tx):=by
 intro pins s σ H Q I h;refine wpAny_Call_method m.base m.few m.line jT ku PySem.F.type_dict_get (thn (ho pins s σ H _ I h) λu s1 ⟨x,H1,L,U,⟨a,D,M,kw,ex,d⟩,q1⟩=>?_);subst ex;obtain rfl:u=cr a:=U;obtain⟨G,_⟩:=d.at rfl rfl hK L;refine⟨⟨D,G,d.no.1⟩,λb q=>by cases q;exact⟨D,G,d.no.2.1⟩,?_⟩
 rw[m.trees];refine gL rfl (Calls.evalArgs_plain (iS (thn (he pins s1 σ H1 _ L q1) λiv s2 ⟨y,H2,I2,R,Z⟩ =>
  iS (thn (hf pins s2 σ H2 _ I2 Z) λfv s3 ⟨z,H3,j,O,a',ob',M',kw',k,ea,J,B,Y⟩=>Calls.spliced_nil ?_))))
 cases ea;obtain⟨b,rfl⟩:=N.ref B;cases (show iv=cr b from R)
 obtain⟨g1,xs,dd,rel⟩:=J.at rfl rfl hK j;exact call_meetsIn ku dd.typeIs PySem.F.entry_dict_get (PySem.F.args_dict_get_3 _ _ _) (meetsH_dict_get_default N.knd a b J.lo fv) ⟨N.room hu,k,xs,N.key rfl rfl hK j B,dd,⟨_,H3,j.tok _,(dJ6 rel k).getD O,Y⟩⟩
def gQ3 {P:aC} {w:aR} (N:KnD P w K κ) (td ty tv:TE):TS:=λD σ H=>tv σ H λv H1=>td σ H1 λx H2=>ty σ H2 λy H3=>∃ a o M kw k,x=.ref a/\M a/\DxV N o M H3 a kw/\RepV K M H3 (N.enc k) y/\kw.length < sizeLine/\∀ o',DxV N o' M (upd H3 a (cdO a o')) a (putK kw k v)->D.nx σ (upd H3 a (cdO a o'))
theorem eXf {N:KnD X.prog X.w K κ} {o i value:Expr} {pos':Pos} {td ty tv:TE} (hu:X.A.units + 8 < cb) (hK:X.K=K) (ho:PE X o td) (hi:PE X i ty) (hv:PE X value tv) (hs:g9 value (some (.Subscript o i pos')) pos.line X.env=pure false) :
  PS X (.Assign [.Subscript o i pos'] value pos) (gQ3 N td ty tv):=by
 intro pins s σ H D I h;refine wpAny_Assign_Subscript (thn (hv pins s σ H _ I h) λr s1 ⟨v,H1,I1,Z,q1⟩=>thn (ho pins s1 σ H1 _ I1 q1) λu s2 ⟨x,H2,I2,Y,q2⟩=>thn (hi pins s2 σ H2 _ I2 q2) λiv s3 ⟨y,R,O,U,a,ob,M,kw,k,ex,hM,d,j,hl,q3⟩=>?_) hs;subst ex;obtain rfl:u=cr a:=Y;obtain⟨b,rfl⟩:=N.ref j;cases (show iv=cr b from U)
 obtain⟨g1,xs,dd,rel⟩:=d.at rfl rfl hK O;have hz:xs.length<=sizeLine:=by rw[<- bP rel];exact d.len
 have J:(putK kw k v).length<=sizeLine:=by have:=bJd kw k v;omega
 obtain⟨_,_,_,hH,_⟩:=id d;refine wpAny_setItem_heap (hsz:=hz) (N.room hu) (N.key rfl rfl hK O j) dd λh' L B=>?_;obtain⟨q,es,ep,G,h2,h3,h4,_,h5⟩:=L;have kp:Keep M R M (upd R a (cdO a q)):=⟨λc oc hc e=>by rw[upd_ne (λz=>hc (by rw[z];exact hM))];exact e,λ_ h _=>h⟩
 refine⟨σ,_,cJq O (by rw[hH];exact gy) B ⟨q,G⟩ (ob:=cdO a q) ⟨G,⟨_,G⟩,λg1 g2 g k=>k _ g⟩,q3 q ⟨es,ep,_,aQa,h2,h3,h4,h5,J,d.lo,Paired.imp (λ_ _ z=>⟨z.1,z.2.1.keep kp,z.2.2⟩) (dJ7 rel k j Z)⟩⟩
end
section
variable {P:aC} {w:aR} {K:Fg} {κ:Type} [DecidableEq κ] {F:Am} {S:Sto} {H:Hp} {a:Addr}
abbrev PX (K:Fg) (M:Am) (H:Hp) (p:κ × V) (q:κ × D):Prop:=p.1=q.1/\RepV K M H q.2 p.2
def dxO (N:KnD P w K κ) (o:Obj) (kvs:List (κ × D)):DO:=.ex (λM H a=>∃ kw,DxV N o M H a kw/\a8 (PX K M H) kw kvs)
 (λM M' H H' a k e h=>by
  obtain⟨kw,h1,h2⟩:=h;exact⟨kw,h1.keep k e,Paired.imp (λ_ _ z=>⟨z.1,z.2.keep k⟩) h2⟩)
 λM H a h=>by
  obtain⟨kw,⟨es,ep,xs,h1,_⟩,_⟩:=h;exact⟨_,h1,trivial⟩
theorem fX9 {M:Am} {kw:List (κ × V)} {kvs:List (κ × D)} (r:a8 (PX K M H) kw kvs) (k:κ):(valV kw k=none/\valX kvs k=none)\/∃ v d,valV kw k=some v/\valX kvs k=some d/\RepV K M H d v:=by
 induction r with
 | nil=>exact .inl ⟨rfl,rfl⟩
 | @cons p q ps B h t j =>
  by_cases e:p.1=k
  ·exact .inr ⟨_,_,bZf e,dX2 (h.1.symm.trans e),h.2⟩
  ·rw[bZg e,dX3 λz=>e (h.1.trans z)];exact j
theorem dJ8 {M:Am} {kw:List (κ × V)} {kvs:List (κ × D)} (l:a8 (PX K M H) kw kvs) (k:κ) {v:V} {d:D} (rv:RepV K M H d v):a8 (PX K M H) (putK kw k v) (putX kvs k d):=by
 have j:(kw.any λB=>decide (B.1=k))=kvs.any λB=>decide (B.1=k):=by
  induction l with
  | nil=>rfl
  | cons h _ G=>rw[jz,jz,h.1,G]
 unfold putK putX;rw[j]
 split
 ·rename_i I;clear j I
  induction l with
  | nil=>exact .nil
  | @cons a b as bs h _ G =>
   refine .cons ?_ G;show(if a.1=k then (a.1,v) else a).1=(if b.1=k then (b.1,d) else b).1/\RepV K M H (if b.1=k then (b.1,d) else b).2 (if a.1=k then (a.1,v) else a).2
   rw[h.1]
   split
   ·exact⟨rfl,rv⟩
   ·exact h
 ·rename_i I;clear j I;exact a8.snoc l ⟨rfl,rv⟩
end
section
variable {X:Cx} {K:Fg} {κ:Type} [DecidableEq κ] {pos:Pos} {k:Nat} {P:aC} {w:aR}
def gQ4 (N:KnD P w K κ):ED:=λ_ S Q=>∀ p,S p=none->∀ o,Q (.ref p) (supd S p (dxO N o []))
theorem eXg (N:KnD P w K κ) (hP:X.prog=P:=by rfl) (hw:X.w=w:=by rfl):PD K X (.Dict [] [] pos) (gQ4 N):=by
 subst hP hw;refine .of (dX4 (N:=N) (λ_=>False)) fun σ H Q B=>B.el λF S Γ QD r g q c=>λp j o dx=>?_;refine c (.ref p) (.ref p) _ (supd S p (dxO N o [])) (Ext.mk' j) (r.mk' j ⟨[],?_,.nil⟩) (by unfold RepV;rfl) (q p (r.sn j) o)
 obtain⟨es,ep,xs,h1,h2,L,J,I,G,D,h8⟩:=dx;cases h8;exact⟨es,ep,[],h1,h2,L,J,I,G,D,.nil⟩
def gQ5 (N:KnD P w K κ) (td ty tx:ED):ED:=fun Γ S Q=>td Γ S λx S1=>(∃ a o kvs,x=.ref a/\S1 a=some (dxO N o kvs))/\ty Γ S1 λy S2=>tx Γ S2 λz S3=>∃ a o kvs k,x=.ref a/\S3 a=some (dxO N o kvs)/\y=N.enc k/\Q ((valX kvs k).getD z) S3
theorem dQh (N:KnD P w K κ) {o e f:Expr} {apos cpos:Pos} {td ty tx:ED} (hr:Room k X.A) (ho:PD K X o td) (he:PD K X e ty) (hf:PD K X f tx) (hP:X.prog=P:=by rfl) (hw:X.w=w:=by rfl) (hK:X.K=K:=by rfl) (m:M2 X o "get" apos e f cpos:=by exact⟨rfl,rfl,rfl,rfl⟩) :
  PD K X (.Call (.Attribute o "get" apos) [e,f] [] cpos) (gQ5 N td ty tx):=by
 subst hP hw;refine .of (eXe (N:=N) (lt64 hr) hK ho.o he.o hf.o m) fun σ H Q U=>U.el λF S Γ QD r g q c=>⟨F,S,Γ,_,r,g,q,λv d H1 S1 B R v1 ⟨⟨a,o,G,J,I⟩,q1⟩=>⟨?_,F,S1,Γ,_,R,g.ext B,q1,λy dy H2 S2 O Z v2 q2=>⟨F,S2,Γ,_,Z,g.ext (B.trans O),q2,λz dz H3 S3 L D Y q3=>?_⟩⟩⟩
 ·subst J;obtain⟨kw,dx,_⟩:=R.obj a _ I;exact⟨a,o,_,kw,rref v1,dx⟩
 ·obtain⟨a,o,G,k,J,I,e3,j⟩:=q3;subst J e3;obtain⟨kw,dx,pp⟩:=D.obj a _ I;refine⟨a,o,_,kw,k,rref v1,dx,v2.ext L,?_⟩;have cc:=Cn.shift c (B.trans (O.trans L));rcases fX9 pp k with⟨h1,h2⟩ | ⟨v',d',h1,h2,h3⟩
  ·rw[h1];rw[h2] at j;exact cc.here D Y j
  ·rw[h1];rw[h2] at j;exact cc.here D h3 j
def gQ6 (N:KnD P w K κ) (td ty tv:ED):SD:=λE Γ S=>tv Γ S λv S1=>td Γ S1 λx S2=>ty Γ S2 λy S3=>∃ a o kvs k,x=.ref a/\S3 a=some (dxO N o kvs)/\y=N.enc k/\kvs.length < sizeLine/\∀ o',E.nx Γ (supd S3 a (dxO N o' (putX kvs k v)))
theorem dQi (N:KnD P w K κ) {o i value:Expr} {pos':Pos} {td ty tv:ED} (hr:Room k X.A) (ho:PD K X o td) (hi:PD K X i ty) (hv:PD K X value tv) (hP:X.prog=P:=by rfl) (hw:X.w=w:=by rfl) (hK:X.K=K:=by rfl) (hs:g9 value (some (.Subscript o i pos')) pos.line X.env=pure false:=by rfl) :
  PSD K X (.Assign [.Subscript o i pos'] value pos) (gQ6 N td ty tv):=by
 subst hP hw;refine .of (eXf (N:=N) (lt64 hr) hK ho.o hi.o hv.o hs) λD' σ H Z=>Z.el λF S Γ E r g q c=>⟨F,S,Γ,_,r,g,q,λv d H1 S1 L r1 v1 q1=>⟨F,S1,Γ,_,r1,g.ext L,q1,λx od H2 S2 J r2 v2 q2=>⟨F,S2,Γ,_,r2,g.ext (L.trans J),q2,λy dy Y B I R v3 ⟨a,o,D,k,e1,U,e3,hz,q3⟩=>?_⟩⟩⟩;subst e1 e3;obtain⟨kw,dx,pp⟩:=R.obj a _ U;have j:B a≠none:=by rw[U];exact λz=>by cases z
 refine⟨a,o,mt B F,kw,k,rref (v2.ext I),.inl j,dx,v3,by rw[bP pp];exact hz,λo' O=>?_⟩
 have G:Ext B Y (supd B a (dxO N o' (putX D k d))) (upd Y a (cdO a o')):=Ext.write j;have x:=L.trans (J.trans (I.trans G));have mm:∀ b,¬ mt B F b->¬ mt (supd B a (dxO N o' (putX D k d))) F b:=λb hb z=>hb (z.elim (λz=>by
  by_cases e:b=a
  ·rw[e];exact .inl j
  ·rw[supd_ne e] at z;exact .inl z) .inr)
 refine c.nx Γ _ σ _ x (R.write j ⟨_,O.keep ⟨λ_ _ _ h=>h,λb h _=>mm b h⟩ rfl,?_⟩) (g.ext x) (q3 o');exact dJ8 (Paired.imp (λ_ _ z=>⟨z.1,z.2.ext G⟩) pp) k (v1.ext (J.trans (I.trans G)))
end
theorem dQj {α β:Type} {R:α->β->Prop}:∀ {l:List α} {m:List β},a8 R l m->∀ (i:Nat) (b:β),m[i]?=some b->∃ a,l[i]?=some a/\R a b
 | _,_,.nil,i,b,h=>by cases i <;> cases h
 | _,_,.cons r t,0,b,h=>by cases h;exact⟨_,rfl,r⟩
 | _,_,.cons r t,i + 1,b,h=>dQj t i b h
theorem cZa {α β:Type} {R:α->β->Prop}:∀ {l:List α} {m:List β},a8 R l m->∀ (i:Nat) (a:α),l[i]?=some a->∃ b,m[i]?=some b/\R a b
 | _,_,.nil,i,b,h=>by cases i <;> cases h
 | _,_,.cons r t,0,b,h=>by cases h;exact⟨_,rfl,r⟩
 | _,_,.cons r t,i + 1,b,h=>cZa t i b h
def tKN (P:aC) (w:aR) (K:Fg):KnD P w K (List Str) where
 knd:=tupleKind (strKind P w)
 enc:=tupS
 room:=λh=>tupleKind_room_in1 (by omega)
 key:=λ{X pins σ H s M k b} e1 e2 e3 I r=>by
  subst e1 e2 e3;unfold tupS RepV at r;obtain⟨a,xs,e,t,l⟩:=r;cases e;obtain⟨its,ri,tp,_⟩:=I.tuple t.sq;obtain⟨b',e',hk⟩:=eJw (K:=X.K) (H:=H) (aJ9 l) ri tp;cases e';exact hk
 ref:=λ{M H k v} r=>by
  unfold tupS RepV at r;obtain⟨a,xs,e,_⟩:=r;exact⟨a,e⟩
end L2
namespace L2
open PySem PySem.SeqAt PyProof.Rows
inductive Qt (h:bf):Nat->ae->Prop
 | val {n:Nat} {v:ae}:i4 v=true->Qt h n v
 | tup {n:Nat} {a:Addr} {xs:Array ae}:h.IsTuple a xs->(∀ v∈xs.toList,Qt h n v)->Qt h (n + 1) (.ref a)
section
variable {s:ai} {A:a7} {E:ae->ai->Prop} {w:aR} {prog:aC}
theorem Qt.ok {n:Nat} {v:ae} {Q:Bool->ai->Prop} (x:Qt s.heap n v) (q:Q true s):aE (aJ prog w) A (eqIsQuiet n v) Q E s:=by
 induction x generalizing Q with
 | val h=>rw[eqIsQuiet_byValue _ h];exact ad q
 | @tup n a xs t B j =>
  obtain⟨o,g,c,m,d⟩:=t;have ty:s.TypeIs (.ref a) "tuple":=⟨o,g,c⟩;unfold eqIsQuiet;refine aa (wpAny_specialOf ty PySem.F.slot_tuple_eq.lookup (aa (fk ty isSubtype_tuple_tuple ?_):aE _ _ (isInstance (.ref a) (.type "tuple") >>= _) _ _ s));rw[if_neg (by decide)]
  refine aa (cP g d (aa ?_));rw[show((some xs).getD #[])=xs from rfl,<- gA]
  clear d B;generalize xs.toList=l at j ⊢
  induction l with
  | nil=>rw[fR];exact ad (ad q)
  | cons y l k =>
   rw[cZ];refine aa (aa (j y (by simp) ?_))
   rw[if_neg (by decide)]
   exact ad (k λv h=>j v (by simp[h]))
end
def IsPr (P:aC) (w:aR) (h:bf) (k:Nat × List Str) (a:Addr):Prop:=∃ t b,h.IsTuple a #[.int k.1 t,.ref b]/\j5 (strKind P w) h k.2 b
theorem bJr {h:bf} {a:Addr} {xs ys:Array ae} (x:h.IsTuple a xs) (y:h.IsTuple a ys):xs=ys:=by
 obtain⟨o,g,_,n,d⟩:=x;obtain⟨o',g',_,j,d'⟩:=y;rw[g] at g';cases g';rw[d] at d';cases d'
 rfl
theorem fXa {P:aC} {w:aR} {h:bf} {ks:List Str} {a:Addr} (x:j5 (strKind P w) h ks a) (P':aC) (w':aR):j5 (strKind P' w') h ks a:=by
 obtain⟨o,xs,n,g,c,d,i⟩:=x;refine⟨o,xs,n,g,c,d,?_⟩;generalize xs.toList=l at i
 induction i with
 | nil=>exact .nil
 | cons z _ j=>exact .cons z j
theorem gQ7 {P:aC} {w:aR} {h:bf} {ks:List Str} {a:Addr} (x:j5 (strKind P w) h ks a):∃ xs,h.IsTuple a xs/\∀ v∈xs.toList,i4 v=true:=by
 obtain⟨o,xs,n,g,c,d,i⟩:=x;exact⟨xs,⟨o,g,c,n,d⟩,i.byValue⟩
section
variable {P:aC} {w:aR}
theorem IsPr.inj {h:bf} {a:Addr} {x y:Nat × List Str} (hx:IsPr P w h x a) (hy:IsPr P w h y a):x=y:=by
 obtain⟨t,b,h1,h2⟩:=hx;obtain⟨u,c,B,j⟩:=hy;have e:=bJr h1 B;have e:[g8 x.1 t,.ref b]=[g8 y.1 u,.ref c]:=congrArg Array.toList e;simp only[List.cons.injEq,g8.injEq,cr.injEq,and_true] at e;obtain⟨⟨D,_⟩,rfl⟩:=e;exact Prod.ext (by omega) (h2.inj j)
theorem IsPr.quiet {h:bf} {k:Nat × List Str} {a:Addr} (x:IsPr P w h k a):Qt h 8 (.ref a):=by
 obtain⟨t,b,h1,h2⟩:=x;obtain⟨xs,B,j⟩:=gQ7 h2;refine .tup h1 λv m=>?_;have m:v=.int k.1 t\/v=.ref b:=by simpa using m
 rcases m with rfl | rfl
 ·exact .val rfl
 ·exact .tup B λv m=>.val (j v m)
def dJ9 (P:aC) (w:aR) (k:Nat × List Str):Int:=reduceHash (b4.Tuple.tupleHashOf [hashInt k.1,tupleKeyHash (strKind P w) k.2])
variable {s:ai} {A:a7} {E:ae->ai->Prop}
theorem IsPr.hash {k:Nat × List Str} {a:Addr} {Q:Int->ai->Prop} (hu:A.units + 4 < cb) (x:IsPr P w s.heap k a) (q:Q (dJ9 P w k) { s with toks:=s.toks + (k.2.length + 3) }):aE (aJ P w) A (pyHash (.ref a)) Q E s:=by
 obtain⟨t,b,⟨o,g,c,n,d⟩,h2⟩:=x;refine PySem.W.pyHash_slot (T := "tuple") ⟨o,g,c⟩ PySem.F.slot_tuple_hash PySem.F.entry_tuple_hash (PySem.F.args_tuple_hash_1 _) (beq_builtin_none _) (.inr (by omega)) ?_
 refine(aa (wpAny_tupleItemsOf g d ?_):aE _ _ (fO (.ref a) >>= _) _ _ s);refine aa ?_;rw[<- gA,cZ];refine aa (aa (wpAny_pyHash_int (aa (ad (ad ?_)))));dsimp only;rw[cZ];refine aa (aa (wpAny_pyHash_tuple (by show A.units + 1 < cb;omega) h2 (aa (ad (ad ?_)))))
 dsimp only;rw[fR];refine ad (aa (wpAny_mkInt (ad ⟨_,_,rfl,?_⟩)));have e:s.toks + 1 + (k.2.length + 1) + 1=s.toks + (k.2.length + 3):=by omega
 dsimp only;rw[e];exact q
theorem IsPr.eq {x y:Nat × List Str} {a b:Addr} {Q:Bool->ai->Prop} (hu:A.units + 6 < cb) (hx:IsPr P w s.heap x a) (hy:IsPr P w s.heap y b) (q:Q (decide (x=y)) s):aE (aJ P w) A (eqBool (.ref a) (.ref b)) Q E s:=by
 by_cases B:a=b
 ·subst B;rw[hx.inj hy,decide_eq_true rfl] at q;exact EqAt.same _ P w E Q q
 obtain⟨t,c,h1,h2⟩:=hx;obtain⟨u,e,L,J⟩:=hy;have z:EqAt A s (.ref a) (.ref b) _:=.of_refs B (.tuples (e:=λj=>if j=0 then (x.1:Int) == y.1 else decide (x.2=y.2)) h1 L (by omega) λj j1 j2=>by
  have j1:j < 2:=j1;rcases j with _ | _ | j
  ·exact .int_int _ _ _ _
  ·intro G D E' Q' I;exact i5 (knd:=strKind G D) (by show A.units + 1 < cb;omega) (fXa h2 G D) (fXa J G D) I
  ·omega)
 refine z P w E Q ?_;have O:decide (x=y)=(((x.1:Int) == y.1) && decide (x.2=y.2)):=by
  obtain⟨Z,Y⟩:=x;obtain⟨U,R⟩:=y;rw[eG];simp;omega
 rw[O] at q;simpa [fC] using q
def fXb (P:aC) (w:aR):HeapKind P w (Nat × List Str) where
 is:=IsPr P w
 hash:=dJ9 P w
 draws:=λk=>k.2.length + 3
 room:=λA=>A.units + 6 < cb
 inj:=λx y=>x.inj y
 keeps:=λ{h h' k a d o es ep} x ho hd hs=>by
  obtain⟨t,b,⟨o',g,c,n,e⟩,i⟩:=x;refine⟨t,b,⟨o',(hs.2 a λz=>?_).trans g,c,n,e⟩,i.keeps ho hd hs⟩;subst z;rw[g] at ho;cases ho;rw[e] at hd;cases hd
 pyHash:=λhu x q=>x.hash (by omega) q
 eqBool:=λhu x y q=>x.eq hu y q
 quiet:=λx q=>x.quiet.ok q
def prN (P:aC) (w:aR) (K:Fg):KnD P w K (Nat × List Str) where
 knd:=fXb P w
 enc:=λk=>.tup [.int k.1,tupS k.2]
 room:=λ{A} h=>by show A.units + 1 + 6 < cb;omega
 key:=λ{X pins σ H s M k b} e1 e2 e3 I r=>by
  subst e1 e2 e3;unfold RepV at r;obtain⟨a,xs,e,t,l⟩:=r;cases e;obtain⟨its,ri,tp,_⟩:=I.tuple t.sq;simp only[RepL] at l;obtain⟨x1,_,rfl,r1,x2,_,rfl,r2,rfl⟩:=l;cases ri with
  | cons u1 ri =>
  cases ri with
  | cons u2 ri =>
  cases ri;unfold RepV at r1;subst r1;obtain⟨b',rfl⟩:=(tKN X.prog X.w X.K).ref r2;obtain⟨tk,rfl⟩:=u1;cases (show _=cr b' from u2)
  exact⟨tk,b',tp,(tKN X.prog X.w X.K).key rfl rfl rfl I r2⟩
 ref:=λ{M H k v} r=>by
  unfold RepV at r;obtain⟨a,xs,e,_⟩:=r;exact⟨a,e⟩
end
end L2
namespace L2
open PySem PySem.Spec PyProof.Rows
section
variable {prog:aC} {w:aR} {A:a7} {E:ae->ai->Prop} {s:ai} {d it v:Addr} {es:Array jF} {ep i:Nat}
theorem dX5 {Q:ae->ai->Prop} (lo:(d == e8)=false) (x:EsAt s.heap d es ep)
  (q:Q (.ref s.heap.objs.size) { s with heap:=s.heap.push { cls:=.type "dict_items",data:=.fields #[.ref d] } }):aE (aJ prog w) A (b4.«dict.items» ⟨[.ref d],[]⟩) (λf s'=>∃ y,f=.done (.ret y)/\Q y s') E s:=by
 unfold b4.«dict.items» b4.Dict.noArgs;refine aa (aa (wpAny_notOrdered_dict x.ty (ad (?_:aE _ _ (kx d >>= _) _ _ s))));unfold kx;rw[if_neg (by rw[lo];decide)]
 exact aa (ad (aa (bA (ad ⟨_,rfl,q⟩))))
theorem bXs {Q:ae->ai->Prop} (hv:s.heap.IsItemsView v d) (x:EsAt s.heap d es ep)
  (q:Q (.ref s.heap.objs.size) { s with heap:=s.heap.push { cls:=.type "dict_itemiterator",data:=.fields #[.none,.bool false,.ref d,.int 0 0,.int es.size 0,.int ep 0,.none,.none] } }):aE (aJ prog w) A (pyIter (.ref v)) Q E s:=by
 have G:=hv.typeIs;obtain⟨I,j,_,B⟩:=hv;obtain⟨o,D,_,hd⟩:=x;refine wpAny_pyIter_slot G F.slot_dict_items_iter (bI F.slot_dict_items_iter G F.entry_dict_items_iter (?_:_) (F.args_dict_items_iter_1 _));unfold b4.«dict_items.__iter__» b4.Dict_items.dictOf b4.Dict_items.newIterator;refine aa (ad (aa (aa (cj j B (x:=.ref d) rfl (ad (aa (aa (jr D hd (aa (wpAny_dictEpoch D hd ?_))))))))));simp only[show fE "dict_itemiterator" = true by decide,if_true]
 exact bA (ad ⟨_,rfl, "dict_itemiterator",_,⟨_,au _ rfl,rfl⟩,F.slot_dict_itemiterator_next.lookup,by simpa [eR,gu] using q⟩) (by simp only[sizeOk,gu,ar,aq,aV,cu,bh];omega)
theorem bXt {ok ov:ae} {Q:Option ae->ai->Prop} (hit:gC s.heap it d i es.size ep ok ov) (x:EsAt s.heap d es ep) (hi:i < es.size)
  (q:∀ h',IsItemIterOut h' it d (i + 1) es.size ep es[i].key es[i].val s.heap.objs.size->h'.get? s.heap.objs.size=some { cls:=.type "tuple",data:=.seq #[es[i].key,es[i].val] } ->
   h'.objs.size=s.heap.objs.size + 1->(∀ b o,b≠it->s.heap.get? b=some o->h'.get? b=some o)->Q (some (.ref s.heap.objs.size)) { s with heap:=h' }):aE (aJ prog w) A (fh (.ref it)) Q E s:=by
 obtain⟨hp,g,dr,U,os⟩:=s;obtain⟨od,hod,_,hdd⟩:=x;have I:jw ⟨hp,g,dr,U,os⟩ (.ref it) ("dict_itemiterator" : String):=⟨_,hit,rfl⟩;have own:=show fE "dict_itemiterator" = true by decide
 unfold fh;refine aa (fc (bK (name:=aG "__next__") I F.slot_dict_itemiterator_next (bI F.slot_dict_itemiterator_next I F.entry_dict_itemiterator_next (?_:_) (F.args_dict_itemiterator_next_1 _))));refine aa (ad (aa (aa ?_)))
 first | refine aa (d7 I (ad (aa (gS hit rfl ?_)))) | refine aa (eU I (ad (aa (gS hit rfl ?_))))
 simp only[own,if_true];refine(?_:aE _ _ (if (cr d == bM)=true then _ else _) _ _ _)
 rw[if_neg (show ¬ ((cr d == bM)=true) from λz=>by cases z)]
 refine aa (ad (aa (jr hod hdd ?_)));rw[if_neg (by simp)]
 refine aa (ad (aa (wpAny_dictEpoch hod hdd ?_)));rw[if_neg (by simp)]
 refine ad ?_;simp only[show ¬ ((i:Int) < 0) by omega,if_false,ce,f7 hi]
 refine aa ?_
 first | refine aa (d7 I (ad (aa (fA I ?_)))) | refine aa (eU I (ad (aa (fA I ?_))))
 refine(?_:aE _ _ (iw (.ref it) 3 (eR ((i:Int) + 1)) >>= _) _ _ ⟨hp,g,dr,U,os⟩);refine aa (bd hit (by simp) λh1 D j=>?_)
 have j:c8 it hp h1:=j;have D:gC h1 it d (i + 1) es.size ep ok ov:=by
  unfold gC;rw[show((i + 1:Nat):Int)=(i:Int) + 1 by omega]
  simpa [eR] using D
 have hT1:jw ⟨h1,g,dr,U,os⟩ (.ref it) "dict_itemiterator":=⟨_,D,rfl⟩;refine aa (bW (aa (fA hT1 (aa (fA hT1 ?_)))));refine(?_:aE _ _ (gV (.ref it) 6 es[i].key es[i].val) _ _ ⟨h1,g,dr,U,os⟩);unfold gV Builtin.Dict_items.ownedTupleIsFree;have J:h1.objs.size=hp.objs.size:=j.1;have ne:hp.objs.size≠it:=Nat.ne_of_gt (ay hit);refine aa (wpAny_newTuple (?_:_));obtain⟨h2,e2⟩:∃ h2,h2=h1.push { cls:=.type "tuple",data:=.seq #[es[i].key,es[i].val] }:=⟨_,rfl⟩;have B:gC h2 it d (i + 1) es.size ep ok ov:=by rw[e2];exact ag _ D
 have ht2:h2.get? hp.objs.size=some { cls:=.type "tuple",data:=.seq #[es[i].key,es[i].val] }:=by rw[e2,<- J];exact au _ rfl
 have hz2:h2.objs.size=hp.objs.size + 1:=by rw[e2,b5,J]
 have hk2:∀ b o,b≠it->hp.get? b=some o->h2.get? b=some o:=λb o G e=>by rw[e2];exact ag _ (j.extBut b o G e)
 rw[J];refine(?_:aE _ _ _ _ _ ⟨h1.push { cls:=.type "tuple",data:=.seq #[es[i].key,es[i].val] },g,dr,U,os⟩);rw[<- e2];refine aa (aa (cj B rfl (x:=.none) rfl (ad ?_)));simp only[if_true];refine aa (cj B rfl (x:=ok) rfl (aa (cj B rfl (x:=ov) rfl (aa (bd B (by simp) λh3 R hs3=>?_)))))
 have R:gC h3 it d (i + 1) es.size ep es[i].key ov:=R;refine aa (bd R (by simp) λh4 O hs4=>?_)
 have O:gC h4 it d (i + 1) es.size ep es[i].key es[i].val:=O;refine aa (bd O (by simp) λh5 L Z=>?_)
 have L:IsItemIterOut h5 it d (i + 1) es.size ep es[i].key es[i].val hp.objs.size:=L;refine aa (bd L (by simp) λh6 he6 Y=>?_)
 have up:∀ b o,b≠it->h2.get? b=some o->h6.get? b=some o:=λb o G e=>gj Y b o G (gj Z b o G (gj hs4 b o G (gj hs3 b o G e)));have sz:h6.objs.size=h2.objs.size:=(show h6.objs.size=h5.objs.size from Y.1).trans ((show h5.objs.size=h4.objs.size from Z.1).trans ((show h4.objs.size=h3.objs.size from hs4.1).trans (show h3.objs.size=h2.objs.size from hs3.1)))
 exact aa (wpAny_letGo (ad (ad ⟨_,rfl,ad (q h6 he6 (up _ _ ne ht2) (sz.trans hz2) λb o G e=>up b o G (hk2 b o G e))⟩)))
theorem bJs {ok ov:ae} {Q:Option ae->ai->Prop} (hh:A.handled=none) (hit:gC s.heap it d i es.size ep ok ov) (x:EsAt s.heap d es ep) (hi:es.size<=i)
  (q:∀ h',bf.ExtBut it s.heap h'->Q none { s with heap:=h' }):aE (aJ prog w) A (fh (.ref it)) Q E s:=by
 obtain⟨J,B,_,D⟩:=x;have j:s.TypeIs (.ref it) ("dict_itemiterator" : String):=⟨_,hit,rfl⟩;have own:=show fE "dict_itemiterator" = true by decide
 unfold fh;refine aa (fc (bK (name:=aG "__next__") j F.slot_dict_itemiterator_next (bI F.slot_dict_itemiterator_next j F.entry_dict_itemiterator_next (?_:_) (F.args_dict_itemiterator_next_1 _))));refine aa (ad (aa (aa ?_)))
 first | refine aa (d7 j (ad (aa (gS hit rfl ?_)))) | refine aa (eU j (ad (aa (gS hit rfl ?_))))
 simp only[own,if_true];refine(?_:aE _ _ (if (cr d == bM)=true then _ else _) _ _ s)
 rw[if_neg (show ¬ ((cr d == bM)=true) from λz=>by cases z)]
 refine aa (ad (aa (jr B D ?_)));rw[if_neg (by simp)]
 refine aa (ad (aa (wpAny_dictEpoch B D ?_)));rw[if_neg (by simp)]
 refine ad ?_;simp only[show ¬ ((i:Int) < 0) by omega,if_false,ce,kc hi]
 refine aa ?_
 first | refine aa (d7 j (ad (?_:aE _ _ (iw (.ref it) 2 .none >>= _) _ _ s))) | refine aa (eU j (ad (?_:aE _ _ (iw (.ref it) 2 .none >>= _) _ _ s)))
 refine aa (wpAny_setField hit rfl (by simp) ?_)
 exact ST.stopT (I:=it) hh λh' k=>q h' λb o G e=>k b o ((b6 ..).extBut b o G e)
end
def Itm (a:Addr) (o:Obj) (bs:List Addr) (zs:List V):It:=⟨λi H=>H a=some (cdO a o)/\i < bs.length,λi H x H'=>∃ p b z,H p=none/\x=.ref p/\H'=upd H p (.tup [.ref b,z])/\bs[i]?=some b/\zs[i]?=some z,λi H=>H a=some (cdO a o)/\bs.length<=i⟩
def ist (it a:Addr) (n ep:Nat) (i:Nat) (h:bf):Prop:=∃ ok ov,gC h it a i n ep ok ov
theorem cZx {P:aC} {w:aR} {K:Fg} {elts:List Expr} {x1:Nat} {pos:Pos} (a it:Addr) (hai:a≠it) {o:Obj} {es:Array jF} {ep:Nat} {bs:List Addr} {zs:List V} (hx:o.ExactDict) (hd:o.data=.dict es ep) (hb:es.toList.map (·.key)=bs.map cr) (hz:Vals zs (es.toList.map (·.val))):Turn P w K (.Tuple elts x1 pos) (Itm a o bs zs) [it] it (ist it a es.size ep) where
 mem:=by simp
 obj:=λi h st c L=>by
  have e:c=it:=by simpa using L
  subst e;obtain⟨ok,O,st⟩:=st;exact⟨_,st,λv z=>by cases z⟩
 keep:=λi h h' st k=>by
  obtain⟨ok,O,st⟩:=st;exact⟨ok,O,k it (by simp) _ st⟩
 item:=by
  intro X hP hw hK L i pins s σ H E I hf st hg;subst hP hw hK;obtain⟨ok,O,st⟩:=st;obtain⟨hH,hi⟩:=hg;obtain⟨Z,_⟩:=I.hok a _ hH;have hl:es.size=bs.length:=by have:=congrArg eM hb;simpa using this
  have G:i < es.size:=by omega
  have hk:es[i].key=.ref bs[i]:=by
   have:=congrArg (λl=>l[i]?) hb
   rw[aF,aF,ah hi,aT,f7 G] at this;exact aM this
  have hzl:zs.length=es.size:=by have:=hz.length;simp at this;omega
  obtain⟨u,hu,ru⟩:=hz.get (ah (show i < zs.length by omega))
  have eu:es[i].val=u:=by
   rw[aF,aT,f7 G] at hu;exact aM hu
  refine bXt st ⟨o,Z,hx,hd⟩ G λh1 heo ht hsz hkp=>⟨_,rfl,?_⟩;refine wpAny_letOwnedTupleGo_items heo λh2 he2 B=>?_;have B:c8 it h1 h2:=B;have U:it < s.heap.objs.size:=ay st;have R:∀ c ob,c∉[it]->s.heap.get? c=some ob->h2.get? c=some ob:=λc ob n g=>by
   have n:c≠it:=by simpa using n
   exact B.extBut c ob n (hkp c ob n g)
  have j:H s.heap.objs.size=none:=I.hok.fresh (Nat.le_refl _);have nT:∀ c ob,s.heap.get? c=some ob->c≠s.heap.objs.size:=λc ob g=>Nat.ne_of_lt (ay g);have nH:∀ c ob,H c=some ob->c∉[it]:=λc ob g L=>by have:=(hf c L).1;rw[g] at this;cases this
  have D:h2.get? s.heap.objs.size=some { cls:=.type "tuple",data:=.seq #[.ref bs[i],u] }:=by
   rw[<- hk,<- eu];exact B.extBut _ _ (Nat.ne_of_gt U) ht
  have hok:HOk X.prog X.w (upd H s.heap.objs.size (.tup [.ref bs[i],zs[i]])) h2:=λc ob g=>by
   by_cases hb:c=s.heap.objs.size
   ·subst hb;rw[aQa] at g;cases g;exact⟨by rw[bh];show 2<=_;decide,[.ref bs[i],u],.cons rfl (.cons ru .nil),⟨_,D,rfl,0,rfl⟩,λo e=>by rw[D] at e;cases e;rfl⟩
   ·rw[upd_ne hb] at g;refine(I.hok c ob g).stay (λe w' J q=>?_) (λe q=>?_) λe ys q=>?_
    ·rcases J with rfl | J
     ·exact R _ _ (nH _ _ g) q
     ·exact R _ _ (nH _ _ J) q
    ·rw[upd_ne (aQ6 q j)];exact q
    ·rw[upd_ne (aQ6 q j)];exact q
  have un:Un (frs X.stack) [it] H (upd H s.heap.objs.size (.tup [.ref bs[i],zs[i]])) s.heap h2 :=
   ⟨λc ob g _ _ hb=>R c ob hb g,λc ob g _ _ hb=>⟨ob.slots,R c ob hb g⟩,λc ob g n _=>by rw[upd_ne (nT c ob g)];exact n,λc ob g hb=>⟨ob,R c ob hb g⟩,
    λc ys g=>by rw[upd_ne (aQ6 g j)];exact g,λc ob v g=>by rw[upd_ne (aQ6 g j)];exact g,λc ps g=>⟨#[],by rw[upd_ne (aQ6 g j),g];simp⟩⟩
  have I2:Inv X pins σ (upd H s.heap.objs.size (.tup [.ref bs[i],zs[i]])) { s with heap:=h2 }:=I.call' (s':={ s with heap:=h2 }) rfl un hok I.bare λc hb=>by
   have Y:=hf c hb;exact⟨Y.2.2.2.1,Y.2.1,Y.2.2.2.2.1,Y.2.2.2.2.2⟩
  refine⟨.ref s.heap.objs.size,_,I2,rfl,⟨_,bs[i],zs[i],j,rfl,rfl,ah hi,ah (by omega)⟩,⟨_,_,he2⟩,λc hb=>?_⟩
  have e:c=it:=by simpa using hb
  subst e;rw[upd_ne (Nat.ne_of_lt U)];exact(hf c hb).1
 done:=by
  intro X hP hw hK L i pins s σ H E I hf st hg;subst hP hw hK;obtain⟨ok,O,st⟩:=st;obtain⟨hH,hi⟩:=hg;obtain⟨Z,_⟩:=I.hok a _ hH;obtain⟨f0,f1,f2,f3,f4,f5⟩:=hf it (by simp)
  have hl:es.size=bs.length:=by have:=congrArg eM hb;simpa using this
  exact bJs (I.ok.hd L) st ⟨o,Z,hx,hd⟩ (by omega) λh' eb=>⟨rfl,I.turned (t':=s.toks) (λb o hb e=>eb b o hb e) f0 f1 f3 f4 f5⟩
 self:=λA i s Q E st h=>by
  obtain⟨ok,O,st⟩:=st;exact PySem.W.kcp_self st h
section
variable {X:Cx} {K:Fg} {κ:Type} [DecidableEq κ] {pos:Pos} {k:Nat} {P:aC} {w:aR}
theorem dX6 {l:Expr} {tl:TE} {elts:List Expr} {x1:Nat} {tpos apos cpos:Pos} (hl:PE X l tl) (hbase:d8 l "items" X.env (eval l X.env)=eval l X.env:=by rfl) (hline:(apos.endLine == cpos.line)=true:=by rfl) :
  PI X (.Tuple elts x1 tpos) (.Call (.Attribute l "items" apos) [] [] cpos) (fun σ H R=>tl σ H λx H1=>∃ a o es ep bs zs,x=.ref a/\H1 a=some (cdO a o)/\o.ExactDict/\o.data=.dict es ep/\(a == e8)=false/\es.toList.map (·.key)=bs.map cr/\Vals zs (es.toList.map (·.val))/\R (Itm a o bs zs) H1):=by
 intro pins s σ H R I h;refine wpAny_Call_method hbase rfl hline jT jU PySem.F.type_dict_items (thn (hl pins s σ H _ I h) λv s1 ⟨x,H1,G,r1,O⟩=>?_);obtain⟨a,o,es,ep,bs,zs,e,hH,B,hd,lo,J,Y,q⟩:=O;subst e;cases r1;obtain⟨D,_⟩:=G.hok a _ hH;have x0:EsAt s1.heap a es ep:=⟨o,D,B,hd⟩;refine⟨x0.ty,λb e=>by cases e;exact⟨o,D,B.2.1⟩,?_⟩
 have hs:cz cpos (av [] X.env)=[]:=rfl;rw[hs];refine gL rfl (PySem.evalArgs_none ?_);refine bI jU x0.ty PySem.F.entry_dict_items (dX5 lo x0 ?_) (PySem.F.args_dict_items_1 _);have Z:bf.IsItemsView (s1.heap.push { cls:=.type "dict_items",data:=.fields #[.ref a] }) s1.heap.objs.size a:=⟨_,au _ rfl,rfl,rfl⟩;have x1:EsAt (s1.heap.push { cls:=.type "dict_items",data:=.fields #[.ref a] }) a es ep:=⟨o,ag _ D,B,hd⟩;refine bXs (s:={ s1 with heap:=s1.heap.push { cls:=.type "dict_items",data:=.fields #[.ref a] } }) Z x1 ?_
 have U:∀ b o,s1.heap.get? b=some o->((s1.heap.push { cls:=.type "dict_items",data:=.fields #[.ref a] }).push { cls:=.type "dict_itemiterator",data:=.fields #[.none,.bool false,.ref a,.int 0 0,.int es.size 0,.int ep 0,.none,.none] }).get? b=some o:=λb o e=>ag _ (ag _ e);have j:(s1.heap.push { cls:=.type "dict_items",data:=.fields #[.ref a] }).objs.size=s1.heap.objs.size + 1:=by simp[bf.push]
 have L:a < s1.heap.objs.size:=ay D;rw[j];refine⟨s1.heap.objs.size + 1,[s1.heap.objs.size + 1],_,_,H1,rfl,G.kept (t':=s1.toks) U,cZx a (s1.heap.objs.size + 1) (Nat.ne_of_lt (Nat.lt_succ_of_lt L)) B hd J Y,?_,λb J=>?_,q⟩
 ·exact⟨.none,.none,by rw[<- j];exact au _ rfl⟩
 ·have e:b=s1.heap.objs.size + 1:=by simpa using J
  subst e;exact G.fpOk (Nat.le_succ _) (G.hok.fresh (Nat.le_succ _))
def eXh (N:KnD P w K κ) (te:ED):ID:=fun Γ S Q=>te Γ S λd S1=>∃ a o kvs,d=.ref a/\S1 a=some (dxO N o kvs)/\Q (kvs.map λp=>.tup [N.enc p.1,p.2]) (λS'=>S' a=some (dxO N o kvs)) S1
theorem bXu (N:KnD P w K κ) {l:Expr} {tl:ED} {elts:List Expr} {x1:Nat} {tpos apos cpos:Pos} (hl:PD K X l tl) (hbase:d8 l "items" X.env (eval l X.env)=eval l X.env:=by rfl) (hline:(apos.endLine == cpos.line)=true:=by rfl) :
  PID K X (.Tuple elts x1 tpos) (.Call (.Attribute l "items" apos) [] [] cpos) (eXh N tl):=.of (dX6 hl.o hbase hline) fun σ H Q z0=>z0.el λF S Γ QD r g q c =>
 ⟨F,S,Γ,_,r,g,q,λv d H1 S1 x1 r1 v1 ⟨a,o,kvs,e1,e2,G⟩=>by
  subst e1;obtain⟨kw,⟨es,ep,xs,h1,h2,h3,U,h5,h6,h7,R⟩,pp⟩:=r1.obj a _ e2;have hb:es.toList.map (·.key)=(xs.map (·.2.1)).map cr:=by rw[U,bH,bH];rfl
  have hz:Vals (kw.map (·.2)) (es.toList.map (·.val)):=by
   rw[U,bH];clear U hb pp h5 h6
   induction R with
   | nil=>exact .nil
   | cons h _ ih=>exact .cons h.2.2 ih
  refine⟨a,o,es,ep,xs.map (·.2.1),kw.map (·.2),rref v1,h1,h2,h3,h7,hb,hz,c _ _ _ _ _ x1 r1 ⟨λF2 f S2 H2 x B O i d hd=>?_,λF2 f S2 H2 x B O=>?_⟩ G⟩
  ·obtain⟨I,⟨Y,Z,D,J,_⟩,_⟩:=B.obj a _ O;rw[aF,a6] at hd;obtain⟨p,hp,rfl⟩:=hd;obtain⟨q,hq,G,q2⟩:=dQj pp i p hp;obtain⟨y,hy,y1,y2,y3⟩:=cZa R i q hq;have j:(xs.map (·.2.1))[i]?=some y.2.1:=by rw[aF,hy];rfl
   have L:(kw.map (·.2))[i]?=some q.2:=by rw[aF,hq];rfl
   refine⟨⟨J,(aA.mp j).1⟩,λx' H3 ⟨a3,b,z,e3,e4,e5,e6,e7⟩=>?_⟩;subst e4 e5;rw[j] at e6;cases e6;rw[L] at e7;cases e7;rw[<- G];exact cQs B e3 (y2.keep (x.kpF f)) (q2.keep (x.kpF f))
  ·obtain⟨I,⟨Y,Z,D,J,_⟩,_⟩:=B.obj a _ O;refine⟨J,?_⟩;rw[af,af,<- bP R,bP pp];exact Nat.le_refl _⟩
end
section
variable {X:Cx} {K:Fg} {κ:Type} [DecidableEq κ] {pos:Pos} {P:aC} {w:aR}
def gQ8 (N:KnD P w K κ) (tk tv:TE):TE:=fun σ H Q=>∀ p,H p=none->∀ o M,DxV N o M (upd H p (cdO p o)) p []->tk σ (upd H p (cdO p o)) λy H1=>tv σ H1 λv H2=>∃ o1 M k,M p/\DxV N o1 M H2 p []/\RepV K M H2 (N.enc k) y/\∀ o',DxV N o' M (upd H2 p (cdO p o')) p (putK [] k v)->Q (.ref p) (upd H2 p (cdO p o'))
theorem eXi {N:KnD X.prog X.w K κ} {ek ev:Expr} {tk tv:TE} (hu:N.knd.room X.A) (hK:X.K=K) (hk:PE X ek tk) (hv:PE X ev tv):PE X (.Dict [some ek] [ev] pos) (gQ8 N tk tv):=by
 intro pins s σ H Q I h;have O:(s.heap.push { cls:=.type "dict",data:=.dict #[] }).get? s.heap.objs.size=some { cls:=.type "dict",data:=.dict #[] }:=au _ rfl;have lo:(s.heap.objs.size == e8)=false:=beq_eq_false_iff_ne.mpr (b8 (Nat.ne_of_lt I.big));have I0:=I.laid (a:=s.heap.objs.size) (o:=cdO s.heap.objs.size { cls:=.type "dict",data:=.dict #[] }) (t':=s.toks) (λ_ _ q=>ag _ q) (Nat.le_refl _) ⟨O,⟨_,O⟩,λg1 g2 g k=>k _ g⟩;refine wpAny_Dict_any rfl rfl (by simp) (by simp) ?_
 refine evalPairs_cons (thn (hk pins _ σ _ _ I0 (h _ (I.hok.fresh (Nat.le_refl _)) _ (λ_=>False) ⟨#[],0,[],aQa,⟨rfl,rfl,rfl⟩,rfl,rfl,eB,Nat.zero_le _,lo,.nil⟩)) λR s1 ⟨y,H1,I1,U,Z⟩=>?_);refine aa (thn (hv pins s1 σ H1 _ I1 Z) λvv s2 ⟨v,H2,L,Y,o1,M,k,hM,d,B,q⟩=>aa (js (ad (evalPairs_nil ?_))));obtain⟨b,rfl⟩:=N.ref B;cases (show R=cr b from U)
 obtain⟨g1,xs,dd,rel⟩:=d.at rfl rfl hK L;cases rel;obtain⟨_,_,_,hH,_⟩:=id d;unfold storeAll;rw[cZ];refine aa (aa (wpAny_dictSet_heap (hsz:=Nat.zero_le _) hu (N.key rfl rfl hK L B) dd λh' J D=>ad ?_));dsimp only;rw[fR];refine ad ?_;obtain⟨j,es,ep,G,h2,h3,h4,_,h5⟩:=J;have kp:Keep M H2 M (upd H2 s.heap.objs.size (cdO s.heap.objs.size j)):=⟨λc oc hc e=>by rw[upd_ne (λz=>hc (by rw[z];exact hM))];exact e,λ_ h _=>h⟩
 exact⟨.ref s.heap.objs.size,_,cJq L (by rw[hH];exact gy) D ⟨j,G⟩ (ob:=cdO s.heap.objs.size j) ⟨G,⟨_,G⟩,λg1 g2 g k=>k _ g⟩,rfl,q j ⟨es,ep,_,aQa,h2,h3,h4,h5,(by rw[bh];show 1<=_;decide),lo,Paired.imp (λ_ _ z=>⟨z.1,z.2.1.keep kp,z.2.2⟩) (dJ7 .nil k B Y)⟩⟩
def gQ9 (N:KnD P w K κ) (tk tv:ED):ED:=fun Γ S Q=>∀ p,S p=none->∀ o,tk Γ (supd S p (dxO N o [])) λd S1=>tv Γ S1 λe S2=>∃ k o1,d=N.enc k/\S2 p=some (dxO N o1 [])/\∀ o',Q (.ref p) (supd S2 p (dxO N o' (putX [] k e)))
theorem fXc (N:KnD P w K κ) {ek ev:Expr} {tk tv:ED} (hu:N.knd.room X.A) (hk:PD K X ek tk) (hv:PD K X ev tv) (hP:X.prog=P:=by rfl) (hw:X.w=w:=by rfl) (hK:X.K=K:=by rfl):PD K X (.Dict [some ek] [ev] pos) (gQ9 N tk tv):=by
 subst hP hw;refine .of (eXi (N:=N) hu hK hk.o hv.o) fun σ H Q Y=>Y.el λF S Γ QD r g q c=>λp D o M dx=>?_;have x0:Ext S H (supd S p (dxO N o [])) (upd H p (cdO p o)):=Ext.mk' D;have r0:Rp K F (supd S p (dxO N o [])) (upd H p (cdO p o)):=r.mk' D ⟨[],by
  obtain⟨es,ep,xs,h1,h2,h3,h4,h5,h6,h7,h8⟩:=dx;cases h8;exact⟨es,ep,[],h1,h2,h3,h4,h5,h6,h7,.nil⟩,.nil⟩
 refine⟨F,_,Γ,_,r0,g.ext x0,q p (r.sn D) o,λy dy H1 S1 O Z v1 q1=>⟨F,S1,Γ,_,Z,g.ext (x0.trans O),q1,λv dv H2 B L R v2 ⟨k,o1,e1,U,q2⟩=>?_⟩⟩;subst e1;obtain⟨kw,G,pp⟩:=R.obj p _ U;cases pp;have j:B p≠none:=by rw[U];exact λz=>by cases z
 refine⟨o1,mt B F,k,.inl j,G,v1.ext L,λo' I=>?_⟩;have J:Ext B H2 (supd B p (dxO N o' (putX [] k dv))) (upd H2 p (cdO p o')):=Ext.write j;have mm:∀ b,¬ mt B F b->¬ mt (supd B p (dxO N o' (putX [] k dv))) F b:=λb hb z=>hb (z.elim (λz=>by
  by_cases e:b=p
  ·rw[e];exact .inl j
  ·rw[supd_ne e] at z;exact .inl z) .inr)
 exact c (.ref p) (.ref p) _ _ (x0.trans (O.trans (L.trans J))) (R.write j ⟨_,I.keep ⟨λ_ _ _ h=>h,λb h _=>mm b h⟩ rfl,dJ8 .nil k (v2.ext J)⟩) (by unfold RepV;rfl) (q2 o')
theorem eXj {k:Nat} (hr:Room k X.A):(prN P w K).knd.room X.A:=by
 have:=lt64 (n:=6) hr
 show X.A.units + 6 < cb;omega
end
end L2
set_option maxHeartbeats 4000000
namespace HT
open PySem PyProof.Rows
theorem eXk (A:a7) (s:ai) (a:Str) (t:Tok) (c:Str) (u:Tok) (prog:aC) (w:aR) (E:ae->ai->Prop) (Q:ae->ai->Prop) (h:Q (.bool (!ltS a c)) s) :
  aE (aJ prog w) A (richCompare .GtE (.str a t) (.str c u)) Q E s :=
 (PySem.P.ge_str h:aE (aJ prog w) A (cQ .GtE (.str a t) (.str c u)) Q E s)
section
open PySem.SeqAt
open PySem.AutoSeq1 (wpAny_loadPart')
open PySem.MeetsSeq PySem.MeetsSeq2 PySem.MeetsSeq3
theorem bZu (l b:Addr) (items items2:Array ae) (n n2:Nat) (dd dd2:Option Addr) (sl sl2:Array (Option ae)) (ns ms:List Str) (hi:SAre items.toList ns) (hj:SAre items2.toList ms) :
  Meets (b4.«tuple.__ge__» ⟨[.ref l,.ref b],[]⟩)
   (λ_ R s=>s.heap.get? l=some { cls:=.type "tuple",dict:=dd,data:=.seq items n,slots:=sl }/\s.heap.get? b=some { cls:=.type "tuple",dict:=dd2,data:=.seq items2 n2,slots:=sl2 } /\
    R (.ok (.ret (.bool (!lexS ns ms)))) s) :=
 .of_wp λprog w A R s h=>by
  obtain⟨Y,g,d,U,os⟩:=s;obtain⟨hl,hb,h⟩:=h;have f2:=gq;have z1:items.size=ns.length:=by rw[<- hi.len];simp
  have z2:items2.size=ms.length:=by rw[<- hj.len];simp
  wp_walk using eV hl,eV hb,hW _ (λrest b s'=>b.1=none/\s'=⟨Y,g,d,U,os⟩/\∃ (vs ws:List ae) (j B:List Str),rest=vs.zip ws /\
   SAre vs j/\SAre ws B/\j.length + items2.size=B.length + items.size/\R (.ok (.ret (.bool (!lexS j B)))) ⟨Y,g,d,U,os⟩) _
  case turn =>
   rintro⟨y,x⟩ rest b s' ⟨J,rfl,vs,ws,j,B,hz,hvi,hwi,hlen,G⟩;cases hvi with
   | nil=>rw[jo] at hz;cases hz
   | @cons va a _ _ ha O =>
    obtain⟨t,rfl⟩:=ha;cases hwi with
    | nil=>rw[eO] at hz;cases hz
    | @cons vc c _ _ hc L =>
     obtain⟨u,rfl⟩:=hc;rw[d0] at hz;injection hz with Z I
     injection Z with hy hx
     subst hy hx;rw[lexS_cons] at G;simp only[aV] at hlen;obtain⟨e,he,D⟩:=cXx A.in1 ⟨Y,g,d,U,os⟩ a t c u;refine aa (he prog w _ _ ?_);cases e with
     | true =>
      rw[if_pos (D.mp rfl)] at G
      wp_walk
      exact⟨rfl,rfl,_,_,_,_,I,O,L,by lia,G⟩
     | false =>
      rw[if_neg (λq=>absurd (D.mpr q) a9)] at G;have hri:=eXk A.in1 ⟨Y,g,d,U,os⟩ a t c u prog w
      wp_walk using hri
      exact⟨_,rfl,by simpa using G⟩
  case fin =>
   rintro⟨b1,b2⟩ s' ⟨J,rfl,vs,ws,j,B,hz,hvi,hwi,hlen,G⟩;simp only at J;subst J;have hv:(!lexS j B)=decide (items2.size<=items.size):=by
    cases hvi with
    | nil =>
     cases hwi with
     | nil =>
      simp only[cu] at hlen;rw[aJf];exact(decide_eq_true (by lia)).symm
     | cons hc hw =>
      simp only[cu,aV] at hlen;rw[lexS_nil_cons];exact(decide_eq_false (by lia)).symm
    | cons ha hv =>
     cases hwi with
     | nil =>
      simp only[cu,aV] at hlen;rw[lexS_cons_nil];exact(decide_eq_true (by lia)).symm
     | cons hc hw =>
      rw[d0] at hz;cases hz
   rw[hv] at G
   wp_walk
   exact⟨_,rfl,by simpa [gY] using G⟩
  case h =>
   exact⟨rfl,rfl,items.toList,items2.toList,ns,ms,rfl,hi,hj,by lia,h⟩
end
section
variable {prog:aC} {w:aR} {A:a7} {E:ae->ai->Prop} {s:ai}
theorem ge_tupStrs {l b:Addr} {items items2:Array ae} {ns ms:List Str} {Q:ae->ai->Prop} (hl:jh s.heap l items) (hb:jh s.heap b items2) (hi:SAre items.toList ns) (hj:SAre items2.toList ms)
  (hu:A.units < cb) (h:Q (.bool (!lexS ns ms)) s):aE (aJ prog w) A (cQ .GtE (.ref l) (.ref b)) Q E s:=by
 obtain⟨⟨cls,dd,data,sl⟩,I,J,n,hd⟩:=id hl;obtain⟨⟨L,G,data2,D⟩,j,B,O,hd2⟩:=id hb;simp only at J hd B hd2;subst J hd B hd2;exact richCompare_meets_room (op:=.GtE) ⟨_,I,rfl⟩ ⟨_,j,rfl⟩ PySem.F.slot_tuple_ge PySem.F.entry_tuple_ge (PySem.F.args_tuple_ge_2 _ _) (bZu l b items items2 n O dd G sl D ns ms hi hj)
  ⟨I,j,show jX (!lexS ns ms)≠Value.notImplemented/\Q (.bool (!lexS ns ms)) s from⟨(λx=>nomatch x),h⟩⟩ hu
end
end HT
namespace L2
open PySem PySem.Spec PyProof.Rows
section
variable {X:Cx} {K:Fg} {pos:Pos} {k:Nat}
def rGeT (K:Fg):R2:=λx y H Q=>∃ d e,dT K dS H x d/\dT K dS H y e/\Q (.bl (!HT.lexS d e)) H
theorem fXd (hu:X.A.units < cb) (hK:X.K=K:=by rfl):OpR X (cQ .GtE) (rGeT K):=by
 subst hK;intro pins s σ H x y v u Q I rx ry h;obtain⟨d,e,⟨a,xs,rfl,U,J⟩,⟨b,ys,rfl,R,G⟩,q⟩:=h;cases rx;cases ry;obtain⟨O,D,L,_⟩:=I.tuple U;obtain⟨j,B,p2,_⟩:=I.tuple R;exact HT.ge_tupStrs L p2 (aXg J D) (aXg G B) hu ⟨.bl (!HT.lexS d e),H,I,rfl,q⟩
def geTD:R2D:=λd e S Q=>∃ a b:List Str,d=tupS a/\e=tupS b/\Q (.bl (!HT.lexS a b)) S
theorem fXe:OpD K (rGeT K) geTD:=by
 intro F S H d e x y Q QD r hd he h c;obtain⟨a,b,rfl,rfl,q⟩:=h;have one:∀ {t:List Str} {v:V},RepV K (mt S F) H (tupS t) v->dT K dS H v t:=λ{t v} h=>by
  unfold tupS RepV at h;obtain⟨p,us,rfl,tt,l⟩:=h;exact⟨p,us,rfl,tt.sq,aJ9 l⟩
 exact⟨a,b,one hd,one he,c.bl r q⟩
theorem fXf {a b:Expr} {ta tb:ED} (hr:Room k X.A) (ha:PD K X a ta) (hb:PD K X b tb) (hK:X.K=K:=by rfl):PTD K X (.Compare a [.GtE] [b] pos) (aJ7 (dOp geTD ta tb)):=aXs (fXd (lt10 (n:=0) hr) hK) fXe ha hb (nomark _)
end
end L2
set_option maxHeartbeats 1000000
namespace L2
open PySem PySem.Spec PyProof.Rows
section
variable {K:Fg}
theorem eXl {L:List Nat} {i j k:Nat} (hi:i∉j::k::L:=by decide) (hj:j∉k::L:=by decide) (hk:k∉L:=by decide):CG K (i::j::k::L) L (gTup K 2 (bXw (gTup K 2 (bXw (bQ9 i) (bXw (bQ9 j) gNil))) (bXw (bQ9 k) gNil))) (cZs 2 (aX4 (cZs 2 (aX4 (aQr i) (aX4 (aQr j) cZr))) (aX4 (aQr k) cZr))):=λF S H Γ σ d v Q QD f r g R q c=>by
 cases d with
 | tup ds =>
  obtain⟨p,us,rfl,sq,l⟩:=tup.st R;obtain⟨hl,q⟩:=q
  match ds,hl,q with
  | [d1,d2],_,q =>
   obtain⟨v1,v2,rfl,Y,U⟩:=l.two;cases d1 with
   | tup es =>
    obtain⟨J,O,rfl,D,Z⟩:=tup.st Y;obtain⟨G,q⟩:=q
    match es,G,q with
    | [e1,e2],_,q =>
     obtain⟨B,I,rfl,s1,s2⟩:=Z.two;have f1:Free (j::k::L) (σ.set i (some B)):=f.set hi;have f2:Free (k::L) ((σ.set i (some B)).set j (some I)):=f1.set hj;exact⟨p,_,rfl,sq,rfl,.ref J,_,rfl,J,_,rfl,D,rfl,B,_,rfl,I,_,rfl,rfl,v2,_,rfl,rfl,c _ S _ H (Ext.refl _ _) r (((g.set s1 i).set s2 j).set U k) (((cZi (f i am)).trans (cZi (f1 j am))).trans (cZi (f2 k am))) (f2.set hk) q.2.2⟩
   | _=>exact q.elim
 | _=>exact q.elim
end
end L2
namespace Toy
open PySem L2
abbrev s_count_apart:Stmt:=top 8
theorem sc_count_apart:FnScope ["sets", "many", "counted", "one", "ways", "size", "taken", "number", "shut", "longer"] ["sets", "many"] (aQ8 s_count_apart):=fsc
def kE (l:List ((Nat × List Str) × Nat)):List ((Nat × List Str) × D):=l.map λp=>(p.1,D.int (p.2:Nat))
theorem dJa (l:List ((Nat × List Str) × Nat)) (k:Nat × List Str):(valX (kE l) k).getD (D.int 0)=D.int (valK l k:Nat):=by
 unfold kE valK valX
 induction l with
 | nil=>rfl
 | cons p l j =>
  rw[aL,dA,dA]
  by_cases h:p.1=k
  ·simp[h]
  ·simpa [h] using j
theorem dJb (l:List ((Nat × List Str) × Nat)) (k:Nat × List Str) (n:Nat):putX (kE l) k (D.int ((valK l k + n:Nat):Int))=kE (addK l k n):=by
 unfold putX addK kE;have e:((l.map λp=>(p.1,D.int (p.2:Nat))).any λj=>decide (j.1=k))=l.any λp=>decide (p.1=k):=by rw[List.any_map];rfl
 rw[e]
 split
 ·rw[bH,bH];refine eI λp _=>?_;show(if p.1=k then (p.1,D.int ((valK l k + n:Nat):Int)) else (p.1,D.int (p.2:Nat)))=_
  show _=((if p.1=k then (p.1,valK l k + n) else p).1,D.int ((if p.1=k then (p.1,valK l k + n) else p).2:Nat))
  by_cases h:p.1=k
  ·rw[if_pos h,if_pos h]
  ·rw[if_neg h,if_neg h]
 ·rw[aO];rfl
theorem cZb {l:List ((Nat × List Str) × Nat)} {k:Nat × List Str} {n:Nat} {e:Nat × List Str} (h:e∈(addK l k n).map (·.1)):e∈l.map (·.1)\/e=k:=by
 rw[bQ6] at h
 split at h
 ·exact .inl h
 ·rcases aN.mp h with h | h
  ·exact .inl h
  ·exact .inr (aI.mp h)
theorem eXm (a b:Nat):decide (D.int (a:Nat)=D.int (b:Nat))=decide (a=b):=decide_eq_decide.mpr ⟨λh=>by injection h with h;omega,λh=>by rw[h]⟩
theorem dX7 (l:List ((Nat × List Str) × Nat)):(l.map λq=>(q.2:Int)).sum=(((l.map (·.2)).sum:Nat):Int):=by
 induction l with
 | nil=>rfl
 | cons q l j=>rw[aL,cB,aL,cB,j];omega
theorem bJt {many:Nat} {G:Sto->Prop} {S:Sto} {Q:List D->Sto->Prop} (hG:G S):∀ (l:List ((Nat × List Str) × Nat)) (acc:List D),acc.length + l.length<=99999->Q (acc++(l.filter λq=>decide (q.1.1=many)).map λq=>D.int (q.2:Nat)) S ->
  aZl (cZs 2 (aX4 (cZs 2 (aX4 (aQr 0) (aX4 (aQr 1) cZr))) (aX4 (aQr 2) cZr))) (aJ7 (dOp (eqD false) (dVar 0) (dVar 3))) (aJl (dVar 2)) G [none,none,none,some (D.int (many:Nat))] ((kE l).map λq=>.tup [.tup [.int (q.1.1:Nat),tupS q.1.2],q.2]) acc S Q
 | [],acc,_,q=>⟨hG,by simpa using q⟩
 | ((size,taken),n)::l,acc,j,q=>by
  rw[aV] at j;refine⟨hG,rfl,rfl,rfl,rfl,rfl,_,rfl,?_⟩;have e:(if false=true then !decide (D.int (size:Nat)=D.int (many:Nat)) else decide (D.int (size:Nat)=D.int (many:Nat)))=decide (size=many):=eXm size many
  rw[bt] at q
  by_cases c:size=many
  ·rw[if_pos (decide_eq_true c)] at q;refine ite2 (λ_=>⟨by rw[bh];omega,bJt hG l _ (by rw[aq];show _ + 1 + _<=_;omega) (by rw[aY];exact q)⟩) λz=>absurd (e.trans (decide_eq_true c)) z
  ·rw[if_neg (by simpa using c)] at q
   exact ite2 (λz=>absurd (of_decide_eq_true (e.symm.trans z)) c) λ_=>bJt hG l _ (by omega) q
def aXc:SpD:=λds S Q=>∃ (ts:List (List Str)) (many:Nat),ds=[.tup (ts.map tupS),.int many]/\ts.length<=14/\SrtT ts/\(∀ t∈ts,Srt t/\t.length<=6)/\Q (.int (apP (λa b=>!mts b a) (λ_=>true) ts many:Nat)) S
section
variable {P:aC} {w:aR} {K:az} {mg:Str->Option ae} {base:bf} {pt cc:Addr}
theorem bQg (T:Tx K mg "count_apart" s_count_apart) (B:Bs mg) (d_meets:Df P w K mg base 1 "meets" ["one", "row"] (spU K cZ2)):Df P w K mg base 2 "count_apart" ["sets", "many"] (spU K aXc):=by
 refine aXk T sc_count_apart (λF=>F.binds λ_ _ _ _ _ _=>us2 λ_ _=>rfl) ?_ λf cdv A outer s H E U=>⟨_,(aQ2 (aQ9 (i:=2) sc_count_apart.nd rfl (aW rfl) (fXc (prN P w K) (eXj U) (aX3 (aQ0 aQ5 (aQ0 (aX3 aQ1) aQ1))) aQ5))
  (aQ2 (aZb cf rfl (aZ5 (dv 0)) (aQl (i:=3) sc_count_apart.nd rfl (gb rfl)) (aQ2 (aQ9 (i:=4) sc_count_apart.nd rfl (aW rfl) (eXg (prN P w K)))
  (aQ2 (aZb cf rfl (bXu (prN P w K) (dv 2)) (cQm rfl (aZd (cQm rfl (aZd (aQl (i:=5) sc_count_apart.nd rfl (aW rfl)) (aZd (aQl (i:=6) sc_count_apart.nd rfl (aW rfl)) bZe))) (aZd (aQl (i:=7) sc_count_apart.nd rfl (aW rfl)) bZe))) (aQ2 (aQ9 (i:=8) sc_count_apart.nd rfl (aW rfl) (aZk rfl B.tuple (aQ0 (aQw (N':=["name", "one"]) (oc:=none) (b:=false) [0] [] rfl sc_count_apart.nd (λ_ _ _=>aQc _ _ _ _ _ _ _ _ _) (.own (.cap (i:=3) rfl (by decide +kernel) .nil)) (aQg rfl) (aZ5 (dv 6)) (cg_name (i:=0)) (λ_ _ _ _ _=>aQb (i:=0) (nd_ ["name", "one"]) rfl (aW rfl) (.inr rfl)) (λ_ _ _ _ _=>aQu (by exact(fXf U (aX3 (aQ0 (dv 0) aQ1)) (e_sl (b:=false) (dv 1) aXi (aZr aQ5))))) aQf (λ_ _ _ _ _ _=>aQe rfl (by exact PD.o (dv 0)))) aQ1)))
  (aQ2 (dQi (prN P w K) U (dv 4) (aX3 (aQ0 (dv 5) (aQ0 (dv 8) aQ1))) (aQm (k:=false) (dQh (prN P w K) U (dv 4) (aX3 (aQ0 (dv 5) (aQ0 (dv 8) aQ1))) aQ5) (dv 7)))
  (aQ4 (aXt (PWD.pt (dXs (fJb U (dv 5) (dv 1)) (cJc (cQj (aJg (aQ7 d_meets U rfl (aQ0 (dv 3) (aQ0 (dv 8) aQ1)))))))) (aQ2 (aQ9 (i:=9) sc_count_apart.nd rfl (aW rfl) (aX3 (aQ0 (aQm (k:=false) (dv 5) aQ5) (aQ0 (aZk rfl B.tuple (aQ0 (aJo (b:=false) U rfl B.sorted (aQ0 (aQm (k:=false) (dv 8) (dv 3)) aQ1)) aQ1)) aQ1))))
  (aQ4 (dQi (prN P w K) U (dv 4) (dv 9) (aQm (k:=false) (dQh (prN P w K) U (dv 4) (dv 9) aQ5) (dv 7))))) aZ1)))))
  (aQ4 (aQ9 (i:=2) sc_count_apart.nd rfl (aW rfl) (dv 4))))))
  (aQ4 (aQq (fZi rfl B.sum (aQ0 (aQw (N':=["size", "taken", "number", "many"]) (oc:=none) (b:=false) [0,1,2] [] rfl sc_count_apart.nd (λ_ _ _=>aQc _ _ _ _ _ _ _ _ _) (.own (.own (.own (.cap (i:=1) rfl (by decide +kernel) .nil)))) (aQg rfl) (bXu (prN P w K) (dv 2)) (eXl (i:=0) (j:=1) (k:=2)) (λ_ _ _ _ _=>aJc rfl (aQj (aJc rfl (aQj (aQb (i:=0) (nd_ ["size", "taken", "number", "many"]) rfl (aW rfl) (.inr rfl)) (aQj (aQb (i:=1) (nd_ ["size", "taken", "number", "many"]) rfl (aW rfl) (.inr rfl)) aZy))) (aQj (aQb (i:=2) (nd_ ["size", "taken", "number", "many"]) rfl (aW rfl) (.inr rfl)) aZy))) (λ_ _ _ _ _=>aQu (by exact(bQe U (dv 0) (dv 3)))) aQf (λ_ _ _ _ _ _=>aQe rfl (by exact PD.o (dv 2)))) aQ1)))))),?_⟩
 ·rintro ds S Q ⟨ts,many,rfl,_⟩;rfl
 ·rintro ds S Q ⟨ts,many,rfl,hl,sR,hs,q⟩;intro p0 hp0 o0;refine⟨z9999 (by decide),z9999 (by decide),(0,[]),o0,rfl,aQ3,λo1=>?_⟩
  refine⟨_,rfl,?_⟩;refine aQv (λi Γ S'=>∃ (p:Addr) (o:Obj) (l:List ((Nat × List Str) × Nat)) (x3 x4 x5 x6 x7 x8 x9:Option D),Γ=[some (.tup (ts.map tupS)),some (.int many),some (.ref p),x3,x4,x5,x6,x7,x8,x9]/\S' p=some (dxO (prN P w K) o (kE l))/\(∀ b o,S b=some o->S' b=some o)/\CtK many (ts.take i) l/\l.length<=2 ^ i/\∀ e∈l.map (·.1),e.2.Nodup/\e.2.length<=6 * i) ?_ ?_ ?_
  ·refine⟨p0,o1,[((0,[]),1)],none,none,none,none,none,none,none,rfl,?_,λb o e=>?_,.start many,Nat.le_refl _,?_⟩
   ·exact aQ3
   ·have hb:b≠p0:=by rintro rfl;rw[e] at hp0;cases hp0
    exact(supd_ne hb).trans ((supd_ne hb).trans e)
   ·intro e he;have he:e=(0,[]):=by simpa using he
    subst he;exact⟨eB,Nat.le_refl _⟩
  ·rintro i x Γ S' N hx ⟨p,o,l,x3,x4,x5,x6,x7,x8,x9,rfl,L,fr,ct,hl2,hk⟩ hN;rw[aF,a6] at hx;obtain⟨t,ht,rfl⟩:=hx;have hi:i < ts.length:=(aA.mp ht).1;obtain⟨tS,t6⟩:=hs t (ak ht);refine⟨trivial,?_⟩;intro p' hp' o';have I:p≠p':=by rintro rfl;rw[L] at hp';cases hp'
   have hl3:l.length<=16384:=Nat.le_trans hl2 (Nat.pow_le_pow_right (n:=2) (by decide) (show i<=14 by omega))
   refine⟨p,o,kE l,rfl,(supd_ne I).trans L,?_⟩;refine aQv (λj Γ S2=>∃ (o2:Obj) (G:List ((Nat × List Str) × Nat)) (y5 y6 y7 y8 y9:Option D),Γ=[some (.tup (ts.map tupS)),some (.int many),some (.ref p),some (tupS t),some (.ref p'),y5,y6,y7,y8,y9]/\S2 p=some (dxO (prN P w K) o (kE l))/\S2 p'=some (dxO (prN P w K) o2 (kE G))/\(∀ b o,S b=some o->S2 b=some o)/\TnK many t (l.take j) G/\∀ e∈G.map (·.1),e.2.Nodup/\e.2.length<=6 * (i + 1)) ?_ ?_ ?_
   ·exact⟨o',[],x5,x6,x7,x8,x9,rfl,(supd_ne I).trans L,aQ3,λb o e=>(supd_ne (by rintro rfl;rw[fr _ _ e] at hp';cases hp')).trans (fr b o e),.nil,λe h=>nomatch h⟩
   ·rintro j y Γ S2 N2 hy ⟨o2,G,y5,y6,y7,y8,y9,rfl,J,O,R,Z,hk2⟩ hN2;rw[aF,a6] at hy;obtain⟨q',hq,rfl⟩:=hy;unfold kE at hq;rw[aF,a6] at hq;obtain⟨⟨⟨size,taken⟩,n⟩,hen,rfl⟩:=hq;have hj:j < l.length:=(aA.mp hen).1;obtain⟨knd,kl⟩:taken.Nodup/\taken.length<=6 * i:=hk (size,taken) (bD.mpr ⟨_,ak hen,rfl⟩);refine⟨J,rfl,rfl,rfl,rfl,?_⟩;refine⟨_,rfl,aZ3 (enc:=D.str) (p:=geq t) (f:=D.str) (λn hn Q' h=>?_) (λn hn _ Q' h=>h) (z9999 ?_) ?_⟩
    ·exact⟨z9999 (by show 1<=9999;decide),1,rfl,[n],t.take 1,rfl,by show D.tup (cutD (t.map D.str) none (some ((1:Nat):Int)))=_;rw[eZz,<- List.map_take];rfl,_,rfl,h⟩
    ·show 0 + taken.length<=_;omega
    have sl:(taken.filter (geq t)).length<=6 * i:=Nat.le_trans (br _ _) kl;have snd:(taken.filter (geq t)).Nodup:=knd.filter _;have wl:G.length<=32768:=by
     have:=Z.len
     rw[aK] at this;omega
    have etk:l.take (j + 1)=l.take j++[((size,taken),n)]:=by rw[bT,hen];rfl
    refine⟨_,rfl,⟨p',o2,kE G,rfl,O⟩,z9999 (by show 2<=9999;decide),p',o2,kE G,(size,taken.filter (geq t)),rfl,O,rfl,?_⟩
    rw[dJa];refine⟨z9999 (by show 2<=9999;decide),p',o2,kE G,(size,taken.filter (geq t)),rfl,O,rfl,?_,λo3=>?_⟩
    ·show(kE G).length < sizeLine;unfold kE;rw[af,bh];omega
    rw[show((valK G (size,taken.filter (geq t)):Nat):Int) + (n:Int)=((valK G (size,taken.filter (geq t)) + n:Nat):Int) from(fD ..).symm,dJb]
    have Y:∀ {o3:DO} {S3:Sto},(∀ b o,S b=some o->S3 b=some o)->∀ b o,S b=some o->supd S3 p' o3 b=some o:=λh b o e=>(supd_ne (by rintro rfl;rw[fr _ _ e] at hp';cases hp')).trans (h b o e)
    have kw:∀ e∈(addK G (size,taken.filter (geq t)) n).map (·.1),e.2.Nodup/\e.2.length<=6 * (i + 1):=λe he=>by
     rcases cZb he with he | rfl
     ·exact hk2 e he
     ·exact⟨snd,by show(taken.filter (geq t)).length<=_;omega⟩
    refine⟨_,rfl,ite2 (λc0=>?_) λc0=>?_⟩
    ·have c0:size < many:=by have z:((size:Nat):Int) < ((many:Nat):Int):=of_decide_eq_true c0;omega
     refine⟨Str,inferInstance,strE,t,taken.filter (geq t),tupS t,tupS (taken.filter (geq t)),rfl,by decide,.inl rfl,.inl rfl,by omega,?_⟩
     refine ite2 (λc1=>?_) λc1=>?_
     ·have c1:mts t (taken.filter (geq t))=false:=by simpa using c1
      have an:(taken.filter (geq t)++t).Nodup:=by
       rw[dq];refine⟨snd,tS.imp λh e=>?_,λa ha b hb e=>?_⟩
       ·subst e;rw[HT.ltS_ir] at h;cases h
       ·subst e
        have:=mts_iff.mpr ⟨a,ha,hb⟩
        rw[c1] at this;cases this
      refine⟨z9999 ?_,.inl ⟨taken.filter (geq t)++t,?_,_,rfl,z9999 (by show 2<=9999;decide),?_⟩⟩
      ·show((taken.filter (geq t)).map D.str).length + (t.map D.str).length<=9999;rw[af,af];omega
      ·show(taken.filter (geq t)++t).map D.str=(taken.filter (geq t)).map D.str++t.map D.str;rw[aO]
      have wl2:(addK G (size,taken.filter (geq t)) n).length<=32769:=Nat.le_trans (aJq _ _ _) (by omega)
      refine⟨⟨p',o3,kE (addK G (size,taken.filter (geq t)) n),rfl,aQ3⟩,p',o3,kE (addK G (size,taken.filter (geq t)) n),(size + 1,srS (taken.filter (geq t)++t)),rfl,aQ3,rfl,?_⟩;rw[dJa];refine⟨p',o3,kE (addK G (size,taken.filter (geq t)) n),(size + 1,srS (taken.filter (geq t)++t)),rfl,aQ3,rfl,?_,λo4=>?_⟩
      ·show(kE _).length < sizeLine;unfold kE;rw[af,bh];omega
      rw[show((valK (addK G (size,taken.filter (geq t)) n) (size + 1,srS (taken.filter (geq t)++t)):Nat):Int) + (n:Int)=((valK (addK G (size,taken.filter (geq t)) n) (size + 1,srS (taken.filter (geq t)++t)) + n:Nat):Int) from(fD ..).symm,dJb]
      refine hN2 _ _ ⟨o4,_,_,_,_,_,_,rfl,(supd_ne I).trans ((supd_ne I).trans J),aQ3,Y (Y R),by rw[etk];exact Z.two (size,taken) n ⟨c0,c1⟩,λe he=>?_⟩
      rcases cZb he with he | rfl
      ·exact kw e he
      ·refine⟨(aZt _).nodup_iff.mpr an,?_⟩;show(srS _).length<=_;rw[(aZt _).length_eq,aq];omega
     ·have c1:mts t (taken.filter (geq t))=true:=by simpa using c1
      exact hN2 _ _ ⟨o3,_,_,_,_,_,_,rfl,(supd_ne I).trans J,aQ3,Y R,by rw[etk];exact Z.one (size,taken) n λz=>(by rw[show mts t _=false from z.2] at c1;cases c1),kw⟩
    ·have c0:¬ size < many:=λz=>c0 (decide_eq_true (show((size:Nat):Int) < ((many:Nat):Int) by omega))
     refine ite2 (λz=>nomatch (show false=true from z)) λ_=>?_
     exact hN2 _ _ ⟨o3,_,_,_,_,_,_,rfl,(supd_ne I).trans J,aQ3,Y R,by rw[etk];exact Z.one (size,taken) n λz=>c0 z.1,kw⟩
   ·rintro Γ S2 ⟨o2,G,y5,y6,y7,y8,y9,rfl,J,O,R,Z,hk2⟩;have el:(l.take ((kE l).map λp=>D.tup [(prN P w K).enc p.1,p.2]).length)=l:=by
     unfold kE;rw[af,af,cv]
    rw[el] at Z;refine⟨J,hN _ _ ⟨p',o2,G,some (tupS t),some (.ref p'),y5,y6,y7,y8,y9,rfl,O,R,?_,?_,hk2⟩⟩
    ·rw[bT,ht];exact ct.turn Z
    ·rw[Nat.pow_succ]
     have:=Z.len
     omega
  ·rintro Γ S' ⟨p,o,l,x3,x4,x5,x6,x7,x8,x9,rfl,L,fr,ct,hl2,hk⟩;rw[af,cv] at ct;have hl3:l.length<=16384:=Nat.le_trans hl2 (Nat.pow_le_pow_right (n:=2) (by decide) (show(ts.map tupS).length<=14 by rw[af];exact hl))
   refine⟨trivial,p,o,kE l,rfl,L,bJt L l [] (by show 0 + _<=_;omega) ?_⟩
   refine⟨(l.filter λq=>decide (q.1.1=many)).map λq=>(q.2:Int),?_,bZj fr ?_⟩
   ·show []++_=_;rw[bY,bH];rfl
   rw[dX7,ct.told sR λo ho=>(hs o ho).1];exact q
end
abbrev s_count_with_core:Stmt:=top 7
theorem aJ0:FnScope ["sets", "many", "core"] ["sets", "many", "core"] (aQ8 s_count_with_core):=fsc
def aZg:SpD:=λds S Q=>∃ (ts:List (List Str)) (m:Nat) (c:List Str),ds=[.tup (ts.map tupS),.int m,tupS c]/\ts.length<=14/\SrtT ts/\(∀ t∈ts,Srt t/\t.length<=6)/\Srt c/\c.length<=9999/\2<=m/\Q (.int (cwc ts m c:Nat)) S
section
variable {P:aC} {w:aR} {K:az} {mg:Str->Option ae} {base:bf} {pt cc:Addr}
theorem aJ1 (T:Tx K mg "count_with_core" s_count_with_core) (B:Bs mg) (d_link_of:Df P w K mg base 2 "link_of" ["sets", "row"] (spU K bQx)) (d_count_apart:Df P w K mg base 2 "count_apart" ["sets", "many"] (spU K aXc)):Df P w K mg base 3 "count_with_core" ["sets", "many", "core"] (spU K aZg):=by
 refine aXk T aJ0 (λF=>F.binds λ_ _ _ _ _ _=>us3 λ_ _ _=>rfl) ?_ λf Y A outer s H E J=>⟨_,(aQ4 (aQq (eQw (fQr J (dv 1) aQ5) (aQ7 d_count_apart J rfl (aQ0 (aQ7 d_link_of J rfl (aQ0 (dv 0) (aQ0 (dv 2) aQ1))) (aQ0 (dv 1) aQ1))) aQ5))),?_⟩
 ·rintro ds S Q ⟨I,m,c,rfl,_⟩;rfl
 ·rintro ds S Q ⟨I,m,c,rfl,U,O,D,sc,Z,R,q⟩;have nd:=O.nodup;have es:=λt j=>(D t j).1;refine⟨_,rfl,ite2 (λL=>?_) λL=>absurd (decide_eq_true (show((2:Nat):Int)<=((m:Nat):Int) by omega)) L⟩
  refine⟨I,c,rfl,by omega,Z,λt j=>by have:=(D t j).2;omega,lnk I c,m,rfl,?_,eZp (fX8 nd es),λt j=>?_,?_⟩
  ·unfold lnk;rw[(aXx _).length_eq,af];exact Nat.le_trans (br _ _) U
  ·unfold lnk at j;rw[eZq,bD] at j;obtain⟨o,G,rfl⟩:=j;have G:=(bq.mp G).1;exact⟨(D o G).1.filter _,Nat.le_trans (br _ _) (D o G).2⟩
  ·rw[fX1 nd es R sc] at q;exact aQn q
end
abbrev s_core_count:Stmt:=top 10
theorem bZv:FnScope ["sets", "many", "core"] ["sets", "many", "core"] (aQ8 s_core_count):=fsc
def aJ2:SpD:=λds S Q=>∃ (ts:List (List Str)) (m:Nat) (c:List Str),ds=[.tup (ts.map tupS),.int m,tupS c]/\ts.length<=14/\SrtT ts/\(∀ t∈ts,Srt t/\t.length<=6)/\Srt c/\c.length<=9999/\2<=m/\Q (.int (cwc ts m c:Nat)) S
section
variable {P:aC} {w:aR} {K:az} {mg:Str->Option ae} {base:bf} {pt cc:Addr}
theorem bZw (T:Tx K mg "core_count" s_core_count) (B:Bs mg) (d_count_with_core:Df P w K mg base 3 "count_with_core" ["sets", "many", "core"] (spU K aZg)):Df P w K mg base 4 "core_count" ["sets", "many", "core"] (spU K aJ2):=by
 refine aXk T bZv (λF=>F.binds λ_ _ _ _ _ _=>us3 λ_ _ _=>rfl) ?_ λf O A outer s H E J=>⟨_,(aQ4 (aQq (aQ7 d_count_with_core J rfl (aQ0 (dv 0) (aQ0 (dv 1) (aQ0 (dv 2) aQ1)))))),?_⟩
 ·rintro ds S Q ⟨j,m,c,rfl,_⟩;rfl
 ·rintro ds S Q ⟨j,m,c,rfl,L,D,I,sc,R,G,q⟩;exact⟨j,m,c,rfl,L,D,I,sc,R,G,aQn q⟩
end
end Toy
set_option maxHeartbeats 4000000
namespace L2
open PySem PySem.Spec PyProof.Rows
section
variable {X:Cx}
def fXg (w:aR) (K:Fg):List V->Hp->VK->Prop:=λxs H Q=>∃ (x:V) (ds cs:List (List Str)),xs=[x]/\dL K (dT K dS) H x ds/\(∀ k∈ds,k∈cs)/\cs.length < 299/\∀ p ms H',Same H H'->ms.Nodup->(∀ k,k∈ms↔k∈ds)->dSt w K H' (.ref p) ms->Q (.ref p) H'
theorem cZy {K:Fg} {w:aR} (hu:X.A.units + 8 < cb) (hK:X.K=K:=by rfl) (hw:X.w=w:=by rfl) (hc:X.calm=true:=by rfl):CallR X (.type "set") (fXg w K):=by
 subst hK hw;intro pins s σ H xs us Q I r h;obtain⟨x,ds,cs,rfl,⟨a,ys,rfl,U,p⟩,D,Z,q⟩:=h;obtain⟨u,rfl,rx⟩:=aZo r;cases rx;obtain⟨R,O,pl,_⟩:=I.list U;refine ST.call_setKM (ST.restr (ST.tupKd X.prog X.w) λk v=>∃ x,RelV x v/\dT X.K dS H x k) (I.ok.hd hc) hu pl.isList (cJ8 I p O) D (by lia) λh' L ms M _ Y=>?_
 obtain⟨es,ep,t,B,j,J⟩:=M.ex;obtain⟨ps,h1,h2⟩:=eQh J;have G:Same H (upd H s.heap.objs.size (stO s.heap.objs.size es ep t)):=aQo (I.hok.fresh (Nat.le_refl _));exact⟨.ref s.heap.objs.size,_,I.laid (t':=L) (o:=stO s.heap.objs.size es ep t) (λb o e=>Y b o (ay e) e) (Nat.le_refl _) ⟨(ST.tupKd X.prog X.w).obj B.1,⟨_,(ST.tupKd X.prog X.w).obj B.1⟩,λg1 g2 g k=>k _ g⟩,rfl,q _ _ _ G M.nd M.mem ⟨_,es,ep,t,ps,rfl,aQa,(ST.tupKd X.prog X.w).fits B.1,j,λz=>(ST.restr (ST.tupKd X.prog X.w) λk v=>∃ x,RelV x v/\dT X.K dS H x k).few B J M.nd z,L2.Paired.imp (λ_ _ z=>⟨z.1,Mo.mo G z.2⟩) h1,h2⟩⟩
end
section
variable {X:Cx} {K:Fg} {pos:Pos} {k:Nat} {F:Am} {S:Sto} {H:Hp}
def dX8 (b:Bool) (te:ED):ED:=fun Γ S Q=>te Γ S λd S1=>∃ ts cs:List (List Str),lsIs S1 d (ts.map tupS)/\(∀ t∈ts,t∈cs)/\cs.length < 299/\∀ out:List (List Str),out.Nodup->(∀ t,t∈out↔t∈ts)->out.Pairwise (λa b=>HT.lexS a b=true)->newL b (out.map tupS) S1 Q
theorem bXv {b:Bool} {e:Expr} {te:ED} {p p' pos':Pos} (hr:Room k X.A) (hg:Gl X "sorted") (hm:X.mg "sorted" = none) (hg':Gl X "set") (hm':X.mg "set" = none) (he:PD K X e te) (hK:X.K=K:=by rfl) (hc:X.calm=true:=by rfl)
  (h1:av [e] X.env=(false,eval e X.env)::av [] X.env:=by rfl) (h2:av [ig (.Name "set" p') [e] [] pos'] X.env=(false,eval (ig (.Name "set" p') [e] [] pos') X.env)::av [] X.env:=by rfl) (h3:(cz pos (av [] X.env)).any (·.1)=false:=by rfl) (h4:(cz pos' (av [] X.env)).any (·.1)=false:=by rfl) :
  PD K X (.Call (.Name "sorted" p) [.Call (.Name "set" p') [e] [] pos'] [] pos) (dX8 b te) :=
 .of (aXo (aXa (lt64 hr) hK rfl hc) hg hm aX1 (aZp (aZz (cZy (lt64 hr) hK rfl hc) hg' hm' bJz (aZp he.o aXn h1) (by decide) (by decide) h1 h4) aXn h2) (by decide) (by decide) h2 h3) fun σ H Q O=>O.el λF S Γ QD r g q c =>
 ⟨F,S,Γ,_,r,g,q,λv d H1 G U J v1 L=>by
  obtain⟨Y,cs,hl,j,D,Z⟩:=L;obtain⟨a,us,rfl,sq,lu⟩:=lsIs.sl J v1 hl;refine⟨_,Y,cs,rfl,⟨a,us,rfl,sq,bZk lu⟩,j,D,λp ms H2 s2 nd mem st=>⟨_,ms,rfl,st,nd,?_,λl ys out B pm pw pp=>?_⟩⟩
  ·have:=nd.length_le_of_subset (λk hk=>j k ((mem k).mp hk))
   omega
  ·have I:Rp K F G H2:=J.same s2;have R:Ext G H1 G H2:=Ext.same s2;exact Cn.new (Cn.shift c (U.trans R)) I B (bZn I pp) (Z out (pm.nodup_iff.mpr nd) (λt=>(pm.mem_iff).trans (mem t)) pw)⟩
end
end L2
set_option maxHeartbeats 1000000
namespace Toy
open PySem L2
abbrev bZx:Stmt:=top 20
theorem sc_law:FnScope ["script", "deck", "turn", "sets", "many", "flowers", "cores", "some", "due"] ["script"] (aQ8 bZx):=fsc
section
variable {P:aC} {w:aR} {K:az} {mg:Str->Option ae} {base:bf} {pt cc:Addr}
theorem fXh {f:Addr} {fd:eA} (Fn:Fun K "law" "law" bZx f fd) (B:Bs mg) (d_law_deck:Df P w K mg base 49 "_law_deck" ["script"] (spU K cZ3)) (d_law_draw:Df P w K mg base 49 "_law_draw" ["deck", "most"] (spU K aZu)) (d_law_sets:Df P w K mg base 49 "_law_sets" ["deck", "most", "wide"] (spU K spd_sets)) (d_law_flowers:Df P w K mg base 49 "_law_flowers" ["sets", "many"] (spU K aXb)) (d_law_some:Df P w K mg base 49 "_law_some" ["deck", "sets", "cores"] (spU K bQ7)) (d_law_same:Df P w K mg base 49 "_law_same" ["found", "due"] (spU K bQ8)) (d_core_count:Df P w K mg base 49 "core_count" ["sets", "many", "core"] (spU K aJ2)):FnOk P w K mg base CX0 50 f fd ["script"] (spU K (cQw 63)):=by
 refine e_fn Fn sc_law ?_ λcdv A outer s H E G=>⟨_,(aQ2 (aQ9 (i:=1) sc_law.nd rfl (aW rfl) (aQ7 d_law_deck G rfl (aQ0 (dv 0) aQ1)))
  (aQ2 (aZb cf rfl (aZa rfl B.range (aQ0 aQ5 aQ1)) (aQl (i:=2) sc_law.nd rfl (aW rfl)) (aQ2 (aQ9 (i:=3) sc_law.nd rfl (gb rfl) (aQ7 d_law_sets G rfl (aQ0 (dv 1) (aQ0 (e_ix (aZj (b:=false) (aQ0 aQ5 (aQ0 aQ5 (aQ0 (e_ix (aZj (b:=false) (aQ0 aQ5 (aQ0 aQ5 aQ1))) (cJf rfl B.int (aQ0 (e_eq G (aQ7 d_law_draw G rfl (aQ0 (dv 1) (aQ0 aQ5 aQ1))) aQ5) aQ1))) aQ1)))) (dv 2)) (aQ0 aQ5 aQ1)))))
  (aQ4 (aZb cf rfl (aZ5 (aZj (b:=false) (aQ0 aQ5 (aQ0 (aQm (k:=false) aQ5 (aQ7 d_law_draw G rfl (aQ0 (dv 1) (aQ0 aQ5 aQ1)))) (aQ0 (aQm (k:=false) aQ5 (aQ7 d_law_draw G rfl (aQ0 (dv 1) (aQ0 aQ5 aQ1)))) aQ1))))) (aQl (i:=4) sc_law.nd rfl (gb rfl)) (aQ2 (aQ9 (i:=5) sc_law.nd rfl (aW rfl) (aQ7 d_law_flowers G rfl (aQ0 (dv 3) (aQ0 (dv 4) aQ1))))
  (aQ2 (aQ9 (i:=6) sc_law.nd rfl (aW rfl) (bXv (b:=false) G rfl B.sorted rfl B.set (aQw (N':=["row", "core"]) (oc:=none) (b:=false) [0,1] [] rfl sc_law.nd (λ_ _ _=>aQc _ _ _ _ _ _ _ _ _) (.own (.own .nil)) (aQg rfl) (aZ5 (dv 5)) (bQ2 (i:=0) (j:=1)) (λ_ _ _ _ _=>aJc rfl (aQj (aQb (i:=0) (nd_ ["row", "core"]) rfl (aW rfl) (.inr rfl)) (aQj (aQb (i:=1) (nd_ ["row", "core"]) rfl (aW rfl) (.inr rfl)) aZy))) (λ_ _ _ _ _=>aZs) aQf (λ_ _ _ _ _ _=>aQe rfl (by exact PD.o (dv 1))))))
  (aQ2 (aZb cf rfl (aZ5 (aQ7 d_law_some G rfl (aQ0 (dv 1) (aQ0 (dv 3) (aQ0 (dv 6) aQ1))))) (aQl (i:=7) sc_law.nd rfl (gb rfl)) (aQ2 (aQ9 (i:=8) sc_law.nd rfl (aW rfl) (aZx rfl B.len (aQ0 (aQw (N':=["row", "core", "some"]) (oc:=none) (b:=false) [0,1] [] rfl sc_law.nd (λ_ _ _=>aQc _ _ _ _ _ _ _ _ _) (.own (.own (.cap (i:=7) rfl (by decide +kernel) .nil))) (aQg rfl) (aZ5 (dv 5)) (bQ2 (i:=0) (j:=1)) (λ_ _ _ _ _=>aJc rfl (aQj (aQb (i:=0) (nd_ ["row", "core", "some"]) rfl (aW rfl) (.inr rfl)) (aQj (aQb (i:=1) (nd_ ["row", "core", "some"]) rfl (aW rfl) (.inr rfl)) aZy))) (λ_ _ _ _ _=>aQu (by exact(bQe G (dv 1) (dv 2)))) aQf (λ_ _ _ _ _ _=>aQe rfl (by exact PD.o (dv 0)))) aQ1)))
  (aQ4 (aXt (cQj (aJg (aQ7 d_law_same G rfl (aQ0 (aQ7 d_core_count G rfl (aQ0 (dv 3) (aQ0 (dv 4) (aQ0 (dv 7) aQ1)))) (aQ0 (dv 8) aQ1))))) (aQ4 (aQq e_bl)) aZ1))))
  (aQ4 (aXt (eQt G (fZi rfl B.sum (aQ0 (aQw (N':=["core", "sets", "many"]) (oc:=none) (b:=false) [0] [] rfl sc_law.nd (λ_ _ _=>aQc _ _ _ _ _ _ _ _ _) (.own (.cap (i:=3) rfl (by decide +kernel) (.cap (i:=4) rfl (by decide +kernel) .nil))) (aQg rfl) (aZ5 (dv 6)) (cg_name (i:=0)) (λ_ _ _ _ _=>aQb (i:=0) (nd_ ["core", "sets", "many"]) rfl (aW rfl) (.inr rfl)) (λ_ _ _ _ _=>aZs) aQf (λ_ _ _ _ _ _=>aQe rfl (by exact PD.o (aQ7 d_core_count G rfl (aQ0 (dv 1) (aQ0 (dv 2) (aQ0 (dv 0) aQ1))))))) aQ1)) (aZx rfl B.len (aQ0 (dv 5) aQ1))) (aQ4 (aQq e_bl)) aZ1)))))))))
  (aQ4 (aQq (e_eq G (aQ7 d_core_count G rfl (aQ0 (aX3 (aQ0 (aX3 (aQ0 aZ9 aQ1)) (aQ0 (aX3 (aQ0 aZ9 (aQ0 aZ9 aQ1))) (aQ0 (aX3 (aQ0 aZ9 (aQ0 aZ9 aQ1))) aQ1)))) (aQ0 aQ5 (aQ0 (aX3 (aQ0 aZ9 aQ1)) aQ1)))) aQ5))))),?_⟩
 ·rintro ds S Q ⟨ns,rfl,_⟩;rfl
 ·rintro ds S Q ⟨ns,rfl,h63,hw,hS,q⟩;refine⟨ns,rfl,h63,hw,λa S1 ha _ dk1=>⟨⟨by decide,by decide⟩,?_⟩⟩
  refine aQv (λi Γ S'=>∃ x2 x3 x4 x5 x6 O L:Option D,Γ=[some (.lst (ns.map D.int)),some (.ref a),x2,x3,x4,x5,x6,O,L]/\DkD S' a (1000 * i)) ⟨none,none,none,none,none,none,none,rfl,dk1⟩ ?_ ?_
  ·rintro i x Γ S2 N hx ⟨x2,x3,x4,x5,x6,O,L,rfl,dk2⟩ hN;obtain⟨hi,rfl⟩:=bQv hx;have hi3:i < 3:=hi;refine⟨trivial,z9999 (by show 2<=9999;decide),a,4,1000 * i,rfl,dk2,by omega,by decide,by decide,λr S3 r0 r1 off3 dk3=>⟨rfl,?_⟩⟩
   obtain⟨v,hv,v14⟩:∃ v:Nat,atI [D.int 9,.int 14] (if (if false=true then !decide (D.int r=D.int 0) else decide (D.int r=D.int 0))=true then 1 else 0)=some (.int (v:Nat))/\v<=14:=by
    have gen:∀ b:Bool,∃ v:Nat,atI [D.int 9,.int 14] (if b=true then 1 else 0)=some (.int (v:Nat))/\v<=14:=λb=>by
     cases b with
     | true=>exact⟨14,rfl,by decide⟩
     | false=>exact⟨9,rfl,by decide⟩
    exact gen _
   refine⟨_,_,rfl,hv,z9999 (by show 3<=9999;decide),?_⟩
   obtain⟨mo,hmo,m14⟩:∃ mo:Nat,atI [D.int 6,.int 9,.int (v:Nat)] ((i:Nat):Int)=some (.int (mo:Nat))/\mo<=14:=by
    have h:i=0\/i=1\/i=2:=by omega
    rcases h with rfl | rfl | rfl
    ·exact⟨6,rfl,by decide⟩
    ·exact⟨9,rfl,by decide⟩
    ·exact⟨v,rfl,v14⟩
   refine⟨_,_,rfl,hmo,a,mo,12,1000 * i + 1,rfl,dk3,by omega,m14,by decide,by decide,λts S4 hC off4 dk4=>?_⟩
   have sT:=hC.srt;have I:ts.length<=14:=Nat.le_trans hC.len m14;have he:=hC.each;have hC14:CollB 14 ts:={ hC with len:=I }
   have nd:=sT.nodup;have ne:∀ t∈ts,t.Nodup:=λt ht=>(he t ht).1.nodup;refine⟨a,2,1000 * i + 501,rfl,dk4,by omega,by decide,by decide,λr1 S5 r10 r11 off5 dk5=>?_⟩
   refine⟨a,5,1000 * i + 502,rfl,dk5,by omega,by decide,by decide,λr2 S6 r20 r21 off6 dk6=>?_⟩
   obtain⟨k1,rfl⟩:∃ k:Nat,r1=k:=⟨r1.toNat,by omega⟩
   obtain⟨k2,rfl⟩:∃ k:Nat,r2=k:=⟨r2.toNat,by omega⟩
   refine⟨z9999 (by show 3<=9999;decide),_,rfl,?_⟩
   refine aQv (λj Γ S'=>∃ x4 x5 x6 O L:Option D,Γ=[some (.lst (ns.map D.int)),some (.ref a),some (.int (i:Nat)),some (.tup (ts.map tupS)),x4,x5,x6,O,L]/\DkD S' a (1000 * i + 503 + 50 * j)) ⟨_,_,_,_,_,rfl,dk6⟩ ?_ ?_
   ·rintro j x Γ S7 N2 hx ⟨x4,x5,x6,O,L,rfl,dk7⟩ hN2;obtain⟨m,rfl,U,m6,j3⟩:∃ m:Nat,x=.int (m:Nat)/\2<=m/\m<=6/\j < 3:=by
     match j,hx with
     | 0,hx=>exact⟨2,(aM hx).symm,by omega,by omega,by omega⟩
     | 1,hx=>exact⟨3 + k1,(by rw[<- aM hx];exact congrArg D.int (by omega)),by omega,by omega,by omega⟩
     | 2,hx=>exact⟨2 + k2,(by rw[<- aM hx];exact congrArg D.int (by omega)),by omega,by omega,by omega⟩
     | j + 3,hx=>cases hx
    refine⟨trivial,ts,m,rfl,I,U,m6,nd,he,?_⟩;have hfl:=fX4 nd ne U;have Z:=fX3 nd ne U;have Y:=λs c=>eX2 nd ne U (s:=s) (c:=c);have hcs:=λr h=>dZy ne U (r:=r) h;have fl9:(fl71 ts m).length<=20000:=by
     rw[bZs ne U];refine Nat.le_trans (br _ _) (Nat.le_trans (cQx _ _) ?_);rw[dl];exact Nat.le_trans (Nat.pow_le_pow_right (by decide) I) (by decide)
    have hsc:∀ r∈fl71 ts m,Srt (cr71 ts r)/\(cr71 ts r).length<=6/\∀ x∈cr71 ts r,x∈L2.nms ts:=λr _=>by
     have gs:∀ i,Srt (ts.getD i [])/\(ts.getD i []).length<=6/\∀ x∈ts.getD i [],x∈L2.nms ts:=λi=>by
      rw[aj];cases h:ts[i]? with
      | none=>exact⟨.nil,by decide,λx hx=>by cases hx⟩
      | some t=>exact⟨(he t (ak h)).1,(he t (ak h)).2,λx hx=>mem_nms.mpr ⟨t,ak h,hx⟩⟩
     obtain⟨h1,h2,h3⟩:=gs (r.getD 0 0);exact⟨h1.filter _,Nat.le_trans (br _ _) h2,λx hx=>h3 x (mem_me.mp hx).1⟩
    generalize fl71 ts m=F at hfl Z Y hcs fl9 hsc;refine⟨_,rfl,aZ6 (λk acc S'=>acc=((F.take k).map (cr71 ts)).map tupS/\S'=S7) ⟨rfl,rfl⟩ ?_ ?_⟩
    ·rintro k x acc S' N hx ⟨rfl,rfl⟩ hN;rw[aF,a6] at hx;obtain⟨r,hx,rfl⟩:=hx;refine⟨trivial,rfl,rfl,by rw[af,af,aK,bh];omega,hN _ _ ⟨?_,rfl⟩⟩
     rw[bT,hx,aO,aO];rfl
    rintro acc S' ⟨rfl,rfl⟩;rw[af,cv];refine⟨trivial,F.map (cr71 ts),cs71 ts,rfl,λc hc=>?_,by have:=cZ7 I;omega,λout ond J opw=>?_⟩
    ·obtain⟨r,G,rfl⟩:=bD.mp hc;exact hcs r G
    have ol:out.length<=91:=Nat.le_trans (ond.length_le_of_subset λc hc=>by
     obtain⟨r,G,rfl⟩:=bD.mp ((J c).mp hc);exact hcs r G) (cZ7 I)
    have R:∀ c∈out,Srt c/\c.length<=6/\∀ x∈c,x∈L2.nms ts:=λc hc=>by
     obtain⟨r,G,rfl⟩:=bD.mp ((J c).mp hc);exact hsc r G
    refine⟨a,ts,out,1000 * i + 503 + 50 * j,rfl,dk7,by omega,hC14,by omega,R,λfs S8 fl hfs off8 dk8=>⟨_,rfl,?_⟩⟩
    refine aQv (λk Γ S'=>∃ O L:Option D,Γ=[some (.lst (ns.map D.int)),some (.ref a),some (.int (i:Nat)),some (.tup (ts.map tupS)),some (.int (m:Nat)),some (.lst (F.map (rowD ts))),some (.lst (out.map tupS)),O,L]/\S'=S8) ⟨_,_,rfl,rfl⟩ ?_ ?_
    ·rintro k x Γ S9 N3 hx ⟨O,L,rfl,rfl⟩ hN3;rw[aF,a6] at hx;obtain⟨c,hx,rfl⟩:=hx;obtain⟨sc,c99⟩:=hfs c (ak hx);refine⟨trivial,_,rfl,aZ6 (λk acc S'=>acc=((F.take k).filter λr=>decide (cr71 ts r=c)).map (λr=>D.lst (r.map natE.e))/\S'=S9) ⟨rfl,rfl⟩ ?_ ?_⟩
     ·rintro k x acc S' N hx ⟨rfl,rfl⟩ hN;rw[aF,a6] at hx;obtain⟨r,hx,rfl⟩:=hx;have et:(F.take (k + 1)).filter (λr=>decide (cr71 ts r=c))=(F.take k).filter (λr=>decide (cr71 ts r=c))++[r].filter λr=>decide (cr71 ts r=c):=by rw[bT,hx,d6];rfl
      have hl:((F.take k).filter λr=>decide (cr71 ts r=c)).length<=20000:=Nat.le_trans (br _ _) (by rw[aK];omega)
      rw[et] at hN;refine⟨trivial,rfl,rfl,setE.ok 9 (cr71 ts r) c (by decide),_,rfl,ite2 (λz=>⟨by rw[af,bh];omega,hN _ _ ⟨?_,rfl⟩⟩) λz=>hN _ _ ⟨?_,rfl⟩⟩
      ·have z':cr71 ts r=c:=setE.inj (of_decide_eq_true z);rw[bt,if_pos (decide_eq_true z'),aO];rfl
      ·have z':¬ cr71 ts r=c:=λe=>z (decide_eq_true (congrArg setE.e e));rw[bt,if_neg (by simpa using z'),kj,bz]
     rintro acc S' ⟨rfl,rfl⟩;rw[af,cv];refine⟨trivial,_,rfl,ts,m,c,rfl,I,sT,he,sc,by omega,U,?_⟩
     rw[af,Z c];refine⟨0,.int (cwc ts m c:Nat),rfl,by decide,by decide,trivial,?_⟩
     exact hN3 _ _ ⟨_,_,rfl,rfl⟩
    ·rintro Γ S9 ⟨O,L,rfl,rfl⟩;refine⟨trivial,_,rfl,aJp (enc:=tupS) (f:=λc=>D.int (cwc ts m c:Nat)) (λc hc Q q=>?_) (z9999 (by show 0 + out.length<=9999;omega)) ?_⟩
     ·obtain⟨h1,h2,_⟩:=R c hc;exact⟨ts,m,c,rfl,I,sT,he,h1,by omega,U,q⟩
     refine⟨out.map λc=>((cwc ts m c:Nat):Int),by show []++_=_;rw[bY,bH];rfl,?_⟩
     have e:(out.map λc=>((cwc ts m c:Nat):Int)).sum=(((out.map (cwc ts m)).sum:Nat):Int):=by
      clear ol J R opw ond
      induction out with
      | nil=>rfl
      | cons c l ih=>rw[aL,cB,aL,cB,ih];omega
     rw[e,cwf ond λs h c e=>(J c).mpr (by
      obtain⟨r,G,h1,_⟩:=(Y s c).mp ⟨h,e⟩;exact bD.mpr ⟨r,G,h1⟩),<- hfl]
     refine⟨_,rfl,rfl,_,rfl,ite2 (λz=>?_) λ_=>hN2 _ _ ⟨_,_,_,_,_,rfl,dk8.mono (by omega)⟩⟩
     rw[af] at z;simp at z
   ·rintro Γ S7 ⟨x4,x5,x6,O,L,rfl,dk7⟩;refine⟨trivial,hN _ _ ⟨_,_,_,_,_,_,_,rfl,dk7.mono ?_⟩⟩;show _ + 503 + 50 * 3<=_;omega
  ·rintro Γ S2 ⟨x2,x3,x4,x5,x6,O,L,rfl,dk2⟩;refine⟨trivial,?_⟩;have e1:cwc [[aG "a"],[aG "a",aG "b"],[aG "a",aG "c"]] 3 [aG "a"]=1:=by decide +kernel
   refine⟨z9999 (by show 1<=9999;decide),z9999 (by show 2<=9999;decide),z9999 (by show 2<=9999;decide),z9999 (by show 3<=9999;decide),z9999 (by show 1<=9999;decide),[[aG "a"],[aG "a",aG "b"],[aG "a",aG "c"]],3,[aG "a"],rfl,by decide,by decide +kernel,?_,by decide +kernel,by decide,by decide,?_⟩
   ·intro t ht;simp only[aB,db,or_false] at ht;rcases ht with rfl | rfl | rfl
    ·exact⟨by decide +kernel,by decide⟩
    ·exact⟨by decide +kernel,by decide⟩
    ·exact⟨by decide +kernel,by decide⟩
   rw[e1];exact⟨rfl,aQn (q _)⟩
end
end Toy
set_option maxHeartbeats 4000000
namespace Toy
open PySem L2
theorem fin {l:PySem.W.OpenLaw} {w:aR} {K:az} {h:bf} {mg:Str->Option ae} {fa f3:Addr} (X:K.In h) (G:h.Ns bn mg) (hfa:mg "law" = some (.ref fa)) (B:Bs mg) (AB:mg "abs" = none)
  (T1:Tx K mg "has_all" s_has_all) (T2:Tx K mg "meets" s_meets) (T3:Tx K mg "without_names" s_without_names) (T4:Tx K mg "link_of" s_link_of) (T5:Tx K mg "count_with_core" s_count_with_core) (T6:Tx K mg "count_apart" s_count_apart) (T7:Tx K mg "core_count" s_core_count) (T8:Tx K mg "_law_deck" s_law_deck) (T9:Tx K mg "_law_draw" s_law_draw) (T10:Tx K mg "_law_names" s_law_names) (T11:Tx K mg "_law_sets" s_law_sets) (T12:Tx K mg "_law_same" s_law_same) (T13:Tx K mg "_law_meet" s_law_meet) (T14:Tx K mg "_law_flowers" s_law_flowers) (T15:Tx K mg "_law_some" s_law_some)
  {od3 an3:Option Addr} {sl3:Array (Option ae)} {oc3 kV3 dc3 pm3 cd3 ct3:ae}
  (a3:bS K bn "law" = some (some (.ref f3))) (l3:K.lookup f3=some ⟨oc3,od3,.func (eW "law" "law" (aXe bZx) (aZh bZx) (aQ8 bZx) .none kV3 dc3 pm3 an3 cd3 ct3),sl3⟩) (c3:gI K cd3 "law" = true) (k3:fL K (.ref f3)=true) :
  ∃ fd:eA,(∀ (s:ai) (v:ae),BindsTo s fd ⟨[v],[]⟩ [("script",v)])/\∀ base:bf,K.In base->base.Ns bn mg->FnOk l.prog w K mg base CX0 50 fa fd ["script"] (spU K (cQw 63)):=by
 have e:=hfa.symm.trans (PySem.W.mg_of X G a3);cases e;refine⟨eW "law" "law" (aXe bZx) (aZh bZx) (aQ8 bZx) .none kV3 dc3 pm3 an3 cd3 ct3,λs v=>.of_eq rfl,λbase XB GB=>?_⟩;have F3:=dXb (st:=bZx) l3 c3 k3;have d_law_deck:=bJi (P:=l.prog) (w:=w) (base:=base) T8 B AB;have j:=bJj (P:=l.prog) (w:=w) (base:=base) T9 B;have U:=bXn (P:=l.prog) (w:=w) (base:=base) T10 B (j.mono (by decide))
 have Z:=bJk (P:=l.prog) (w:=w) (base:=base) T11 B (j.mono (by decide)) (U.mono (by decide))
 have J:=bJl (P:=l.prog) (w:=w) (base:=base) T13 B;have L:=bQf (P:=l.prog) (w:=w) (base:=base) T14 B (J.mono (by decide))
 have Y:=bJp (P:=l.prog) (w:=w) (base:=base) T15 B (j.mono (by decide)) (J.mono (by decide))
 have d_law_same:=bJq (P:=l.prog) (w:=w) (base:=base) T12 B;have d_has_all:=cZv (P:=l.prog) (w:=w) (base:=base) T1 B;have I:=aJm (P:=l.prog) (w:=w) (base:=base) T3 B;have d_link_of:=cZw (P:=l.prog) (w:=w) (base:=base) T4 B (d_has_all.mono (by decide)) (I.mono (by decide))
 have d_meets:=dX1 (P:=l.prog) (w:=w) (base:=base) T2 B;have O:=bQg (P:=l.prog) (w:=w) (base:=base) T6 B (d_meets.mono (by decide))
 have D:=aJ1 (P:=l.prog) (w:=w) (base:=base) T5 B (d_link_of.mono (by decide)) (O.mono (by decide))
 have R:=bZw (P:=l.prog) (w:=w) (base:=base) T7 B (D.mono (by decide))
 exact fXh F3 B (d_law_deck.mono (by decide)) (j.mono (by decide)) (Z.mono (by decide)) (L.mono (by decide)) (Y.mono (by decide)) (d_law_same.mono (by decide)) (R.mono (by decide))
end Toy
namespace PySem.W.Fast
theorem tw17154482382463564584:True:=⟨⟩
theorem tw5227778340891090390:True:=⟨⟩
theorem tw15041762931373617433:True:=⟨⟩
theorem tw12427820071705840457:True:=⟨⟩
theorem tw5964268983253396754:True:=⟨⟩
theorem tw13047494845974769300:True:=⟨⟩
theorem tw10793688471242174940:True:=⟨⟩
theorem tw5627432769854776488:True:=⟨⟩
theorem tw8179119292906027025:True:=⟨⟩
theorem tw7908968104578872708:True:=⟨⟩
theorem tw5504530710436636298:True:=⟨⟩
theorem tw7949742522167081649:True:=⟨⟩
theorem tw4764209466426991625:True:=⟨⟩
theorem tw8209845502170691080:True:=⟨⟩
theorem tw8514357379794432576:True:=⟨⟩
theorem tw11820003984391492294:True:=⟨⟩
theorem tw17640359716239935844:True:=⟨⟩
theorem tw15355666521174520021:True:=⟨⟩
theorem tw1606388682553469771:True:=⟨⟩
end PySem.W.Fast
open PySem PySem.W PyProof.Rows
set_option maxRecDepth 100000 in
set_option maxHeartbeats 0 in
theorem PySem.Challenge.cw_corepetals_k71_cores_counted_holds : PySem.Challenge.rw_corepetals_k71_cores_counted.Holds := by
 w_on;o_law;k_head;(case hw=>w_witness2)
 k_fill
 refine L2.walkW (l:=PySem.Challenge.rw_corepetals_k71_cores_counted) rfl rfl (λw h Y=>PySem.W.kIn_of Y) ?F
 case F =>
  intro w mg fa h KX G hmg;have B:L2.Bs mg:=by
   refine' L2.bs_mk KX G (L2.bs_all ?z1 ?z2 ?z3 ?z4 ?z5 ?z6 ?z7 ?z8 ?z9 ?z10 ?z11 ?z12 ?z13 ?z14 ?z15 ?z16 ?z17) <;> k_is
  have AB:mg "abs" = none:=by
   refine' PySem.W.mg_none_of KX G ?z
   k_is
  have T1:L2.Tx (L2.KOf KX) mg "has_all" Toy.s_has_all:=by
   dsimp only[L2.KOf];exact L2.tx_mk KX G (by k_is) (by k_is) (by k_is) (by k_is)
  have T2:L2.Tx (L2.KOf KX) mg "meets" Toy.s_meets:=by
   dsimp only[L2.KOf];exact L2.tx_mk KX G (by k_is) (by k_is) (by k_is) (by k_is)
  have T3:L2.Tx (L2.KOf KX) mg "without_names" Toy.s_without_names:=by
   dsimp only[L2.KOf];exact L2.tx_mk KX G (by k_is) (by k_is) (by k_is) (by k_is)
  have T4:L2.Tx (L2.KOf KX) mg "link_of" Toy.s_link_of:=by
   dsimp only[L2.KOf];exact L2.tx_mk KX G (by k_is) (by k_is) (by k_is) (by k_is)
  have T5:L2.Tx (L2.KOf KX) mg "count_with_core" Toy.s_count_with_core:=by
   dsimp only[L2.KOf];exact L2.tx_mk KX G (by k_is) (by k_is) (by k_is) (by k_is)
  have T6:L2.Tx (L2.KOf KX) mg "count_apart" Toy.s_count_apart:=by
   dsimp only[L2.KOf];exact L2.tx_mk KX G (by k_is) (by k_is) (by k_is) (by k_is)
  have T7:L2.Tx (L2.KOf KX) mg "core_count" Toy.s_core_count:=by
   dsimp only[L2.KOf];exact L2.tx_mk KX G (by k_is) (by k_is) (by k_is) (by k_is)
  have T8:L2.Tx (L2.KOf KX) mg "_law_deck" Toy.s_law_deck:=by
   dsimp only[L2.KOf];exact L2.tx_mk KX G (by k_is) (by k_is) (by k_is) (by k_is)
  have T9:L2.Tx (L2.KOf KX) mg "_law_draw" Toy.s_law_draw:=by
   dsimp only[L2.KOf];exact L2.tx_mk KX G (by k_is) (by k_is) (by k_is) (by k_is)
  have T10:L2.Tx (L2.KOf KX) mg "_law_names" Toy.s_law_names:=by
   dsimp only[L2.KOf];exact L2.tx_mk KX G (by k_is) (by k_is) (by k_is) (by k_is)
  have T11:L2.Tx (L2.KOf KX) mg "_law_sets" Toy.s_law_sets:=by
   dsimp only[L2.KOf];exact L2.tx_mk KX G (by k_is) (by k_is) (by k_is) (by k_is)
  have T12:L2.Tx (L2.KOf KX) mg "_law_same" Toy.s_law_same:=by
   dsimp only[L2.KOf];exact L2.tx_mk KX G (by k_is) (by k_is) (by k_is) (by k_is)
  have T13:L2.Tx (L2.KOf KX) mg "_law_meet" Toy.s_law_meet:=by
   dsimp only[L2.KOf];exact L2.tx_mk KX G (by k_is) (by k_is) (by k_is) (by k_is)
  have T14:L2.Tx (L2.KOf KX) mg "_law_flowers" Toy.s_law_flowers:=by
   dsimp only[L2.KOf];exact L2.tx_mk KX G (by k_is) (by k_is) (by k_is) (by k_is)
  have T15:L2.Tx (L2.KOf KX) mg "_law_some" Toy.s_law_some:=by
   dsimp only[L2.KOf];exact L2.tx_mk KX G (by k_is) (by k_is) (by k_is) (by k_is)
  refine' Toy.fin KX G hmg B AB T1 T2 T3 T4 T5 T6 T7 T8 T9 T10 T11 T12 T13 T14 T15 ?a ?l ?c ?k
  (case a=>k_is);(case l=>k_is);(case c=>k_is);(case k=>k_is)
