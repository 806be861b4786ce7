import PyProof.Rows.All
import Wide.All
import OpenK.AllK
import Wide.FinOn
import Lean
import PyProof.EqAt
import PyProof.EqKinds
import PyProof.TupleCall
import PySem.SetOps
import KE.KSortTup
import KE.KDictSum
import PyProof.Rows.StrJoin2
import PyProof.Rows.SumAny
import KE.KxText
import PyProof.ZipIter
import PyProof.Rows.FactsT2
import PyProof.Rows.ZipGen
import PyProof.StrOps2
import PyProof.ListRange
import PyProof.ListStr
import PyProof.FString5
import PyProof.AutoSeq1
import PyProof.MinMaxWalk
import PyProof.WalksMore
import PyProof.Rows.CallKwBuiltin
import KE.KMinKey
import PyProof.Rows.BitMore
import KE.KItemsList
import PyProof.AttrMiss
import PyProof.FactsAll.zip_1
import PyProof.FactsAll.zip_0
import KE.KDictOf
import PyProof.Rows.SortShellK
import KE.KLam
import PySem.Challenge.RW_corepetals_k68_whole_longest_across
open Array renaming eq_empty_of_size_eq_zero -> ig, filterMap -> ke, getD -> cI, getD_eq_getD_getElem? -> bY, getElem?_eq_getElem -> fU, getElem?_eq_some_iff -> cM, getElem?_replicate -> jx, getElem?_setIfInBounds_ne -> g7, getElem?_setIfInBounds_self_of_lt -> fF, getElem?_toList -> bu, length_toList -> aR, mem_of_getElem? -> eI, mem_toList_iff -> dO, perm_iff_toList_perm -> dw, replicate -> gu, size_append -> fE, size_map -> kq, toList_append -> e5, toList_inj -> jM, toList_push -> gL
open Array.Perm renaming refl -> kh
open Bool renaming and_eq_true -> aK, eq_false_iff -> eS, eq_iff_iff -> iF, false_eq_true -> aE, false_ne_true -> bR, not_eq_true' -> c4, not_false -> kr, not_true -> f6, true_and -> jA
open Classical renaming byContradiction -> bc
open False renaming elim -> dX
open ForInStep renaming done -> gM, yield -> ce
open Int renaming emod_lt_of_pos -> gA, emod_nonneg -> iD, natCast_add -> gx, toNat_natCast -> bF, zero_add -> gW
open LawfulBEq renaming eq_of_beq -> gE
open List renaming Pairwise -> kH, Perm -> kx, all_cons -> jz, all_eq_true -> bq, all_map -> fR, append_assoc -> dj, append_nil -> eN, drop_eq_getElem_cons -> cU, drop_eq_nil_of_le -> d7, drop_length -> fS, drop_sublist -> js, drop_zero -> i6, eq_nil_of_length_eq_zero -> bz, eraseIdx_eq_take_drop_succ -> g9, ext_getElem -> fh, ext_getElem? -> jp, filterMap_append -> hU, filterMap_cons -> cv, filter_eq_nil_iff -> g6, filter_sublist -> fV, find?_cons -> cR, flatten_cons -> eR, flatten_singleton -> gZ, foldl_cons -> kd, forIn_cons -> dy, forIn_nil -> gN, getD_eq_getElem?_getD -> ay, getElem?_append_left -> dD, getElem?_append_right -> di, getElem?_eq_getElem -> ai, getElem?_eq_none -> bE, getElem?_eq_none_iff -> jl, getElem?_eq_some_iff -> aH, getElem?_map -> a6, getElem?_set_ne -> fH, getElem?_take_of_lt -> jv, getElem_drop -> jr, getElem_inj -> fN, getElem_map -> eA, getElem_mem -> cf, getElem_of_mem -> aY, getElem_range -> jd, getElem_take -> jq, idxOf_lt_length_of_mem -> iS, length -> fj, length_append -> az, length_cons -> bH, length_drop -> bo, length_eq_zero_iff -> jI, length_eraseIdx_of_lt -> jc, length_map -> ag, length_nil -> dY, length_range -> cJ, length_singleton -> eG, length_take -> aP, length_zip -> fw, lookup_cons -> cS, mapM_cons -> ku, mapM_nil -> kI, mapM_toArray -> fD, map_append -> a9, map_congr_left -> iL, map_cons -> bm, map_fst_zip -> jR, map_map -> b5, map_nil -> fq, mem_append -> bB, mem_append_left -> da, mem_append_right -> bt, mem_cons -> ax, mem_cons_of_mem -> au, mem_cons_self -> ar, mem_filter -> dW, mem_filterMap -> eB, mem_map -> br, mem_of_find?_eq_some -> jj, mem_of_getElem? -> bL, mem_of_mem_drop -> dP, mem_of_mem_take -> de, mem_range -> aM, mem_singleton -> aG, mergeSort_perm -> iK, nil_append -> cO, nil_sublist -> jP, nodup_append -> fB, nodup_cons -> cx, nodup_nil -> gR, nodup_range -> h9, not_mem_nil -> hZ, of_mem_zip -> iC, pairwise_append -> fK, pairwise_cons -> bA, pairwise_iff_getElem -> cT, pairwise_map -> bO, pairwise_mergeSort -> gG, pairwise_singleton -> cL, perm_append_singleton -> i7, range -> aD, range_succ -> gq, replicate -> aQ, replicate_succ -> cW, size_toArray -> ak, sublist_append_left -> jB, take_add_one -> dU, take_append_drop -> eJ, take_length -> ii, take_of_length_le -> bJ, take_sublist -> fx, toArray -> eT, zip_cons_cons -> cD, zip_nil_left -> cK, zip_nil_right -> cN
open List.Pairwise renaming imp_of_mem -> dI, nil -> gY
open List.Perm renaming refl -> e9
open List.Sublist renaming refl -> kM
open Nat renaming add_right_comm -> i5, eq_or_lt_of_le -> eF, le_add_right -> fP, le_of_lt -> fM, le_of_lt_succ -> dq, le_refl -> aj, le_succ -> db, le_trans -> bN, lt_irrefl -> dh, lt_of_le_of_lt -> eC, lt_of_lt_of_le -> aF, lt_or_eq_of_le -> eD, lt_or_ge -> bP, lt_succ_of_le -> dR, lt_succ_of_lt -> cZ, lt_succ_self -> ic, lt_trans -> dZ, lt_trichotomy -> fA, min_eq_left -> iH, min_eq_right -> jT, mod_lt -> kJ, ne_of_gt -> bX, ne_of_lt -> aC, not_lt_zero -> cP, pow_le_pow_right -> fL, succ_ne_zero -> jO, succ_pos -> iN, two_pow_pos -> kg, zero_add -> jZ, zero_le -> bG
open Nat.succ renaming inj -> gX
open Ne renaming symm -> bW
open Option renaming getD_none -> jE, isSome_iff_exists -> cF, map_eq_some_iff -> bK
open Option.some renaming inj -> aL
open Or renaming inl -> a7, inr -> gV
open PyProof renaming noPylong_small -> jV
open PyProof.Rows renaming AllBare -> jo, IntsAre -> jY, IsTup -> iW, Keyed -> b9, SortKind -> f8, SortSt -> gB, StrsAre -> j6, args_list_sort -> jg, args_sorted1 -> j9, arrOf -> a8, boot_enumerate -> iP, callWith_builtin1 -> hW, callWith_type1 -> cj, entry_list_sort -> iG, entry_sorted -> j8, envOfC -> ju, get?_update_seq -> gw, get?_update_seq -> iI, getElem?_mirror_all -> iJ, listItems_at -> j5, listUpdate_at -> f9, lt_int -> kz, lt_str -> ky, mirror -> dA, oneLt_int -> kb, oneLt_str -> kc, pairsOf -> ka, pendingOf -> jS, plain_sorted -> j7, reverseSlice'_eq -> dg, seqEpoch_at -> iz, seqObj -> bM, setArr -> c9, slot_list_sort -> jf, slot_tuple_getitem -> cr, sortedHeap -> jh, wpS_bind -> bd, wpS_forRange -> dJ, wpS_modify -> eX, wpS_mono -> gn, wpS_pure -> bQ
open PyProof.Rows.F renaming entry_set_update_loop -> cX, plain_set_update_loop -> bV
open PySem renaming Around -> aO, Builtin -> bC, Comprehension -> jw, FuncData -> dN, Heap -> aS, IsPair -> du, KeyKind -> kB, Keyword -> gK, NameKind -> ft, Paired -> bb, Program -> aB, SetTable -> aI, Shared -> ah, Value -> ad, World -> aN, ZipApart -> gk, assignEach -> eU, attributeBase -> fZ, backTo -> cy, backToKw -> kl, behindInMarks -> d8, binaryOp -> dM, bootBuiltins -> cu, builtinLookup_eq_fast -> dF, cLine -> bS, call_meets -> gz, cellsFrom -> gC, codeAny -> ij, codeAny_builtin -> bv, codeAny_mono -> fO, compEnvC -> km, compTurn -> i4, compareOp -> b6, concat_meets -> jX, field -> jH, firstArgMember -> i9, foldedSetIterable -> dQ, getItem -> ik, holding -> gH, isSubtype_stop -> ja, keywordEach -> iu, letOwnedTupleGo -> iB, mainGlobals -> aX, mem_of_lookup -> eZ, model -> aA, noFill_tuple_add -> jD, ofAClassStatement -> fC, pickOrder -> iV, plainId_quiet -> cQ, plainKind -> iU, pushCells -> jF, putSet_of -> ib, pyNext -> e6, rawInt -> dz, relayAll -> iw, richCompare_meets_room -> gU, setAddHashed -> j0, setField -> kt, sizeLine_eq -> bn, sliceBounds -> fk, starEach -> am, strKind -> d9, swapsWith -> jC, sysModules -> gy, typeLookup -> hX, typeLookup_type -> fu, unsupported -> ix, updateSeq -> jJ, wpAny -> aw, wpAny_Call_Name_kw -> fo, wpAny_askSetting -> fb, wpAny_attempt -> f7, wpAny_bind -> aa, wpAny_callSpecial?_slot -> b7, wpAny_callSpecialIfBound?_slot -> ie, wpAny_call_entry -> b4, wpAny_field -> bT, wpAny_forIn_list -> ia, wpAny_holding -> aW, wpAny_isInstance -> fQ, wpAny_ite_split -> eO, wpAny_loadPart' -> bw, wpAny_mono -> cH, wpAny_newList -> gc, wpAny_newObj_type -> bj, wpAny_newTuple -> je, wpAny_onRaise -> iq, wpAny_passesOwn -> gp, wpAny_pure -> ae, wpAny_pyIter_enum -> gS, wpAny_pyIter_list -> gQ, wpAny_pyIter_tuple -> eE, wpAny_rule -> dH, wpAny_runValue -> i8, wpAny_seqItems -> cg, wpAny_setField_rec -> bi, wpAny_setState_of -> dr, wpAny_specialOf -> gv, wpAny_storeSet_of -> gP, wpAny_truthy_bool -> cY, wpAny_typeOf -> eQ, wpAny_updateSeq -> fv, wpAny_updateSeq_pair -> iA
open PySem.Around renaming under_plainId -> aZ
open PySem.AutoSeq1 renaming sub_tuple_tuple -> jy
open PySem.Builtin.Dict renaming updateFrom -> jQ
open PySem.Builtin.Frozenset renaming updateFrom -> iE
open PySem.Builtin.Int renaming intBits -> kA
open PySem.Builtin.List renaming listExtendWith -> d6, listLengthHint -> d0, listSameRef -> eW, listTooLong -> eV
open PySem.Builtin.Range renaming rangeSize -> e8, small -> iM
open PySem.Builtin.Slice renaming sliceAdjust -> fT, sliceApplied -> fJ, slicePlaces -> eK
open PySem.Builtin.SmallTypes renaming nextOf -> aT, ownedTupleHandOut -> fW, ownedTupleIsFree -> bf
open PySem.Builtin.Str renaming strSliceIndices -> bZ
open PySem.Builtin.Tuple renaming tupleCompareSizes -> g8, tupleExact -> ci, tupleItemsOf -> iY
open PySem.Calls renaming Name_function_global -> iX, call_function_entry -> eM
open PySem.Code renaming compLoop -> kD
open PySem.Expr renaming Call -> jN
open PySem.F renaming args_tuple_add_2 -> fY, args_tuple_lt_2 -> ff, called_set -> bh, entry_extend_loop -> eL, entry_list_iadd -> jK, entry_proto_collect -> iQ, entry_set_init -> j4, entry_tuple_add -> gD, entry_tuple_lt -> fr, entry_type_call -> jG, plainAttrs_list -> gF, plain_extend_loop -> b8, plain_list_iadd -> fg, plain_proto_collect -> iR, plain_set_new -> ki, slot_set_iter -> kj, slot_tuple_add -> gJ, slot_tuple_lt -> dE, typeCall_set_1 -> j3
open PySem.Heap renaming IsTuple -> iO, SameBut -> cB, get?_push_of_some -> af, get?_push_size -> ao, get?_update_other -> cC, get?_update_self -> bD, lt_size -> aq, size_push -> bU
open PySem.Heap.SameBut renaming refl -> jt, update -> be
open PySem.NameKind renaming cell -> io, free -> aU
open PySem.Obj renaming mapSeq -> aV, putSet -> dG
open PySem.Paired renaming length -> cz
open PySem.PassesOwn renaming never -> c8
open PySem.SeqAt renaming EqAt -> cG, RcNeAt -> cE
open PySem.SeqAt.EqAt renaming of_refs -> kK, same -> kf, str_str -> jb
open PySem.SetTable renaming fill -> kG, fits -> kF, fresh -> ko, grown -> c5, slot -> kE
open PySem.Shared renaming TypeIs -> ip
open PySem.Str renaming ofString -> aJ
open PySem.Value renaming bool -> fG, int -> kw, isStrOf -> fX, isStrOf_shape -> eY, none -> bg, notImplemented -> iy, ref -> cA, str -> iT, type -> cV
open PySem.W renaming BoolBack -> jL, Frag -> av, cellsFrom_some -> jW, codeIn -> gI, fnOf -> eP, keepIn -> fI, methodObj -> jn, mg_none_of -> iZ, mg_of -> kC, nsIn -> bI
open PySem.pickOrder renaming go -> kL
open Sum renaming inl -> jU, inr -> fm
set_option Elab.async false
set_option linter.all false
set_option maxRecDepth 100000
namespace L2
open PySem PySem.Spec PyProof.Rows
abbrev Key:=Sum Int Str
def keyIs:Key->ad->Bool
 | .inl k,v=>ad.isInt k v
 | .inr x,v=>fX x v
def keyH (w:aN):Key->Int
 | .inl k=>hashInt k
 | .inr x=>hashStr w x
theorem keyIs_shape:∀ {k:Key} {v:ad},keyIs k v=true->(∃ i t,k=jU i/\v=kw i t)\/(∃ x t,k=fm x/\v=iT x t)
 | .inl i,v,h=>by
  obtain⟨t,e⟩:=ad.isInt_shape (k:=i) (v:=v) h;exact .inl ⟨i,t,rfl,e⟩
 | .inr x,v,h=>by
  obtain⟨t,e⟩:=eY (x:=x) (v:=v) h;exact .inr ⟨x,t,rfl,e⟩
theorem keyIs_int (i:Int) (t:Tok):keyIs (.inl i) (.int i t)=true:=by simp[keyIs,ad.isInt]
theorem keyIs_str (x:Str) (t:Tok):keyIs (.inr x) (.str x t)=true:=by simp[keyIs,fX]
theorem key_ll (a b:Int):decide ((jU a:Key)=jU b)=(a == b):=by
 by_cases e:a=b
 ·subst e;simp
 ·have h:¬ (jU a:Key)=jU b:=fun q=>e (jU.inj q);rw[decide_eq_false h];exact(beq_eq_false_iff_ne.mpr e).symm
theorem key_rr (a b:Str):decide ((fm a:Key)=fm b)=decide (a=b):=by
 by_cases e:a=b
 ·subst e;simp
 ·have h:¬ (fm a:Key)=fm b:=fun q=>e (fm.inj q);rw[decide_eq_false h,decide_eq_false e]
theorem key_lr (a:Int) (b:Str):decide ((jU a:Key)=fm b)=false:=decide_eq_false (fun q=>nomatch q)
theorem key_rl (a:Str) (b:Int):decide ((fm a:Key)=jU b)=false:=decide_eq_false (fun q=>nomatch q)
def mixKind (prog:aB) (w:aN):kB prog w Key where
 is:=keyIs
 hash:=keyH w
 inj:=fun v a b ha hb=>by
  rcases keyIs_shape ha with⟨i,t,rfl,rfl⟩ | ⟨x,t,rfl,rfl⟩
  ·rcases keyIs_shape hb with⟨j,u,rfl,e⟩ | ⟨y,u,rfl,e⟩
   ·injection e with e1 _;rw[e1]
   ·exact nomatch e
  ·rcases keyIs_shape hb with⟨j,u,rfl,e⟩ | ⟨y,u,rfl,e⟩
   ·exact nomatch e
   ·injection e with e1 _;rw[e1]
 byValue:=fun k v h=>by
  rcases keyIs_shape h with⟨i,t,rfl,rfl⟩ | ⟨x,t,rfl,rfl⟩ <;> rfl
 pyHash:=fun hv h=>by
  rcases keyIs_shape hv with⟨i,t,rfl,rfl⟩ | ⟨x,t,rfl,rfl⟩
  ·exact wpAny_pyHash_int h
  ·exact wpAny_pyHash_str h
 eqBool:=fun hu hv h=>by
  rcases keyIs_shape hu with⟨i,t,rfl,rfl⟩ | ⟨x,t,rfl,rfl⟩
  ·rcases keyIs_shape hv with⟨j,u,rfl,rfl⟩ | ⟨y,u,rfl,rfl⟩
   ·rw[key_ll] at h;exact wpAny_eqBool_int h
   ·rw[key_lr] at h;exact cG.int_str i t y u _ _ _ _ h
  ·rcases keyIs_shape hv with⟨j,u,rfl,rfl⟩ | ⟨y,u,rfl,rfl⟩
   ·rw[key_rl] at h;exact cG.str_int x t j u _ _ _ _ h
   ·rw[key_rr] at h;exact wpAny_eqBool_str h
 «strs»:=fun k x t v h=>by
  rcases keyIs_shape h with⟨i,u,rfl,e⟩ | ⟨y,u,rfl,e⟩
  ·exact nomatch e
  ·injection e with e1 _
   subst e1;cases v <;> rfl
theorem mixKind_int (prog:aB) (w:aN) (i:Int) (t:Tok):(mixKind prog w).is (.inl i) (.int i t)=true:=keyIs_int i t
theorem mixKind_str (prog:aB) (w:aN) (x:Str) (t:Tok):(mixKind prog w).is (.inr x) (.str x t)=true:=keyIs_str x t
inductive V where
 | non | bl (b:Bool) | int (i:Int) | str (x:Str) | byt (b:Array UInt8) | flt (b:UInt64) | ref (a:Addr) | ty (n:String)
 deriving DecidableEq
def RelV:V->ad->Prop
 | .non,u=>u=bg
 | .bl b,u=>u=fG b
 | .int i,u=>∃ t,u=kw i t
 | .str x,u=>∃ t,u=iT x t
 | .byt b,u=>∃ t,u=ad.bytes b t
 | .flt b,u=>∃ t,u=ad.float b t
 | .ref a,u=>u=cA a
 | .ty n,u=>u=cV n
abbrev Vals:List V->List ad->Prop:=bb RelV
theorem Vals.length {xs:List V} {us:List ad} (r:Vals xs us):xs.length=us.length:=cz r
theorem Vals.get:∀ {xs:List V} {us:List ad} {i:Nat} {x:V},Vals xs us->xs[i]?=some x->∃ u,us[i]?=some u/\RelV x u
 | _,_,_,_,.nil,e=>by simp at e
 | _,_,0,_,.cons r _,e=>by simp at e;subst e;exact⟨_,rfl,r⟩
 | _,_,i + 1,x,.cons _ t,e=>by
  obtain⟨u,h1,h2⟩:=Vals.get (i:=i) (x:=x) t (by simpa using e)
  exact⟨u,by simpa using h1,h2⟩
theorem Vals.set {x:V} {u:ad} (r:RelV x u):∀ {xs:List V} {us:List ad} (i:Nat),Vals xs us->Vals (xs.set i x) (us.set i u)
 | _,_,_,.nil=>.nil
 | _,_,0,.cons _ t=>.cons r t
 | _,_,i + 1,.cons q t=>.cons q (Vals.set r i t)
theorem Vals.append:∀ {xs ys:List V} {us ws:List ad},Vals xs us->Vals ys ws->Vals (xs++ys) (us++ws)
 | _,_,_,_,.nil,s=>s
 | _,_,_,_,.cons r t,s=>.cons r (Vals.append t s)
theorem Vals.take:∀ {xs:List V} {us:List ad} (n:Nat),Vals xs us->Vals (xs.take n) (us.take n)
 | _,_,0,_=>.nil
 | _,_,_ + 1,.nil=>.nil
 | _,_,n + 1,.cons r t=>.cons r (Vals.take n t)
theorem Vals.drop:∀ {xs:List V} {us:List ad} (n:Nat),Vals xs us->Vals (xs.drop n) (us.drop n)
 | _,_,0,r=>r
 | _,_,_ + 1,.nil=>.nil
 | _,_,n + 1,.cons _ t=>Vals.drop n t
def RelO:Option V->Option ad->Prop
 | some v,some u=>RelV v u
 | none,none=>True
 | _,_=>False
def KV {κ:Type}:List (κ × V)->List (κ × ad)->Prop:=bb fun(p:κ × V) (q:κ × ad)=>p.1=q.1/\RelV p.2 q.2
def kV:Key->V
 | .inl i=>.int i
 | .inr x=>.str x
inductive HO where
 | lst (xs:List V)
 | tup (xs:List V)
 | dK (kvs:List (Key × V)) | dT (kvs:List (List Key × V))
 | set (S:Int->Bool) (n:Nat)
 | ins (C dx:Addr) (fs:List (Str × V))
 | own (x:Addr)
 | xd (fs:List (Str × V))
 | met (f x:Addr)
 | rng (lo hi:Int)
 | frz (o:Obj) (u:HO)
 | tbl (ps:Array ad)
 | ext (φ:aS->Prop)
abbrev Hp:=Addr->Option HO
def upd (H:Hp) (a:Addr) (o:HO):Hp:=fun b=>if b=a then some o else H b
theorem upd_same {H:Hp} {a:Addr} {o:HO}:upd H a o a=some o:=by unfold upd;rw[if_pos rfl]
theorem upd_ne {H:Hp} {a b:Addr} {o:HO} (h:b≠a):upd H a o b=H b:=by unfold upd;rw[if_neg h]
theorem ne_of_none {H:Hp} {a b:Addr} {o:HO} (h:H a=some o) (h':H b=none):a≠b:=by
 intro e;subst e;rw[h] at h';cases h'
section
variable (P:aB) (w:aN)
def ObjOk (H:Hp) (h:aS) (a:Addr):HO->Prop
 | .lst xs=>xs.length<=sizeLine/\∃ (its:List ad) (n:Nat),Vals xs its/\h.get? a=some { cls:=.type "list",data:=.seq its.toArray n }
 | .tup xs=>xs.length<=sizeLine/\∃ its:List ad,Vals xs its/\iW h a its.toArray/\∀ o,h.get? a=some o->o.dict=none
 | .dK kvs=>kvs.length<=sizeLine/\(a == gy)=false/\∃ vs,KV kvs vs/\h.DictOf (mixKind P w) a vs
 | .dT kvs=>kvs.length<=sizeLine/\(a == gy)=false/\∃ xs:List (List Key × Addr × ad),
   bb (fun(p:List Key × V) (q:List Key × Addr × ad)=>p.1=q.1/\H q.2.1=some (.tup (p.1.map kV))/\RelV p.2 q.2.2) kvs xs /\
   ∃ o es ep,h.get? a=some o/\o.ExactDict/\o.data=.dict es ep/\es.toList=xs.map (entryOfKey (tupleKind (mixKind P w)))/\(xs.map (·.1)).Nodup
 | .set S n=>h.SetOf (intKind P w) a S n
 | .ins C dx fs=>H dx=some (.own a)/\fs.length<=1000/\dx≠a/\h.get? a=some (PySem.W.instObj C dx) /\
   ∃ mA,h.Ns1 dx mA/\(∀ f,RelO (fs.lookup f) (mA f))/\PySem.Within mA (fs.map (·.1))
 | .own _=>∃ o,h.get? a=some o
 | .xd fs=>∃ mA,h.Ns1 a mA/\∀ f,RelO (fs.lookup f) (mA f)
 | .rng lo hi=>∃ t u v,h.get? a=some { cls:=.type "range",data:=.fields #[.int lo t,.int hi u,.int 1 v] }
 | .frz o u=>h.get? a=some o/\ObjOk H h a u
 | .tbl ps=>h.get? a=some { cls:=.none,data:=.fields ps }
 | .met f x=>h.get? a=some (jn (.ref f) (.ref x))
 | .ext φ=>φ h/\(∃ o,h.get? a=some o)/\∀ h1 h2:aS,φ h1->(∀ o,h1.get? a=some o->h2.get? a=some o)->φ h2
def HOk (H:Hp) (h:aS):Prop:=∀ a o,H a=some o->ObjOk P w H h a o
end
section
variable {P:aB} {w:aN} {H H':Hp} {h h':aS} {a:Addr} {o:HO}
theorem ObjOk.lt (x:ObjOk P w H h a o):a < h.objs.size:=by
 cases o with
 | lst xs=>obtain⟨_,_,_,_,e⟩:=x;exact aq e
 | tup xs=>obtain⟨_,_,_,p⟩:=x;exact p.1.lt
 | dK kvs=>obtain⟨_,_,_,_,o,_,_,e,_⟩:=x;exact aq e
 | dT kvs=>obtain⟨_,_,_,_,o,_,_,e,_⟩:=x;exact aq e
 | set S n=>obtain⟨o,_,_,_,e,_⟩:=x;exact aq e
 | ins C dx fs=>obtain⟨_,_,_,e,_⟩:=x;exact aq e
 | own y=>obtain⟨_,e⟩:=x;exact aq e
 | xd fs=>obtain⟨_,⟨_,_,_,e,_⟩,_⟩:=x;exact aq e
 | rng lo hi=>obtain⟨_,_,_,e⟩:=x;exact aq e
 | frz ob u=>obtain⟨e,_⟩:=x;exact aq e
 | tbl ps=>exact aq (show h.get? a=some _ from x)
 | met f y=>exact aq (show h.get? a=some _ from x)
 | ext φ=>obtain⟨_,⟨_,e⟩,_⟩:=x;exact aq e
theorem Paired.mapP {α β:Type} {F G:α->β->Prop}:∀ {l₁:List α} {l₂:List β},bb F l₁ l₂->(∀ a b,F a b->G a b)->bb G l₁ l₂
 | _,_,.nil,_=>.nil
 | _,_,.cons r t,f=>.cons (f _ _ r) (Paired.mapP t f)
theorem ObjOk.stay (x:ObjOk P w H h a o) (k:∀ b u,(b=a\/H b=some (.own a))->h.get? b=some u->h'.get? b=some u)
  (ho:∀ b,H b=some (.own a)->H' b=some (.own a)) (ht:∀ b xs,H b=some (.tup xs)->H' b=some (.tup xs)):ObjOk P w H' h' a o:=by
 induction o with
 | lst xs=>obtain⟨z,its,n,r,e⟩:=x;exact⟨z,its,n,r,k _ _ (.inl rfl) e⟩
 | tup xs =>
  obtain⟨z,its,r,⟨ob,e,c⟩,nd⟩:=x;exact⟨z,its,r,⟨ob,k _ _ (.inl rfl) e,c⟩,fun o q=>by rw[k _ _ (.inl rfl) e] at q;cases q;exact nd _ e⟩
 | dK kvs=>obtain⟨z,y,vs,r,ob,es,ep,e,c⟩:=x;exact⟨z,y,vs,r,ob,es,ep,k _ _ (.inl rfl) e,c⟩
 | dT kvs =>
  obtain⟨z,y,xs,r,ob,es,ep,e,c⟩:=x;exact⟨z,y,xs,Paired.mapP r fun p q z=>⟨z.1,ht _ _ z.2.1,z.2.2⟩,ob,es,ep,k _ _ (.inl rfl) e,c⟩
 | set S n=>obtain⟨ob,es,ep,t,e,c⟩:=x;exact⟨ob,es,ep,t,k _ _ (.inl rfl) e,c⟩
 | ins C dx fs =>
  obtain⟨d,z,ne,e,mA,⟨od,es,ep,e2,c⟩,r⟩:=x;exact⟨ho _ d,z,ne,k _ _ (.inl rfl) e,mA,⟨od,es,ep,k _ _ (.inr d) e2,c⟩,r⟩
 | own y=>obtain⟨ob,e⟩:=x;exact⟨ob,k _ _ (.inl rfl) e⟩
 | xd fs=>obtain⟨mA,⟨od,es,ep,e,c⟩,r⟩:=x;exact⟨mA,⟨od,es,ep,k _ _ (.inl rfl) e,c⟩,r⟩
 | rng lo hi=>obtain⟨t,u,v,e⟩:=x;exact⟨t,u,v,k _ _ (.inl rfl) e⟩
 | frz ob u ih=>obtain⟨e,q⟩:=x;exact⟨k _ _ (.inl rfl) e,ih q⟩
 | tbl ps =>
  have e:h.get? a=some { cls:=.none,data:=.fields ps }:=x;show h'.get? a=some { cls:=.none,data:=.fields ps };exact k a _ (.inl rfl) e
 | met f y =>
  have e:h.get? a=some (jn (.ref f) (.ref y)):=x;show h'.get? a=some (jn (.ref f) (.ref y));exact k a _ (.inl rfl) e
 | ext φ=>obtain⟨p,⟨o,e⟩,st⟩:=x;exact⟨st _ _ p fun o q=>k _ _ (.inl rfl) q,⟨o,k _ _ (.inl rfl) e⟩,st⟩
theorem nd_new {g:aS} {arr:Array ad} {n:Nat}:∀ o,(g.push { cls:=.type "tuple",data:=.seq arr n }).get? g.objs.size=some o->o.dict=none:=fun o e=>by
 rw[ao _ rfl] at e;cases e;rfl
theorem HOk.lt (x:HOk P w H h) (e:H a=some o):a < h.objs.size:=(x a o e).lt
theorem HOk.fresh (x:HOk P w H h) (e:h.objs.size<=a):H a=none:=by
 cases q:H a with
 | none=>rfl
 | some u=>exact absurd (aF (x.lt q) e) (dh _)
theorem HOk.kept (x:HOk P w H h) (k:∀ b u,h.get? b=some u->h'.get? b=some u):HOk P w H h':=fun a o e =>
 (x a o e).stay (fun b u _ q=>k b u q) (fun _ q=>q) fun _ _ q=>q
theorem HOk.laid (x:HOk P w H h) (k:∀ b u,h.get? b=some u->h'.get? b=some u) (hp:h.objs.size<=a) (new:ObjOk P w (upd H a o) h' a o):HOk P w (upd H a o) h':=fun b u e=>by
 have hn:=x.fresh hp
 by_cases hb:b=a
 ·subst hb;rw[upd_same] at e;cases e;exact new
 ·rw[upd_ne hb] at e;exact(x b u e).stay (fun c v _ q=>k c v q) (fun c q=>by rw[upd_ne (ne_of_none q hn)];exact q) fun c xs q=>by rw[upd_ne (ne_of_none q hn)];exact q
end
def Rd (H:Hp) (a:Addr) (u:HO):Prop:=H a=some u\/∃ o,H a=some (.frz o u)
theorem Rd.ok {P:aB} {w:aN} {H:Hp} {h:aS} {a:Addr} {u:HO} (r:Rd H a u) (x:HOk P w H h):ObjOk P w H h a u:=by
 rcases r with r | ⟨o,r⟩
 ·exact x a u r
 ·obtain⟨_,q⟩:=x a _ r;exact q
def Mut:Option HO->Prop
 | some (.lst _)=>True
 | some (.dK _)=>True
 | some (.dT _)=>True
 | some (.set _ _)=>True
 | some (.ins _ _ _)=>True
 | some (.ext _)=>True
 | _=>False
section
variable {P:aB} {w:aN} {H:Hp} {h h':aS} {x e:Addr} {o':HO}
theorem HOk.write (ok:HOk P w H h) (mu:Mut (H x)) (he:e=x\/H e=some (.own x)) (k:∀ b u,b≠e->h.get? b=some u->h'.get? b=some u) (heo:∃ u,h'.get? e=some u)
  (new:ObjOk P w (upd H x o') h' x o'):HOk P w (upd H x o') h':=fun b u q=>by
 have nown:∀ c y,H c=some (.own y)->c≠x:=fun c y r z=>by subst z;rw[r] at mu;exact mu
 have ntup:∀ c xs,H c=some (.tup xs)->c≠x:=fun c xs r z=>by subst z;rw[r] at mu;exact mu
 by_cases hb:b=x
 ·subst hb;rw[upd_same] at q;cases q;exact new
 ·rw[upd_ne hb] at q
  by_cases hbe:b=e
  ·have q':H b=some (.own x):=by
    rcases he with z | z
    ·exact absurd (hbe.trans z) hb
    ·rw[hbe];exact z
   rw[q] at q';cases q';obtain⟨v,hv⟩:=heo;exact⟨v,by rw[hbe];exact hv⟩
  ·refine(ok b u q).stay (fun c v hc r=>k c v ?_ r) (fun c r=>by rw[upd_ne (nown c b r)];exact r) fun c xs r=>by rw[upd_ne (ntup c xs r)];exact r
   rcases hc with rfl | hc
   ·exact hbe
   ·rintro rfl;rcases he with z | z
    ·exact nown c b hc z
    ·rw[hc] at z;cases z;exact hb rfl
end
structure Un (fs ex:List Addr) (H H':Hp) (h h':aS):Prop where
 keep:∀ b o,h.get? b=some o->H b=none->b∉fs->b∉ex->h'.get? b=some o
 slot:∀ b o,h.get? b=some o->H b=none->b∈fs->b∉ex->∃ sl,h'.get? b=some { o with slots:=sl }
 free:∀ b o,h.get? b=some o->H b=none->b∉ex->H' b=none
 there:∀ b o,h.get? b=some o->b∉ex->∃ o',h'.get? b=some o'
 tups:∀ b xs,H b=some (.tup xs)->H' b=some (.tup xs)
 frzs:∀ b o u,H b=some (.frz o u)->H' b=some (.frz o u)
 tbls:∀ b ps,H b=some (.tbl ps)->∃ more,H' b=some (.tbl (ps++more))
section
variable {fs fs' ex ex':List Addr} {H H1 H2:Hp} {h h1 h2 h':aS} {a x e:Addr} {o:HO}
theorem Un.any (u:Un fs ex H H1 h h1) {b:Addr} {ob:Obj} (q:h.get? b=some ob) (n:H b=none) (hx:b∉ex):∃ sl,h1.get? b=some { ob with slots:=sl }:=by
 by_cases hb:b∈fs
 ·exact u.slot b ob q n hb hx
 ·exact⟨ob.slots,u.keep b ob q n hb hx⟩
theorem Un.kept (k:∀ b u,h.get? b=some u->h'.get? b=some u):Un fs ex H H h h' :=
 ⟨fun b ob q _ _ _=>k b ob q,fun b ob q _ _ _=>⟨ob.slots,k b ob q⟩,fun _ _ _ n _=>n,fun b ob q _=>⟨ob,k b ob q⟩,fun _ _ q=>q,fun _ _ _ q=>q,fun _ ps q=>⟨#[],by rw[q];simp⟩⟩
theorem Un.refl:Un fs ex H H h h:=Un.kept fun _ _ q=>q
theorem Un.laid (k:∀ b u,h.get? b=some u->h'.get? b=some u) (hp:h.objs.size<=a) (hn:H a=none):Un fs ex H (upd H a o) h h' where
 keep:=fun b u q _ _ _=>k b u q
 slot:=fun b u q _ _ _=>⟨u.slots,k b u q⟩
 free:=fun b u q n _=>by rw[upd_ne (aC (aF (aq q) hp))];exact n
 there:=fun b u q _=>⟨u,k b u q⟩
 tups:=fun b xs q=>by rw[upd_ne (ne_of_none q hn)];exact q
 frzs:=fun b u xs q=>by rw[upd_ne (ne_of_none q hn)];exact q
 tbls:=fun b ps q=>⟨#[],by rw[upd_ne (ne_of_none q hn),q];simp⟩
theorem Un.write (mu:Mut (H x)) (he:e=x\/H e=some (.own x)) (k:∀ b u,b≠e->h.get? b=some u->h'.get? b=some u) (heo:∃ u,h'.get? e=some u):Un fs ex H (upd H x o) h h':=by
 have hx:∀ b,H b=none->b≠x:=fun b n z=>by subst z;rw[n] at mu;exact mu
 have hb:∀ b,H b=none->b≠e:=fun b n z=>by
  subst z;rcases he with r | r
  ·exact hx b n r
  ·rw[n] at r;cases r
 have hm:∀ b u,H b=some u->¬ Mut (some u)->b≠x:=fun b u q nm z=>by subst z;rw[q] at mu;exact nm mu
 refine⟨fun b u q n _ _=>k b u (hb b n) q,fun b u q n _ _=>⟨u.slots,k b u (hb b n) q⟩,fun b u q n _=>by rw[upd_ne (hx b n)];exact n,fun b u q _=>?_,
  fun b xs q=>by rw[upd_ne (hm b _ q fun z=>z)];exact q,fun b u xs q=>by rw[upd_ne (hm b _ q fun z=>z)];exact q,fun b ps q=>⟨#[],by rw[upd_ne (hm b _ q fun z=>z),q];simp⟩⟩
 by_cases hbe:b=e
 ·subst hbe;exact heo
 ·exact⟨u,k b u hbe q⟩
end
def trk (h:aS) (H:Hp):List Addr:=(aD h.objs.size).filter fun a=>(H a).isSome
def hidT (h:aS) (H:Hp):aS:=PySem.W.hideAll h (trk h H)
theorem hidT_size (h:aS) (H:Hp):(hidT h H).objs.size=h.objs.size:=PySem.W.hideAll_size _ _
theorem hidT_get {h:aS} {H:Hp} {b:Addr} {o:Obj} (e:h.get? b=some o) (n:H b=none):(hidT h H).get? b=some o :=
 PySem.W.hideAll_get _ e fun hm=>by
  have q:(H b).isSome=true:=(dW.mp hm).2;rw[n] at q;simp at q
theorem of_hidT {h:aS} {H:Hp} {b:Addr} {o:Obj} (e:(hidT h H).get? b=some o):h.get? b=some o/\H b=none:=by
 have e':h.get? b=some o:=PySem.W.of_hideAll (trk h H) e;refine⟨e',?_⟩;cases q:H b with
 | none=>rfl
 | some x =>
  have hm:b∈trk h H:=dW.mpr ⟨aM.mpr (aq e'),by simp[q]⟩
  have z:(hidT h H).get? b=none:=PySem.W.hideAll_none (trk h H) hm;rw[z] at e;cases e
structure Mod (K:av) (mg:Str->Option ad) (base:aS):Prop where
 kin:K.In base
 glob:base.Ns aX mg
 blt:∃ mb,base.Ns builtinsNs mb/\∀ x:Str,x ≠ "__name__"->mb x=cu x
 nolimit:base.NoLimit
structure Cx where
 prog:aB
 w:aN
 K:av
 mg:Str->Option ad
 base:aS
 A:aO
 N:List Str
 s₀:ah
 H₀:Hp
 env:Env
 outer:List Env
 stack:List Env
 ex:List Addr
 fn:Str->Bool
 calm:Bool
 pn:List (Addr × Obj)
 xe:ad->ah->Prop
def frs (l:List Env):List Addr:=l.filterMap (·.frame)
abbrev Cx.fs (X:Cx):List Addr:=frs X.outer
def Vis (sc:Scope) (x:Str):Prop:=sc.names.lookup x=some .local\/sc.names.lookup x=some .cell\/sc.names.lookup x=some .free
def Loc (sc:Scope) (x:Str):Prop:=sc.names.lookup x=some .local\/sc.names.lookup x=some .cell
def Look (env:Env) (h:aS) (m:Str->Option ad) (x:Str) (u:ad):Prop :=
 (env.kindOf x=some .local/\m x=some u)\/((env.kindOf x=some .cell\/env.kindOf x=some .free)/\∃ c,env.cells.lookup x=some c/\h.IsCell c (some u))
structure Cx.Ok (X:Cx):Prop where
 mod:Mod X.K X.mg X.base
 kind:X.env.scope.kind=.function
 glob:X.env.globals=aX
 blt:X.env.builtins=builtinsNs
 above:X.s₀.heap.objs.size<=X.env.locals
 inj:∀ x y c,X.env.cells.lookup x=some c->X.env.cells.lookup y=some c->x=y
 has:∀ x,(X.env.kindOf x=some .cell\/X.env.kindOf x=some .free)->∃ c,X.env.cells.lookup x=some c
 cab:∀ x c,X.fn x=true->X.env.cells.lookup x=some c->X.s₀.heap.objs.size<=c
 hd:X.calm=true->X.A.handled=none
 frames:X.A.frames=some X.stack
 stk:X.stack=X.outer\/(X.stack=X.env::X.outer/\X.env.frame=some X.env.locals)
 exf:∀ b∈X.ex,b≠X.env.locals/\∀ x c,X.env.cells.lookup x=some c->c≠b
 bs:∀ b o,X.base.get? b=some o->X.s₀.heap.get? b=some o/\X.H₀ b=none
 bsz:X.base.objs.size<=X.s₀.heap.objs.size
 noex:∀ b o,X.base.get? b=some o->b∉X.ex
 exfs:∀ b∈X.ex,b∉X.fs
 funs:X.s₀.heap.FunFrames X.base X.outer
 frf:∀ b∈X.fs,X.H₀ b=none
structure Inv (X:Cx) (pins:List (Addr × Obj)) (σ:List (Option V)) (H:Hp) (s:ah):Prop where
 ok:X.Ok
 os:s.os=X.s₀.os
 bare:jo s.gens
 base:Un X.fs X.ex X.H₀ H X.s₀.heap s.heap
 loc:∃ m,s.heap.Ns X.env.locals m/\∀ (i:Nat) (x:Str) (v:V),X.N[i]?=some x->σ[i]?=some (some v)->Vis X.env.scope x->∃ u,RelV v u/\Look X.env s.heap m x u
 cell:∀ x c,X.env.cells.lookup x=some c->∃ v,s.heap.IsCell c v
 free:H X.env.locals=none
 freeC:∀ x c,X.env.cells.lookup x=some c->H c=none
 pin:∀ p∈X.pn++pins,s.heap.get? p.1=some p.2/\H p.1=none/\p.1≠X.env.locals/\p.1∉X.fs/\∀ v,p.2.data≠.cell v
 hok:HOk X.prog X.w H s.heap
 len:σ.length=X.N.length
section
variable {X:Cx} {pins:List (Addr × Obj)} {σ:List (Option V)} {H H':Hp} {s:ah} {h':aS}
theorem Cx.Ok.nofr (ok:X.Ok) {b:Addr} {o:Obj} (e:X.base.get? b=some o):b∉X.fs:=fun hb=>by
 have:=(ok.funs.mem hb).1
 rw[e] at this;cases this
theorem Inv.bs (I:Inv X pins σ H s):∀ b o,X.base.get? b=some o->s.heap.get? b=some o/\H b=none:=fun b o e =>
 ⟨I.base.keep b o (I.ok.bs b o e).1 (I.ok.bs b o e).2 (I.ok.nofr e) (I.ok.noex b o e),I.base.free b o (I.ok.bs b o e).1 (I.ok.bs b o e).2 (I.ok.noex b o e)⟩
theorem Inv.bk (I:Inv X pins σ H s):∀ b o,X.base.get? b=some o->s.heap.get? b=some o:=fun b o e=>(I.bs b o e).1
theorem Inv.mod (I:Inv X pins σ H s):Mod X.K X.mg X.base:=I.ok.mod
theorem Inv.kIn (I:Inv X pins σ H s):X.K.In s.heap:=I.ok.mod.kin.keeps I.bk
theorem Inv.lt (I:Inv X pins σ H s):X.env.locals < s.heap.objs.size:=let ⟨_,hn,_⟩:=I.loc;hn.lt
theorem Inv.sz (I:Inv X pins σ H s):X.s₀.heap.objs.size<=s.heap.objs.size:=bN I.ok.above (fM I.lt)
theorem Inv.nofs (I:Inv X pins σ H s) {a:Addr} (h:s.heap.objs.size<=a):a∉X.fs:=fun hb=>by
 obtain⟨_,o,ho,_⟩:=I.ok.funs.mem hb;exact absurd (aF (aq ho) (bN I.sz h)) (dh _)
theorem Inv.cne (I:Inv X pins σ H s):∀ x c,X.env.cells.lookup x=some c->c≠X.env.locals:=fun x c e z=>by
 obtain⟨v,o,ho,hd⟩:=I.cell x c e;obtain⟨m,⟨o',es,ep,ho',hd',_⟩,_⟩:=I.loc;rw[z,ho'] at ho;cases ho;rw[hd'] at hd;cases hd
theorem Inv.funs (I:Inv X pins σ H s):s.heap.FunFrames X.base X.outer:=by
 have all:∀ (l:List Env),(∀ b∈frs l,b∈X.fs)->X.s₀.heap.FunFrames X.base l->s.heap.FunFrames X.base l:=by
  intro l
  induction l with
  | nil=>intro _ _;trivial
  | cons env r ih =>
   intro hs hl;obtain⟨hk,⟨L,o,hf,hn,ho,hd⟩,hr⟩:=hl;have hL:L∈X.fs:=hs L (by unfold frs;rw[cv,hf];exact ar)
   obtain⟨sl,e⟩:=I.base.slot L o ho (I.ok.frf L hL) hL fun z=>I.ok.exfs L z hL;exact⟨hk,⟨L,_,hf,hn,e,hd⟩,ih (fun b hb=>hs b (by unfold frs;rw[cv,hf];exact au _ hb)) hr⟩
 exact all X.outer (fun _ hb=>hb) I.ok.funs
theorem Inv.stack (I:Inv X pins σ H s):s.heap.FunFrames X.base X.stack:=by
 rcases I.ok.stk with e | ⟨e,hf⟩
 ·rw[e];exact I.funs
 ·rw[e];obtain⟨m,hn,_⟩:=I.loc;refine .cons (by rw[I.ok.kind];decide) hf hn ?_ I.funs
  exact aS.get?_none_of_le (bN I.ok.bsz I.ok.above)
theorem Inv.stkSub (I:Inv X pins σ H s):∀ b∈frs X.stack,b∈X.env.locals::X.fs:=fun b hb=>by
 rcases I.ok.stk with e | ⟨e,hf⟩
 ·rw[e] at hb;exact au _ hb
 ·rw[e] at hb;unfold frs at hb;rw[cv,hf] at hb;exact hb
theorem Inv.stkFree (I:Inv X pins σ H s):∀ b∈frs X.stack,H b=none:=fun b hb=>by
 rcases ax.mp (I.stkSub b hb) with e | hb
 ·rw[e];exact I.free
 ·obtain⟨_,o,ho,_⟩:=I.ok.funs.mem hb;exact I.base.free b o ho (I.ok.frf b hb) fun z=>I.ok.exfs b z hb
theorem Inv.step {g':Array GenState} {t':Nat} {d':Drawn} {ch:List Addr} (I:Inv X pins σ H s)
  (hch:∀ b∈ch,(b∈X.ex\/X.s₀.heap.objs.size<=b)/\b≠X.env.locals/\(∀ x c,X.env.cells.lookup x=some c->c≠b)/\∀ p∈X.pn++pins,p.1≠b)
  (keep:∀ b o,b≠X.env.locals->b∉X.fs->b∉ch->s.heap.get? b=some o->H b=none->h'.get? b=some o)
  (slot:∀ b o,b≠X.env.locals->b∈X.fs->b∉ch->s.heap.get? b=some o->H b=none->∃ sl,h'.get? b=some { o with slots:=sl }) (free:∀ b o,b∉ch->s.heap.get? b=some o->H b=none->H' b=none)
  (there:∀ b o,b∉ch->s.heap.get? b=some o->∃ o',h'.get? b=some o')
  (tups:∀ b xs,H b=some (.tup xs)->H' b=some (.tup xs)) (frzs:∀ b o u,H b=some (.frz o u)->H' b=some (.frz o u)) (tbls:∀ b ps,H b=some (.tbl ps)->∃ more,H' b=some (.tbl (ps++more)))
  (ns:∀ m,s.heap.Ns X.env.locals m->h'.Ns X.env.locals m) (hok:HOk X.prog X.w H' h') (hg:jo g') :
  Inv X pins σ H' { s with heap:=h',gens:=g',drawn:=d',toks:=t' }:=by
 have neL:∀ b o,X.s₀.heap.get? b=some o->b≠X.env.locals:=fun b o e=>aC (aF (aq e) I.ok.above);have neC:∀ b o,X.s₀.heap.get? b=some o->b∉X.ex->b∉ch:=fun b o e hx hb=>by
  rcases(hch b hb).1 with z | z
  ·exact hx z
  ·exact absurd (aF (aq e) z) (dh _)
 have cellK:∀ x c,X.env.cells.lookup x=some c->∀ v,s.heap.IsCell c v->h'.IsCell c v:=fun x c e v ⟨o,ho,hd⟩=>by
  have nch:c∉ch:=fun z=>(hch c z).2.2.1 x c e rfl
  by_cases hc:c∈X.fs
  ·obtain⟨sl,q⟩:=slot c o (I.cne x c e) hc nch ho (I.freeC x c e);exact⟨_,q,hd⟩
  ·exact⟨o,keep c o (I.cne x c e) hc nch ho (I.freeC x c e),hd⟩
 refine⟨I.ok,I.os,hg,⟨fun b o e n hb hx=>?_,fun b o e n hb hx=>?_,fun b o e n hx=>?_,fun b o e hx=>?_,fun b xs e=>tups b xs (I.base.tups b xs e),fun b o xs e=>frzs b o xs (I.base.frzs b o xs e),fun b ps e=>?_⟩,?_,fun x c e=>?_,?_,fun x c e=>?_,fun p hp=>?_,hok,I.len⟩
 ·exact keep b o (neL b o e) hb (neC b o e hx) (I.base.keep b o e n hb hx) (I.base.free b o e n hx)
 ·obtain⟨sl,e1⟩:=I.base.slot b o e n hb hx;obtain⟨sl',e2⟩:=slot b _ (neL b o e) hb (neC b o e hx) e1 (I.base.free b o e n hx);exact⟨sl',e2⟩
 ·obtain⟨o',e1⟩:=I.base.there b o e hx;exact free b o' (neC b o e hx) e1 (I.base.free b o e n hx)
 ·obtain⟨o',e1⟩:=I.base.there b o e hx;exact there b o' (neC b o e hx) e1
 ·obtain⟨m1,e1⟩:=I.base.tbls b ps e;obtain⟨m2,e2⟩:=tbls b _ e1;exact⟨m1++m2,by rw[e2,Array.append_assoc]⟩
 ·obtain⟨m,hn,hl⟩:=I.loc;refine⟨m,ns m hn,fun i x v e1 e2 e3=>?_⟩;obtain⟨u,r,l⟩:=hl i x v e1 e2 e3;refine⟨u,r,?_⟩;rcases l with l | ⟨k,c,e,z⟩
  ·exact .inl l
  ·exact .inr ⟨k,c,e,cellK x c e _ z⟩
 ·obtain⟨v,z⟩:=I.cell x c e;exact⟨v,cellK x c e v z⟩
 ·obtain⟨m,⟨o,_,_,ho,_⟩,_⟩:=I.loc;exact free _ o (fun z=>(hch _ z).2.1 rfl) ho I.free
 ·obtain⟨v,o,ho,hd⟩:=I.cell x c e;exact free c o (fun z=>(hch c z).2.2.1 x c e rfl) ho (I.freeC x c e)
 ·obtain⟨e,n,ne,nf,d⟩:=I.pin p hp;have nch:p.1∉ch:=fun z=>(hch p.1 z).2.2.2 p hp rfl;exact⟨keep p.1 p.2 ne nf nch e n,free p.1 p.2 nch e n,ne,nf,d⟩
theorem Inv.un {t':Nat} (I:Inv X pins σ H s) (u:Un X.fs [] H H' s.heap h') (hok:HOk X.prog X.w H' h'):Inv X pins σ H' { s with heap:=h',toks:=t' }:=by
 obtain⟨m,⟨o,es,ep,ho,r⟩,_⟩:=id I.loc;obtain⟨sl,hL⟩:=u.any ho I.free (by simp)
 exact I.step (g':=s.gens) (d':=s.drawn) (ch:=[]) (fun _ z=>nomatch z) (fun b o _ hb _ e n=>u.keep b o e n hb (by simp)) (fun b o _ hb _ e n=>u.slot b o e n hb (by simp)) (fun b o _ e n=>u.free b o e n (by simp)) (fun b o _ e=>u.there b o e (by simp)) u.tups u.frzs u.tbls (fun m' hm=>by
  obtain⟨o',es',ep',ho',r'⟩:=hm;rw[ho] at ho';cases ho';exact⟨_,es',ep',hL,r'⟩) hok I.bare
theorem Inv.call {g':Array GenState} {t':Nat} {d':Drawn} {ch:List Addr} (I:Inv X pins σ H s) (u:Un (frs X.stack) ch H H' s.heap h') (hok:HOk X.prog X.w H' h') (hg:jo g')
  (hch:∀ b∈ch,(b∈X.ex\/X.s₀.heap.objs.size<=b)/\b≠X.env.locals/\(∀ x c,X.env.cells.lookup x=some c->c≠b)/\∀ p∈X.pn++pins,p.1≠b) :
  Inv X pins σ H' { s with heap:=h',gens:=g',drawn:=d',toks:=t' }:=by
 obtain⟨m,⟨o,es,ep,ho,r⟩,_⟩:=id I.loc;obtain⟨sl,hL⟩:=u.any ho I.free fun z=>(hch _ z).2.1 rfl;exact I.step (ch:=ch) hch (fun b o hL hb hc e n=>u.keep b o e n (fun z=>(ax.mp (I.stkSub b z)).elim hL hb) hc) (fun b o _ _ hc e n=>u.any e n hc) (fun b o hc e n=>u.free b o e n hc) (fun b o hc e=>u.there b o e hc) u.tups u.frzs u.tbls (fun m' hm=>by
  obtain⟨o',es',ep',ho',r'⟩:=hm;rw[ho] at ho';cases ho';exact⟨_,es',ep',hL,r'⟩) hok hg
theorem Inv.turned {t':Nat} {it:Addr} (I:Inv X pins σ H s) (k:∀ b o,b≠it->s.heap.get? b=some o->h'.get? b=some o) (hn:H it=none) (hL:it≠X.env.locals)
  (h1:it∈X.ex\/X.s₀.heap.objs.size<=it) (h2:∀ x c,X.env.cells.lookup x=some c->c≠it) (h3:∀ p∈X.pn++pins,p.1≠it):Inv X pins σ H { s with heap:=h',toks:=t' }:=by
 have nit:∀ b u,H b=some u->b≠it:=fun b u e z=>by rw[z,hn] at e;cases e
 refine I.step (g':=s.gens) (d':=s.drawn) (ch:=[it]) (fun b hb=>?_) (fun b o _ _ hc e _=>k b o (fun z=>hc (by simp[z])) e) (fun b o _ _ hc e _=>⟨o.slots,k b o (fun z=>hc (by simp[z])) e⟩) (fun _ _ _ _ n=>n)
  (fun b o hc e=>⟨o,k b o (fun z=>hc (by simp[z])) e⟩) (fun _ _ e=>e) (fun _ _ _ e=>e) (fun b ps e=>⟨#[],by rw[e];simp⟩) (fun m hm=>?_) (fun b u e=>?_) I.bare
 ·have e:b=it:=by simpa using hb
  subst e;exact⟨h1,hL,h2,h3⟩
 ·obtain⟨o,es,ep,ho,r⟩:=hm;exact⟨o,es,ep,k _ o (bW hL) ho,r⟩
 ·refine(I.hok b u e).stay (fun c v hc q=>k c v ?_ q) (fun _ q=>q) fun _ _ q=>q;rcases hc with z | z
  ·rw[z];exact nit b u e
  ·exact nit c _ z
theorem Inv.tok (I:Inv X pins σ H s) (t:Nat):Inv X pins σ H { s with toks:=t }:=I.un (h':=s.heap) (t':=t) Un.refl I.hok
theorem Inv.kept {t':Nat} (I:Inv X pins σ H s) (k:∀ b u,s.heap.get? b=some u->h'.get? b=some u):Inv X pins σ H { s with heap:=h',toks:=t' }:=I.un (Un.kept k) (I.hok.kept k)
theorem Inv.laid {a:Addr} {o:HO} {t':Nat} (I:Inv X pins σ H s) (k:∀ b u,s.heap.get? b=some u->h'.get? b=some u) (hp:s.heap.objs.size<=a) (new:ObjOk X.prog X.w (upd H a o) h' a o) :
  Inv X pins σ (upd H a o) { s with heap:=h',toks:=t' }:=I.un (Un.laid k hp (I.hok.fresh hp)) (I.hok.laid k hp new)
theorem Inv.write {x e:Addr} {o:HO} {t':Nat} (I:Inv X pins σ H s) (mu:Mut (H x)) (he:e=x\/H e=some (.own x)) (k:∀ b u,b≠e->s.heap.get? b=some u->h'.get? b=some u) (heo:∃ u,h'.get? e=some u)
  (new:ObjOk X.prog X.w (upd H x o) h' x o):Inv X pins σ (upd H x o) { s with heap:=h',toks:=t' }:=I.un (Un.write mu he k heo) (I.hok.write mu he k heo new)
theorem Inv.weak {σ':List (Option V)} (I:Inv X pins σ H s) (hl:σ'.length=σ.length) (w:∀ (i:Nat) v,σ'[i]?=some (some v)->σ[i]?=some (some v)):Inv X pins σ' H s :=
 ⟨I.ok,I.os,I.bare,I.base,let ⟨m,hn,hl'⟩:=I.loc;⟨m,hn,fun i x v e1 e2 e3=>hl' i x v e1 (w i v e2) e3⟩,I.cell,I.free,I.freeC,I.pin,I.hok,hl.trans I.len⟩
theorem Inv.pins_of {pins':List (Addr × Obj)} (I:Inv X pins σ H s) (h:∀ p∈pins',s.heap.get? p.1=some p.2/\H p.1=none/\p.1≠X.env.locals/\p.1∉X.fs/\∀ v,p.2.data≠.cell v):Inv X pins' σ H s :=
 ⟨I.ok,I.os,I.bare,I.base,I.loc,I.cell,I.free,I.freeC,fun p hp=>(bB.mp hp).elim (fun z=>I.pin p (da _ z)) (h p),I.hok,I.len⟩
theorem nodup_ix {N:List Str} (hN:N.Nodup) {i j:Nat} {x:Str} (a:N[i]?=some x) (b:N[j]?=some x):i=j:=by
 obtain⟨h1,e1⟩:=aH.mp a;obtain⟨h2,e2⟩:=aH.mp b;exact(fN hN).mp (e1.trans e2.symm)
theorem store_ok2 {M:Model} {A:aO} {E:ad->ah->Prop} {i:Nat} {x:Str} {v:V} {u:ad} {Q:Unit->ah->Prop} (I:Inv X pins σ H s) (hN:X.N.Nodup) (hi:X.N[i]?=some x) (hx:Loc X.env.scope x) (r:RelV v u)
  (h:∀ s',Inv X pins (σ.set i (some v)) H s'->(∃ a,cB a s.heap s'.heap/\(a=X.env.locals\/X.env.cells.lookup x=some a))->Q () s') (hf:X.fn x=true\/X.env.scope.names.lookup x=some .local:=by first | exact .inl rfl | exact .inr rfl | assumption):aw M A (storeName X.env x u) Q E s:=by
 obtain⟨m,hn,hl⟩:=id I.loc;have hcls:(X.env.scope.kind == .class || (X.env.scope.kind == .module && X.env.locals != X.env.globals))=false:=by rw[I.ok.kind];rfl
 have hiσ:i < σ.length:=by rw[I.len];exact(aH.mp hi).1
 have cne:=I.cne;have tracked:∀ {a:Addr} {h':aS},(∃ o,s.heap.get? a=some o/\H a=none)->cB a s.heap h'->HOk X.prog X.w H h':=fun {a h'} ha hs b ob e=>by
  obtain⟨_,_,hfree⟩:=ha;refine(I.hok b ob e).stay (fun c w' hc q=>(hs.2 c ?_).trans q) (fun _ q=>q) fun _ _ q=>q;rintro rfl;rcases hc with rfl | hc
  ·rw[hfree] at e;cases e
  ·rw[hfree] at hc;cases hc
 rcases hx with hk | hk
 ·refine wpAny_storeName_local hk hn (fun h' hn' hs=>?_) hcls;obtain⟨oL,_,_,hoL,_⟩:=id hn;refine h _ ⟨I.ok,I.os,I.bare,⟨fun b o e n hb hx=>?_,fun b o e n hb hx=>?_,I.base.free,fun b o e hx=>?_,I.base.tups,I.base.frzs,I.base.tbls⟩,⟨_,hn',fun j y v' e1 e2 e3=>?_⟩,fun y c e=>?_,I.free,I.freeC,fun p hp=>?_,tracked ⟨oL,hoL,I.free⟩ hs,by simpa using I.len⟩ ⟨_,hs,.inl rfl⟩
  ·exact(hs.2 b (aC (aF (aq e) I.ok.above))).trans (I.base.keep b o e n hb hx)
  ·obtain⟨sl,e1⟩:=I.base.slot b o e n hb hx;exact⟨sl,(hs.2 b (aC (aF (aq e) I.ok.above))).trans e1⟩
  ·obtain⟨o',e1⟩:=I.base.there b o e hx;exact⟨o',(hs.2 b (aC (aF (aq e) I.ok.above))).trans e1⟩
  ·by_cases hj:j=i
   ·subst hj;rw[hi] at e1;cases e1;rw[List.getElem?_set_self hiσ] at e2;cases e2;exact⟨u,r,.inl ⟨hk,by simp⟩⟩
   ·rw[fH (bW hj)] at e2;obtain⟨u',r',q⟩:=hl j y v' e1 e2 e3;refine⟨u',r',?_⟩;rcases q with⟨k,e⟩ | ⟨k,c,e,z⟩
    ·refine .inl ⟨k,?_⟩
     have:y≠x:=fun e=>hj (nodup_ix hN e1 (e ▸ hi))
     simp[this,e]
    ·exact .inr ⟨k,c,e,z.sameBut hs (cne y c e)⟩
  ·obtain⟨w',z⟩:=I.cell y c e;exact⟨w',z.sameBut hs (cne y c e)⟩
  ·obtain⟨e,n,ne,nf,d⟩:=I.pin p hp;exact⟨(hs.2 p.1 ne).trans e,n,ne,nf,d⟩
 ·have hfn:X.fn x=true:=by
   rcases hf with z | z
   ·exact z
   ·rw[z] at hk;cases hk
  obtain⟨c,hc⟩:=I.ok.has x (.inl hk);obtain⟨w',z⟩:=I.cell x c hc;refine wpAny_storeName_cell I.ok.kind hk hc z (fun h' hc' hs=>?_);obtain⟨oc,hoc,hocd⟩:=id z;refine h { s with heap:=h' } ⟨I.ok,I.os,I.bare,⟨fun b o e n hb hx=>?_,fun b o e n hb hx=>?_,I.base.free,fun b o e hx=>?_,I.base.tups,I.base.frzs,I.base.tbls⟩,⟨m,hn.sameBut hs (bW (cne x c hc)),fun j y v' e1 e2 e3=>?_⟩,fun y c' e=>?_,I.free,I.freeC,fun p hp=>?_,tracked ⟨oc,hoc,I.freeC x c hc⟩ hs,by simpa using I.len⟩ ⟨c,hs,.inr hc⟩
  ·exact(hs.2 b (aC (aF (aq e) (I.ok.cab x c hfn hc)))).trans (I.base.keep b o e n hb hx)
  ·obtain⟨sl,e1⟩:=I.base.slot b o e n hb hx;exact⟨sl,(hs.2 b (aC (aF (aq e) (I.ok.cab x c hfn hc)))).trans e1⟩
  ·obtain⟨o',e1⟩:=I.base.there b o e hx;exact⟨o',(hs.2 b (aC (aF (aq e) (I.ok.cab x c hfn hc)))).trans e1⟩
  ·by_cases hj:j=i
   ·subst hj;rw[hi] at e1;cases e1;rw[List.getElem?_set_self hiσ] at e2;cases e2;exact⟨u,r,.inr ⟨.inl hk,c,hc,hc'⟩⟩
   ·rw[fH (bW hj)] at e2;obtain⟨u',r',q⟩:=hl j y v' e1 e2 e3;refine⟨u',r',?_⟩;rcases q with q | ⟨k,c',e,z'⟩
    ·exact .inl q
    ·refine .inr ⟨k,c',e,z'.sameBut hs ?_⟩;rintro rfl;exact hj (nodup_ix hN e1 (I.ok.inj _ _ _ e hc ▸ hi))
  ·by_cases hcc:c'=c
   ·subst hcc;exact⟨_,hc'⟩
   ·obtain⟨w2,z2⟩:=I.cell y c' e;exact⟨w2,z2.sameBut hs hcc⟩
  ·obtain⟨e,n,ne,nf,d⟩:=I.pin p hp;refine⟨(hs.2 p.1 ?_).trans e,n,ne,nf,d⟩;intro q;rw[q,hoc] at e;have q':oc=p.2:=aL e;exact d w' (by rw[<- q'];exact hocd)
theorem store_ok {M:Model} {A:aO} {E:ad->ah->Prop} {i:Nat} {x:Str} {v:V} {u:ad} {Q:Unit->ah->Prop} (I:Inv X pins σ H s) (hN:X.N.Nodup) (hi:X.N[i]?=some x) (hx:Loc X.env.scope x) (r:RelV v u)
  (h:∀ s',Inv X pins (σ.set i (some v)) H s'->Q () s') (hf:X.fn x=true\/X.env.scope.names.lookup x=some .local:=by first | exact .inl rfl | exact .inr rfl | assumption):aw M A (storeName X.env x u) Q E s :=
 store_ok2 I hN hi hx r (fun s' I' _=>h s' I') hf
theorem Inv.call' {s':ah} {ch:List Addr} (I:Inv X pins σ H s) (ho:s'.os=s.os) (u:Un (frs X.stack) ch H H' s.heap s'.heap) (hok:HOk X.prog X.w H' s'.heap) (hg:jo s'.gens)
  (hch:∀ b∈ch,(b∈X.ex\/X.s₀.heap.objs.size<=b)/\b≠X.env.locals/\(∀ x c,X.env.cells.lookup x=some c->c≠b)/\∀ p∈X.pn++pins,p.1≠b):Inv X pins σ H' s':=by
 obtain⟨h',g',d',t',o'⟩:=s';have e:o'=s.os:=ho;subst e;exact I.call (g':=g') (t':=t') (d':=d') u hok hg hch
end
abbrev XK:=ad->Option Addr->Hp->Prop
abbrev St:=List (Option V)
abbrev VK:=V->Hp->Prop
abbrev TE:=St->Hp->VK->Prop
abbrev TT:=St->Hp->(Bool->Hp->Prop)->Prop
abbrev TA:=St->Hp->(List V->Hp->Prop)->Prop
structure Ends where
 nx:St->Hp->Prop
 rt:VK
 bk:St->Hp->Prop:=fun _ _=>False
 ct:St->Hp->Prop:=fun _ _=>False
abbrev TS:=Ends->St->Hp->Prop
def EP (X:Cx) (pins:List (Addr × Obj)) (σ:St) (Q:VK) (u:ad) (s':ah):Prop:=∃ v H',Inv X pins σ H' s'/\RelV v u/\Q v H'
def TP (X:Cx) (pins:List (Addr × Obj)) (σ:St) (Q:Bool->Hp->Prop) (b:Bool) (s':ah):Prop:=∃ H',Inv X pins σ H' s'/\Q b H'
def AP (X:Cx) (pins:List (Addr × Obj)) (σ:St) (Q:List V->Hp->Prop) (us:List ad) (s':ah):Prop:=∃ vs H',Inv X pins σ H' s'/\Vals vs us/\Q vs H'
def SP (X:Cx) (pins:List (Addr × Obj)) (D:Ends) (f:Flow) (s':ah):Prop :=
 match f with
 | .next=>∃ σ' H',Inv X pins σ' H' s'/\D.nx σ' H'
 | .brk=>∃ σ' H',Inv X pins σ' H' s'/\D.bk σ' H'
 | .cont=>∃ σ' H',Inv X pins σ' H' s'/\D.ct σ' H'
 | .ret u=>∃ v σ' H',Inv X pins σ' H' s'/\RelV v u/\D.rt v H'
def PE (X:Cx) (e:Expr) (t:TE):Prop :=
 ∀ (pins:List (Addr × Obj)) (s:ah) (σ:St) (H:Hp) (Q:VK),Inv X pins σ H s->t σ H Q->aw (aA X.prog X.w) X.A (eval e X.env) (EP X pins σ Q) X.xe s
def PT (X:Cx) (e:Expr) (t:TT):Prop :=
 ∀ (pins:List (Addr × Obj)) (s:ah) (σ:St) (H:Hp) (Q:Bool->Hp->Prop),Inv X pins σ H s->t σ H Q->aw (aA X.prog X.w) X.A (isTrue e X.env (eval e X.env)) (TP X pins σ Q) X.xe s
def PW (X:Cx) (e:Expr) (t:TT):Prop :=
 ∀ (whole:Sem ad) (pins:List (Addr × Obj)) (s:ah) (σ:St) (H:Hp) (Q:Bool->Hp->Prop),Inv X pins σ H s->t σ H Q->aw (aA X.prog X.w) X.A (isTrue e X.env whole) (TP X pins σ Q) X.xe s
theorem PW.pt {X:Cx} {e:Expr} {t:TT} (h:PW X e t):PT X e t:=h _
def PA (X:Cx) (es:List Expr) (t:TA):Prop :=
 ∀ (pos:Pos) (pins:List (Addr × Obj)) (s:ah) (σ:St) (H:Hp) (Q:List V->Hp->Prop),Inv X pins σ H s->t σ H Q->aw (aA X.prog X.w) X.A (spliced (cy pos (am es X.env))) (AP X pins σ Q) X.xe s
def PS (X:Cx) (st:Stmt) (t:TS):Prop :=
 ∀ (pins:List (Addr × Obj)) (s:ah) (σ:St) (H:Hp) (D:Ends),Inv X pins σ H s->t D σ H->aw (aA X.prog X.w) X.A (exec st X.env) (SP X pins D) X.xe s
def PSs (X:Cx) (st:List Stmt) (t:TS):Prop :=
 ∀ (pins:List (Addr × Obj)) (s:ah) (σ:St) (H:Hp) (D:Ends),Inv X pins σ H s->t D σ H->aw (aA X.prog X.w) X.A (execs st X.env) (SP X pins D) X.xe s
theorem thn {α:Type} {t:Sem α} {Q Q':α->ah->Prop} {M:Model} {A:aO} {E:ad->ah->Prop} {s:ah} (h:aw M A t Q E s) (hQ:∀ a s,Q a s->Q' a s):aw M A t Q' E s:=cH h hQ fun _ _ x=>x
section
variable {X:Cx}
def tVar (i:Nat):TE:=fun σ H Q=>∃ v,σ[i]?=some (some v)/\Q v H
def tC (v:V):TE:=fun _ H Q=>Q v H
theorem pe_var {i:Nat} {x:Str} {pos:Pos} (hN:X.N[i]?=some x) (hv:Vis X.env.scope x) (hd:(x == ("__debug__" : Str))=false:=by decide) (hcd:(x == ("__classdict__" : Str))=false:=by decide):PE X (.Name x pos) (tVar i):=by
 intro pins s σ H Q I h;obtain⟨v,e,h⟩:=h;obtain⟨m,hn,hl⟩:=I.loc;obtain⟨u,r,l⟩:=hl i x v hN e hv;have fin:EP X pins σ Q u s:=⟨v,H,I,r,h⟩;rcases l with⟨hk,hm⟩ | ⟨hk,c,hc,hcell⟩
 ·exact wpAny_Name (wpAny_loadName_local I.ok.kind hk hn hm fin) hd
 ·rcases hk with hk | hk
  ·exact wpAny_Name (wpAny_loadName_cell I.ok.kind hk hc hcell fin) hd
  ·exact wpAny_Name (wpAny_loadName_free I.ok.kind hk hc hcell fin hcd) hd
theorem pe_int {i j pos}:PE X (.Constant (.int i) j pos) (tC (.int i)):=fun _ _ _ H _ I h=>wpAny_Constant_int ⟨.int i,H,I.tok _,⟨_,rfl⟩,h⟩
theorem pe_bl {b j pos}:PE X (.Constant (.bool b) j pos) (tC (.bl b)):=fun _ _ _ H _ I h=>Constant_bool ⟨.bl b,H,I,rfl,h⟩
theorem pe_non {j pos}:PE X (.Constant .none j pos) (tC .non):=fun _ _ _ H _ I h=>Constant_none ⟨.non,H,I,rfl,h⟩
theorem pe_str {x j pos}:PE X (.Constant (.str x) j pos) (tC (.str x)):=fun _ _ _ H _ I h=>Calls.Constant_str ⟨.str x,H,I.tok _,⟨_,rfl⟩,h⟩
def Gl (X:Cx) (x:Str):Prop:=X.env.kindOf x=some .globalImplicit
theorem ld_glob {E:ad->ah->Prop} {pins:List (Addr × Obj)} {s:ah} {σ:St} {H:Hp} {x:Str} {u:ad} {pos:Pos} {Q:ad->ah->Prop} (I:Inv X pins σ H s) (hg:Gl X x) (hm:X.mg x=some u) (h:Q u s)
  (hd:(x == ("__debug__" : Str))=false:=by decide):aw (aA X.prog X.w) X.A (eval (.Name x pos) X.env) Q E s :=
 iX I.ok.kind hg (Calls.loadGlobal_global (by rw[I.ok.glob];exact I.mod.glob.keeps I.bk) hm h) hd
theorem ld_blt {E:ad->ah->Prop} {pins:List (Addr × Obj)} {s:ah} {σ:St} {H:Hp} {x:Str} {u:ad} {pos:Pos} {Q:ad->ah->Prop} (I:Inv X pins σ H s) (hg:Gl X x) (hm:X.mg x=none) (hv:cu x=some u) (h:Q u s)
  (hn:x ≠ "__name__":=by decide) (hd:(x == ("__debug__" : Str))=false:=by decide):aw (aA X.prog X.w) X.A (eval (.Name x pos) X.env) Q E s:=by
 obtain⟨mb,h1,h2⟩:=I.mod.blt;exact iX I.ok.kind hg (Calls.loadGlobal_builtin (by rw[I.ok.glob];exact I.mod.glob.keeps I.bk) hm (by rw[I.ok.blt];exact h1.keeps I.bk) ((h2 x hn).trans hv) h) hd
theorem pe_glob {x:Str} {v:V} {u:ad} {pos:Pos} (hg:Gl X x) (hm:X.mg x=some u) (r:RelV v u) (hd:(x == ("__debug__" : Str))=false:=by decide):PE X (.Name x pos) (tC v) :=
 fun _ _ _ H _ I h=>ld_glob I hg hm ⟨v,H,I,r,h⟩ hd
variable {a b:Expr} {ta tb:TE} {pos:Pos}
variable {tA tB':TT} {rest:List Expr}
def tAnd (t u:TT):TT:=fun σ H Q=>t σ H fun c H1=>if c=true then u σ H1 Q else Q false H1
def tOr (t u:TT):TT:=fun σ H Q=>t σ H fun c H1=>if c=true then Q true H1 else u σ H1 Q
def tNot (t:TT):TT:=fun σ H Q=>t σ H fun c H1=>Q (!c) H1
theorem pw_and1 (ha:PT X a tA):PW X (.BoolOp .And [a] pos) tA:=by
 intro wh pins s σ H Q I h;refine isTrue_and (thn (ha pins s σ H Q I h) fun c s1 e=>?_);cases c with
 | true=>exact isTrue_and_nil e
 | false=>exact e
theorem pw_or1 (ha:PT X a tA):PW X (.BoolOp .Or [a] pos) tA:=by
 intro wh pins s σ H Q I h;refine isTrue_or (thn (ha pins s σ H Q I h) fun c s1 e=>?_);cases c with
 | false=>exact isTrue_or_nil e
 | true=>exact e
theorem pw_and (ha:PT X a tA) (hb:PW X (.BoolOp .And (b::rest) pos) tB'):PW X (.BoolOp .And (a::b::rest) pos) (tAnd tA tB'):=by
 intro wh pins s σ H Q I h;refine isTrue_and (thn (ha pins s σ H _ I h) fun c s1 ⟨H1,I1,q1⟩=>?_);cases c with
 | true=>exact hb wh pins s1 σ H1 Q I1 q1
 | false=>exact⟨H1,I1,q1⟩
theorem pw_or (ha:PT X a tA) (hb:PW X (.BoolOp .Or (b::rest) pos) tB'):PW X (.BoolOp .Or (a::b::rest) pos) (tOr tA tB'):=by
 intro wh pins s σ H Q I h;refine isTrue_or (thn (ha pins s σ H _ I h) fun c s1 ⟨H1,I1,q1⟩=>?_);cases c with
 | true=>exact⟨H1,I1,q1⟩
 | false=>exact hb wh pins s1 σ H1 Q I1 q1
theorem pt_not (ha:PT X a tA):PT X (.UnaryOp .Not a pos) (tNot tA):=by
 intro pins s σ H Q I h;exact isTrue_not (ha pins s σ H (fun c H1=>Q (!c) H1) I h)
def tAndV (ta tb:TE):TE:=fun σ H Q=>ta σ H fun x H1=>∃ c,x=.bl c/\if c=true then tb σ H1 Q else Q (.bl false) H1
theorem pe_one {op} {t:TE} (h:PE X a t):PE X (.BoolOp op [a] pos) t:=fun pins s σ H Q I hw=>BoolOp_one (h pins s σ H Q I hw)
theorem pe_and (ha:PE X a ta) (hb:PE X (.BoolOp .And (b::rest) pos) tb):PE X (.BoolOp .And (a::b::rest) pos) (tAndV ta tb):=by
 intro pins s σ H Q I h;refine BoolOp_and (thn (ha pins s σ H _ I h) fun v s1 ⟨x,H1,I1,r1,q1⟩=>?_);obtain⟨c,rfl,q1⟩:=q1;cases r1;refine cY ?_;cases c with
 | true=>exact hb pins s1 σ H1 Q I1 q1
 | false=>exact⟨.bl false,H1,I1,rfl,q1⟩
end
def SqL (K:av) (H:Hp) (a:Addr) (xs:List V):Prop :=
 Rd H a (.lst xs) \/
  ∃ (o:Obj) (its:Array ad) (n:Nat),K.lookup a=some o/\o.cls=.type "list"/\o.dict=none/\o.data=.seq its n/\its.size<=sizeLine/\Vals xs its.toList
def SqT (K:av) (H:Hp) (a:Addr) (xs:List V):Prop :=
 Rd H a (.tup xs) \/
  ∃ (o:Obj) (its:Array ad) (n:Nat),K.lookup a=some o/\o.cls=.type "tuple"/\o.dict=none/\o.data=.seq its n/\its.size<=sizeLine/\Vals xs its.toList
def absV:ad->Option V
 | .none=>some .non
 | .bool b=>some (.bl b)
 | .int i _=>some (.int i)
 | .str x _=>some (.str x)
 | .bytes b _=>some (.byt b)
 | .float b _=>some (.flt b)
 | .ref a=>some (.ref a)
 | .type n=>some (.ty n)
 | _=>none
theorem RelV.abs {x:V} {u:ad} (r:RelV x u):absV u=some x:=by
 cases x with
 | non=>cases r;rfl
 | bl _=>cases r;rfl
 | int _=>obtain⟨t,rfl⟩:=r;rfl
 | str _=>obtain⟨t,rfl⟩:=r;rfl
 | byt _=>obtain⟨t,rfl⟩:=r;rfl
 | flt _=>obtain⟨t,rfl⟩:=r;rfl
 | ref _=>cases r;rfl
 | ty _=>cases r;rfl
theorem RelV.inj {x y:V} {u:ad} (r:RelV x u) (q:RelV y u):x=y:=aL (r.abs.symm.trans q.abs)
theorem Vals.inj:∀ {xs ys:List V} {us:List ad},Vals xs us->Vals ys us->xs=ys
 | _,_,_,.nil,.nil=>rfl
 | _,_,_,.cons r t,.cons r' t'=>by rw[r.inj r',Vals.inj t t']
section
variable {X:Cx} {pins:List (Addr × Obj)} {σ:St} {H:Hp} {s:ah} {a:Addr} {xs ys:List V}
theorem SqL.of {K:av} (h:H a=some (.lst xs)):SqL K H a xs:=.inl (.inl h)
theorem Inv.list (I:Inv X pins σ H s) (h:SqL X.K H a xs):∃ its:List ad,Vals xs its/\PlainL s.heap a its.toArray/\xs.length<=sizeLine:=by
 rcases h with h | ⟨o,its,n,hk,hc,hd,hs,hz,r⟩
 ·obtain⟨z,its,n,r,e⟩:=h.ok I.hok;exact⟨its,r,⟨_,n,e,rfl,rfl,rfl⟩,z⟩
 ·refine⟨its.toList,r,⟨o,n,I.kIn a o hk,hc,hd,by simpa using hs⟩,?_⟩
  have e:=r.length;simp only[aR] at e;omega
theorem Inv.tuple (I:Inv X pins σ H s) (h:SqT X.K H a xs):∃ its:List ad,Vals xs its/\iW s.heap a its.toArray/\xs.length<=sizeLine:=by
 rcases h with h | ⟨o,its,n,hk,hc,_,hs,hz,r⟩
 ·obtain⟨z,its,r,p,_⟩:=h.ok I.hok;exact⟨its,r,p,z⟩
 ·refine⟨its.toList,r,⟨o,I.kIn a o hk,hc,n,by simpa using hs⟩,?_⟩
  have e:=r.length;simp only[aR] at e;omega
theorem Inv.list_inj (I:Inv X pins σ H s) (h:SqL X.K H a xs) (h':SqL X.K H a ys):xs=ys:=by
 obtain⟨its,r,⟨o,n,e,_,_,d⟩,_⟩:=I.list h;obtain⟨its',r',⟨o',n',e',_,_,d'⟩,_⟩:=I.list h';rw[e] at e';cases e';rw[d] at d';injection d' with d1 _
 have:its=its':=by simpa using congrArg Array.toList d1
 subst this;exact r.inj r'
theorem Inv.tuple_inj (I:Inv X pins σ H s) (h:SqT X.K H a xs) (h':SqT X.K H a ys):xs=ys:=by
 obtain⟨its,r,⟨o,e,_,n,d⟩,_⟩:=I.tuple h;obtain⟨its',r',⟨o',e',_,n',d'⟩,_⟩:=I.tuple h';rw[e] at e';cases e';rw[d] at d';injection d' with d1 _
 have:its=its':=by simpa using congrArg Array.toList d1
 subst this;exact r.inj r'
end
abbrev Cx.wish (X:Cx) (E:ad->ah->Prop):Cx:={ X with xe:=E }
abbrev Cx.nox (X:Cx):Cx:=X.wish fun _ _=>False
theorem Cx.Ok.wish {X:Cx} (ok:X.Ok) (E:ad->ah->Prop):(X.wish E).Ok :=
 ⟨ok.mod,ok.kind,ok.glob,ok.blt,ok.above,ok.inj,ok.has,ok.cab,ok.hd,ok.frames,ok.stk,ok.exf,ok.bs,ok.bsz,ok.noex,ok.exfs,ok.funs,ok.frf⟩
theorem Cx.Ok.unwish {X:Cx} {E:ad->ah->Prop} (ok:(X.wish E).Ok):X.Ok :=
 ⟨ok.mod,ok.kind,ok.glob,ok.blt,ok.above,ok.inj,ok.has,ok.cab,ok.hd,ok.frames,ok.stk,ok.exf,ok.bs,ok.bsz,ok.noex,ok.exfs,ok.funs,ok.frf⟩
section
variable {X:Cx} {pins:List (Addr × Obj)} {σ:St} {H:Hp} {s:ah} {E:ad->ah->Prop}
theorem Inv.wish (I:Inv X pins σ H s) (E:ad->ah->Prop):Inv (X.wish E) pins σ H s:=⟨I.ok.wish E,I.os,I.bare,I.base,I.loc,I.cell,I.free,I.freeC,I.pin,I.hok,I.len⟩
theorem Inv.unwish (I:Inv (X.wish E) pins σ H s):Inv X pins σ H s:=⟨I.ok.unwish,I.os,I.bare,I.base,I.loc,I.cell,I.free,I.freeC,I.pin,I.hok,I.len⟩
theorem SP.unwish {D:Ends} {f:Flow} {s':ah} (h:SP (X.wish E) pins D f s'):SP X pins D f s':=by
 cases f with
 | next=>obtain⟨σ',H',I,q⟩:=h;exact⟨σ',H',I.unwish,q⟩
 | brk=>obtain⟨σ',H',I,q⟩:=h;exact⟨σ',H',I.unwish,q⟩
 | cont=>obtain⟨σ',H',I,q⟩:=h;exact⟨σ',H',I.unwish,q⟩
 | ret u=>obtain⟨v,σ',H',I,r,q⟩:=h;exact⟨v,σ',H',I.unwish,r,q⟩
theorem PSs.nox {st:List Stmt} {t:TS} (h:PSs X.nox st t):PSs X st t:=fun pins s σ H D I hw =>
 cH (h pins s σ H D (I.wish _) hw) (fun _ _ q=>q.unwish) fun _ _ z=>dX z
end
section
variable {X:Cx} {st:Stmt} {rest:List Stmt} {t u:TS} {e:Expr} {te:TE} {pos:Pos}
def tNext:TS:=fun D σ H=>D.nx σ H
def tSeq (t u:TS):TS:=fun D σ H=>t { D with nx:=u D } σ H
theorem pss_nil:PSs X [] tNext:=fun _ _ σ H _ I h=>wpAny_execs_nil ⟨σ,H,I,h⟩
theorem pss_cons (h1:PS X st t) (h2:PSs X rest u):PSs X (st::rest) (tSeq t u):=by
 intro pins s σ H D I h;refine wpAny_execs_cons (thn (h1 pins s σ H { D with nx:=u D } I h) fun f s1 q=>?_)
 cases f with
 | next =>
  obtain⟨σ',H',I',q⟩:=q;exact h2 pins s1 σ' H' D I' q
 | ret v=>exact q
 | brk=>exact q
 | cont=>exact q
theorem pss_one (h1:PS X st t):PSs X [st] t:=by
 intro pins s σ H D I h;refine wpAny_execs_cons (thn (h1 pins s σ H D I h) fun f s1 q=>?_);cases f with
 | next=>exact wpAny_execs_nil q
 | ret v=>exact q
 | brk=>exact q
 | cont=>exact q
theorem Inv.quiet {pins:List (Addr × Obj)} {σ:St} {H:Hp} {s:ah} (I:Inv X pins σ H s):interactive X.env=false:=by simp[interactive,I.ok.kind]
def tDrop (te:TE):TS:=fun D σ H=>te σ H fun _ H1=>D.nx σ H1
theorem ps_expr (he:PE X e te) (hs:jC e none pos.line X.env=pure false:=by rfl):PS X (.Expr e pos) (tDrop te):=by
 intro pins s σ H D I h;exact wpAny_Expr_any (thn (he pins s σ H _ I h) fun v s1 ⟨x,H1,I1,r1,q1⟩=>⟨σ,H1,I1,q1⟩) I.quiet hs
def tRet (te:TE):TS:=fun D σ H=>te σ H D.rt
theorem ps_ret (he:PE X e te):PS X (.Return (some e) pos) (tRet te):=by
 intro pins s σ H D I h;exact wpAny_Return_some (thn (he pins s σ H _ I h) fun v s1 ⟨x,H1,I1,r1,q1⟩=>⟨x,σ,H1,I1,r1,q1⟩)
def tIfS (c:TT) (t u:TS):TS:=fun D σ H=>c σ H fun b H1=>if b=true then t D σ H1 else u D σ H1
theorem ps_if {c:Expr} {a b:List Stmt} {tc:TT} (hc:PT X c tc) (ha:PSs X a t) (hb:PSs X b u):PS X (.If c a b pos) (tIfS tc t u):=by
 intro pins s σ H D I h;refine wpAny_If (thn (hc pins s σ H _ I h) fun d s1 ⟨H1,I1,q1⟩=>?_);cases d with
 | true=>exact ha pins s1 σ H1 D I1 q1
 | false=>exact hb pins s1 σ H1 D I1 q1
end
abbrev TG:=V->St->Hp->(St->Hp->Prop)->Prop
abbrev TGs:=List V->St->Hp->(St->Hp->Prop)->Prop
def PG (X:Cx) (target:Expr) (t:TG):Prop :=
 ∀ (pins:List (Addr × Obj)) (s:ah) (σ:St) (H:Hp) (v:V) (u:ad) (Q:St->Hp->Prop),Inv X pins σ H s->RelV v u->t v σ H Q ->
  aw (aA X.prog X.w) X.A (assign target X.env u) (fun _ s'=>∃ σ' H',Inv X pins σ' H' s'/\Q σ' H') X.xe s
def PGs (X:Cx) (ts:List Expr) (t:TGs):Prop :=
 ∀ (pins:List (Addr × Obj)) (s:ah) (σ:St) (H:Hp) (vs:List V) (us:List ad) (Q:St->Hp->Prop),Inv X pins σ H s->Vals vs us->t vs σ H Q ->
  aw (aA X.prog X.w) X.A (assignInOrder ((eU ts X.env).map (·.2)) us) (fun _ s'=>∃ σ' H',Inv X pins σ' H' s'/\Q σ' H') X.xe s
abbrev TSet:=V->V->V->Hp->(Hp->Prop)->Prop
def PSet (X:Cx) (t:TSet):Prop :=
 ∀ (pins:List (Addr × Obj)) (s:ah) (σ:St) (H:Hp) (o i v:V) (ov iv u:ad) (Q:Hp->Prop),Inv X pins σ H s->RelV o ov->RelV i iv->RelV v u->t o i v H Q ->
  aw (aA X.prog X.w) X.A (setItem ov iv u) (fun _ s'=>∃ H',Inv X pins σ H' s'/\Q H') X.xe s
section
variable {X:Cx} {pos:Pos}
def gName (i:Nat):TG:=fun v σ H Q=>Q (σ.set i (some v)) H
theorem pg_name {i:Nat} {x:Str} (hN:X.N.Nodup) (hi:X.N[i]?=some x) (hx:Loc X.env.scope x) (hf:X.fn x=true\/X.env.scope.names.lookup x=some .local:=by first | exact .inl rfl | exact .inr rfl | assumption):PG X (.Name x pos) (gName i):=by
 intro pins s σ H v u Q I r h;exact wpAny_assign_Name (store_ok I hN hi hx r (fun s' I'=>⟨_,H,I',h⟩) hf)
def gNil:TGs:=fun vs σ H Q=>vs=[]/\Q σ H
def gCons (t:TG) (u:TGs):TGs:=fun vs σ H Q=>∃ v r,vs=v::r/\t v σ H fun σ' H'=>u r σ' H' Q
theorem pgs_nil:PGs X [] gNil:=by
 intro pins s σ H vs us Q I r h;obtain⟨e,h⟩:=h;subst e;cases r;exact assignInOrder_nil ⟨σ,H,I,h⟩
theorem pgs_cons {e:Expr} {es:List Expr} {t:TG} {u:TGs} (h1:PG X e t) (h2:PGs X es u)
  (hs:(eU (e::es) X.env).map (·.2)=assign e X.env::(eU es X.env).map (·.2):=by rfl):PGs X (e::es) (gCons t u):=by
 intro pins s σ H vs us Q I r h;obtain⟨v,vr,e1,h⟩:=h;subst e1;cases r with
 | cons r rr =>
  rw[hs];refine assignInOrder_cons (thn (h1 pins s σ H _ _ _ I r h) fun _ s1 ⟨σ1,H1,I1,q1⟩=>?_);exact h2 pins s1 σ1 H1 _ _ Q I1 rr q1
def gTup (K:av) (n:Nat) (t:TGs):TG:=fun v σ H Q=>∃ a xs,v=.ref a/\SqT K H a xs/\xs.length=n/\t xs σ H Q
theorem pg_tup {es:List Expr} {k:Nat} {t:TGs} {n:Nat} (hc:X.calm=true) (h:PGs X es t)
  (hn:(eU es X.env).length=n:=by rfl) (hst:(eU es X.env).findIdx? (·.1)=none:=by rfl):PG X (.Tuple es k pos) (gTup X.K n t):=by
 intro pins s σ H v u Q I r hw;obtain⟨a,xs,e1,hq,hl,hw⟩:=hw;subst e1;cases r;obtain⟨its,rv,ht,hz⟩:=I.tuple hq;refine assign_Tuple_tuple (I.ok.hd hc) ht (by simp[hn,<- hl,rv.length]) hst fun h' hx=>?_
 have I1:Inv X pins σ H { s with heap:=h' }:=I.kept (t':=s.toks) fun b o e=>hx b o (aC (aq e)) e
 exact h pins _ σ H xs _ Q I1 (by simpa using rv) hw
def gSub (to ti:TE) (t:TSet):TG:=fun v σ H Q=>to σ H fun o H1=>ti σ H1 fun i H2=>t o i v H2 fun H3=>Q σ H3
theorem pg_sub {o i:Expr} {to ti:TE} {t:TSet} (ho:PE X o to) (hi:PE X i ti) (hs:PSet X t)
  (ha:∀ v,assign (.Subscript o i pos) X.env v=(do
   let ov <- gH [v] (eval o X.env)
   let iv <- gH [v,ov] (eval i X.env)
   standAt pos
   gH [v,ov,iv] (setItem ov iv v)
   release [v,ov,iv] []):=by intro _;rfl):PG X (.Subscript o i pos) (gSub to ti t):=by
 intro pins s σ H v u Q I r h;rw[ha];refine aa (aW (thn (ho pins s σ H _ I h) fun ov s1 ⟨x,H1,I1,r1,q1⟩=>?_));refine aa (aW (thn (hi pins s1 σ H1 _ I1 q1) fun iv s2 ⟨y,H2,I2,r2,q2⟩=>?_));refine aa (wpAny_standAt (aa (aW (thn (hs pins s2 σ H2 x y v ov iv u _ I2 r1 r2 r q2) fun _ s3 ⟨H3,I3,q3⟩=>?_))));exact wpAny_release ⟨σ,H3,I3,q3⟩
def tAsg (te:TE) (g:TG):TS:=fun D σ H=>te σ H fun x H1=>g x σ H1 D.nx
theorem ps_asg {tg e:Expr} {te:TE} {g:TG} (he:PE X e te) (hg:PG X tg g) (hs:swapsWithSole [tg] e pos.line X.env=pure false:=by rfl) (hw:swappedStores [tg] e X.env=pure none:=by rfl)
  (h1:(eU [tg] X.env).map (·.2)=[assign tg X.env]:=by rfl):PS X (.Assign [tg] e pos) (tAsg te g):=by
 intro pins s σ H D I h;refine wpAny_Assign_stores (thn (he pins s σ H _ I h) fun v s1 ⟨x,H1,I1,r1,q1⟩=>?_) hs hw;rw[h1];exact thn (hg pins s1 σ H1 x v _ I1 r1 q1) fun _ s2 q=>q
theorem ps_set {i:Nat} {x:Str} {e:Expr} {te:TE} {pos':Pos} (hN:X.N.Nodup) (hi:X.N[i]?=some x) (hx:Loc X.env.scope x) (he:PE X e te) (hs:jC e (some (.Name x pos')) pos.line X.env=pure false:=by rfl) (hf:X.fn x=true\/X.env.scope.names.lookup x=some .local:=by first | exact .inl rfl | exact .inr rfl | assumption) :
  PS X (.Assign [.Name x pos'] e pos) (tAsg te (gName i)):=by
 intro pins s σ H D I h;refine wpAny_Assign_Name (thn (he pins s σ H _ I h) fun v s1 ⟨y,H1,I1,r1,q1⟩=>?_) hs;exact store_ok I1 hN hi hx r1 (fun s2 I2=>⟨_,H1,I2,q1⟩) hf
end
structure It where
 go:Nat->Hp->Prop
 yld:Nat->Hp->V->Hp->Prop
 stop:Nat->Hp->Prop
def FpOk (X:Cx) (pins:List (Addr × Obj)) (H:Hp) (b:Addr):Prop :=
 H b=none/\b≠X.env.locals/\b∉X.fs/\(b∈X.ex\/X.s₀.heap.objs.size<=b)/\(∀ x c,X.env.cells.lookup x=some c->c≠b)/\∀ p∈X.pn++pins,p.1≠b
theorem Inv.fpOk {X:Cx} {pins:List (Addr × Obj)} {σ:St} {H H':Hp} {s:ah} {b:Addr} (I:Inv X pins σ H s) (hb:s.heap.objs.size<=b) (hn:H' b=none):FpOk X pins H' b:=by
 refine⟨hn,bX (aF I.lt hb),I.nofs hb,.inr (bN I.sz hb),fun x c e z=>?_,fun p hp z=>?_⟩
 ·obtain⟨v,q⟩:=I.cell x c e;exact absurd (aF q.lt (by rw[z];exact hb)) (dh _)
 ·exact absurd (aF (aq (I.pin p hp).1) (by rw[z];exact hb)) (dh _)
structure Turn (P:aB) (w:aN) (K:av) (tg:Expr) (J:It) (fp:List Addr) (it:Addr) (tn:Nat->aS->Prop):Prop where
 mem:it∈fp
 obj:∀ i h,tn i h->∀ b∈fp,∃ o,h.get? b=some o/\∀ v,o.data≠.cell v
 keep:∀ i h h',tn i h->(∀ b∈fp,∀ o,h.get? b=some o->h'.get? b=some o)->tn i h'
 item:∀ (X:Cx),X.prog=P->X.w=w->X.K=K->X.calm=true->∀ (i:Nat) (pins:List (Addr × Obj)) (s:ah) (σ:St) (H:Hp) (E:ad->ah->Prop),Inv X pins σ H s->(∀ b∈fp,FpOk X pins H b)->tn i s.heap->J.go i H ->
  aw (aA P w) X.A (e6 (.ref it)) (fun r s1=>∃ u,r=some u /\
   aw (aA P w) X.A (iB tg (.ref it) u) (fun _ s2=>∃ x H',Inv X pins σ H' s2/\RelV x u/\J.yld i H x H'/\tn (i + 1) s2.heap/\∀ b∈fp,H' b=none) E s1) E s
 done:∀ (X:Cx),X.prog=P->X.w=w->X.K=K->X.calm=true->∀ (i:Nat) (pins:List (Addr × Obj)) (s:ah) (σ:St) (H:Hp) (E:ad->ah->Prop),Inv X pins σ H s->(∀ b∈fp,FpOk X pins H b)->tn i s.heap->J.stop i H ->
  aw (aA P w) X.A (e6 (.ref it)) (fun r s1=>r=none/\Inv X pins σ H s1) E s
 self:∀ (A:aO) (i:Nat) (s:ah) (Q:ad->ah->Prop) (E:ad->ah->Prop),tn i s.heap->Q (.ref it) s->aw (aA P w) A (pyIter (.ref it)) Q E s
abbrev TI:=St->Hp->(It->Hp->Prop)->Prop
def PIE (X:Cx) (pins:List (Addr × Obj)) (σ:St) (tg:Expr) (R:It->Hp->Prop) (itv:ad) (s2:ah):Prop :=
 ∃ (it:Addr) (fp:List Addr) (tn:Nat->aS->Prop) (J:It) (H':Hp),itv=.ref it/\Inv X pins σ H' s2/\Turn X.prog X.w X.K tg J fp it tn/\tn 0 s2.heap/\(∀ b∈fp,FpOk X pins H' b)/\R J H'
def PI (X:Cx) (tg iter:Expr) (wi:TI):Prop :=
 ∀ (pins:List (Addr × Obj)) (s:ah) (σ:St) (H:Hp) (R:It->Hp->Prop),Inv X pins σ H s->wi σ H R ->
  aw (aA X.prog X.w) X.A (eval iter X.env) (fun v s1=>aw (aA X.prog X.w) X.A (pyIter v) (PIE X pins σ tg R) X.xe s1) X.xe s
theorem go_of {M : Model} {A : aO} {E : ad -> ah -> Prop} {s : ah} {tg : Expr} {it : Addr} {u : ad} {o : Obj} {n : String} {vs : Array ad} {Q : Unit -> ah -> Prop} (ho : s.heap.get? it = some o) (hc : o.cls = .type n) (hd : o.data = .fields vs)
    (hn : ["enumerate", "zip", "dict_itemiterator", "dict_reverseitemiterator", "odict_iterator", "itertools.zip_longest", "itertools.pairwise"].contains n = false) (hQ : Q () s) : aw M A (iB tg (.ref it) u) Q E s := by
  unfold iB;cases tg <;> first
    | exact ae hQ
    | (cases u <;> first
        | exact ae hQ
        | (refine aa (wpAny_load ho ?_)
           rw [hc, hd];show aw M A (if (["enumerate", "zip", "dict_itemiterator", "dict_reverseitemiterator", "odict_iterator", "itertools.zip_longest", "itertools.pairwise"].contains n && vs[0]? == some (dz _)) = true then _ else _) Q E s
           rw [if_neg (by intro h; rw [hn, Bool.false_and] at h; cases h)]
           exact ae hQ))
def Itl (K:av) (a:Addr):It :=
 ⟨fun i H=>∃ xs x,SqL K H a xs/\xs[i]?=some x,fun i H x H'=>H'=H/\∀ xs,SqL K H a xs->xs[i]?=some x,fun i H=>∃ xs,SqL K H a xs/\xs.length<=i⟩
def Itt (K:av) (a:Addr):It :=
 ⟨fun i H=>∃ xs x,SqT K H a xs/\xs[i]?=some x,fun i H x H'=>H'=H/\∀ xs,SqT K H a xs->xs[i]?=some x,fun i H=>∃ xs,SqT K H a xs/\xs.length<=i⟩
def Itr (lo:Int) (n:Nat):It:=⟨fun i _=>i < n,fun i H x H'=>H'=H/\x=.int (lo + i),fun i _=>n<=i⟩
theorem turn_list {P:aB} {w:aN} {K:av} {tg:Expr} (a it:Addr):Turn P w K tg (Itl K a) [it] it (fun i h=>h.IsListIter it a i) where
 mem:=by simp
 obj:=fun i h st b hb=>by
  have e:b=it:=by simpa using hb
  subst e;obtain⟨o,e,c,d⟩:=st;exact⟨o,e,fun v z=>by rw[d] at z;cases z⟩
 keep:=fun i h h' st k=>st.at fun o e=>k it (by simp) o e
 item:=by
  intro X hP hw hK hc i pins s σ H E I hf st hg;subst hP hw hK;obtain⟨xs,x,hq,hx⟩:=hg;obtain⟨its,rv,p,hz⟩:=I.list hq;obtain⟨u,hu,ru⟩:=rv.get hx;obtain⟨f0,f1,f2,f3,f4,f5⟩:=hf it (by simp)
  refine wpAny_pyNext_list_item st p.isList (x:=u) (by simpa using hu) fun h' st' sb=>?_
  have I1:Inv X pins σ H { s with heap:=h' }:=I.turned (t':=s.toks) (fun b o hb e=>(sb.2 b hb).trans e) f0 f1 f3 f4 f5
  obtain⟨o,e,c,d⟩:=id st';exact⟨u,rfl,go_of (s:={ s with heap:=h' }) e c d (by decide) ⟨x,H,I1,ru,⟨rfl,fun ys hy=>by rw[I.list_inj hy hq];exact hx⟩,st',fun b hb=>(hf b hb).1⟩⟩
 done:=by
  intro X hP hw hK hc i pins s σ H E I hf st hg;subst hP hw hK;obtain⟨xs,hq,hx⟩:=hg;obtain⟨its,rv,p,hz⟩:=I.list hq;obtain⟨f0,f1,f2,f3,f4,f5⟩:=hf it (by simp)
  have hl:=rv.length;exact wpAny_pyNext_list_end (I.ok.hd hc) st p.isList (by simp;omega) fun h' eb=>⟨rfl,I.turned (t':=s.toks) (fun b o hb e=>eb b o hb e) f0 f1 f3 f4 f5⟩
 self:=fun _ _ _ _ _ st h=>wpAny_pyIter_listiter st h
theorem turn_tuple {P:aB} {w:aN} {K:av} {tg:Expr} (a it:Addr):Turn P w K tg (Itt K a) [it] it (fun i h=>h.IsTupleIter it a i) where
 mem:=by simp
 obj:=fun i h st b hb=>by
  have e:b=it:=by simpa using hb
  subst e;obtain⟨o,e,c,d⟩:=st;exact⟨o,e,fun v z=>by rw[d] at z;cases z⟩
 keep:=fun i h h' st k=>st.at fun o e=>k it (by simp) o e
 item:=by
  intro X hP hw hK hc i pins s σ H E I hf st hg;subst hP hw hK;obtain⟨xs,x,hq,hx⟩:=hg;obtain⟨its,rv,p,hz⟩:=I.tuple hq;obtain⟨u,hu,ru⟩:=rv.get hx;obtain⟨f0,f1,f2,f3,f4,f5⟩:=hf it (by simp)
  refine wpAny_pyNext_tuple_item st (show s.heap.IsTuple a its.toArray from p) (x:=u) (by simpa using hu) fun h' st' sb=>?_
  have I1:Inv X pins σ H { s with heap:=h' }:=I.turned (t':=s.toks) (fun b o hb e=>(sb.2 b hb).trans e) f0 f1 f3 f4 f5
  obtain⟨o,e,c,d⟩:=id st';exact⟨u,rfl,go_of (s:={ s with heap:=h' }) e c d (by decide) ⟨x,H,I1,ru,⟨rfl,fun ys hy=>by rw[I.tuple_inj hy hq];exact hx⟩,st',fun b hb=>(hf b hb).1⟩⟩
 done:=by
  intro X hP hw hK hc i pins s σ H E I hf st hg;subst hP hw hK;obtain⟨xs,hq,hx⟩:=hg;obtain⟨its,rv,p,hz⟩:=I.tuple hq;obtain⟨f0,f1,f2,f3,f4,f5⟩:=hf it (by simp)
  have hl:=rv.length;exact wpAny_pyNext_tuple_end (I.ok.hd hc) st (show s.heap.IsTuple a its.toArray from p) (by simp;omega) fun h' eb=>⟨rfl,I.turned (t':=s.toks) (fun b o hb e=>eb b o hb e) f0 f1 f3 f4 f5⟩
 self:=fun _ _ _ _ _ st h=>wpAny_pyIter_tupleiter st h
theorem turn_range {P:aB} {w:aN} {K:av} {tg:Expr} (it:Addr) (lo:Int) (n:Nat):Turn P w K tg (Itr lo n) [it] it (fun i h=>IsRangeIter h it (lo + (i:Nat) * 1) ((n:Int) - (i:Nat)) 1) where
 mem:=by simp
 obj:=fun i h st b hb=>by
  have e:b=it:=by simpa using hb
  subst e;exact⟨_,st,fun v z=>by
   have z':Data.fields _=Data.cell v:=z;cases z'⟩
 keep:=fun i h h' st k=>k it (by simp) _ st
 item:=by
  intro X hP hw hK hc i pins s σ H E I hf st hg;subst hP hw hK;obtain⟨f0,f1,f2,f3,f4,f5⟩:=hf it (by simp)
  have W:=Walks.range (prog:=X.prog) (w:=X.w) (I.ok.hd hc) it lo 1 n;refine W.item i s _ _ hg st fun v h' tk hv st' kk=>?_;obtain⟨t,rfl⟩:=hv;have I1:Inv X pins σ H { s with heap:=h',toks:=tk }:=I.turned (fun b o hb e=>kk b o (by simpa using hb) e) f0 f1 f3 f4 f5
  refine⟨_,rfl,go_of (s:={ s with heap:=h',toks:=tk }) (n := "range_iterator") st' rfl rfl (by decide) ⟨.int (lo + i),H,I1,⟨t,?_⟩,⟨rfl,rfl⟩,st',fun b hb=>(hf b hb).1⟩⟩
  rw[Int.mul_one]
 done:=by
  intro X hP hw hK hc i pins s σ H E I hf st hg;subst hP hw hK;obtain⟨f0,f1,f2,f3,f4,f5⟩:=hf it (by simp)
  exact wpAny_pyNext_range_end (I.ok.hd hc) st (by have:n<=i:=hg;omega) fun h' eb=>⟨rfl,I.turned (t':=s.toks) (fun b o hb e=>eb b o hb e) f0 f1 f3 f4 f5⟩
 self:=fun _ _ _ _ _ st h=>wpAny_pyIter_rangeiter st h
section
variable {X:Cx} {tg:Expr}
theorem range_it {pins:List (Addr × Obj)} {σ:St} {H:Hp} {s:ah} {R:It->Hp->Prop} {E:ad->ah->Prop} {lo hi:Int} {t u v:Tok} {tk:Nat} (I:Inv X pins σ H s) (h1:-(2 ^ 62)<=lo) (h2:lo < 2 ^ 62) (h3:-(2 ^ 62)<=hi) (h4:hi < 2 ^ 62)
  (q:R (Itr lo (hi - lo).toNat) H):aw (aA X.prog X.w) X.A (pyIter (.ref s.heap.objs.size)) (PIE X pins σ tg R) E { s with heap:=s.heap.push { cls:=.type "range",data:=.fields #[.int lo t,.int hi u,.int 1 v] },toks:=tk }:=by
 refine wpAny_pyIter_range (IsRange.new ..) (small_one h1 h2 h3 h4) ?_;have I1:Inv X pins σ H { s with heap:=s.heap.push { cls:=.type "range",data:=.fields #[.int lo t,.int hi u,.int 1 v] },toks:=tk }:=I.kept fun b o e=>af _ e
 refine⟨(s.heap.push { cls:=.type "range",data:=.fields #[.int lo t,.int hi u,.int 1 v] }).objs.size,[(s.heap.push { cls:=.type "range",data:=.fields #[.int lo t,.int hi u,.int 1 v] }).objs.size],_,_,H,rfl,
  I1.kept (t':=tk) fun b o e=>af _ e,turn_range _ lo (hi - lo).toNat,?_,fun b hb=>?_,q⟩
 ·have e1:lo + ((0:Nat):Int) * 1=lo:=by simp
  have e2:(((hi - lo).toNat:Nat):Int) - ((0:Nat):Int)=e8 lo hi 1:=by rw[rangeSize_one];split <;> omega
  show IsRangeIter _ _ (lo + ((0:Nat):Int) * 1) ((((hi - lo).toNat:Nat):Int) - ((0:Nat):Int)) 1;rw[e1,e2];exact ao _ rfl
 ·have e:b=(s.heap.push { cls:=.type "range",data:=.fields #[.int lo t,.int hi u,.int 1 v] }).objs.size:=by simpa using hb
  subst e;exact I1.fpOk (aj _) (I1.hok.fresh (aj _))
def iRng1 (ta:TA):TI:=fun σ H R=>ta σ H fun vs H1=>∃ j:Int,vs=[.int j]/\-(2 ^ 62)<=j/\j < 2 ^ 62/\R (Itr 0 j.toNat) H1
theorem pi_range1 {a:Expr} {ta:TA} {p pos:Pos} (hg:Gl X "range") (hm:X.mg "range" = none) (ha:PA X [a] ta) (hs:am [a] X.env=[(false,eval a X.env)]:=by rfl):PI X tg (.Call (.Name "range" p) [a] [] pos) (iRng1 ta):=by
 intro pins s σ H R I h;refine Call_ (ld_blt I hg hm boot_range (cj (thn (ha pos pins s σ H _ I h) fun us s1 ⟨vs,H1,I1,r1,q1⟩=>?_) hs rfl));obtain⟨j,e,q1,q2,q⟩:=q1;subst e;cases r1 with
 | cons r rr =>
  cases rr;obtain⟨t,rfl⟩:=r;exact call_range_1 (range_it I1 (by omega) (by omega) q1 q2 (by simpa using q))
def tFor (wi:TI) (g:TG) (tb:TS):TS:=fun D σ H=>wi σ H fun J H1=>∃ W:Nat->Nat->St->Hp->Prop,(∃ m,W 0 m σ H1)/\∀ i m σ H,W i m σ H ->
 (J.stop i H/\D.nx σ H)\/(J.go i H/\∃ N:St->Hp->Prop,(∀ σ' H',N σ' H'->∃ m',m' < m/\W (i + 1) m' σ' H')/\∀ x H',J.yld i H x H'->g x σ H' fun σ2 H2=>tb { D with nx:=N,ct:=N,bk:=D.nx } σ2 H2)
def pinsAt (fp:List Addr) (h:aS):List (Addr × Obj):=fp.filterMap fun b=>(h.get? b).map fun o=>(b,o)
theorem mem_pinsAt {fp:List Addr} {h:aS} {b:Addr} {o:Obj} (hb:b∈fp) (e:h.get? b=some o):(b,o)∈pinsAt fp h:=eB.mpr ⟨b,hb,by rw[e];rfl⟩
theorem of_pinsAt {fp:List Addr} {h:aS} {p:Addr × Obj} (hp:p∈pinsAt fp h):p.1∈fp/\h.get? p.1=some p.2:=by
 obtain⟨b,hb,e⟩:=eB.mp hp;cases q:h.get? b with
 | none=>rw[q] at e;cases e
 | some o =>
  rw[q] at e;have e':(b,o)=p:=aL e;subst e';exact⟨hb,q⟩
theorem Inv.pinned {pins:List (Addr × Obj)} {σ:St} {H:Hp} {s:ah} {fp:List Addr} (I:Inv X pins σ H s) (hf:∀ b∈fp,FpOk X pins H b) (ho:∀ b∈fp,∃ o,s.heap.get? b=some o/\∀ v,o.data≠.cell v):Inv X (pins++pinsAt fp s.heap) σ H s :=
 I.pins_of fun p hp=>(bB.mp hp).elim (fun z=>I.pin p (bt _ z)) fun z=>by
  obtain⟨hb,e⟩:=of_pinsAt z;obtain⟨f0,f1,f2,_⟩:=hf p.1 hb;obtain⟨o,e',d⟩:=ho p.1 hb;rw[e] at e';cases e';exact⟨e,f0,f1,f2,d⟩
theorem Inv.unpinned {pins pl:List (Addr × Obj)} {σ:St} {H:Hp} {s:ah} (I:Inv X (pins++pl) σ H s):Inv X pins σ H s:=I.pins_of fun p hp=>I.pin p (bt _ (da _ hp))
theorem ps_for {iter:Expr} {body:List Stmt} {wi:TI} {g:TG} {tb:TS} {pos:Pos} (hp:PassesOwn (aA X.prog X.w) X.A X.env X.xe) (hc:X.calm=true) (hi:PI X tg iter wi) (hg:PG X tg g) (hb:PSs X body tb)
  (hs:∀ x,dQ iter X.env x=pure x:=by intro _;rfl):PS X (.For tg iter body [] pos) (tFor wi g tb):=by
 intro pins s σ H D I h;refine wpAny_For (thn (hi pins s σ H _ I h) fun v s1 h1=>thn h1 fun itv s2 h2=>?_) hs;obtain⟨it,fp,tn,J,H2,e,I2,T,st2,f2,W,⟨m0,w0⟩,turn⟩:=h2;subst e;have stat:∀ {H':Hp},(∀ b∈fp,H' b=none)->∀ b∈fp,FpOk X pins H' b:=fun hn b hb=>⟨hn b hb,(f2 b hb).2⟩;refine codeAny_forLoop_any (fun n s'=>∃ i σ' H',Inv X pins σ' H' s'/\tn i s'.heap/\(∀ b∈fp,H' b=none)/\W i n σ' H') ?_ m0 ⟨0,σ,H2,I2,st2,fun b hb=>(f2 b hb).1,w0⟩;rintro n s3 ⟨i,σ3,H3,I3,st3,fr3,w3⟩;rcases turn i n σ3 H3 w3 with⟨stop,qn⟩ | ⟨go,N,hN,step⟩
 ·refine gp hp (thn (T.done X rfl rfl rfl hc i pins s3 σ3 H3 X.xe I3 (stat fr3) st3 stop) fun r s4 ⟨hr,I4⟩=>?_);subst hr;exact wpAny_execs_nil ⟨σ3,H3,I4,qn⟩
 ·refine gp hp (thn (T.item X rfl rfl rfl hc i pins s3 σ3 H3 X.xe I3 (stat fr3) st3 go) fun r s4 ⟨u,hr,h4⟩=>?_);subst hr;refine gp hp (thn h4 fun _ s5 ⟨x,H5,I5,r5,y5,st5,fr5⟩=>?_);have I5':=I5.pinned (stat fr5) (T.obj _ _ st5);refine gp hp (thn (hg _ s5 σ3 H5 x u _ I5' r5 (step x H5 y5)) fun _ s6 ⟨σ6,H6,I6,q6⟩=>?_);refine gp hp (thn (hb _ s6 σ6 H6 _ I6 q6) fun f s7 q7=>?_);have again:∀ {σ7:St} {H7:Hp},Inv X (pins++pinsAt fp s5.heap) σ7 H7 s7->N σ7 H7->∃ m,m < n/\∃ i σ' H',Inv X pins σ' H' s7/\tn i s7.heap/\(∀ b∈fp,H' b=none)/\W i m σ' H':=fun {σ7 H7} I7 n7=>by
   obtain⟨m',hm,w7⟩:=hN σ7 H7 n7;refine⟨m',hm,i + 1,σ7,H7,I7.unpinned,T.keep _ _ _ st5 fun b hb o e=>(I7.pin (b,o) (bt _ (bt _ (mem_pinsAt hb e)))).1,fun b hb=>?_,w7⟩;obtain⟨o,e,d⟩:=T.obj _ _ st5 b hb;exact(I7.pin (b,o) (bt _ (bt _ (mem_pinsAt hb e)))).2.1
  cases f with
  | next=>obtain⟨σ7,H7,I7,n7⟩:=q7;exact again I7 n7
  | cont=>obtain⟨σ7,H7,I7,n7⟩:=q7;exact again I7 n7
  | brk=>obtain⟨σ7,H7,I7,q7⟩:=q7;exact⟨σ7,H7,I7.unpinned,q7⟩
  | ret v=>obtain⟨x7,σ7,H7,I7,r7,q7⟩:=q7;exact⟨x7,σ7,H7,I7.unpinned,r7,q7⟩
end
abbrev R2:=V->V->Hp->VK->Prop
def OpR (X:Cx) (f:ad->ad->Sem ad) (r:R2):Prop :=
 ∀ (pins:List (Addr × Obj)) (s:ah) (σ:St) (H:Hp) (x y:V) (v u:ad) (Q:VK),Inv X pins σ H s->RelV x v->RelV y u->r x y H Q ->
  aw (aA X.prog X.w) X.A (f v u) (EP X pins σ Q) X.xe s
def UnR (X:Cx) (f:ad->Sem ad) (r:V->Hp->VK->Prop):Prop :=
 ∀ (pins:List (Addr × Obj)) (s:ah) (σ:St) (H:Hp) (x:V) (v:ad) (Q:VK),Inv X pins σ H s->RelV x v->r x H Q ->
  aw (aA X.prog X.w) X.A (f v) (EP X pins σ Q) X.xe s
def CallR (X:Cx) (f:ad) (r:List V->Hp->VK->Prop):Prop :=
 ∀ (pins:List (Addr × Obj)) (s:ah) (σ:St) (H:Hp) (xs:List V) (us:List ad) (Q:VK),Inv X pins σ H s->Vals xs us->r xs H Q ->
  aw (aA X.prog X.w) X.A (call f us) (EP X pins σ Q) X.xe s
def TruR (X:Cx) (r:V->Hp->(Bool->Hp->Prop)->Prop):Prop :=
 ∀ (pins:List (Addr × Obj)) (s:ah) (σ:St) (H:Hp) (x:V) (v:ad) (Q:Bool->Hp->Prop),Inv X pins σ H s->RelV x v->r x H Q ->
  aw (aA X.prog X.w) X.A (truthy v) (TP X pins σ Q) X.xe s
def tOp (r:R2) (ta tb:TE):TE:=fun σ H Q=>ta σ H fun x H1=>tb σ H1 fun y H2=>r x y H2 Q
def tUn (r:V->Hp->VK->Prop) (ta:TE):TE:=fun σ H Q=>ta σ H fun x H1=>r x H1 Q
def rI (C:Int->Int->Prop) (g:Int->Int->V):R2:=fun x y H Q=>∃ i j,x=.int i/\y=.int j/\C i j/\Q (g i j) H
def rI0 (g:Int->Int->V):R2:=fun x y H Q=>∃ i j,x=.int i/\y=.int j/\Q (g i j) H
def rU (g:Int->V):V->Hp->VK->Prop:=fun x H Q=>∃ i,x=.int i/\Q (g i) H
section
variable {X:Cx} {a b c:Expr} {ta tb tc:TE} {pos:Pos}
theorem binT (ha:PE X a ta) (hb:PE X b tb) {pins:List (Addr × Obj)} {s:ah} {σ:St} {H:Hp} {R:V->V->Hp->Prop} (I:Inv X pins σ H s)
  (h:ta σ H fun x H1=>tb σ H1 fun y H2=>R x y H2) {Q:ad->ah->Prop} {f:ad->ad->Sem ad}
  (hf:∀ v u s2 x y H2,Inv X pins σ H2 s2->RelV x v->RelV y u->R x y H2->aw (aA X.prog X.w) X.A (f v u) Q X.xe s2) :
  aw (aA X.prog X.w) X.A (eval a X.env) (fun v s₁=>aw (aA X.prog X.w) X.A (eval b X.env) (fun u s₂=>aw (aA X.prog X.w) X.A (f v u) Q X.xe s₂) X.xe s₁) X.xe s:=by
 refine thn (ha pins s σ H _ I h) fun v s1 ⟨x,H1,I1,r1,q1⟩=>?_;refine thn (hb pins s1 σ H1 _ I1 q1) fun u s2 ⟨y,H2,I2,r2,q2⟩=>?_;exact hf v u s2 x y H2 I2 r1 r2 q2
theorem pe_op {op:Operator} {r:R2} (ho:OpR X (dM op) r) (ha:PE X a ta) (hb:PE X b tb):PE X (.BinOp a op b pos) (tOp r ta tb):=by
 intro pins s σ H Q I h;exact wpAny_BinOp (binT ha hb I h fun v u s2 x y H2 I2 rx ry q=>ho pins s2 σ H2 x y v u Q I2 rx ry q)
theorem pe_un {op:UnaryOp} {r:V->Hp->VK->Prop} (ho:UnR X (unaryOp op) r) (ha:PE X a ta):PE X (.UnaryOp op a pos) (tUn r ta):=by
 intro pins s σ H Q I h;exact UnaryOp_ (thn (ha pins s σ H _ I h) fun v s1 ⟨x,H1,I1,r1,q1⟩=>ho pins s1 σ H1 x v Q I1 r1 q1)
theorem opI {f:ad->ad->Sem ad} {C:Int->Int->Prop} {g:Int->Int->Int}
  (rule:∀ (i j:Int) (t u:Tok) (s:ah) (Q:ad->ah->Prop) (E:ad->ah->Prop),C i j->Q (.int (g i j) s.toks) { s with toks:=s.toks + 1 }->aw (aA X.prog X.w) X.A (f (.int i t) (.int j u)) Q E s) :
  OpR X f (rI C fun i j=>.int (g i j)):=by
 intro pins s σ H x y v u Q I rx ry h;obtain⟨i,j,rfl,rfl,hc,q⟩:=h;obtain⟨t,rfl⟩:=rx;obtain⟨t',rfl⟩:=ry;exact rule i j t t' s _ _ hc ⟨.int (g i j),H,I.tok _,⟨_,rfl⟩,q⟩
theorem opI0 {f:ad->ad->Sem ad} {g:Int->Int->Int}
  (rule:∀ (i j:Int) (t u:Tok) (s:ah) (Q:ad->ah->Prop) (E:ad->ah->Prop),Q (.int (g i j) s.toks) { s with toks:=s.toks + 1 }->aw (aA X.prog X.w) X.A (f (.int i t) (.int j u)) Q E s) :
  OpR X f (rI0 fun i j=>.int (g i j)):=by
 intro pins s σ H x y v u Q I rx ry h;obtain⟨i,j,rfl,rfl,q⟩:=h;obtain⟨t,rfl⟩:=rx;obtain⟨t',rfl⟩:=ry;exact rule i j t t' s _ _ ⟨.int (g i j),H,I.tok _,⟨_,rfl⟩,q⟩
theorem opB0 {f:ad->ad->Sem ad} {g:Int->Int->Bool}
  (rule:∀ (i j:Int) (t u:Tok) (s:ah) (Q:ad->ah->Prop) (E:ad->ah->Prop),Q (.bool (g i j)) s->aw (aA X.prog X.w) X.A (f (.int i t) (.int j u)) Q E s) :
  OpR X f (rI0 fun i j=>.bl (g i j)):=by
 intro pins s σ H x y v u Q I rx ry h;obtain⟨i,j,rfl,rfl,q⟩:=h;obtain⟨t,rfl⟩:=rx;obtain⟨t',rfl⟩:=ry;exact rule i j t t' s _ _ ⟨.bl (g i j),H,I,rfl,q⟩
def CDiv (i j:Int):Prop:=0 < j/\j < 1073741824
def CPow (i j:Int):Prop:=0<=j/\j<=1000000/\i.natAbs < 2 ^ 64
def CMul (i j:Int):Prop:=(-(2 ^ 64) < i/\i < 2 ^ 64)\/(-(2 ^ 64) < j/\j < 2 ^ 64)
theorem CMul.ok {i j:Int} (h:CMul i j):IntMulOk i j:=by
 rcases h with⟨h1,h2⟩ | ⟨h1,h2⟩
 ·exact .of_left (intBits_le_64 h1 h2)
 ·exact .of_right (intBits_le_64 h1 h2)
theorem op_add:OpR X (dM .Add) (rI0 fun i j=>.int (i + j)):=opI0 fun _ _ _ _ _ _ _ q=>add_int q
theorem op_sub:OpR X (dM .Sub) (rI0 fun i j=>.int (i - j)):=opI0 fun _ _ _ _ _ _ _ q=>sub_int q
theorem op_mul:OpR X (dM .Mult) (rI CMul fun i j=>.int (i * j)):=opI fun _ _ _ _ _ _ _ hc q=>mul_int q hc.ok
theorem op_fdiv:OpR X (dM .FloorDiv) (rI CDiv fun i j=>.int (i / j)):=opI fun i j _ _ _ _ _ hc q=>by
 have h1:(0:Int) < j:=hc.1;have h2:j < 1073741824:=hc.2;exact floordiv_int (by omega) (by rw[Int.fdiv_eq_ediv_of_nonneg i (by omega)];exact q) (.inl (jV (by omega)))
theorem op_mod:OpR X (dM .Mod) (rI (fun _ j=>0 < j) fun i j=>.int (i % j)):=opI fun i j _ _ _ _ _ hc q=>by
 have h1:(0:Int) < j:=hc;exact mod_int' (by omega) (by rw[Int.fmod_eq_emod_of_nonneg i (by omega)];exact q)
theorem op_pow:OpR X (dM .Pow) (rI CPow fun i j=>.int (i ^ j.toNat)):=opI fun _ _ _ _ _ _ _ hc q=>pow_int_small hc.1 hc.2.1 hc.2.2 q
theorem unI {f:ad->Sem ad} {g:Int->Int}
  (rule:∀ (i:Int) (t:Tok) (s:ah) (Q:ad->ah->Prop) (E:ad->ah->Prop),Q (.int (g i) s.toks) { s with toks:=s.toks + 1 }->aw (aA X.prog X.w) X.A (f (.int i t)) Q E s) :
  UnR X f (rU fun i=>.int (g i)):=by
 intro pins s σ H x v Q I rx h;obtain⟨i,rfl,q⟩:=h;obtain⟨t,rfl⟩:=rx;exact rule i t s _ _ ⟨.int (g i),H,I.tok _,⟨_,rfl⟩,q⟩
theorem un_neg:UnR X (unaryOp .USub) (rU fun i=>.int (-i)):=unI fun _ _ _ _ _ q=>neg_int q
end
section
variable {X:Cx} {a b c:Expr} {ta tb tc:TE} {pos:Pos}
theorem fin_bl {pins:List (Addr × Obj)} {σ:St} {H:Hp} {s:ah} {Q:VK} {k k':Bool} (I:Inv X pins σ H s) (q:Q (.bl k) H) (e:k=k'):EP X pins σ Q (.bool k') s:=by
 subst e;exact⟨.bl k,H,I,rfl,q⟩
theorem op_lt:OpR X (b6 .Lt) (rI0 fun i j=>.bl (decide (i < j))):=opB0 fun _ _ _ _ _ _ _ q=>lt_int q
theorem op_le:OpR X (b6 .LtE) (rI0 fun i j=>.bl (decide (i<=j))):=opB0 fun _ _ _ _ _ _ _ q=>le_int q
theorem op_gt:OpR X (b6 .Gt) (rI0 fun i j=>.bl (decide (j < i))):=opB0 fun _ _ _ _ _ _ _ q=>gt_int q
theorem op_ge:OpR X (b6 .GtE) (rI0 fun i j=>.bl (decide (j<=i))):=opB0 fun _ _ _ _ _ _ _ q=>ge_int q
theorem op_lt_str:OpR X (b6 .Lt) (fun x y H Q=>∃ i j,x=.str i/\y=.str j/\Q (.bl (decide (i.cps.toList < j.cps.toList))) H):=by
 intro pins s σ H x y v u Q I rx ry h;obtain⟨i,j,rfl,rfl,q⟩:=h;obtain⟨t,rfl⟩:=rx;obtain⟨t',rfl⟩:=ry;exact lt_str (fin_bl I q rfl)
theorem op_notN:OpR X (b6 .IsNot) (fun x y H Q=>y=.non/\Q (.bl (!decide (x=.non))) H):=by
 intro pins s σ H x y v u Q I rx ry h;obtain⟨rfl,q⟩:=h;cases ry;refine isnot_none_gen (fin_bl I q ?_);cases x <;> first
  | (cases rx;rfl)
  | (obtain⟨t,rfl⟩:=rx;rfl)
theorem OpR.or {f:ad->ad->Sem ad} {r r':R2} (h:OpR X f r) (h':OpR X f r'):OpR X f (fun x y H Q=>r x y H Q\/r' x y H Q):=by
 intro pins s σ H x y v u Q I rx ry q;rcases q with q | q
 ·exact h pins s σ H x y v u Q I rx ry q
 ·exact h' pins s σ H x y v u Q I rx ry q
theorem nomark (b:Expr) {op:CmpOp} (h:op≠.In:=by decide) (h2:op≠.NotIn:=by decide):d8 op b=false:=by
 have e1:(op == CmpOp.In)=false:=by cases op <;> first | rfl | exact absurd rfl h
 have e2:(op == CmpOp.NotIn)=false:=by cases op <;> first | rfl | exact absurd rfl h2
 cases b <;> simp[d8,e1,e2]
theorem pe_cmpR {op:CmpOp} {r:R2} (ho:OpR X (b6 op) r) (ha:PE X a ta) (hb:PE X b tb) (hm:d8 op b=false):PE X (.Compare a [op] [b] pos) (tOp r ta tb):=by
 intro pins s σ H Q I h;exact wpAny_Compare1 (binT ha hb I h fun v u s2 x y H2 I2 rx ry q=>ho pins s2 σ H2 x y v u Q I2 rx ry q) hm
def tTest (t:TE):TT:=fun σ H Q=>t σ H fun x H'=>∃ k,x=.bl k/\Q k H'
theorem pt_cmpR {op:CmpOp} {r:R2} (ho:OpR X (b6 op) r) (ha:PE X a ta) (hb:PE X b tb) (hm:d8 op b=false):PT X (.Compare a [op] [b] pos) (tTest (tOp r ta tb)):=by
 intro pins s σ H Q I h;refine wpAny_isTrue_Compare1 (thn (ha pins s σ H _ I h) fun v s1 ⟨x,H1,I1,r1,q1⟩=>thn (hb pins s1 σ H1 _ I1 q1) fun u s2 ⟨y,H2,I2,r2,q2⟩ =>
  thn (ho pins s2 σ H2 x y v u _ I2 r1 r2 q2) fun c s3 ⟨z,H3,I3,r3,k,e,q3⟩=>?_) hm
 subst e;cases r3;exact cY ⟨H3,I3,q3⟩
def tChain (r r':R2) (ta tb tc:TE):TE:=fun σ H Q=>ta σ H fun x H1=>tb σ H1 fun y H2=>r x y H2 fun z H3=>∃ k,z=.bl k /\
 (if k=true then tc σ H3 fun w' H4=>r' y w' H4 Q else Q (.bl false) H3)
theorem pt_chain {op op':CmpOp} {r r':R2} (ho:OpR X (b6 op) r) (ho':OpR X (b6 op') r') (ha:PE X a ta) (hb:PE X b tb) (hc:PE X c tc)
  (hm:lastMarks [op,op'] [b,c]=false:=by with_unfolding_all rfl):PT X (.Compare a [op,op'] [b,c] pos) (tTest (tChain r r' ta tb tc)):=by
 intro pins s σ H Q I h;refine isTrue_chain (thn (ha pins s σ H _ I h) fun v s1 ⟨x,H1,I1,r1,q1⟩=>test_link (thn (hb pins s1 σ H1 _ I1 q1) fun u s2 ⟨y,H2,I2,r2,q2⟩ =>
  thn (ho pins s2 σ H2 x y v u _ I2 r1 r2 q2) fun d s3 ⟨z,H3,I3,r3,k,e,q3⟩=>?_)) hm
 subst e;cases r3;refine cY ?_;cases k with
 | false =>
  obtain⟨k',e',q'⟩:=q3;cases e';exact ite_ff ⟨H3,I3,q'⟩
 | true =>
  refine ite_tt (test_last (thn (hc pins s3 σ H3 _ I3 q3) fun w' s4 ⟨z',H4,I4,r4,q4⟩=>thn (ho' pins s4 σ H4 y z' u w' _ I4 r2 r4 q4) fun d' s5 ⟨z2,H5,I5,r5,k2,e2,q5⟩=>?_));subst e2;cases r5;exact cY ⟨H5,I5,q5⟩
def TruV (K:av) (x:V) (H:Hp) (k:Bool):Prop :=
 match x with
 | .non=>k=false
 | .bl b=>k=b
 | .int i=>k=(i != 0)
 | .str y=>y.length<=sizeLine/\k=((y.length:Int) != 0)
 | .byt y=>y.size<=sizeLine/\k=((y.size:Int) != 0)
 | .ref p=>(∃ xs,SqL K H p xs/\k=!xs.isEmpty)\/(∃ xs,SqT K H p xs/\k=!xs.isEmpty)\/∃ kvs,H p=some (.dK kvs)/\k=!kvs.isEmpty
 | _=>False
theorem isEmpty_kv {κ:Type} {kvs:List (κ × V)} {vs:List (κ × ad)} (r:KV kvs vs):(!vs.isEmpty)=!kvs.isEmpty:=by
 cases r <;> rfl
theorem isEmpty_of {xs:List V} {its:List ad} (r:Vals xs its):(!its.toArray.isEmpty)=!xs.isEmpty:=by
 cases r <;> simp
theorem line63:(sizeLine:Nat) < 2 ^ 63:=by rw[bn];decide
theorem tru_ok:TruR X (fun x H Q=>∃ k,TruV X.K x H k/\Q k H):=by
 intro pins s σ H x v Q I rx h;obtain⟨k,e,q⟩:=h;have hl:=line63;have hs:sizeLine=16777216:=bn;cases x with
 | non =>
  cases rx;have e':k=false:=e;subst e';exact truthy_none ⟨H,I,q⟩
 | bl b =>
  cases rx;have e':k=b:=e;subst e';exact cY ⟨H,I,q⟩
 | int i =>
  obtain⟨t,rfl⟩:=rx;have e':k=(i != 0):=e;subst e';exact PySem.P.truthy_int ⟨H,I,q⟩
 | str y =>
  obtain⟨t,rfl⟩:=rx;obtain⟨hy,e'⟩:y.length<=sizeLine/\k=((y.length:Int) != 0):=e;subst e';exact PySem.P.truthy_str (by omega) ⟨H,I.tok _,q⟩
 | byt y =>
  obtain⟨t,rfl⟩:=rx;obtain⟨hy,e'⟩:y.size<=sizeLine/\k=((y.size:Int) != 0):=e;subst e';exact PySem.W.truthy_bytes (by omega) ⟨H,I.tok _,q⟩
 | ref p =>
  cases rx;have e':(∃ xs,SqL X.K H p xs/\k=!xs.isEmpty)\/(∃ xs,SqT X.K H p xs/\k=!xs.isEmpty)\/∃ kvs,H p=some (.dK kvs)/\k=!kvs.isEmpty:=e;rcases e' with⟨xs,hx,e'⟩ | ⟨xs,hx,e'⟩ | ⟨kvs,hx,e'⟩
  ·subst e';obtain⟨its,r,pl,hz⟩:=I.list hx;have hlen:=r.length;exact wpAny_truthy_list pl.isList (by simp only[ak];omega) ⟨H,I.tok _,by rw[isEmpty_of r];exact q⟩
  ·subst e';obtain⟨its,r,pl,hz⟩:=I.tuple hx;have hlen:=r.length;exact truthy_tuple pl (by simp only[ak];omega) ⟨H,I.tok _,by rw[isEmpty_of r];exact q⟩
  ·subst e';obtain⟨hz,hS,vs,r,m⟩:kvs.length<=sizeLine/\(p == gy)=false/\∃ vs,KV kvs vs/\s.heap.DictOf (mixKind X.prog X.w) p vs:=I.hok p _ hx;have hlen:kvs.length=vs.length:=cz r;exact wpAny_truthy_dict hS m (by omega) ⟨H,I.tok _,by rw[isEmpty_kv r];exact q⟩
 | _=>exact(show False from e).elim
theorem pt_truth (ha:PE X a ta) (he:∀ whole,isTrue a X.env whole=(do let v <- whole;standAt a.pos;gH [v] (truthy v))) :
  PT X a (fun σ H Q=>ta σ H fun x H'=>∃ k,TruV X.K x H' k/\Q k H'):=by
 intro pins s σ H Q I h;exact isTrue_plain (thn (ha pins s σ H _ I h) fun v s1 ⟨x,H1,I1,r1,q1⟩=>tru_ok pins s1 σ H1 x v Q I1 r1 q1) (he _)
theorem op_add_str:OpR X (dM .Add) (fun x y H Q=>∃ i j,x=.str i/\y=.str j/\i.length + j.length<=sizeLine/\Q (.str (i++j)) H):=by
 intro pins s σ H x y v u Q I rx ry h;obtain⟨i,j,rfl,rfl,hz,q⟩:=h;obtain⟨t,rfl⟩:=rx;obtain⟨t',rfl⟩:=ry;exact add_str (fun t' tk=>⟨.str (i++j),H,I.tok _,⟨_,rfl⟩,q⟩) hz
theorem vals1 {x:V} {us:List ad} (r:Vals [x] us):∃ u,us=[u]/\RelV x u:=by
 cases r with
 | cons r1 r2=>cases r2;exact⟨_,rfl,r1⟩
theorem vals2 {x y:V} {us:List ad} (r:Vals [x,y] us):∃ u w',us=[u,w']/\RelV x u/\RelV y w':=by
 cases r with
 | cons r1 r2 =>
  cases r2 with
  | cons r3 r4=>cases r4;exact⟨_,_,rfl,r1,r3⟩
theorem call_abs:CallR X (.builtin "abs") (fun xs H Q=>∃ i,xs=[.int i]/\Q (.int (if i < 0 then -i else i)) H):=by
 intro pins s σ H xs us Q I r h;obtain⟨i,rfl,q⟩:=h;obtain⟨u,rfl,t,rfl⟩:=vals1 r;exact call_abs_int fun u tk=>⟨.int (if i < 0 then -i else i),H,I.tok _,⟨_,rfl⟩,q⟩
theorem call_max2 (hc:X.calm=true):CallR X (.builtin "max") (fun xs H Q=>∃ i j,xs=[.int i,.int j]/\Q (.int (if j > i then j else i)) H):=by
 intro pins s σ H xs us Q I r h;obtain⟨i,j,rfl,q⟩:=h;obtain⟨u,w',rfl,⟨t,rfl⟩,⟨t',rfl⟩⟩:=vals2 r;refine max_two_ints (I.ok.hd hc) fun h' tk k=>⟨_,H,I.kept k,?_,q⟩
 by_cases hj:j > i
 ·rw[if_pos hj,if_pos hj];exact⟨_,rfl⟩
 ·rw[if_neg hj,if_neg hj];exact⟨_,rfl⟩
theorem call_int1:CallR X (.type "int") (fun xs H Q=>(∃ i,xs=[.int i]/\Q (.int i) H)\/∃ k,xs=[.bl k]/\Q (.int (if k then 1 else 0)) H):=by
 intro pins s σ H xs us Q I r h;rcases h with⟨i,rfl,q⟩ | ⟨k,rfl,q⟩
 ·obtain⟨u,rfl,t,rfl⟩:=vals1 r;exact call_int_int ⟨.int i,H,I,⟨_,rfl⟩,q⟩
 ·obtain⟨u,rfl,r1⟩:=vals1 r;cases r1;exact call_int_bool ⟨.int (if k then 1 else 0),H,I.tok _,⟨_,rfl⟩,q⟩
def LenV (K:av) (x:V) (H:Hp) (n:Nat):Prop :=
 match x with
 | .str y=>y.length<=sizeLine/\n=y.length
 | .byt y=>y.size<=sizeLine/\n=y.size
 | .ref p=>(∃ xs,SqL K H p xs/\n=xs.length)\/∃ xs,SqT K H p xs/\n=xs.length
 | _=>False
theorem call_len:CallR X (.builtin "len") (fun xs H Q=>∃ x n,xs=[x]/\LenV X.K x H n/\Q (.int n) H):=by
 intro pins s σ H xs us Q I r h;obtain⟨x,n,rfl,e,q⟩:=h;obtain⟨u,rfl,rx⟩:=vals1 r;have hl:=line63;have hs:sizeLine=16777216:=bn;cases x with
 | str y =>
  obtain⟨t,rfl⟩:=rx;obtain⟨hy,e'⟩:y.length<=sizeLine/\n=y.length:=e;subst e';exact len_str (by omega) ⟨.int _,H,I.tok _,⟨_,rfl⟩,q⟩
 | byt y =>
  obtain⟨t,rfl⟩:=rx;obtain⟨hy,e'⟩:y.size<=sizeLine/\n=y.size:=e;subst e';exact PySem.W.len_bytes (by omega) ⟨.int _,H,I.tok _,⟨_,rfl⟩,q⟩
 | ref p =>
  cases rx;have e':(∃ xs,SqL X.K H p xs/\n=xs.length)\/∃ xs,SqT X.K H p xs/\n=xs.length:=e;rcases e' with⟨xs,hx,e'⟩ | ⟨xs,hx,e'⟩
  ·subst e';obtain⟨its,r',pl,hz⟩:=I.list hx;have hlen:=r'.length;exact Calls.call_len_list pl.isList (by simp only[ak];omega) ⟨.int xs.length,H,I.tok _,⟨_,by simp only[ak];rw[hlen]⟩,q⟩
  ·subst e';obtain⟨its,r',pl,hz⟩:=I.tuple hx;have hlen:=r'.length;exact len_tuple pl (by simp only[ak];omega) ⟨.int xs.length,H,I.tok _,⟨_,by simp only[ak];rw[hlen]⟩,q⟩
 | _=>exact(show False from e).elim
end
theorem RelO.some_of {v:V} {o:Option ad} (r:RelO (some v) o):∃ u,o=some u/\RelV v u:=by
 cases o with
 | none=>exact(show False from r).elim
 | some u=>exact⟨u,rfl,r⟩
structure Room (k:Nat) (A:aO):Prop where
 hd:A.handled=none
 dp:A.depth + 3 * k + 5 < recursionLimit
 un:A.units + 16 * k + 200 < bS
theorem Room.mono {j k:Nat} {A:aO} (r:Room k A) (h:j<=k):Room j A:=⟨r.hd,by have:=r.dp;omega,by have:=r.un;omega⟩
theorem Room.deeper {k:Nat} {A:aO} (r:Room (k + 1) A) (env:Env):Room k (A.deeper env) :=
 ⟨r.hd,by have:=r.dp;show A.depth + 1 + 3 * k + 5 < _;omega,by have:=r.un;show A.units + 3 + 16 * k + 200 < _;omega⟩
theorem Room.depth {k:Nat} {A:aO} (r:Room k A):A.depth < recursionLimit:=by have:=r.dp;omega
theorem Room.units {k:Nat} {A:aO} (r:Room k A):A.units + 64 < bS:=by have:=r.un;omega
theorem Room.units0 {k:Nat} {A:aO} (r:Room k A):A.units < bS:=by have:=r.un;omega
def tNil:TA:=fun _ H Q=>Q [] H
def tCons (ta:TE) (tr:TA):TA:=fun σ H Q=>ta σ H fun x H1=>tr σ H1 fun xs H2=>Q (x::xs) H2
section
variable {X:Cx} {e:Expr} {es:List Expr} {te:TE} {t:TA} {pos:Pos}
theorem pa_nil:PA X [] tNil:=fun _ _ _ _ H Q I h=>Calls.spliced_nil ⟨[],H,I,.nil,h⟩
theorem pa_cons (ha:PE X e te) (hr:PA X es t) (hs:am (e::es) X.env=(false,eval e X.env)::am es X.env:=by rfl):PA X (e::es) (tCons te t):=by
 intro pos pins s σ H Q I h;rw[hs];show aw _ _ (spliced ((false,eval e X.env)::cy pos (am es X.env))) _ _ s;refine Calls.spliced_cons (thn (ha pins s σ H _ I h) fun u s1 ⟨x,H1,I1,r1,q1⟩=>?_);exact thn (hr pos pins s1 σ H1 _ I1 q1) fun us s2 ⟨xs,H2,I2,r2,q2⟩=>⟨x::xs,H2,I2,.cons r1 r2,q2⟩
def tTup (t:TA):TE:=fun σ H Q=>t σ H fun xs H1=>xs.length<=sizeLine/\∀ p,H1 p=none->Q (.ref p) (upd H1 p (.tup xs))
def tLst (t:TA):TE:=fun σ H Q=>t σ H fun xs H1=>xs.length<=sizeLine/\∀ p,H1 p=none->Q (.ref p) (upd H1 p (.lst xs))
theorem pe_tup {x1} (h:PA X es t):PE X (.Tuple es x1 pos) (tTup t):=by
 intro pins s σ H Q I hq;refine wpAny_Tuple_spliced (thn (h pos pins s σ H _ I hq) fun us s1 ⟨xs,H1,I1,r,z,q⟩=>⟨by rw[<- r.length];exact z,?_⟩)
 have hf:H1 s1.heap.objs.size=none:=I1.hok.fresh (aj _);refine⟨.ref s1.heap.objs.size,upd H1 s1.heap.objs.size (.tup xs),I1.laid (t':=s1.toks) (fun b u e=>af _ e) (aj _) ?_,rfl,q _ hf⟩;exact⟨z,us,r,⟨_,ao _ rfl,rfl,_,rfl⟩,nd_new⟩
theorem pe_lst (h:PA X es t):PE X (.List es pos) (tLst t):=by
 intro pins s σ H Q I hq;refine wpAny_List_spliced (thn (h pos pins s σ H _ I hq) fun us s1 ⟨xs,H1,I1,r,z,q⟩=>⟨by rw[<- r.length];exact z,?_⟩)
 have hf:H1 s1.heap.objs.size=none:=I1.hok.fresh (aj _);refine⟨.ref s1.heap.objs.size,upd H1 s1.heap.objs.size (.lst xs),I1.laid (t':=s1.toks) (fun b u e=>af _ e) (aj _) ?_,rfl,q _ hf⟩;exact⟨z,us,0,r,ao _ rfl⟩
end
abbrev Sp:=List V->Hp->VK->XK->Prop
abbrev CXT:=List Env->Hp->ah->XK->ad->ah->Prop
structure Env0 (P:aB) (w:aN) (K:av) (mg:Str->Option ad) (base:aS) (A:aO) (outer:List Env) (s:ah) (H:Hp):Prop where
 frames:A.frames=some outer
 mod:Mod K mg base
 bs:∀ b o,base.get? b=some o->s.heap.get? b=some o/\H b=none
 bsz:base.objs.size<=s.heap.objs.size
 funs:s.heap.FunFrames base outer
 frf:∀ b∈frs outer,H b=none
 hok:HOk P w H s.heap
 bare:jo s.gens
def CE (outer:List Env) (P:aB) (w:aN) (H:Hp) (s:ah) (Q:VK) (u:ad) (s':ah):Prop :=
 ∃ v H',s'.os=s.os/\jo s'.gens/\Un (frs outer) [] H H' s.heap s'.heap/\HOk P w H' s'.heap/\RelV v u/\Q v H'
def CR (CX:CXT) (outer:List Env) (P:aB) (w:aN) (H:Hp) (s:ah) (Q:VK) (E:XK) (r:Result) (s':ah):Prop :=
 match r with
 | .ok (.ret u)=>CE outer P w H s Q u s'
 | .ok _=>False
 | .error e=>CX outer H s E e s'
structure FnOk (P:aB) (w:aN) (K:av) (mg:Str->Option ad) (base:aS) (CX:CXT) (k:Nat) (f:Addr) (fd:dN) (ps:List Str) (sp:Sp):Prop where
 len:∀ vs H Q E,sp vs H Q E->vs.length=ps.length
 run:∀ (A:aO) (outer:List Env) (s:ah) (H:Hp) (args:Args) (us:List ad) (vs:List V) (Q:VK) (E:XK),Room k A->Env0 P w K mg base A outer s H->BindsTo s fd args (ps.zip us)->Vals vs us->sp vs H Q E ->
  ij (aA P w) A (.call (.ref f) args) (CR CX outer P w H s Q E) s
theorem FnOk.mono {P:aB} {w:aN} {K:av} {mg:Str->Option ad} {base:aS} {CX:CXT} {j k:Nat} {f:Addr} {fd:dN} {ps:List Str} {sp:Sp} (F:FnOk P w K mg base CX j f fd ps sp) (h:j<=k) :
  FnOk P w K mg base CX k f fd ps sp:=⟨F.len,fun A outer s H args us vs Q E hr=>F.run A outer s H args us vs Q E (hr.mono h)⟩
section
variable {X:Cx} {pins:List (Addr × Obj)} {σ:St} {H:Hp} {s s':ah}
theorem Inv.env0 (I:Inv X pins σ H s):Env0 X.prog X.w X.K X.mg X.base X.A X.stack s H :=
 ⟨I.ok.frames,I.ok.mod,I.bs,bN I.ok.bsz I.sz,I.stack,I.stkFree,I.hok,I.bare⟩
theorem Inv.after {Q:VK} {u:ad} (I:Inv X pins σ H s) (h:CE X.stack X.prog X.w H s Q u s'):EP X pins σ Q u s':=by
 obtain⟨v,H',os,bare,un,hok,r,q⟩:=h;obtain⟨hh,g,d,t,os'⟩:=s';obtain rfl:os'=s.os:=os;exact⟨v,H',I.call (h':=hh) (g':=g) (d':=d) (t':=t) (ch:=[]) un hok bare (fun b z=>absurd z (by simp)),r,q⟩
end
def tCall (sp:Sp) (dvs:List V) (E:XK) (t:TA):TE:=fun σ H Q=>t σ H fun vs H1=>sp (vs++dvs) H1 Q E
def Binds (K:av) (fd:dN) (ps:List Str) (ds:List ad):Prop :=
 ∀ (s:ah) (us:List ad),K.In s.heap->(us++ds).length=ps.length->BindsTo s fd ⟨us,[]⟩ (ps.zip (us++ds))
theorem Binds.all {K:av} {fd:dN} {ps:List Str} (h:∀ us:List ad,us.length=ps.length->bindArgs fd ⟨us,[]⟩=pure (ps.zip us)):Binds K fd ps []:=fun s us _ hl=>by
 rw[eN] at hl ⊢;exact .of_eq (h us hl)
def Passes (CX:CXT) (X:Cx) (E:XK):Prop:=∀ (pins:List (Addr × Obj)) (σ:St) (H:Hp) (s:ah) (e:ad) (s':ah),Inv X pins σ H s->CX X.stack H s E e s'->X.xe e s'
section
variable {X:Cx} {CX:CXT} {k:Nat} {f C:Addr} {fd:dN} {ps:List Str} {sp:Sp} {dvs:List V} {ds:List ad} {E:XK} {x m:Str} {p pos apos:Pos} {e o:Expr} {es:List Expr} {ta:TE} {t:TA}
theorem run_fn {pins:List (Addr × Obj)} {σ:St} {H:Hp} {s:ah} {Q:VK} {us:List ad} {vs:List V} (F:FnOk X.prog X.w X.K X.mg X.base CX k f fd ps sp) (hr:Room k X.A) (hb:Binds X.K fd ps ds) (hd:Vals dvs ds) (hx:Passes CX X E)
  (I:Inv X pins σ H s) (r:Vals vs us) (h:sp (vs++dvs) H Q E):aw (aA X.prog X.w) X.A (call (.ref f) us) (EP X pins σ Q) X.xe s:=by
 have r2:Vals (vs++dvs) (us++ds):=r.append hd;have hl:(us++ds).length=ps.length:=by rw[<- r2.length];exact F.len _ _ _ _ h
 refine wpAny_call (fO (F.run X.A X.stack s H ⟨us,[]⟩ (us++ds) (vs++dvs) Q E hr I.env0 (hb s us I.kIn hl) r2 h) fun r s' hq=>?_);cases r with
 | error e=>exact hx pins σ H s e s' I hq
 | ok fl =>
  cases fl with
  | ret u=>exact I.after hq
  | next=>exact dX hq
  | brk=>exact dX hq
  | cont=>exact dX hq
theorem pe_call (F:FnOk X.prog X.w X.K X.mg X.base CX k f fd ps sp) (hr:Room k X.A) (hg:Gl X x) (hm:X.mg x=some (.ref f)) (hk:fI X.K (.ref f)=true) (hb:Binds X.K fd ps ds) (hd:Vals dvs ds) (hx:Passes CX X E)
  (ha:PA X (e::es) t) (hdb:(x == ("__debug__" : Str))=false:=by decide) (he:am (e::es) X.env=(false,eval e X.env)::am es X.env:=by rfl) (hpl:(cy pos (am es X.env)).any (·.1)=false:=by rfl) :
  PE X (.Call (.Name x p) (e::es) [] pos) (tCall sp dvs E t):=by
 intro pins s σ H Q I h;refine fo (ld_glob I hg hm ?_ hdb);refine PySem.W.callWith_K (h₀:=X.base) I.ok.mod.kin hk (thn (ha pos pins s σ H _ I h) fun us s1 ⟨vs,H1,I1,r,q⟩=>⟨I1.kIn,?_⟩) he hpl;exact run_fn F hr hb hd hx I1 r q
end
structure FnScope (N P:List Str) (sc:Scope):Prop where
 kind:sc.kind=.function
 co:sc.isCoroutine=false
 gen:sc.isGenerator=false
 nd:N.Nodup
 pre:N.take P.length=P
 par:∀ x∈P,sc.names.lookup x=some .local\/sc.names.lookup x=some .cell
 nofree:∀ y∈sc.names,y.2≠.free
theorem bindL_out {kindOf:Str->Option ft} {x:Str}:∀ {binds:List (Str × ad)} {m:Str->Option ad},(∀ v,(x,v)∉binds)->bindL kindOf binds m x=m x
 | [],_,_=>rfl
 | (n,v)::r,m,h=>by
  unfold bindL;rw[bindL_out fun w hw=>h w (au _ hw)]
  split
  ·have:x≠n:=by rintro rfl;exact h v ar
   simp[this]
  ·rfl
theorem bindC_out {kindOf:Str->Option ft} {x:Str}:∀ {binds:List (Str × ad)} {m:Str->Option ad},(∀ v,(x,v)∉binds)->bindC kindOf binds m x=m x
 | [],_,_=>rfl
 | (n,v)::r,m,h=>by
  unfold bindC;rw[bindC_out fun w hw=>h w (au _ hw)]
  split
  ·rfl
  ·have:x≠n:=by rintro rfl;exact h v ar
   simp[this]
theorem bindL_get {kindOf:Str->Option ft} {x:Str} {v:ad}:∀ {P:List Str} {vs:List ad} {i:Nat} {m:Str->Option ad},P.Nodup->P[i]?=some x->vs[i]?=some v->kindOf x=some .local ->
  bindL kindOf (P.zip vs) m x=some v
 | [],_,_,_,_,h,_,_=>by simp at h
 | _::_,[],_,_,_,_,h,_=>by simp at h
 | p::P,w::vs,0,m,nd,h1,h2,hk=>by
  simp at h1 h2;subst h1;subst h2;show bindL kindOf ((p,w)::P.zip vs) m p=_;unfold bindL;rw[bindL_out fun v hv=>(cx.mp nd).1 (iC hv).1,if_pos hk];simp
 | p::P,w::vs,i + 1,m,nd,h1,h2,hk=>by
  show bindL kindOf ((p,w)::P.zip vs) m x=_;unfold bindL;exact bindL_get (i:=i) (cx.mp nd).2 (by simpa using h1) (by simpa using h2) hk
theorem bindC_get {kindOf:Str->Option ft} {x:Str} {v:ad}:∀ {P:List Str} {vs:List ad} {i:Nat} {m:Str->Option ad},P.Nodup->P[i]?=some x->vs[i]?=some v->kindOf x≠some .local ->
  bindC kindOf (P.zip vs) m x=some v
 | [],_,_,_,_,h,_,_=>by simp at h
 | _::_,[],_,_,_,_,h,_=>by simp at h
 | p::P,w::vs,0,m,nd,h1,h2,hk=>by
  simp at h1 h2;subst h1;subst h2;show bindC kindOf ((p,w)::P.zip vs) m p=_;unfold bindC;rw[bindC_out fun v hv=>(cx.mp nd).1 (iC hv).1,if_neg hk];simp
 | p::P,w::vs,i + 1,m,nd,h1,h2,hk=>by
  show bindC kindOf ((p,w)::P.zip vs) m x=_;unfold bindC;exact bindC_get (i:=i) (cx.mp nd).2 (by simpa using h1) (by simpa using h2) hk
def start (N:List Str) (vs:List V):St:=vs.map some++aQ (N.length - vs.length) none
def cxOf (CX:CXT) (P:aB) (w:aN) (K:av) (mg:Str->Option ad) (base:aS) (N:List Str) (qual:Str) (scope:Scope) (f:Addr) (cd:ad) (A:aO) (outer:List Env) (s:ah) (H:Hp) (E:XK):Cx where
 prog:=P
 w:=w
 K:=K
 mg:=mg
 base:=base
 A:=A.deeper (ju qual scope s.heap.objs.size f cd)
 N:=N
 s₀:=s
 H₀:=H
 env:=ju qual scope s.heap.objs.size f cd
 outer:=outer
 stack:=ju qual scope s.heap.objs.size f cd::outer
 ex:=[]
 calm:=true
 fn:=fun _=>true
 pn:=[]
 xe:=fun e s'=>aw (aA P w) (A.deeper (ju qual scope s.heap.objs.size f cd)) (leaving (ju qual scope s.heap.objs.size f cd) e) (fun _ s''=>CX outer H s E e s'') (fun e' s''=>CX outer H s E e' s'') s'
theorem cell_has {sc:Scope} {n:Nat} {x:Str} (h:sc.names.lookup x=some .cell):∃ c,(gC n sc.names []).lookup x=some c:=by
 have q:=jW sc.names n [] (.inl h);exact cF.mp q
theorem inv_start {CX:CXT} {P:aB} {w:aN} {K:av} {mg:Str->Option ad} {base:aS} {N ps:List Str} {qual:Str} {scope:Scope} {f:Addr} {cd:ad} {A:aO} {outer:List Env} {s s1:ah} {H:Hp} {E:XK} {us:List ad} {vs:List V}
  (S:FnScope N ps scope) (hd:A.handled=none) (e0:Env0 P w K mg base A outer s H) (hl:vs.length=ps.length) (r:Vals vs us)
  (x:InCallC s s.heap.objs.size (bindL (ju qual scope s.heap.objs.size f cd).kindOf (ps.zip us) fun _=>none) (gC (s.heap.objs.size + 1) scope.names []) (bindC (ju qual scope s.heap.objs.size f cd).kindOf (ps.zip us) fun _=>none) s1) :
  Inv (cxOf CX P w K mg base N qual scope f cd A outer s H E) [] (start N vs) H s1:=by
 have hpl:ps.length<=N.length:=by have:=congrArg fj S.pre;rw[aP] at this;omega
 obtain⟨h1,tk,rfl,hk⟩:=x.done;have noA:∀ b:Addr,b∉(cxOf CX P w K mg base N qual scope f cd A outer s H E).ex:=fun b z=>absurd (show b∈([]:List Addr) from z) (by simp)
 refine⟨⟨e0.mod,S.kind,rfl,rfl,aj _,fun y z c h1 h2=>?_,fun y hy=>?_,fun y c _ h=>?_,fun _=>hd,aO.frames_deeper e0.frames,.inr ⟨rfl,rfl⟩,fun b z=>absurd z (noA b),e0.bs,e0.bsz,fun b _ _=>noA b,fun b z=>absurd z (noA b),e0.funs,e0.frf⟩,
  rfl,e0.bare,Un.kept hk,⟨_,x.toInCall.ns,fun i y v h1 h2 h3=>?_⟩,fun y c h=>⟨_,x.cell y c h⟩,e0.hok.fresh (aj _),fun y c h=>?_,fun p hp=>absurd (show p∈([]:List (Addr × Obj)) from hp) (by simp),e0.hok.kept hk,?_⟩
 ·exact name_of_addr x.apart (eZ h1) (eZ h2)
 ·have hy:scope.names.lookup y=some .cell\/scope.names.lookup y=some .free:=hy;rcases hy with hy | hy
  ·exact cell_has hy
  ·exact absurd rfl (S.nofree _ (eZ hy))
 ·exact fM (x.above y c (eZ h))
 ·have hi:i < vs.length:=by
   unfold start at h2
   by_cases hi:i < vs.length
   ·exact hi
   ·rw[di (by simpa using hi)] at h2
    rw[List.getElem?_replicate] at h2
    split at h2 <;> cases h2
  have ha:vs[i]?=some v:=by
   unfold start at h2;rw[dD (by simpa using hi),a6] at h2
   cases e:vs[i]? with
   | none=>rw[e] at h2;cases h2
   | some a=>rw[e] at h2;cases h2;rfl
  obtain⟨u,hu,rv⟩:=r.get ha;have hp:ps[i]?=some y:=by
   rw[<- S.pre,jv (by omega)];exact h1
  have ndP:ps.Nodup:=by rw[<- S.pre];exact S.nd.sublist (fx _ _)
  refine⟨u,rv,?_⟩;rcases S.par y (bL hp) with k | k
  ·exact .inl ⟨k,bindL_get ndP hp hu k⟩
  ·obtain⟨c,e⟩:=cell_has (n:=s.heap.objs.size + 1) k;refine .inr ⟨.inl k,c,e,?_⟩;have q:=x.cell y c e;rw[bindC_get ndP hp hu (by show scope.names.lookup y≠_;rw[k];decide)] at q
   exact q
 ·exact e0.hok.fresh (fM (x.above y c (eZ h)))
 ·unfold start;show _=N.length;rw[az,ag,List.length_replicate];omega
theorem fn_of {CX:CXT} {P:aB} {w:aN} {K:av} {mg:Str->Option ad} {base:aS} {k:Nat} {f:Addr} {name qual:Str} {params:Arguments} {body:List Stmt} {scope:Scope} {dV kV doc pm cdv ct oc:ad} {an od:Option Addr}
  {osl:Array (Option ad)} {N ps:List Str} {sp:Sp} (lk:K.lookup f=some ⟨oc,od,.func (eP name qual params body scope dV kV doc pm an cdv ct),osl⟩) (hcd:gI K cdv qual=true) (S:FnScope N ps scope)
  (len:∀ vs H Q E,sp vs H Q E->vs.length=ps.length)
  (hbody:∀ (A:aO) (outer:List Env) (s:ah) (H:Hp) (vs:List V) (Q:VK) (E:XK),Room k (A.deeper (ju qual scope s.heap.objs.size f cdv))->sp vs H Q E ->
   ∃ t,PSs (cxOf CX P w K mg base N qual scope f cdv A outer s H E) body t/\t { nx:=fun _ H'=>Q .non H',rt:=Q } (start N vs) H) :
  FnOk P w K mg base CX (k + 1) f (eP name qual params body scope dV kV doc pm an cdv ct) ps sp:=by
 refine⟨len,fun A outer s H args us vs Q E hr e0 hb r hsp=>?_⟩;have hl:=len _ _ _ _ hsp;have KX:K.In s.heap:=e0.mod.kin.keeps fun b o e=>(e0.bs b o e).1;have lim:s.heap.NoLimit:=e0.mod.nolimit.keeps fun b o e=>(e0.bs b o e).1;have hkind:∀ y∈ps.zip us,scope.names.lookup y.1=some .local\/(scope.names.lookup y.1=some .cell/\((gC (s.heap.objs.size + 1) scope.names []).lookup y.1).isSome=true):=fun⟨n,v⟩ hy=>by
  rcases S.par n (iC hy).1 with q | q
  ·exact .inl q
  ·exact .inr ⟨q,jW _ _ _ (.inl q)⟩
 refine codeAny_call_function hr.depth (KX _ _ lk) rfl S.co S.gen rfl (PySem.W.codeRec_of KX hcd) (hb _ _ _ _ ?_);refine wpAny_newFunctionEnv_cells S.kind hkind fun env he s1 x=>?_;subst he;refine⟨lim.keeps x.toInCall.keep,codeAny_func ?_⟩;obtain⟨t,ht,hq⟩:=hbody A outer s H vs Q E (hr.deeper _) hsp;have I:Inv (cxOf CX P w K mg base N qual scope f cdv A outer s H E) [] (start N vs) H s1:=inv_start S hr.hd e0 hl r x;refine cH (ht [] s1 (start N vs) H _ I hq) (fun fl s' hs=>?_) fun e s' hs=>hs;have fin:∀ {σ':St} {H':Hp} {v:V} {u:ad},Inv (cxOf CX P w K mg base N qual scope f cdv A outer s H E) [] σ' H' s'->RelV v u->Q v H'->CE outer P w H s Q u s' :=
  fun {σ' H' v u} J rv q=>⟨v,H',J.os,J.bare,J.base,J.hok,rv,q⟩
 cases fl with
 | ret u =>
  obtain⟨v,σ',H',J,rv,q⟩:=hs;exact fin J rv q
 | next =>
  obtain⟨σ',H',J,q⟩:=hs;exact fin (v:=V.non) (u:=bg) J rfl q
 | brk =>
  obtain⟨_,_,_,q⟩:=hs;exact dX q
 | cont =>
  obtain⟨_,_,_,q⟩:=hs;exact dX q
section
variable {X:Cx} {x:Str} {p pos:Pos} {e:Expr} {es:List Expr} {t:TA} {id T:String} {r:List V->Hp->VK->Prop}
def tCB (r:List V->Hp->VK->Prop) (t:TA):TE:=fun σ H Q=>t σ H fun vs H1=>r vs H1 Q
theorem pe_callB (hc:CallR X (.builtin id) r) (hg:Gl X x) (hm:X.mg x=none) (hv:cu x=some (.builtin id)) (ha:PA X (e::es) t) (hn:x ≠ "__name__":=by decide) (hdb:(x == ("__debug__" : Str))=false:=by decide)
  (he:am (e::es) X.env=(false,eval e X.env)::am es X.env:=by rfl) (hpl:(cy pos (am es X.env)).any (·.1)=false:=by rfl):PE X (.Call (.Name x p) (e::es) [] pos) (tCB r t):=by
 intro pins s σ H Q I h;refine fo (ld_blt I hg hm hv ?_ hn hdb);exact hW (thn (ha pos pins s σ H _ I h) fun us s1 ⟨vs,H1,I1,r1,q1⟩=>hc pins s1 σ H1 vs us Q I1 r1 q1) he hpl
theorem pe_callTy (hc:CallR X (.type T) r) (hg:Gl X x) (hm:X.mg x=none) (hv:cu x=some (.type T)) (ha:PA X (e::es) t) (hn:x ≠ "__name__":=by decide) (hdb:(x == ("__debug__" : Str))=false:=by decide)
  (he:am (e::es) X.env=(false,eval e X.env)::am es X.env:=by rfl) (hpl:(cy pos (am es X.env)).any (·.1)=false:=by rfl):PE X (.Call (.Name x p) (e::es) [] pos) (tCB r t):=by
 intro pins s σ H Q I h;refine fo (ld_blt I hg hm hv ?_ hn hdb);exact cj (thn (ha pos pins s σ H _ I h) fun us s1 ⟨vs,H1,I1,r1,q1⟩=>hc pins s1 σ H1 vs us Q I1 r1 q1) he hpl
end
end L2
namespace HT
open PySem PyProof.Rows
section
variable {prog:aB} {w:aN} {A:aO} {E:ad->ah->Prop} {s:ah}
theorem cat_tup {t b:Addr} {vs ws:List ad} {Q:ad->ah->Prop} (ht:iW s.heap t vs.toArray) (hb:iW s.heap b ws.toArray) (hv:vs≠[])
  (h1:ws=[]->Q (.ref t) s) (h2:ws≠[]->Q (.ref s.heap.objs.size) { s with heap:=s.heap.push { cls:=.type "tuple",data:=.seq (vs++ws).toArray } })
  (hsz:vs.length + ws.length<=sizeLine):aw (aA prog w) A (dM .Add (.ref t) (.ref b)) Q E s:=by
 obtain⟨⟨cls,dd,data,sl⟩,ho,hc,n,hd⟩:=id ht;obtain⟨⟨cls2,dd2,data2,sl2⟩,ho2,hc2,n2,hd2⟩:=id hb;simp only at hc hd hc2 hd2;subst hc hd hc2 hd2;have e:vs.toArray++ws.toArray=(vs++ws).toArray:=by simp
 by_cases hw:ws=[]
 ·exact jX ⟨_,ho,rfl⟩ ⟨_,ho2,rfl⟩ jD seq_tuple_add gJ gD (fY _ _)
   (tuple_addW1 t b vs.toArray ws.toArray n n2 dd dd2 sl sl2 (by simpa using hv) (by simp[hw])) ⟨ho,ho2,h1 hw⟩
 ·refine jX ⟨_,ho,rfl⟩ ⟨_,ho2,rfl⟩ jD seq_tuple_add gJ gD (fY _ _)
   (tuple_addW2 t b vs.toArray ws.toArray n n2 dd dd2 sl sl2 (by simpa using hv) (by simpa using hw) (by rw[ak,ak];exact hsz)) ⟨ho,ho2,?_⟩
  rw[e];exact h2 hw
def sIx (n d:Nat):Option Int->Nat
 | none=>d
 | some v=>if v < 0 then (v + (n:Int)).toNat else min v.toNat n
theorem sIx_none (n d:Nat):sIx n d none=d:=rfl
theorem sIx_nat (n d k:Nat):sIx n d (some (k:Int))=min k n:=by
 show(if (k:Int) < 0 then ((k:Int) + (n:Int)).toNat else min (k:Int).toNat n)=min k n
 rw[if_neg (by omega),bF]
theorem sIx_le (n d:Nat) (hd:d<=n) (o:Option Int):sIx n d o<=n:=by
 cases o with
 | none=>exact hd
 | some v =>
  show(if v < 0 then (v + (n:Int)).toNat else min v.toNat n)<=n
  by_cases hv:v < 0
  ·rw[if_pos hv];omega
  ·rw[if_neg hv];exact Nat.min_le_right _ _
theorem clip_eq (v:Int) (n d:Nat):(if v < 0 then max (v + (n:Int)) 0 else min v (n:Int))=((sIx n d (some v):Nat):Int):=by
 show(if v < 0 then max (v + (n:Int)) 0 else min v (n:Int))=(((if v < 0 then (v + (n:Int)).toNat else min v.toNat n):Nat):Int)
 by_cases hv:v < 0
 ·simp only[if_pos hv];omega
 ·simp only[if_neg hv];omega
theorem adjust_gen (lo hi:Option Int) (n:Nat):fT lo hi 1 (n:Int)=(((sIx n 0 lo:Nat):Int),((sIx n n hi:Nat):Int)):=by
 have h1:¬ ((1:Int) < 0):=by omega
 unfold fT;simp only[h1,if_false];refine Prod.ext ?_ ?_
 ·cases lo with
  | none=>rfl
  | some v=>exact clip_eq v n 0
 ·cases hi with
  | none=>rfl
  | some v=>exact clip_eq v n n
theorem places_gen (i j:Nat):eK (i:Int) (j:Int) 1=j - i:=by
 unfold eK;have h1:(1:Int) > 0:=by omega
 simp only[h1,if_true,Int.ediv_one]
 split <;> omega
theorem slicePart_ {v:ad} {o:Option Int} {Q:Option Int->ah->Prop} (p:IsPart v o) (h:Q o s):aw (aA prog w) A (bC.Slice.slicePartIndex v) Q E s:=by
 cases p with
 | none=>exact slicePart_none h
 | int i t=>exact slicePart_int h
theorem sliceApplied_gen {sl:Addr} {vl vu:ad} {lo hi:Option Int} {n:Nat} {Q:Int × Int × Nat->ah->Prop} (hs:s.heap.IsSliceOf sl vl vu .none) (pl:IsPart vl lo) (pu:IsPart vu hi)
  (h:Q (((sIx n 0 lo:Nat):Int),1,sIx n n hi - sIx n 0 lo) s):aw (aA prog w) A (fJ (.ref sl) (pure (n:Int))) Q E s:=by
 obtain⟨os,hos,hcs,hds⟩:=id hs;unfold fJ bC.Slice.sliceFields;refine aa (aa (bT hos hds (x:=vl) rfl (aa (bT hos hds (x:=vu) rfl (aa (bT hos hds (x:=.none) rfl (ae ?_)))))));refine aa (slicePart_none ?_);show aw _ _ (if ((1:Int) == 0)=true then _ else _) _ _ s
 rw[if_neg (by decide)]
 refine aa (slicePart_ pl (aa (slicePart_ pu (aa (ae ?_)))));show aw _ _ (match fT lo hi 1 (n:Int) with | (lo,hi)=>pure (lo,(1:Int),eK lo hi 1)) _ _ s
 rw[adjust_gen lo hi n];show aw _ _ (pure (((sIx n 0 lo:Nat):Int),(1:Int),eK ((sIx n 0 lo:Nat):Int) ((sIx n n hi:Nat):Int) 1)) _ _ s;rw[places_gen];exact ae h
theorem pick_gen (xs:Array ad) (i k:Nat):((aD k).filterMap fun(m:Nat)=>xs[((i:Int) + (m:Int) * 1).toNat]?).toArray=((xs.toList.drop i).take k).toArray:=by
 have e:(fun(m:Nat)=>xs[((i:Int) + (m:Int) * 1).toNat]?)=fun m=>xs[i + m]?:=by
  funext m
  have:((i:Int) + (m:Int) * 1).toNat=i + m:=by omega
  rw[this]
 rw[e]
 have:=pick_run xs i k
 rw[List.filterMap_map] at this;have e2:((fun x=>xs[x]?) ∘ fun x=>i + x)=fun m=>xs[i + m]?:=rfl;rw[e2] at this;rw[this]
theorem getItem_tuple_cut {t sl:Addr} {items:Array ad} {vl vu:ad} {lo hi:Option Int} {Q:ad->ah->Prop} (ht:iW s.heap t items) (hs:s.heap.IsSliceOf sl vl vu .none) (pl:IsPart vl lo) (pu:IsPart vu hi)
  (hw:¬ (sIx items.size 0 lo=0/\sIx items.size items.size hi=items.size))
  (h:Q (.ref s.heap.objs.size) { s with heap:=s.heap.push { cls:=.type "tuple",data:=.seq ((items.toList.drop (sIx items.size 0 lo)).take (sIx items.size items.size hi - sIx items.size 0 lo)).toArray } })
  (hsz:items.size<=sizeLine):aw (aA prog w) A (ik (.ref t) (.ref sl)) Q E s:=by
 have htake:sizeOk (.seq ((items.toList.drop (sIx items.size 0 lo)).take (sIx items.size items.size hi - sIx items.size 0 lo)).toArray):=by
  show((items.toList.drop (sIx items.size 0 lo)).take (sIx items.size items.size hi - sIx items.size 0 lo)).toArray.size<=sizeLine;rw[ak,aP,bo,aR];omega
 have hj:sIx items.size items.size hi<=items.size:=sIx_le _ _ (aj _) hi;obtain⟨os,hos,hcs,hds⟩:=id hs;have hTs:s.TypeIs (.ref sl) "slice":=⟨os,hos,hcs⟩;unfold ik
 try with_reducible refine aW ?_
 first | refine aa (ae ?_) | skip
 refine aa (wpAny_sequenceKey ht.typeIs (by decide) ?_)
 refine aa (b7 (name:=aJ "__getitem__") ht.typeIs cr
  (b4 cr ht.typeIs entry_tuple_getitem ?_ (args_tuple_getitem _ _)))
 show aw _ _ (iY (.ref t) >>= _) _ _ s;refine aa (tupleItemsOf_ ht ?_);refine aa (eQ hTs ?_);rw[if_pos (by decide)]
 refine aa (sliceApplied_gen hs pl pu ?_);have hno:¬ ((((sIx items.size 0 lo:Nat):Int) == 0 && (1:Int) == 1 && (sIx items.size items.size hi - sIx items.size 0 lo) == items.size)=true):=by
  intro q;rw[aK,aK] at q;have q1:((sIx items.size 0 lo:Nat):Int)=0:=gE q.1.1;have q2:sIx items.size items.size hi - sIx items.size 0 lo=items.size:=gE q.2;exact hw ⟨by omega,by omega⟩
 show aw _ _ (if (((sIx items.size 0 lo:Nat):Int) == 0 && (1:Int) == 1 && (sIx items.size items.size hi - sIx items.size 0 lo) == items.size)=true then _ else _) _ _ s
 rw[if_neg hno,pick_gen]
 first
  | exact aa (m:=ci _) (bj (ae ⟨_,rfl,ae h⟩) htake)
  | exact aa (m:=ci _) (bj (aa (ae (ae ⟨_,rfl,ae h⟩))) htake)
  | exact aa (aa (m:=ci _) (bj (ae (ae ⟨_,rfl,ae h⟩)) htake))
  | exact aa (aa (m:=ci _) (bj (ae ⟨_,rfl,ae h⟩) htake))
end
end HT
namespace L2
open PySem PySem.Spec PyProof.Rows
abbrev TO:=St->Hp->(Option Int->Hp->Prop)->Prop
def PO (X:Cx) (e:Option Expr) (t:TO):Prop :=
 ∀ (pins:List (Addr × Obj)) (s:ah) (σ:St) (H:Hp) (Q:Option Int->Hp->Prop),Inv X pins σ H s->t σ H Q ->
  aw (aA X.prog X.w) X.A (evalPart e X.env) (fun u s'=>∃ o H',Inv X pins σ H' s'/\IsPart u o/\Q o H') X.xe s
def tNoPart:TO:=fun _ H Q=>Q none H
def tPart (t:TE):TO:=fun σ H Q=>t σ H fun x H1=>∃ i,x=.int i/\Q (some i) H1
theorem intsAre_of {ns:List Int}:∀ {us:List ad},Vals (ns.map V.int) us->jY us ns:=by
 induction ns with
 | nil=>intro us r;rw[fq] at r;cases r;exact .nil
 | cons n ns ih =>
  intro us r;rw[bm] at r;cases r with
  | cons r1 r2 =>
   obtain⟨t,e⟩:=r1;subst e;exact .cons n t (ih r2)
section
variable {X:Cx} {e:Expr} {te:TE} {lo hi:Option Expr} {tl th:TO} {pos p2:Pos}
theorem po_none:PO X none tNoPart:=by
 intro pins s σ H Q I h;rw[evalPart_none];exact ae ⟨none,H,I,.none,h⟩
theorem po_some (h:PE X e te):PO X (some e) (tPart te):=by
 intro pins s σ H Q I hw;rw[evalPart_some];refine thn (h pins s σ H _ I hw) fun u s1 ⟨x,H1,I1,r1,q1⟩=>?_;obtain⟨i,rfl,q⟩:=q1;obtain⟨t,rfl⟩:=r1;exact⟨some i,H1,I1,.int i t,q⟩
def SlR (X:Cx) (r:V->Option Int->Option Int->Hp->VK->Prop):Prop :=
 ∀ (pins:List (Addr × Obj)) (s:ah) (σ:St) (H:Hp) (x:V) (v vl vu:ad) (lo hi:Option Int) (sl:Addr) (Q:VK),Inv X pins σ H s->RelV x v->s.heap.IsSliceOf sl vl vu .none->IsPart vl lo->IsPart vu hi->r x lo hi H Q ->
  ∃ T id,hX (.type T) "__getitem__" = pure (some (.builtin id))/\s.TypeIs v T/\aw (aA X.prog X.w) X.A (ik v (.ref sl)) (EP X pins σ Q) X.xe s
theorem SlR.or {r r':V->Option Int->Option Int->Hp->VK->Prop} (h:SlR X r) (h':SlR X r'):SlR X (fun x lo hi H Q=>r x lo hi H Q\/r' x lo hi H Q):=by
 intro pins s σ H x v vl vu lo hi sl Q I rx hs pl pu q;rcases q with q | q
 ·exact h pins s σ H x v vl vu lo hi sl Q I rx hs pl pu q
 ·exact h' pins s σ H x v vl vu lo hi sl Q I rx hs pl pu q
def tSl (r:V->Option Int->Option Int->Hp->VK->Prop) (te:TE) (tl th:TO):TE:=fun σ H Q=>te σ H fun x H1=>tl σ H1 fun l H2=>th σ H2 fun u H3=>r x l u H3 Q
theorem pe_slice {r:V->Option Int->Option Int->Hp->VK->Prop} (hr:SlR X r) (he:PE X e te) (hl:PO X lo tl) (hu:PO X hi th):PE X (.Subscript e (.Slice lo hi none p2) pos) (tSl r te tl th):=by
 intro pins s σ H Q I h;refine Subscript_ (thn (he pins s σ H _ I h) fun v s1 ⟨x,H1,I1,r1,q1⟩=>?_);refine wpAny_Slice (thn (hl pins s1 σ H1 _ I1 q1) fun vl s2 ⟨l,H2,I2,pl,q2⟩=>thn (hu pins s2 σ H2 _ I2 q2) fun vu s3 ⟨u,H3,I3,pu,q3⟩=>?_);rw[evalPart_none];refine ae ?_;have I4:Inv X pins σ H3 { s3 with heap:=s3.heap.push { cls:=.type "slice",data:=.fields #[vl,vu,.none] } }:=I3.kept (t':=s3.toks) fun b ob q=>af _ q
 obtain⟨T,id,hT,ht,hg⟩:=hr pins { s3 with heap:=s3.heap.push { cls:=.type "slice",data:=.fields #[vl,vu,.none] } } σ H3 x v vl vu l u s3.heap.objs.size Q I4 r1 (aS.IsSliceOf.new ..) pl pu q3;show aw (aA X.prog X.w) X.A (subscriptTail e (.Slice lo hi none p2) v (.ref s3.heap.objs.size)) (EP X pins σ Q) X.xe { s3 with heap:=s3.heap.push { cls:=.type "slice",data:=.fields #[vl,vu,.none] } }
 exact tail_any (ops:=[.ref s3.heap.objs.size,v]) ht hT hg (by with_unfolding_all rfl)
def cutV (xs:List V) (lo hi:Option Int):List V:=(xs.drop (HT.sIx xs.length 0 lo)).take (HT.sIx xs.length xs.length hi - HT.sIx xs.length 0 lo)
theorem cutV_length (xs:List V) (lo hi:Option Int):(cutV xs lo hi).length<=xs.length:=by
 unfold cutV;rw[aP,bo];omega
def rSlT (K:av):V->Option Int->Option Int->Hp->VK->Prop:=fun x lo hi H Q=>∃ a xs,x=.ref a/\SqT K H a xs /\
 ¬ (HT.sIx xs.length 0 lo=0/\HT.sIx xs.length xs.length hi=xs.length)/\∀ p,H p=none->Q (.ref p) (upd H p (.tup (cutV xs lo hi)))
theorem sl_tup:SlR X (rSlT X.K):=by
 intro pins s σ H x v vl vu lo hi sl Q I rx hs pl pu h;obtain⟨a,xs,rfl,hx,hw,q⟩:=h;cases rx;obtain⟨its,r,ht,hz⟩:=I.tuple hx;have hlen:its.toArray.size=xs.length:=by rw[ak];exact r.length.symm
 refine⟨"tuple",_,cr.lookup,ht.typeIs,?_⟩;refine HT.getItem_tuple_cut ht hs pl pu (by rw[hlen];exact hw) ?_ (by rw[hlen];exact hz)
 rw[hlen];refine⟨.ref s.heap.objs.size,_,I.laid (t':=s.toks) (o:=.tup (cutV xs lo hi)) (fun b ob q=>af _ q) (aj _) ?_,rfl,q _ (I.hok.fresh (aj _))⟩;exact⟨bN (cutV_length xs lo hi) hz,_,(r.drop (HT.sIx xs.length 0 lo)).take (HT.sIx xs.length xs.length hi - HT.sIx xs.length 0 lo),iW.new _ _,nd_new⟩
def rCatT (K:av):R2:=fun x y H Q=>∃ a b xs ys,x=.ref a/\y=.ref b/\SqT K H a xs/\SqT K H b ys/\xs≠[]/\xs.length + ys.length<=sizeLine /\
 (ys=[]->Q (.ref a) H)/\(ys≠[]->∀ p,H p=none->Q (.ref p) (upd H p (.tup (xs++ys))))
theorem Vals.nil_iff {xs:List V} {us:List ad} (r:Vals xs us):us=[]↔xs=[]:=by
 cases r with
 | nil=>simp
 | cons _ _=>simp
theorem op_catT:OpR X (dM .Add) (rCatT X.K):=by
 intro pins s σ H x y v u Q I rx ry h;obtain⟨a,b,xs,ys,rfl,rfl,ha,hb,hx,hz,q1,q2⟩:=h;cases rx;cases ry;obtain⟨its,r1,p1,_⟩:=I.tuple ha;obtain⟨its2,r2,p2,_⟩:=I.tuple hb;refine HT.cat_tup p1 p2 (fun z=>hx (r1.nil_iff.mp z)) (fun z=>⟨.ref a,H,I,rfl,q1 (r2.nil_iff.mp z)⟩) (fun z=>?_) (by rw[<- r1.length,<- r2.length];exact hz)
 refine⟨.ref s.heap.objs.size,_,I.laid (t':=s.toks) (o:=.tup (xs++ys)) (fun b ob q=>af _ q) (aj _) ?_,rfl,q2 (fun w=>z (r2.nil_iff.mpr w)) _ (I.hok.fresh (aj _))⟩;exact⟨by rw[az];exact hz,_,r1.append r2,iW.new _ _,nd_new⟩
end
def ixN (n:Nat) (i:Int):Option Nat:=if 0<=i then (if i < n then some i.toNat else none) else if -(n:Int)<=i then some (i + n).toNat else none
def atI {α:Type} (xs:List α) (i:Int):Option α:=(ixN xs.length i).bind fun j=>xs[j]?
theorem ixN_seq {n:Nat} {i:Int} {j:Nat} (h:ixN n i=some j):seqIndex? i n=some j/\j < n/\-(n:Int)<=i/\i < n:=by
 unfold ixN at h
 by_cases h0:0<=i
 ·rw[if_pos h0] at h
  by_cases h1:i < n
  ·rw[if_pos h1] at h;have e:i.toNat=j:=aL h;exact⟨by rw[seqIndex_of h0 h1,e],by omega,by omega,h1⟩
  ·rw[if_neg h1] at h;cases h
 ·rw[if_neg h0] at h
  by_cases h1:-(n:Int)<=i
  ·rw[if_pos h1] at h;have e:(i + n).toNat=j:=aL h;exact⟨by rw[seqIndex_neg (by omega) h1,e],by omega,h1,by omega⟩
  ·rw[if_neg h1] at h;cases h
theorem atI_get {α:Type} {xs:List α} {i:Int} {v:α} (h:atI xs i=some v):∃ j,seqIndex? i xs.length=some j/\xs[j]?=some v/\j < xs.length/\-(xs.length:Int)<=i/\i < xs.length:=by
 unfold atI at h;cases e:ixN xs.length i with
 | none=>rw[e] at h;cases h
 | some j =>
  rw[e] at h;obtain⟨h1,h2,h3,h4⟩:=ixN_seq e;exact⟨j,h1,h,h2,h3,h4⟩
theorem atI_nat {α:Type} {xs:List α} {j:Nat} {v:α} (h:xs[j]?=some v):atI xs (j:Int)=some v:=by
 have hj:j < xs.length:=(aH.mp h).1;have e:ixN xs.length (j:Int)=some j:=by
  unfold ixN;rw[if_pos (by omega),if_pos (by omega)];simp
 unfold atI;rw[e];exact h
def PlainIx (b:Expr):Prop:=∀ o i,subscripted b false o i=operate [o,i] (ik o i)
def IxR (X:Cx) (r:R2):Prop :=
 ∀ (value slice:Expr) (pins:List (Addr × Obj)) (s:ah) (σ:St) (H:Hp) (x y:V) (v u:ad) (Q:VK),Inv X pins σ H s->RelV x v->RelV y u->r x y H Q ->
  subscripted slice false v u=operate [v,u] (ik v u)->aw (aA X.prog X.w) X.A (subscriptTail value slice v u) (EP X pins σ Q) X.xe s
def MtR (X:Cx) (id:String) (r:V->List V->Hp->VK->Prop):Prop :=
 ∀ (pins:List (Addr × Obj)) (s:ah) (σ:St) (H:Hp) (x:V) (xs:List V) (v:ad) (us:List ad) (Q:VK),Inv X pins σ H s->RelV x v->Vals xs us->r x xs H Q ->
  aw (aA X.prog X.w) X.A (call (.builtin id) (v::us)) (EP X pins σ Q) X.xe s
section
variable {X:Cx} {a b:Expr} {ta tb:TE} {pos:Pos}
theorem IxR.or {r r':R2} (h:IxR X r) (h':IxR X r'):IxR X (fun x y H Q=>r x y H Q\/r' x y H Q):=by
 intro value slice pins s σ H x y v u Q I rx ry q hs;rcases q with q | q
 ·exact h value slice pins s σ H x y v u Q I rx ry q hs
 ·exact h' value slice pins s σ H x y v u Q I rx ry q hs
theorem pe_ix {r:R2} (hr:IxR X r) (ha:PE X a ta) (hb:PE X b tb) (hs:PlainIx b):PE X (.Subscript a b pos) (tOp r ta tb):=by
 intro pins s σ H Q I h;exact Subscript_ (binT ha hb I h fun v u s2 x y H2 I2 rx ry q=>hr a b pins s2 σ H2 x y v u Q I2 rx ry q (hs _ _))
def rIxL (K:av):R2:=fun x y H Q=>∃ p xs i v,x=.ref p/\y=.int i/\SqL K H p xs/\atI xs i=some v/\Q v H
def rIxT (K:av):R2:=fun x y H Q=>∃ p xs i v,x=.ref p/\y=.int i/\SqT K H p xs/\atI xs i=some v/\Q v H
def rIxS:R2:=fun x y H Q=>∃ z i c,x=.str z/\y=.int i/\z.length<=sizeLine/\atI z.cps.toList i=some c/\Q (.str ⟨#[c]⟩) H
theorem ix_list:IxR X (rIxL X.K):=by
 intro value slice pins s σ H x y v u Q I rx ry h hs;obtain⟨p,xs,i,z,rfl,rfl,hq,he,q⟩:=h;cases rx;obtain⟨t,rfl⟩:=ry;obtain⟨its,r,pl,hz⟩:=I.list hq;obtain⟨j,h1,h2,h3,h4,h5⟩:=atI_get he;obtain⟨w,ew,rw'⟩:=r.get h2;have hl:=r.length;have hn:=line63;have fin:EP X pins σ Q w s:=⟨z,H,I,rw',q⟩
 by_cases h0:0<=i
 ·have hj:i.toNat=j:=by
   rw[seqIndex_of h0 h5] at h1;exact aL h1
  exact item_listR pl.isList h0 (by omega) (by rw[hj];simpa using ew) fin hs
 ·have hj:(i + (its.toArray.size:Int)).toNat=j:=by
   rw[seqIndex_neg (by omega) h4] at h1
   rw[ak,<- hl];exact aL h1
  exact subscriptTail_builtinR (x:=w) pl.isList.typeIs slot_list_getitem.lookup
   (wpAny_getItem_list_neg (Q:=fun r s'=>r=w/\EP X pins σ Q r s') pl.isList (by omega) (by rw[ak] <;> omega) (by omega) (by rw[hj];simpa using ew) ⟨rfl,fin⟩) hs
theorem ix_tup:IxR X (rIxT X.K):=by
 intro value slice pins s σ H x y v u Q I rx ry h hs;obtain⟨p,xs,i,z,rfl,rfl,hq,he,q⟩:=h;cases rx;obtain⟨t,rfl⟩:=ry;obtain⟨its,r,pl,hz⟩:=I.tuple hq;obtain⟨j,h1,h2,h3,h4,h5⟩:=atI_get he;obtain⟨w,ew,rw'⟩:=r.get h2;have hl:=r.length;have hn:=line63;have fin:EP X pins σ Q w s:=⟨z,H,I,rw',q⟩;exact subscriptTail_builtinR (x:=w) pl.typeIs slot_tuple_getitem.lookup
  (getItem_tuple (j:=j) (Q:=fun r s'=>r=w/\EP X pins σ Q r s') pl (by omega) (by omega) (by rw[ak,<- hl];exact h1) (by simpa using ew) ⟨rfl,fin⟩) hs
theorem ix_str:IxR X rIxS:=by
 intro value slice pins s σ H x y v u Q I rx ry h hs;obtain⟨z,i,c,rfl,rfl,hz,he,q⟩:=h;obtain⟨t,rfl⟩:=rx;obtain⟨t',rfl⟩:=ry;obtain⟨j,h1,h2,h3,h4,h5⟩:=atI_get he;have hl:z.cps.toList.length=z.length:=by simp[Str.length]
 rw[hl] at h1 h4 h5;have hn:=line63;exact tail_any (typeIs_str s z t) slot_str_getitem.lookup (getItem_str (c:=c) (by
  have e1:decide (i < -(2 ^ 63:Int))=false:=decide_eq_false (by omega)
  have e2:decide (i >= 2 ^ 63)=false:=decide_eq_false (by omega)
  rw[e1,e2,Bool.or_false]) (by rw[h1];simpa using h2) ⟨.str ⟨#[c]⟩,H,I.tok _,⟨_,rfl⟩,q⟩) hs
def rIx (K:av):R2:=fun x y H Q=>rIxL K x y H Q\/rIxT K x y H Q\/rIxS x y H Q
theorem ix_seq:IxR X (rIx X.K):=ix_list.or (ix_tup.or ix_str)
theorem mapSeq_set (its:List ad) (n j:Nat) (u:ad):aV (·.setIfInBounds j u) { cls:=.type "list",data:=.seq its.toArray n }={ cls:=.type "list",data:=.seq (its.set j u).toArray n }:=by
 simp[aV]
theorem Inv.lst {pins:List (Addr × Obj)} {σ:St} {H:Hp} {s:ah} {p:Addr} {xs:List V} (I:Inv X pins σ H s) (h:H p=some (.lst xs)) :
  ∃ (its:List ad) (n:Nat),Vals xs its/\s.heap.get? p=some { cls:=.type "list",data:=.seq its.toArray n }/\xs.length<=sizeLine:=by
 obtain⟨z,its,n,r,e⟩:=I.hok p _ h;exact⟨its,n,r,e,z⟩
theorem Inv.lstUpd {pins:List (Addr × Obj)} {σ:St} {H:Hp} {s:ah} {p:Addr} {xs ys:List V} {its its':List ad} {n n':Nat} {f:Obj->Obj} (I:Inv X pins σ H s) (h:H p=some (.lst xs))
  (ho:s.heap.get? p=some { cls:=.type "list",data:=.seq its.toArray n }) (hf:f { cls:=.type "list",data:=.seq its.toArray n }={ cls:=.type "list",data:=.seq its'.toArray n' }) (r:Vals ys its') (hz:ys.length<=sizeLine) (t:Nat) :
  Inv X pins σ (upd H p (.lst ys)) { s with heap:=s.heap.update p f,toks:=t }:=by
 have e:(s.heap.update p f).get? p=some { cls:=.type "list",data:=.seq its'.toArray n' }:=by
  rw[bD f ho (by rw[hf] <;> rfl),hf]
 refine I.write (x:=p) (e:=p) (by rw[h];trivial) (.inl rfl) (fun b u hb q=>(cC _ _ (bW hb)).trans q) ⟨_,e⟩ ?_
 exact⟨hz,its',n',r,e⟩
def rSetL:V->V->V->Hp->(Hp->Prop)->Prop:=fun o i v H Q=>∃ p xs k j,o=.ref p/\i=.int k/\H p=some (.lst xs)/\ixN xs.length k=some j/\Q (upd H p (.lst (xs.set j v)))
theorem set_list:PSet X rSetL:=by
 intro pins s σ H o i v ov iv u Q I ro ri rv h;obtain⟨p,xs,k,j,rfl,rfl,hp,hj,q⟩:=h;cases ro;obtain⟨t,rfl⟩:=ri;obtain⟨its,n,r,ho,hz⟩:=I.lst hp;obtain⟨h1,h2,h3,h4⟩:=ixN_seq hj;have hl:=r.length;have hn:=line63;have I':Inv X pins σ (upd H p (.lst (xs.set j v))) { s with heap:=s.heap.update p (aV (·.setIfInBounds j u)) } :=
  I.lstUpd hp ho (mapSeq_set its n j u) (r.set rv j) (by rw[List.length_set];exact hz) s.toks
 by_cases h0:0<=k
 ·have hk:k.toNat=j:=by
   rw[seqIndex_of h0 h4] at h1;exact aL h1
  exact PySem.W.ki_setAt ho h0 (by omega) (by rw[ak,<- hl];exact h4) (by rw[hk];exact⟨_,I',q⟩)
 ·have hk:(k + (its.toArray.size:Int)).toNat=j:=by
   rw[seqIndex_neg (by omega) h3] at h1
   rw[ak,<- hl];exact aL h1
  exact PySem.W.ki_setBack ho (by omega) (by rw[ak,<- hl];exact h3) (by omega) (by rw[hk];exact⟨_,I',q⟩)
theorem slice_bounds (lo hi:Option Int) (n:Nat):(fk lo hi none n).1=((HT.sIx n 0 lo:Nat):Int)/\(fk lo hi none n).2.1=((HT.sIx n n hi:Nat):Int)/\(fk lo hi none n).2.2=1:=by
 refine⟨?_,?_,rfl⟩
 ·cases lo with
  | none=>simp[fk,HT.sIx]
  | some i =>
   simp only[fk,HT.sIx,jE,show(1:Int) > 0 by decide,if_true]
   by_cases h:i < 0
   ·simp only[h,if_true] <;> omega
   ·simp only[h,if_false] <;> omega
 ·cases hi with
  | none=>simp[fk,HT.sIx]
  | some i =>
   simp only[fk,HT.sIx,jE,show(1:Int) > 0 by decide,if_true]
   by_cases h:i < 0
   ·simp only[h,if_true] <;> omega
   ·simp only[h,if_false] <;> omega
theorem slicePick_cut (its:List ad) (lo hi:Option Int):slicePick its.toArray lo hi none=((its.drop (HT.sIx its.length 0 lo)).take (HT.sIx its.length its.length hi - HT.sIx its.length 0 lo)).toArray:=by
 obtain⟨h1,h2,h3⟩:=slice_bounds lo hi its.toArray.size;unfold slicePick;rw[h1,h2,h3];simp only[sliceRange_one,pick_run,ak] <;> rfl
def rSlL (K:av):V->Option Int->Option Int->Hp->VK->Prop:=fun x lo hi H Q=>∃ a xs,x=.ref a/\SqL K H a xs/\∀ p,H p=none->Q (.ref p) (upd H p (.lst (cutV xs lo hi)))
theorem sl_list:SlR X (rSlL X.K):=by
 intro pins s σ H x v vl vu lo hi sl Q I rx hs pl pu h;obtain⟨a,xs,rfl,hx,q⟩:=h;cases rx;obtain⟨its,r,ht,hz⟩:=I.list hx;have hlen:=r.length;refine⟨"list",_,slot_list_getitem.lookup,ht.isList.typeIs,?_⟩;refine wpAny_getItem_list_slice ht.isList hs pl pu .none (by simp) ?_ (by rw[ak] <;> omega)
 rw[slicePick_cut,<- hlen];refine⟨.ref s.heap.objs.size,_,I.laid (t':=s.toks) (o:=.lst (cutV xs lo hi)) (fun b ob q=>af _ q) (aj _) ?_,rfl,q _ (I.hok.fresh (aj _))⟩;exact⟨bN (cutV_length xs lo hi) hz,_,0,(r.drop (HT.sIx xs.length 0 lo)).take (HT.sIx xs.length xs.length hi - HT.sIx xs.length 0 lo),ao _ rfl⟩
theorem CallR.or {f:ad} {r r':List V->Hp->VK->Prop} (h:CallR X f r) (h':CallR X f r'):CallR X f (fun xs H Q=>r xs H Q\/r' xs H Q):=by
 intro pins s σ H xs us Q I rs q;rcases q with q | q
 ·exact h pins s σ H xs us Q I rs q
 ·exact h' pins s σ H xs us Q I rs q
theorem call_list_of:CallR X (.type "list") (fun xs H Q=>∃ p ys,xs=[.ref p]/\(SqL X.K H p ys\/SqT X.K H p ys)/\∀ l,H l=none->Q (.ref l) (upd H l (.lst ys))):=by
 intro pins s σ H xs us Q I r h;obtain⟨p,ys,rfl,hq,q⟩:=h;obtain⟨u,rfl,rx⟩:=vals1 r;cases rx;have fin:∀ (its:List ad),Vals ys its->ys.length<=sizeLine->∀ (h':aS) (c':Nat),(∀ b o',s.heap.get? b=some o'->h'.get? b=some o') ->
   h'.get? s.heap.objs.size=some { cls:=.type "list",dict:=none,data:=.seq its.toArray c',slots:=#[] }->EP X pins σ Q (.ref s.heap.objs.size) { s with heap:=h' }:=fun its r' hz h' c' kp e =>
  ⟨.ref s.heap.objs.size,_,I.laid (t':=s.toks) kp (aj _) (show ObjOk X.prog X.w _ h' _ (.lst ys) from⟨hz,its,c',r',e⟩),rfl,q _ (I.hok.fresh (aj _))⟩
 rcases hq with hq | hq
 ·obtain⟨its,r',pl,hz⟩:=I.list hq;have hlen:=r'.length;obtain⟨o,ho,hc,n,hd⟩:=pl.isList;exact call_list_seq p (.inl rfl) ho hc hd (fun h' c' kp e=>fin its r' hz h' c' kp e) (by simp only[ak] <;> omega)
 ·obtain⟨its,r',pl,hz⟩:=I.tuple hq;have hlen:=r'.length;obtain⟨o,ho,hc,n,hd⟩:=pl;exact call_list_seq p (.inr rfl) ho hc hd (fun h' c' kp e=>fin its r' hz h' c' kp e) (by simp only[ak] <;> omega)
theorem call_tuple_of:CallR X (.type "tuple") (fun xs H Q=>∃ p ys,xs=[.ref p]/\((SqL X.K H p ys/\∀ l,H l=none->Q (.ref l) (upd H l (.tup ys)))\/(SqT X.K H p ys/\Q (.ref p) H))):=by
 intro pins s σ H xs us Q I r h;obtain⟨p,ys,rfl,h⟩:=h;obtain⟨u,rfl,rx⟩:=vals1 r;cases rx;rcases h with⟨hq,q⟩ | ⟨hq,q⟩
 ·obtain⟨its,r',pl,hz⟩:=I.list hq;have hlen:=r'.length;refine call_tuple_list pl.isList (fun h' kp=>?_) (by simp only[ak] <;> omega)
  have I1:Inv X pins σ H { s with heap:=h' }:=I.kept (t':=s.toks) kp
  have I2:Inv X pins σ (upd H h'.objs.size (.tup ys)) { s with heap:=h'.push { cls:=.type "tuple",data:=.seq its.toArray } } :=
   I1.laid (t':=s.toks) (fun b o e=>af _ e) (aj _) (show ObjOk X.prog X.w _ _ _ (.tup ys) from⟨hz,its,r',iW.new _ _,nd_new⟩)
  exact⟨.ref h'.objs.size,_,I2,rfl,q _ (I1.hok.fresh (aj _))⟩
 ·obtain⟨its,r',pl,hz⟩:=I.tuple hq;exact call_tuple_same pl ⟨.ref p,H,I,rfl,q⟩
def tyV (K:av) (T:String) (x:V) (H:Hp):Prop:=match x with
 | .str _=>T = "str"
 | .int _=>T = "int"
 | .ref p=>(T = "list"/\∃ xs,SqL K H p xs)\/(T = "tuple"/\∃ o,K.lookup p=some o/\o.cls=.type "tuple"/\o.dict=none) \/
   (T = "dict"/\((∃ kvs,H p=some (.dK kvs))\/∃ kvs,H p=some (.dT kvs)))\/(T = "set"/\∃ S n,H p=some (.set S n))
 | _=>False
theorem tyV_is {pins:List (Addr × Obj)} {σ:St} {H:Hp} {s:ah} {T:String} {x:V} {v:ad} (I:Inv X pins σ H s) (r:RelV x v) (ty:tyV X.K T x H) :
  s.TypeIs v T/\∀ a,v=.ref a->∃ ob,s.heap.get? a=some ob/\ob.dict=none:=by
 cases x with
 | str z =>
  obtain⟨t,rfl⟩:=r;cases (show T = "str" from ty)
  exact⟨typeIs_str s z t,fun _ e=>nomatch e⟩
 | int i =>
  obtain⟨t,rfl⟩:=r;cases (show T = "int" from ty)
  exact⟨typeIs_int s i t,fun _ e=>nomatch e⟩
 | ref p =>
  cases r;rcases ty with⟨rfl,xs,hq⟩ | ⟨rfl,o,hk,hc,hd⟩ | ⟨rfl,hk⟩ | ⟨rfl,S,n,hk⟩
  ·obtain⟨its,_,pl,_⟩:=I.list hq;refine⟨pl.isList.typeIs,fun a e=>?_⟩;cases e;obtain⟨o,n,e,c,hd,_⟩:=pl;exact⟨o,e,hd⟩
  ·refine⟨⟨o,I.kIn p o hk,hc⟩,fun a e=>?_⟩;cases e;exact⟨o,I.kIn _ o hk,hd⟩
  ·have z:∃ o,s.heap.get? p=some o/\o.ExactDict:=by
    rcases hk with⟨kvs,hk⟩ | ⟨kvs,hk⟩
    ·obtain⟨_,_,_,_,o,_,_,e,ex,_⟩:=I.hok p _ hk;exact⟨o,e,ex⟩
    ·obtain⟨_,_,_,_,o,_,_,e,ex,_⟩:=I.hok p _ hk;exact⟨o,e,ex⟩
   obtain⟨o,e,ex⟩:=z;refine⟨⟨o,e,ex.1⟩,fun a e2=>?_⟩;cases e2;exact⟨o,e,ex.2.1⟩
  ·obtain⟨o,_,_,_,e,ex,_⟩:=I.hok p _ hk;refine⟨⟨o,e,ex.1⟩,fun a e2=>?_⟩;cases e2;exact⟨o,e,ex.2.1⟩
 | _=>exact dX ty
def tBM (K:av) (T:String) (r:V->List V->Hp->VK->Prop) (to:TE) (t:TA):TE:=fun σ H Q=>to σ H fun x H1=>tyV K T x H1/\t σ H1 fun xs H2=>r x xs H2 Q
variable {o e:Expr} {es:List Expr} {to:TE} {t:TA} {name:Str} {apos cpos:Pos} {T id:String} {r:V->List V->Hp->VK->Prop}
theorem pe_bm (pa:PlainAttrs T) (slot:Slot T name id) (hty:typeOf (.builtin id)=pure (.type "method_descriptor")) (hm:MtR X id r) (ho:PE X o to) (ha:PA X (e::es) t)
  (hbase:fZ o name X.env (eval o X.env)=eval o X.env:=by rfl)
  (hfew:((cy cpos (am (e::es) X.env)).all (fun x=>!x.1) && (kl cpos (iu [] X.env)).all (fun x=>x.1.isSome)
   && decide ((e::es).length + ([]:List gK).length + (if ([]:List gK).isEmpty then 0 else 1) < 30))=true:=by rfl)
  (hline:(apos.endLine == cpos.line)=true:=by rfl) (hs:am (e::es) X.env=(false,eval e X.env)::am es X.env:=by rfl) (hplain:(cy cpos (am es X.env)).any (·.1)=false:=by rfl) :
  PE X (.Call (.Attribute o name apos) (e::es) [] cpos) (tBM X.K T r to t):=by
 intro pins s σ H Q I h;refine wpAny_Call_method_late hbase hfew hline rfl (thn (ho pins s σ H _ I h) fun v s1 ⟨x,H1,I1,r1,ty,q1⟩=>?_);obtain⟨h1,h2⟩:=tyV_is I1 r1 ty;refine⟨T,id,pa,slot,hty,h1,h2,?_⟩;have hA:=ha cpos pins s1 σ H1 _ I1 q1;rw[hs] at hA ⊢;refine Calls.callWith_builtin (by show(false || (cy cpos (am es X.env)).any (·.1))=false;rw[hplain] <;> rfl) (Calls.evalArgs_plain ?_)
 exact thn hA fun us s2 ⟨vs,H2,I2,r2,q2⟩=>hm pins s2 σ H2 x vs v us Q I2 r1 r2 q2
end
def MtM (X:Cx) (id:String) (r:V->List V->Hp->VK->Prop):Prop :=
 ∀ (pins:List (Addr × Obj)) (s:ah) (σ:St) (H:Hp) (x:V) (xs:List V) (v:ad) (us:List ad) (Q:VK),Inv X pins σ H s->RelV x v->Vals xs us->r x xs H Q ->
  aw (aA X.prog X.w) X.A (call (.builtin id) (v::us)) (EP X pins σ Q) X.xe s
theorem Vals.one:∀ {x:V} {us:List ad},Vals [x] us->∃ u,us=[u]/\RelV x u:=by
 intro x us h;cases h with
 | cons r t=>cases t;exact⟨_,rfl,r⟩
theorem Vals.eraseIdx:∀ {xs:List V} {us:List ad} (i:Nat),Vals xs us->Vals (xs.eraseIdx i) (us.eraseIdx i)
 | _,_,_,.nil=>.nil
 | _,_,0,.cons _ t=>t
 | _,_,i + 1,.cons r t=>.cons r (Vals.eraseIdx i t)
theorem Vals.rep {xs:List V} {us:List ad} (h:Vals xs us):∀ k:Nat,Vals (aQ k xs).flatten (aQ k us).flatten
 | 0=>.nil
 | k + 1=>by
  rw[cW,cW,eR,eR];exact Vals.append h (Vals.rep h k)
theorem len_erase {α:Type}:∀ (l:List α) (i:Nat),(l.eraseIdx i).length<=l.length
 | [],_=>aj _
 | _::_,0=>db _
 | _::r,i + 1=>Nat.succ_le_succ (len_erase r i)
theorem foldl_rep (its:List ad):∀ (k:Nat) (acc:List ad),
  List.foldl (fun x1 x2=>x1++x2) acc.toArray (aQ k its.toArray)=(acc++(aQ k its).flatten).toArray
 | 0,acc=>by simp
 | k + 1,acc=>by
  have e:acc.toArray++its.toArray=(acc++its).toArray:=by simp
  have e2:(acc++its)++(aQ k its).flatten=acc++(aQ (k + 1) its).flatten:=by
   rw[cW,eR,dj]
  rw[<- e2,<- foldl_rep its k (acc++its),<- e,cW,kd]
section
variable {X:Cx} {pins:List (Addr × Obj)} {σ:St} {H:Hp} {s:ah} {l b:Addr} {xs ys zs:List V}
theorem Inv.lset {its its':List ad} {n:Nat} {f:Array ad->Array ad} {t':Nat} (I:Inv X pins σ H s) (hH:H l=some (.lst xs))
  (e:s.heap.get? l=some { cls:=.type "list",data:=.seq its.toArray n }) (hf:f its.toArray=its'.toArray) (hv:Vals ys its') (hz:ys.length<=sizeLine) :
  Inv X pins σ (upd H l (.lst ys)) { s with heap:=s.heap.update l (aV f),toks:=t' }:=by
 have q:=PySem.IsL.update e f;rw[hf] at q;refine I.write (x:=l) (e:=l) (by rw[hH];exact trivial) (.inl rfl) (fun b' u hb hu=>(cC s.heap (aV f) (bW hb)).trans hu) ⟨_,q⟩ ?_
 exact⟨hz,its',_,hv,q⟩
theorem Inv.lnew {its:List ad} {t':Nat} (I:Inv X pins σ H s) (hv:Vals ys its) (hz:ys.length<=sizeLine) :
  Inv X pins σ (upd H s.heap.objs.size (.lst ys)) { s with heap:=s.heap.push { cls:=.type "list",data:=.seq its.toArray },toks:=t' } :=
 I.laid (fun _ _ q=>af _ q) (aj _) ⟨hz,its,0,hv,ao _ rfl⟩
theorem Inv.fresh (I:Inv X pins σ H s):H s.heap.objs.size=none:=I.hok.fresh (aj _)
theorem Inv.lstM (I:Inv X pins σ H s) (hH:H l=some (.lst xs)):xs.length<=sizeLine/\∃ (its:List ad) (n:Nat),Vals xs its/\xs.length=its.length/\s.heap.get? l=some { cls:=.type "list",data:=.seq its.toArray n }:=by
 obtain⟨z,its,n,r,e⟩:=I.hok l _ hH;exact⟨z,its,n,r,r.length,e⟩
theorem notLongL {n:Nat} (h:n<=sizeLine):eV n=false:=by
 unfold eV;exact decide_eq_false (by omega)
end
section
variable {X:Cx}
def rAppend:V->List V->Hp->VK->Prop:=fun x vs H Q=>∃ l xs y,x=.ref l/\vs=[y]/\H l=some (.lst xs)/\xs.length < sizeLine/\Q .non (upd H l (.lst (xs++[y])))
theorem mt_append:MtM X "list.append" rAppend:=by
 intro pins s σ H x vs v us Q I rx rv h;obtain⟨l,xs,y,rfl,rfl,hH,hz,q⟩:=h;cases rx;obtain⟨u,rfl,ru⟩:=rv.one;obtain⟨z,its,n,r,hl,e⟩:=I.lstM hH;refine gz F.slot_list_append ⟨_,e,rfl⟩ F.entry_list_append (F.args_list_append_2 _ _) (PySem.list_append l its.toArray n u (by rw[ak];omega)) ⟨e,?_⟩
 refine⟨.non,_,I.lset (its':=its++[u]) hH e (by simp) (r.append (.cons ru .nil)) ?_,rfl,q⟩
 rw[az,eG];omega
def rExtend:V->List V->Hp->VK->Prop:=fun x vs H Q=>∃ l b xs zs,x=.ref l/\vs=[.ref b]/\H l=some (.lst xs)/\H b=some (.lst zs)/\xs.length + zs.length<=sizeLine/\Q .non (upd H l (.lst (xs++zs)))
theorem mt_extend:MtM X "list.extend" rExtend:=by
 intro pins s σ H x vs v us Q I rx rv h;obtain⟨l,b,xs,zs,rfl,rfl,hH,hB,hz,q⟩:=h;cases rx;obtain⟨u,rfl,ru⟩:=rv.one;cases ru;obtain⟨z,its,n,r,hl,e⟩:=I.lstM hH;obtain⟨z2,its2,n2,r2,hl2,e2⟩:=I.lstM hB;have hsz:its.toArray.size + its2.toArray.size<=sizeLine:=by rw[ak,ak];omega
 have hlong:¬ (!its.toArray.isEmpty && eV (its.toArray.size + its2.toArray.size))=true:=by
  rw[notLongL hsz,Bool.and_false];exact bR
 refine gz F.slot_list_extend ⟨_,e,rfl⟩ F.entry_list_extend (F.args_list_extend_2 _ _)
  (AutoSeq1.list_extend_list_list_0 l its.toArray n b its2.toArray n2 hlong (by rw[ak];omega) (by omega)) ⟨e,e2,?_⟩
 refine⟨.non,_,I.lset (its':=its++its2) hH e (by simp) (r.append r2) ?_,rfl,q⟩
 rw[az];omega
def rPopAt:V->List V->Hp->VK->Prop:=fun x vs H Q=>∃ l xs i k y,x=.ref l/\vs=[.int i]/\H l=some (.lst xs)/\-(2 ^ 63)<=i/\i < 2 ^ 63/\seqIndex? i xs.length=some k/\xs[k]?=some y/\Q y (upd H l (.lst (xs.eraseIdx k)))
theorem mt_popAt:MtM X "list.pop" rPopAt:=by
 intro pins s σ H x vs v us Q I rx rv h;obtain⟨l,xs,i,k,y,rfl,rfl,hH,h1,h2,hk,hy,q⟩:=h;cases rx;obtain⟨u,rfl,ru⟩:=rv.one;obtain⟨t,rfl⟩:=ru;obtain⟨z,its,n,r,hl,e⟩:=I.lstM hH;obtain⟨w,hw,rw'⟩:=r.get hy;refine gz F.slot_list_pop ⟨_,e,rfl⟩ F.entry_list_pop (F.args_list_pop_2 _ _)
  (MeetsSeq.list_pop_at l its.toArray n i t k w (fitsIndex_both h1 h2) (by rw[ak,<- hl];exact hk) (by rw[<- bu];exact hw) (by rw[ak];omega)) ⟨e,?_⟩
 refine⟨y,_,I.lset (its':=its.eraseIdx k) hH e ?_ (r.eraseIdx k) ?_,rw',q⟩
 ·show its.toArray.eraseIdxIfInBounds k=(its.eraseIdx k).toArray;rw[List.eraseIdxIfInBounds_toArray]
 ·have:=len_erase xs k
  omega
def rRep:R2:=fun x y H Q=>∃ l k xs,x=.ref l/\y=.int k/\H l=some (.lst xs)/\-(2 ^ 63)<=k/\k < 2 ^ 63/\xs.length * k.toNat<=sizeLine /\
 ∀ p,H p=none->Q (.ref p) (upd H p (.lst (aQ k.toNat xs).flatten))
theorem len_rep {α:Type} (xs:List α) (k:Nat):(aQ k xs).flatten.length=k * xs.length:=by
 induction k with
 | zero=>simp
 | succ k ih=>rw[cW,eR,az,ih,Nat.succ_mul,Nat.add_comm]
theorem op_rep:OpR X (dM .Mult) rRep:=by
 intro pins s σ H x y v u Q I rx ry h;obtain⟨l,k,xs,rfl,rfl,hH,h1,h2,hz,q⟩:=h;cases rx;obtain⟨t,rfl⟩:=ry;obtain⟨z,its,n,r,hl,e⟩:=I.lstM hH;have hlen:its.toArray.size * k.toNat<=sizeLine:=by rw[ak,<- hl];exact hz
 have hcap:¬ its.toArray.size * k.toNat > (2 ^ 63 - 1) / 8:=by
  have:(sizeLine:Nat)<=(2 ^ 63 - 1) / 8:=by decide
  omega
 have hfit:¬ (!Builtin.List.listFitsIndex k)=true:=by
  rw[fitsIndex_both h1 h2];exact bR
 have hlong:¬ eV (its.toArray.size * k.toNat)=true:=by
  rw[notLongL hlen];exact bR
 have hnew:List.foldl (fun x1 x2=>x1++x2) #[] (aQ (if its.toArray.isEmpty=true then 0 else k.toNat) its.toArray)=(aQ k.toNat its).flatten.toArray:=by
  have f0:∀ m:Nat,List.foldl (fun x1 x2=>x1++x2) #[] (aQ m its.toArray)=(aQ m its).flatten.toArray:=fun m=>by
   have:=foldl_rep its m []
   rw[cO] at this;exact this
  rw[f0];cases its with
  | nil=>simp
  | cons a r'=>rw[if_neg (by simp)]
 refine wpAny_binaryOp_repeat_ref (T := "list") (U := "int") (by decide) ⟨_,e,rfl⟩ (fun s'=>typeIs_int s' k t) noFill_list_mul F.fills_int_mul F.slot_int_rmul repeat_list F.slot_int_index.lookup
  (gz F.slot_int_rmul (typeIs_int s k t) F.entry_int_rmul (F.args_int_rmul_2 _ _) (int___rmul___int_list k t l its.toArray n)
   ⟨e,rfl,⟨_,e,rfl⟩,gz F.slot_list_mul ⟨_,e,rfl⟩ F.entry_list_mul (F.args_list_mul_2 _ _) (AutoListH.list___mul___list_int_3 l its.toArray n k t hfit hcap hlong) ⟨e,?_⟩⟩)
 rw[hnew];exact⟨.ref _,_,I.lnew (t':=s.toks) (r.rep k.toNat) (by rw[len_rep,Nat.mul_comm];exact hz),rfl,q _ I.fresh⟩
end
section
variable {prog:aB} {w:aN} {A:aO} {E:ad->ah->Prop} {s:ah}
set_option maxRecDepth 100000 in
end
end L2
namespace Att
open PySem PySem.W PySem.Calls PyProof.Rows
theorem ints_of_wellAll {P:Params} {h:aS}:∀ (ns:List Int) (vs:List ad),WellAll P h vs (ns.map WData.int)->jY vs ns:=by
 intro ns
 induction ns with
 | nil =>
  intro vs w;rw[fq] at w;cases w;exact .nil
 | cons n ns ih =>
  intro vs w;rw[bm] at w;cases w with
  | cons a b =>
   cases a;exact .cons _ _ (ih _ b)
theorem script_of {l:OpenLaw} {n:Nat} (hn:l.most=some n) {P:Params} {h:aS} {args:List WData} {vals:List ad}
  (hpre:l.row.toRowW.claim.pre args=true) (hwl:WellAll P h vals args) :
  ∃ a vs ns,vals=[cA a]/\args=[WData.list (ns.map WData.int)]/\h.get? a=some { cls:=.type "list",data:=.seq vs.toArray }/\jY vs ns/\ns.length<=n:=by
 have hsh:WShape.hasAll [] args [.list .int]=true:=(pre_splitW hpre).1;have hc:l.pre.holds [] { args:=args }=true:=(pre_splitW hpre).2;obtain⟨d,r,rfl,h1,h2⟩:=hasAllW_cons hsh;obtain rfl:=hasAllW_nil h2;obtain⟨xs,rfl,h3⟩:=hasW_list h1;obtain⟨ns,rfl⟩:=items_int h3;have hlen:ns.length<=n:=by
  unfold OpenLaw.pre at hc;have h4:(WTm.not (.lt (.lit (.int (n:Int))) (.len (.arg 0)))).holds [] { args:=[.list (ns.map .int)] }=true:=by
   have h4:=(holds_andW hc).1;rw[hn] at h4;exact h4
  have h5:=condW_of h4 (w_not (w_lt w_lit (w_len_list (w_arg rfl))));rw[ag] at h5;refine Nat.le_of_not_lt fun q=>?_;have q':(n:Int) < ((ns.length:Nat):Int):=by omega
  first
   | (rw[decide_eq_true q'] at h5;exact absurd h5 (by decide))
   | (simp at h5;omega)
 cases hwl with
 | cons w1 w2 =>
  cases w2;cases w1 with
  | list ho hall=>exact⟨_,_,ns,rfl,rfl,ho,ints_of_wellAll ns _ hall,hlen⟩
theorem post_true (l:OpenLaw) (args:List WData):l.row.toRowW.claim.post args (.bool true) args=true :=
 postW_of (r:=l.row.toRowW) (X:=(true == true))
  (show WShape.has [] (.bool true) .bool=true by first | rfl | decide | simp[WShape.has,WShape.arms,WShape.armsAll])
  (show(WTm.eq .res (.lit (.bool true))).value [] { args:=args,res:=some (.bool true),after:=args }=some (.bool (true == true)) from w_eq_bool (w_res rfl) w_lit) rfl
end Att
namespace L2
open PySem PySem.Spec PyProof.Rows
theorem vals_ints:∀ {vs:List ad} {ns:List Int},jY vs ns->Vals (ns.map V.int) vs
 | _,_,.nil=>.nil
 | _,_,.cons n t h=>.cons ⟨t,rfl⟩ (vals_ints h)
def Only (H:Hp):Prop:=∀ b,H b=none\/∃ o xs,H b=some (.frz o (.lst xs))
theorem law_call {P:aB} {w:aN} {K:av} {mg mb:Str->Option ad} {CX:CXT} {k:Nat} {fa a:Addr} {fd:dN} {x:Str} {sp:Sp} {s₁:ah} {vs:List ad} {ns:List Int}
  (KX:K.In s₁.heap) (hns:s₁.heap.Ns aX mg) (hb:s₁.heap.Ns builtinsNs mb) (hbb:∀ x:Str,x ≠ "__name__"->mb x=cu x) (hlim:s₁.heap.NoLimit) (hg:s₁.gens=#[])
  (ha:s₁.heap.get? a=some { cls:=.type "list",data:=.seq vs.toArray }) (hi:jY vs ns) (hl:ns.length<=sizeLine) (hr:Room k callerA)
  (F:∀ base:aS,K.In base->base.Ns aX mg->FnOk P w K mg base CX k fa fd [x] sp) (hbind:∀ (s:ah) (u:ad),BindsTo s fd ⟨[u],[]⟩ [(x,u)])
  (hsp:∀ H:Hp,Only H->SqL K H a (ns.map V.int)->sp [.ref a] H (fun v _=>v=.bl true) fun _ _ _=>False)
  (hCX:∀ H e s',CX [] H s₁ (fun _ _ _=>False) e s'->False) :
  ij (aA P w) callerA (.call (.ref fa) ⟨[.ref a],[]⟩) (fun r s'=>r=.ok (.ret (.bool true))/\OldK s₁.heap s'.heap/\s'.os=s₁.os/\jo s'.gens) s₁:=by
 have rv:=vals_ints hi;have lenV:=hi.length;have core:∀ H:Hp,Only H->SqL K H a (ns.map V.int)->HOk P w H s₁.heap->(∀ b,H b≠none->b=a)->(H a≠none->K.lookup a=none) ->
   ij (aA P w) callerA (.call (.ref fa) ⟨[.ref a],[]⟩) (fun r s'=>r=.ok (.ret (.bool true))/\OldK s₁.heap s'.heap/\s'.os=s₁.os/\jo s'.gens) s₁:=by
  intro H hO hS hok hA hK;have base_of:∀ {b:Addr} {o:Obj},s₁.heap.get? b=some o->H b=none->(hidT s₁.heap H).get? b=some o:=fun e n=>hidT_get e n;have noA:∀ {b:Addr} {o:Obj} {es:Array DictEntry} {ep:Nat},s₁.heap.get? b=some o->o.data=.dict es ep->H b=none:=fun {b o es ep} e d=>by
   cases q:H b with
   | none=>rfl
   | some u =>
    have e':b=a:=hA b (by rw[q];simp)
    subst e';rw[ha] at e;cases e;have d':Data.seq vs.toArray _=Data.dict es ep:=d;cases d'
  have nsK:∀ {b:Addr} {m:Str->Option ad},s₁.heap.Ns b m->(hidT s₁.heap H).Ns b m:=fun {b m} ⟨o,es,ep,e,d,r⟩=>⟨o,es,ep,base_of e (noA e d),d,r⟩;have hKb:K.In (hidT s₁.heap H):=fun b o e=>base_of (KX b o e) (by
   cases q:H b with
   | none=>rfl
   | some u =>
    have e':b=a:=hA b (by rw[q];simp)
    subst e';rw[hK (by rw[q];simp)] at e;cases e)
  have hM:Mod K mg (hidT s₁.heap H):=⟨hKb,nsK hns,⟨mb,nsK hb,hbb⟩,let ⟨mc,h1,h2⟩:=hlim;⟨mc,nsK h1,h2⟩⟩
  have e0:Env0 P w K mg (hidT s₁.heap H) callerA [] s₁ H:=⟨rfl,hM,fun b o e=>of_hidT e,Nat.le_of_eq (hidT_size _ _),trivial,fun b hb=>absurd (show b∈([]:List Addr) from hb) (by simp),hok,.of_eq hg⟩
  refine fO ((F _ hKb (nsK hns)).run callerA [] s₁ H ⟨[.ref a],[]⟩ [.ref a] [.ref a] _ _ hr e0 (hbind s₁ (.ref a)) (.cons rfl .nil) (hsp H hO hS)) fun r s' h=>?_;cases r with
  | error e=>exact(hCX H e s' h).elim
  | ok fl =>
   cases fl with
   | next=>exact dX h
   | brk=>exact dX h
   | cont=>exact dX h
   | ret u =>
    obtain⟨v,H',os,bare,un,hok',r',q⟩:=h;have q':v=.bl true:=q;subst q';obtain rfl:u=fG true:=r';refine⟨rfl,OldK.of_keep fun b o e=>?_,os,bare⟩;cases q:H b with
    | none=>exact un.keep b o e q (by intro z;exact absurd (show b∈([]:List Addr) from z) (by simp)) (by simp)
    | some u =>
     rcases hO b with z | ⟨ob,xs,z⟩
     ·rw[q] at z;cases z
     ·have z2:=un.frzs b ob _ z;obtain⟨e1,_⟩:=hok b _ z;obtain⟨e2,_⟩:=hok' b _ z2;rw[e] at e1;cases e1;exact e2
 cases hk:K.lookup a with
 | some o =>
  have e:=KX a o hk;rw[ha] at e;cases e;refine core (fun _=>none) (fun _=>.inl rfl) (.inr ⟨_,vs.toArray,_,hk,rfl,rfl,rfl,by rw[ak,lenV];exact hl,by simpa using rv⟩) (fun b u z=>by have z':(none:Option HO)=some u:=z;cases z') (fun b z=>absurd rfl z) fun z=>absurd rfl z
 | none =>
  refine core (fun b=>if b=a then some (.frz { cls:=.type "list",data:=.seq vs.toArray } (.lst (ns.map V.int))) else none) (fun b=>?_) (.inl (.inr ⟨{ cls:=.type "list",data:=.seq vs.toArray },if_pos rfl⟩)) (fun b u z=>?_) (fun b z=>?_) fun _=>hk
  ·by_cases hb:b=a
   ·exact .inr ⟨_,_,if_pos hb⟩
   ·exact .inl (if_neg hb)
  ·by_cases hb:b=a
   ·have z':=(if_pos hb).symm.trans z;cases z';subst hb;exact⟨ha,by rw[ag];exact hl,vs,_,rv,ha⟩
   ·have z':=(if_neg hb).symm.trans z;cases z'
  ·by_cases hb:b=a
   ·exact hb
   ·exact absurd (if_neg hb) z
abbrev KOf {K:av} {h:aS} (_:K.In h):av:=K
def defArgs (s:Stmt):Arguments:=match s with
 | .FunctionDef _ a _ _ _ _ _ _ _ _=>a
 | _=>{ posonlyargs:=[],args:=[],vararg:=none,kwonlyargs:=[],kw_defaults:=[],kwarg:=none,defaults:=[] }
def defBody (s:Stmt):List Stmt:=match s with
 | .FunctionDef _ _ b _ _ _ _ _ _ _=>b
 | _=>[]
def defScope (s:Stmt):Scope:=match s with
 | .FunctionDef _ _ _ _ _ _ sc _ _ _=>sc
 | _=>{ kind:=.function,names:=[],isGenerator:=false,isCoroutine:=false }
abbrev CX0:CXT:=fun _ _ _ _ _ _=>False
abbrev E0:XK:=fun _ _ _=>False
theorem pass0 {X:Cx}:Passes CX0 X E0:=fun _ _ _ _ _ _ _ h=>h.elim
structure Fun (K:av) (x qual:Str) (st:Stmt) (f:Addr) (fd:dN):Prop where
 ex:∃ (oc:ad) (od:Option Addr) (kV doc pm:ad) (an:Option Addr) (cdv ct:ad) (osl:Array (Option ad)),
  fd=eP x qual (defArgs st) (defBody st) (defScope st) .none kV doc pm an cdv ct/\K.lookup f=some ⟨oc,od,.func fd,osl⟩/\gI K cdv qual=true
 kp:fI K (.ref f)=true
section
variable {P:aB} {w:aN} {K:av} {mg:Str->Option ad} {base:aS}
theorem Fun.ok {x qual:Str} {st:Stmt} {f:Addr} {fd:dN} {N ps:List Str} {k:Nat} {sp:Sp} (F:Fun K x qual st f fd) (S:FnScope N ps (defScope st)) (len:∀ vs H Q E,sp vs H Q E->vs.length=ps.length)
  (hbody:∀ (cdv:ad) (A:aO) (outer:List Env) (s:ah) (H:Hp) (vs:List V) (Q:VK) (E:XK),Room k (A.deeper (ju qual (defScope st) s.heap.objs.size f cdv))->sp vs H Q E ->
   ∃ t,PSs (cxOf CX0 P w K mg base N qual (defScope st) f cdv A outer s H E).nox (defBody st) t/\t { nx:=fun _ H'=>Q .non H',rt:=Q } (start N vs) H):FnOk P w K mg base CX0 (k + 1) f fd ps sp:=by
 obtain⟨oc,od,kV,doc,pm,an,cdv,ct,osl,rfl,lk,hcd⟩:=F.ex;refine fn_of lk hcd S len fun A outer s H vs Q E hr hsp=>?_;obtain⟨t,h,q⟩:=hbody cdv A outer s H vs Q E hr hsp;exact⟨t,h.nox,q⟩
theorem Fun.binds {x qual:Str} {st:Stmt} {f:Addr} {fd:dN} {ps:List Str} (F:Fun K x qual st f fd)
  (h:∀ (kV doc pm:ad) (an:Option Addr) (cdv ct:ad) (us:List ad),us.length=ps.length->bindArgs (eP x qual (defArgs st) (defBody st) (defScope st) .none kV doc pm an cdv ct) ⟨us,[]⟩=pure (ps.zip us)):Binds K fd ps []:=by
 obtain⟨oc,od,kV,doc,pm,an,cdv,ct,osl,rfl,lk,hcd⟩:=F.ex;exact .all (h kV doc pm an cdv ct)
theorem fun_mk {x qual:Str} {st:Stmt} {f:Addr} {oc:ad} {od an:Option Addr} {osl:Array (Option ad)} {kV doc pm cdv ct:ad} (l:K.lookup f=some ⟨oc,od,.func (eP x qual (defArgs st) (defBody st) (defScope st) .none kV doc pm an cdv ct),osl⟩)
  (c:gI K cdv qual=true) (k:fI K (.ref f)=true):Fun K x qual st f (eP x qual (defArgs st) (defBody st) (defScope st) .none kV doc pm an cdv ct):=⟨⟨oc,od,kV,doc,pm,an,cdv,ct,osl,rfl,l,c⟩,k⟩
end
theorem iteF {A B:Prop} (h:B):if false=true then A else B:=by
 rw[if_neg bR];exact h
theorem iteT {A B:Prop} (h:A):if true=true then A else B:=by
 rw[if_pos rfl];exact h
theorem ite2 {c A B:Prop} [Decidable c] (h1:c->A) (h2:¬ c->B):if c then A else B:=by
 by_cases h:c
 ·rw[if_pos h];exact h1 h
 ·rw[if_neg h];exact h2 h
def Same (H H':Hp):Prop:=∀ b o,H b=some o->H' b=some o
end L2
set_option maxHeartbeats 4000000
namespace L2
open PySem PySem.Spec PyProof.Rows
theorem closure_of (env:Env):∀ (names:List (Str × ft)) (acc:List (Str × Addr)),(∀ x,(x,aU)∈names->∃ c,env.cells.lookup x=some c)->(∀ x c,acc.lookup x=some c->env.cells.lookup x=some c) ->
  ∃ cl,(forIn names acc fun(y:Str × ft) (cs:List (Str × Addr))=>(if (y.2 == aU)=true then do let a <- cellOf env y.1;pure (ce ((y.1,a)::cs)) else pure (ce cs):Sem (ForInStep (List (Str × Addr)))))=pure cl /\
   (∀ x c,cl.lookup x=some c->env.cells.lookup x=some c)/\(∀ x,((x,aU)∈names\/(acc.lookup x).isSome=true)->(cl.lookup x).isSome=true)
 | [],acc,_,ha=>⟨acc,by rfl,ha,fun x h=>by
   rcases h with h | h
   ·cases h
   ·exact h⟩
 | (n,k)::rest,acc,hn,ha=>by
  by_cases hk:(k == aU)=true
  ·have hk':k=aU:=by cases k <;> first | rfl | cases hk
   subst hk';obtain⟨c,hc⟩:=hn n ar;obtain⟨cl,e,h1,h2⟩:=closure_of env rest ((n,c)::acc) (fun x hx=>hn x (au _ hx)) (fun x d hx=>by
    simp only[cS] at hx
    by_cases hxn:(x == n)=true
    ·rw[hxn] at hx;cases hx;rw[gE hxn];exact hc
    ·rw[eS.mpr hxn] at hx;exact ha x d hx)
   refine⟨cl,?_,h1,fun x hx=>h2 x ?_⟩
   ·rw[dy];have ec:cellOf env n=pure c:=by unfold cellOf;rw[hc]
    simp only[hk,if_true,ec,pure_bind];exact e
   ·rcases hx with hx | hx
    ·rcases ax.mp hx with hx | hx
     ·cases hx;right;simp
     ·exact .inl hx
    ·right
     simp only[cS];cases x == n <;> simp[hx]
  ·obtain⟨cl,e,h1,h2⟩:=closure_of env rest acc (fun x hx=>hn x (au _ hx)) ha;refine⟨cl,?_,h1,fun x hx=>h2 x ?_⟩
   ·rw[dy];simp only[hk,if_false,pure_bind,aE];exact e
   ·rcases hx with hx | hx
    ·rcases ax.mp hx with hx | hx
     ·cases hx;exact absurd rfl hk
     ·exact .inl hx
    ·exact .inr hx
inductive Cap (N:List Str) (sc:Scope):List Str->List (Option Nat)->Prop
 | nil:Cap N sc [] []
 | own {x xs is}:Cap N sc xs is->Cap N sc (x::xs) (none::is)
 | cap {x xs is i}:N[i]?=some x->(x,aU)∈sc.names->Cap N sc xs is->Cap N sc (x::xs) (some i::is)
theorem Cap.length {N:List Str} {sc:Scope} {xs:List Str} {is:List (Option Nat)} (c:Cap N sc xs is):xs.length=is.length:=by
 induction c with
 | nil=>rfl
 | own _ ih=>simp[ih]
 | cap _ _ _ ih=>simp[ih]
theorem Cap.get {N:List Str} {sc:Scope} {xs:List Str} {is:List (Option Nat)} (c:Cap N sc xs is):∀ {j i:Nat} {x:Str},xs[j]?=some x->is[j]?=some (some i)->N[i]?=some x/\(x,aU)∈sc.names:=by
 induction c with
 | nil=>intro j i x h;simp at h
 | own _ ih =>
  intro j i x h1 h2;cases j with
  | zero=>simp at h2
  | succ j=>exact ih (by simpa using h1) (by simpa using h2)
 | cap hN hf _ ih =>
  intro j i x h1 h2;cases j with
  | zero=>simp at h1 h2;subst h1;subst h2;exact⟨hN,hf⟩
  | succ j=>exact ih (by simpa using h1) (by simpa using h2)
def capt (is:List (Option Nat)) (σ:St):St:=is.map fun o=>o.bind fun i=>(σ[i]?).join
theorem relabel_free {sc:Scope} {env:Env}:∀ {names:List (Str × ft)} {x:Str},(names.lookup x=some .cell\/names.lookup x=some .free)->((names.map fun(n,k)=>if (k == aU && env.scope.kind == .function && env.kindOf n == some .cell) then (n,io) else (n,k)).lookup x=some .cell\/(names.map fun(n,k)=>if (k == aU && env.scope.kind == .function && env.kindOf n == some .cell) then (n,io) else (n,k)).lookup x=some .free)
 | [],x,h=>by simp at h
 | (n,k)::r,x,h=>by
  simp only[bm]
  by_cases hc:(k == aU && env.scope.kind == .function && env.kindOf n == some .cell)=true
  ·rw[if_pos hc];simp only[cS] at h ⊢;cases hx:x == n with
   | true=>exact .inl rfl
   | false=>rw[hx] at h;exact relabel_free (sc:=sc) h
  ·rw[if_neg hc];simp only[cS] at h ⊢;cases hx:x == n with
   | true=>rw[hx] at h;exact h
   | false=>rw[hx] at h;exact relabel_free (sc:=sc) h
theorem of_relabel {sc:Scope} {env:Env}:∀ {names:List (Str × ft)} {x:Str},((names.map fun(n,k)=>if (k == aU && env.scope.kind == .function && env.kindOf n == some .cell) then (n,io) else (n,k)).lookup x=some .cell\/(names.map fun(n,k)=>if (k == aU && env.scope.kind == .function && env.kindOf n == some .cell) then (n,io) else (n,k)).lookup x=some .free)->names.lookup x=some .cell\/names.lookup x=some .free
 | [],x,h=>by simp at h
 | (n,k)::r,x,h=>by
  simp only[bm] at h
  by_cases hc:(k == aU && env.scope.kind == .function && env.kindOf n == some .cell)=true
  ·rw[if_pos hc] at h;simp only[cS] at h ⊢;cases hx:x == n with
   | true =>
    right
    have:k == aU:=by
     simp only[aK] at hc;exact hc.1.1
    cases k <;> first | rfl | cases this
   | false=>rw[hx] at h;exact of_relabel (sc:=sc) h
  ·rw[if_neg hc] at h;simp only[cS] at h ⊢;cases hx:x == n with
   | true=>rw[hx] at h;exact h
   | false=>rw[hx] at h;exact of_relabel (sc:=sc) h
theorem mem_of_lk {α β:Type} [BEq α] [LawfulBEq α]:∀ {l:List (α × β)} {x:α} {k:β},l.lookup x=some k->(x,k)∈l
 | (n,k')::r,x,k,h=>by
  simp only[cS] at h;cases hx:x == n with
  | true=>rw[hx] at h;cases h;rw[gE hx];exact ar
  | false=>rw[hx] at h;exact au _ (mem_of_lk h)
def PTs (X:Cx) (ifs:List Expr) (t:TT):Prop :=
 ∀ (pins:List (Addr × Obj)) (s:ah) (σ:St) (H:Hp) (Q:Bool->Hp->Prop),Inv X pins σ H s->t σ H Q ->
  aw (aA X.prog X.w) X.A (forIn ifs true fun c r=>if r=true then do let ok <- isTrue c X.env (eval c X.env);pure (ce ok) else pure (ce r)) (TP X pins σ Q) X.xe s
def tYes:TT:=fun _ H Q=>Q true H
theorem pts_nil {X:Cx}:PTs X [] tYes:=fun pins s σ H Q I h=>wpAny_tests_nil ⟨H,I,h⟩
theorem pts_one {X:Cx} {c:Expr} {t:TT} (h:PT X c t):PTs X [c] t:=fun pins s σ H Q I q=>wpAny_tests_one (h pins s σ H Q I q)
def Wk (σ0 σ2:St):Prop:=σ2.length=σ0.length/\∀ (j:Nat) v,σ0[j]?=some (some v)->σ2[j]?=some (some v)
def okV (names outer:List (Str × ft)):Bool:=names.all fun y=>match y.2 with
 | .free=>match outer.lookup y.1 with
  | some .cell=>true
  | some .free=>true
  | _=>false
 | _=>true
theorem okV_ok {names:List (Str × ft)} {sc:Scope} (h:okV names sc.names=true):∀ y∈names,y.2=.free->Vis sc y.1/\sc.names.lookup y.1≠some .local:=fun y hy hf=>by
 have:=bq.mp h y hy
 rw[hf] at this;unfold Vis;cases q:sc.names.lookup y.1 with
 | none=>rw[q] at this;cases this
 | some k=>rw[q] at this;cases k <;> first | (simp;done) | cases this
structure Bs (mg:Str->Option ad):Prop where
 len:mg "len" = none
 range:mg "range" = none
 sorted:mg "sorted" = none
 tuple:mg "tuple" = none
 list:mg "list" = none
 set:mg "set" = none
 sum:mg "sum" = none
 min:mg "min" = none
 max:mg "max" = none
 all:mg "all" = none
 any:mg "any" = none
 isinstance:mg "isinstance" = none
 int:mg "int" = none
 str:mg "str" = none
 bool:mg "bool" = none
 zip:mg "zip" = none
 enumerate:mg "enumerate" = none
theorem bt_len:cu "len" = some (.builtin "len"):=by decide +kernel
theorem bt_sorted:cu "sorted" = some (.builtin "sorted"):=by decide +kernel
theorem bt_max:cu "max" = some (.builtin "max"):=by decide +kernel
theorem bt_all:cu "all" = some (.builtin "all"):=by decide +kernel
theorem bt_any:cu "any" = some (.builtin "any"):=by decide +kernel
theorem bt_tuple:cu "tuple" = some (.type "tuple"):=by decide +kernel
theorem bt_list:cu "list" = some (.type "list"):=by decide +kernel
theorem bt_set:cu "set" = some (.type "set"):=by decide +kernel
theorem bt_int:cu "int" = some (.type "int"):=by decide +kernel
structure Df (P:aB) (w:aN) (K:av) (mg:Str->Option ad) (base:aS) (k:Nat) (x:Str) (ps:List Str) (sp:Sp):Prop where
 ex:∃ (f:Addr) (fd:dN),FnOk P w K mg base CX0 k f fd ps sp/\Binds K fd ps []/\fI K (.ref f)=true/\mg x=some (.ref f)
theorem Df.mono {P:aB} {w:aN} {K:av} {mg:Str->Option ad} {base:aS} {j k:Nat} {x:Str} {ps:List Str} {sp:Sp} (D:Df P w K mg base j x ps sp) (h:j<=k):Df P w K mg base k x ps sp:=by
 obtain⟨f,fd,a,b,c,d⟩:=D.ex;exact⟨f,fd,a.mono h,b,c,d⟩
theorem pe_callD {X:Cx} {k:Nat} {x:Str} {ps:List Str} {sp:Sp} {p pos:Pos} {e:Expr} {es:List Expr} {t:TA} (D:Df X.prog X.w X.K X.mg X.base k x ps sp) (hr:Room k X.A) (hg:Gl X x) (ha:PA X (e::es) t)
  (hdb:(x == ("__debug__" : Str))=false:=by decide) (he:am (e::es) X.env=(false,eval e X.env)::am es X.env:=by rfl) (hpl:(cy pos (am es X.env)).any (·.1)=false:=by rfl) :
  PE X (.Call (.Name x p) (e::es) [] pos) (tCall sp [] E0 t):=by
 obtain⟨f,fd,F,hb,hk,hm⟩:=D.ex;exact pe_call F hr hg hm hk hb .nil pass0 ha hdb he hpl
structure Tx (K:av) (mg:Str->Option ad) (x:Str) (st:Stmt):Prop where
 ex:∃ (f:Addr) (fd:dN),Fun K x x st f fd/\mg x=some (.ref f)
theorem Tx.df {P:aB} {w:aN} {K:av} {mg:Str->Option ad} {base:aS} {k:Nat} {x:Str} {st:Stmt} {ps:List Str} {sp:Sp} (T:Tx K mg x st)
  (b:∀ {f:Addr} {fd:dN},Fun K x x st f fd->Binds K fd ps []) (h:∀ {f:Addr} {fd:dN},Fun K x x st f fd->FnOk P w K mg base CX0 k f fd ps sp):Df P w K mg base k x ps sp:=by
 obtain⟨f,fd,F,m⟩:=T.ex;exact⟨f,fd,h F,b F,F.kp,m⟩
theorem tx_mk {K:av} {h:aS} {mg:Str->Option ad} {x:Str} {st:Stmt} {f:Addr} {od an:Option Addr} {sl:Array (Option ad)} {oc kV dc pm cd ct:ad} (X:K.In h) (G:h.Ns aX mg)
  (a:bI K aX x=some (some (.ref f))) (l:K.lookup f=some ⟨oc,od,.func (eP x x (defArgs st) (defBody st) (defScope st) .none kV dc pm an cd ct),sl⟩) (c:gI K cd x=true) (k:fI K (.ref f)=true):Tx K mg x st :=
 ⟨f,_,fun_mk (st:=st) l c k,kC X G a⟩
theorem bs_mk {K:av} {h:aS} {mg:Str->Option ad} (X:K.In h) (G:h.Ns aX mg) (a:∀ x∈(["len", "range", "sorted", "tuple", "list", "set", "sum", "min", "max", "all", "any", "isinstance", "int", "str", "bool", "zip", "enumerate"]:List Str),bI K aX x=some none):Bs mg:=by
 have q:∀ x∈(["len", "range", "sorted", "tuple", "list", "set", "sum", "min", "max", "all", "any", "isinstance", "int", "str", "bool", "zip", "enumerate"]:List Str),mg x=none:=fun x hx=>iZ X G (a x hx);constructor <;> exact q _ (by decide +kernel)
theorem bs_all {K:av} (z1:bI K aX "len" = some none) (z2:bI K aX "range" = some none) (z3:bI K aX "sorted" = some none) (z4:bI K aX "tuple" = some none) (z5:bI K aX "list" = some none) (z6:bI K aX "set" = some none)
  (z7:bI K aX "sum" = some none) (z8:bI K aX "min" = some none) (z9:bI K aX "max" = some none) (z10:bI K aX "all" = some none) (z11:bI K aX "any" = some none) (z12:bI K aX "isinstance" = some none)
  (z13:bI K aX "int" = some none) (z14:bI K aX "str" = some none) (z15:bI K aX "bool" = some none) (z16:bI K aX "zip" = some none) (z17:bI K aX "enumerate" = some none) :
  ∀ x∈(["len", "range", "sorted", "tuple", "list", "set", "sum", "min", "max", "all", "any", "isinstance", "int", "str", "bool", "zip", "enumerate"]:List Str),bI K aX x=some none:=fun x hx=>by
 simp only[ax,hZ,or_false] at hx;rcases hx with rfl | rfl | rfl | rfl | rfl | rfl | rfl | rfl | rfl | rfl | rfl | rfl | rfl | rfl | rfl | rfl | rfl <;> assumption
end L2
set_option maxHeartbeats 1000000
namespace L2
open PySem PySem.Spec PyProof.Rows
def testsOf (ifs:List Expr) (env:Env):Sem Bool:=forIn ifs true fun c r=>if r=true then do let ok <- isTrue c env (eval c env);pure (ce ok) else pure (ce r)
def turnOf (target:Expr) (ifs:List Expr) (at0:Pos) (m:Sem Unit) (c:Code) (it:ad) (env:Env):Sem Fin :=
 standAt at0 >>= fun _=>e6 it >>= fun r=>match r with
  | none=>pure (.done .next)
  | some v=>iB target it v >>= fun _=>assign target env v >>= fun _=>testsOf ifs env >>= fun ok=>if ok=true then m >>= fun _=>again c else again c
def emitOf (elt:Expr) (acc:ad) (env:Env):Sem Unit:=eval elt env >>= fun x=>call (.builtin "list.append") [acc,x] >>= fun _=>pure ()
theorem turn_one (elt target iter:Expr) (ifs:List Expr) (scope:Scope) (pos:Pos) (it acc:ad) (env:Env) :
  i4 (.ListComp elt [⟨target,iter,ifs,0⟩] scope pos) 0 it acc env=turnOf target ifs iter.pos (emitOf elt acc env) (.compLoop (.ListComp elt [⟨target,iter,ifs,0⟩] scope pos) 0 it acc env) it env:=by
 rw[compTurn_list];unfold turnOf testsOf emitOf;refine congrArg _ (funext fun _=>congrArg _ (funext fun r=>?_));cases r with
 | none=>rfl
 | some v =>
  refine congrArg _ (funext fun _=>congrArg _ (funext fun _=>congrArg _ (funext fun ok=>?_)));cases ok <;> rfl
abbrev TB:=St->Hp->(Hp->Prop)->Prop
def PB (X:Cx) (m:Sem Unit) (t:TB):Prop :=
 ∀ (pins:List (Addr × Obj)) (s:ah) (σ:St) (H:Hp) (N:Hp->Prop),Inv X pins σ H s->t σ H N ->
  aw (aA X.prog X.w) X.A m (fun _ s'=>∃ σ' H',Inv X pins σ' H' s'/\Wk σ σ'/\N H') (fun _ _=>False) s
def tEmit (D:Addr) (te:TE):TB:=fun σ H N=>te σ H fun y H4=>∃ zs,H4 D=some (.lst zs)/\zs.length < sizeLine/\N (upd H4 D (.lst (zs++[y])))
def LoopW (J:It) (σ0:St) (g:TG) (tt:TT) (tb:TB) (Q:Hp->Prop) (H:Hp):Prop :=
 ∃ W:Nat->Nat->Hp->Prop,(∃ m,W 0 m H)/\∀ i m H,W i m H ->
  (J.stop i H/\Q H)\/(J.go i H/\∃ N:Hp->Prop,(∀ H',N H'->∃ m',m' < m/\W (i + 1) m' H') /\
   ∀ x H',J.yld i H x H'->g x σ0 H' fun σ2 H2=>Wk σ0 σ2/\tt σ2 H2 fun b H3=>if b=true then tb σ2 H3 N else N H3)
def tComp2 (is:List (Option Nat)) (wi:TI) (g:TG) (tt:TT) (tb:Addr->TB):TE:=fun σ H Q=>wi σ H fun J H1=>∀ D,H1 D=none->LoopW J (capt is σ) g tt (tb D) (Q (.ref D)) (upd H1 D (.lst []))
theorem Wk.refl (σ:St):Wk σ σ:=⟨rfl,fun _ _ h=>h⟩
theorem Wk.trans {a b c:St} (h:Wk a b) (k:Wk b c):Wk a c:=⟨k.1.trans h.1,fun j v e=>k.2 j v (h.2 j v e)⟩
theorem wk_of {σ:St} {i:Nat} {v:V} (h:σ[i]?=some none):Wk σ (σ.set i (some v)):=by
 refine⟨List.length_set,fun j u e=>?_⟩
 by_cases hj:j=i
 ·subst hj;rw[h] at e;cases e
 ·rw[fH (bW hj)];exact e
section
variable {X:Cx}
theorem pb_emit {elt:Expr} {te:TE} {D:Addr} (hxe:X.xe=fun _ _=>False) (he:PE X elt te):PB X (emitOf elt (.ref D) X.env) (tEmit D te):=by
 intro pins s σ H N I h;unfold emitOf;have h1:=he pins s σ H _ I h;rw[hxe] at h1;refine aa (thn h1 fun y s1 ⟨v,H1,I1,r1,zs,hz,hlt,n⟩=>aa ?_);have h2:=mt_append pins s1 σ H1 (.ref D) [v] (.ref D) [y] (fun u Hx=>u=.non/\N Hx) I1 rfl (.cons r1 .nil) ⟨D,zs,v,rfl,rfl,hz,hlt,rfl,n⟩;rw[hxe] at h2;exact thn h2 fun _ s2 ⟨u,H2,I2,_,_,n2⟩=>ae ⟨σ,H2,I2,Wk.refl σ,n2⟩
theorem loop_run {e target:Expr} {ifs:List Expr} {at0:Pos} {d:Nat} {acc:ad} {it:Addr} {m:Sem Unit} {g:TG} {tt:TT} {tb:TB} {J:It} {fp:List Addr} {tn:Nat->aS->Prop} {Q:Hp->Prop} {R:Result->ah->Prop} {pins:List (Addr × Obj)} {s:ah} {σ:St} {H:Hp}
  (hcalm:X.calm=true) (hxe:X.xe=fun _ _=>False) (hturn:i4 e d (.ref it) acc X.env=turnOf target ifs at0 m (.compLoop e d (.ref it) acc X.env) (.ref it) X.env)
  (hfr:(kD e d (.ref it) acc X.env).isFrame=false) (hA:X.A.under (kD e d (.ref it) acc X.env)=X.A)
  (T:Turn X.prog X.w X.K target J fp it tn) (hg:PG X target g) (ht:PTs X ifs tt) (hb:PB X m tb)
  (I:Inv X pins σ H s) (st:tn 0 s.heap) (f:∀ b∈fp,FpOk X pins H b) (h:LoopW J σ g tt tb Q H)
  (fin:∀ H' s',Inv X pins σ H' s'->(∀ b∈fp,FpOk X pins H' b)->Q H'->R (.ok .next) s') :
  ij (aA X.prog X.w) X.A (.compLoop e d (.ref it) acc X.env) R s:=by
 obtain⟨W,⟨m0,w0⟩,turn⟩:=h;have stat:∀ {H':Hp},(∀ b∈fp,H' b=none)->∀ b∈fp,FpOk X pins H' b:=fun hn b hb=>⟨hn b hb,(f b hb).2⟩;refine codeAny_loop rfl (fun n s'=>∃ i H',Inv X pins σ H' s'/\tn i s'.heap/\(∀ b∈fp,H' b=none)/\W i n H') ?_ m0 ⟨0,H,I,st,fun b hb=>(f b hb).1,w0⟩;rintro n s3 ⟨i,H3,I3,st3,fr3,w3⟩;have eden:(aA X.prog X.w).den (.compLoop e d (.ref it) acc X.env)=(i4 e d (.ref it) acc X.env).onRaise (fun x=>do noteFrame x X.env;theTreesLotGoes x):=by
  show(if (kD e d (.ref it) acc X.env).isFrame=true then _ else _)=_
  rw[hfr];rfl
 rw[eden,hturn,hA];refine wpAny_noted ?_;unfold turnOf;refine aa (wpAny_standAt ?_);rcases turn i n H3 w3 with⟨stop,qn⟩ | ⟨go,N,hN,step⟩
 ·refine aa (thn (T.done X rfl rfl rfl hcalm i pins s3 σ H3 _ I3 (stat fr3) st3 stop) fun r s4 ⟨hr,I4⟩=>?_);subst hr;exact ae (fin H3 s4 I4 (stat fr3) qn)
 ·refine aa (thn (T.item X rfl rfl rfl hcalm i pins s3 σ H3 _ I3 (stat fr3) st3 go) fun r s4 ⟨u,hr,h4⟩=>?_);subst hr;refine aa (thn h4 fun _ s5 ⟨x,H5,I5,r5,y5,st5,fr5⟩=>?_);have I5':=I5.pinned (stat fr5) (T.obj _ _ st5);have q5:=hg _ s5 σ H5 x u _ I5' r5 (step x H5 y5);rw[hxe] at q5;refine aa (cH q5 (fun _ s6 ⟨σ6,H6,I6,wk6,q6⟩=>?_) fun _ _ z=>z.elim);have q7:=ht _ s6 σ6 H6 _ I6 q6;rw[hxe] at q7;refine aa (cH q7 (fun ok s7 ⟨H7,I7,q7⟩=>?_) fun _ _ z=>z.elim);have again':∀ {σ8:St} {H8:Hp} {s8:ah},Inv X (pins++pinsAt fp s5.heap) σ8 H8 s8->Wk σ σ8->N H8->∃ m,m < n/\∃ i H',Inv X pins σ H' s8/\tn i s8.heap/\(∀ b∈fp,H' b=none)/\W i m H':=fun {σ8 H8 s8} I8 wk n8=>by
   obtain⟨m',hm,w8⟩:=hN H8 n8;refine⟨m',hm,i + 1,H8,I8.unpinned.weak wk.1.symm wk.2,T.keep _ _ _ st5 fun b hb o e=>(I8.pin (b,o) (bt _ (bt _ (mem_pinsAt hb e)))).1,fun b hb=>?_,w8⟩;obtain⟨o,e,_⟩:=T.obj _ _ st5 b hb;exact(I8.pin (b,o) (bt _ (bt _ (mem_pinsAt hb e)))).2.1
  cases ok with
  | false=>exact ae ⟨rfl,again' I7 wk6 q7⟩
  | true =>
   refine aa (cH (hb _ s7 σ6 H7 N I7 q7) (fun _ s8 ⟨σ8,H8,I8,wk8,n8⟩=>?_) fun _ _ z=>z.elim);exact ae ⟨rfl,again' I8 (wk6.trans wk8) n8⟩
end
theorem closure_fr (env:Env):∀ (names:List (Str × ft)) (acc:List (Str × Addr)),(∀ x,(x,aU)∈names->∃ c,env.cells.lookup x=some c) ->
  ∃ cl,(forIn names acc fun(y:Str × ft) (cs:List (Str × Addr))=>(if (y.2 == aU)=true then do let a <- cellOf env y.1;pure (ce ((y.1,a)::cs)) else pure (ce cs):Sem (ForInStep (List (Str × Addr)))))=pure cl /\
   (∀ x c,cl.lookup x=some c->(x,aU)∈names\/acc.lookup x=some c)
 | [],acc,_=>⟨acc,by rfl,fun _ _ h=>.inr h⟩
 | (n,k)::rest,acc,hn=>by
  by_cases hk:(k == aU)=true
  ·have hk':k=aU:=by cases k <;> first | rfl | cases hk
   subst hk';obtain⟨c,hc⟩:=hn n ar;obtain⟨cl,e,h1⟩:=closure_fr env rest ((n,c)::acc) (fun x hx=>hn x (au _ hx));refine⟨cl,?_,fun x d hx=>?_⟩
   ·rw[dy];have ec:cellOf env n=pure c:=by unfold cellOf;rw[hc]
    simp only[hk,if_true,ec,pure_bind];exact e
   ·rcases h1 x d hx with z | z
    ·exact .inl (au _ z)
    ·simp only[cS] at z;cases hxn:x == n with
     | true=>rw[gE hxn];exact .inl ar
     | false=>rw[hxn] at z;exact .inr z
  ·obtain⟨cl,e,h1⟩:=closure_fr env rest acc (fun x hx=>hn x (au _ hx));refine⟨cl,?_,fun x d hx=>?_⟩
   ·rw[dy];simp only[hk,if_false,pure_bind,aE];exact e
   ·rcases h1 x d hx with z | z
    ·exact .inl (au _ z)
    ·exact .inr z
theorem closureFor_of' {env:Env} {scope:Scope} (hn:∀ x,(x,aU)∈scope.names->∃ c,env.cells.lookup x=some c) :
  ∃ cl,closureFor scope env=pure cl/\(∀ x c,cl.lookup x=some c->env.cells.lookup x=some c)/\(∀ x,(x,aU)∈scope.names->(cl.lookup x).isSome=true)/\∀ x c,cl.lookup x=some c->(x,aU)∈scope.names:=by
 obtain⟨cl,e,h1,h2⟩:=closure_of env scope.names [] hn (fun x c h=>by cases h)
 obtain⟨cl',e',h3⟩:=closure_fr env scope.names [] hn;have ee:cl=cl':=by
  have:=e.symm.trans e'
  injection this
 subst ee;refine⟨cl,?_,h1,fun x hx=>h2 x (.inl hx),fun x c hx=>(h3 x c hx).elim id fun z=>by cases z⟩
 have q:closureFor scope env=(forIn scope.names ([]:List (Str × Addr)) fun(y:Str × ft) (cs:List (Str × Addr))=>(if (y.2 == aU)=true then do let a <- cellOf env y.1;pure (ce ((y.1,a)::cs)) else pure (ce cs):Sem (ForInStep (List (Str × Addr))))):=by
  unfold closureFor;exact bind_pure _
 rw[q,e]
def ocl (oc:Option Str) (c:Addr) (cl:List (Str × Addr)):List (Str × Addr):=match oc with
 | none=>cl
 | some x=>(x,c)::cl
def ohp (oc:Option Str) (h:aS):aS:=match oc with
 | none=>h
 | some _=>h.push { cls:=.type "cell",data:=.cell none }
theorem ocl_lk {oc:Option Str} {c d:Addr} {cl:List (Str × Addr)} {x:Str} (h:(ocl oc c cl).lookup x=some d):(oc=some x/\d=c)\/cl.lookup x=some d:=by
 cases oc with
 | none=>exact .inr h
 | some z =>
  unfold ocl at h;simp only[cS] at h;cases hx:x == z with
  | true=>rw[hx] at h;cases h;rw[gE hx];exact .inl ⟨rfl,rfl⟩
  | false=>rw[hx] at h;exact .inr h
theorem ocl_some {oc:Option Str} {c:Addr} {cl:List (Str × Addr)} {x:Str} (h:(cl.lookup x).isSome=true):∃ d,(ocl oc c cl).lookup x=some d:=by
 cases oc with
 | none=>exact cF.mp h
 | some z =>
  unfold ocl;simp only[cS];cases hx:x == z with
  | true=>exact⟨_,rfl⟩
  | false=>exact cF.mp h
theorem ocl_own {c:Addr} {cl:List (Str × Addr)} {x:Str}:(ocl (some x) c cl).lookup x=some c:=by unfold ocl;simp
theorem ohp_keep {oc:Option Str} {h:aS} {b:Addr} {o:Obj} (e:h.get? b=some o):(ohp oc h).get? b=some o:=by
 cases oc with
 | none=>exact e
 | some _=>exact af _ e
def cxComp2 (X:Cx) (N':List Str) (scope:Scope) (cl:List (Str × Addr)) (C:Addr) (fp:List Addr) (s:ah) (H:Hp) (oc:Option Str):Cx :=
 { X with N:=N',s₀:=s,H₀:=H,env:=km scope cl C X.env,outer:=X.stack,ex:=fp,fn:=fun x=>decide (oc=some x),pn:=[],xe:=fun _ _=>False }
theorem env_new {scope:Scope} {env:Env} {cl:List (Str × Addr)} {M:Model} {A:aO} {E:ad->ah->Prop} {s:ah} {Q:Env->ah->Prop}
  (h:Q { scope:=scope,locals:=s.heap.objs.size,globals:=env.globals,cells:=gC (s.heap.objs.size + 1) scope.names cl,qual:=env.qual,func:=none,code:=env.code,frame:=env.frame,builtins:=env.builtins } { s with heap:=jF (s.heap.push { cls:=.type "dict",data:=.dict #[] }) scope.names }) :
  aw M A (newFunctionEnv scope env.globals cl [] env.qual none .none (some env)) Q E s:=by
 unfold newFunctionEnv;simp only[Option.isSome_some,if_true];refine aa (wpAny_alloc ?_);refine aa (wpAny_layCells _ (fun name kind cells=>by cases hkc:kind == io <;> simp[hkc]) _ _ _ _ ?_)
 rw[show({ s with heap:=s.heap.push { cls:=.type "dict",data:=.dict #[] } }:ah).heap.objs.size=s.heap.objs.size + 1 from bU ..]
 exact aa (ae (ae h))
section
variable {X:Cx} {pins:List (Addr × Obj)} {σ:St} {H H':Hp} {s s2:ah}
theorem cxComp2_ok {N':List Str} {scope:Scope} {cl:List (Str × Addr)} {fp:List Addr} {oc:Option Str} (I:Inv X pins σ H s) (hf:∀ b∈fp,FpOk X pins H b) (hfl:∀ b∈fp,b < s.heap.objs.size) (hkind:scope.kind=.function)
  (c1:∀ x c,cl.lookup x=some c->X.env.cells.lookup x=some c) (c2:∀ x,(x,aU)∈scope.names->(cl.lookup x).isSome=true) (hcell:∀ y∈scope.names,y.2=.cell->oc=some y.1) (hun:∀ x,oc=some x->cl.lookup x=none) :
  (cxComp2 X N' scope (ocl oc (s.heap.objs.size + 1) cl) s.heap.objs.size fp s H oc).Ok where
 mod:=I.ok.mod
 kind:=hkind
 glob:=I.ok.glob
 blt:=I.ok.blt
 above:=aj _
 inj:=fun x y c h1 h2=>by
  have old:∀ z,cl.lookup z=some (s.heap.objs.size + 1)->False:=fun z e=>by
   obtain⟨v,q⟩:=I.cell z _ (c1 z _ e);exact absurd (show s.heap.objs.size + 1 < s.heap.objs.size from q.lt) (Nat.not_lt.mpr (db _))
  rcases ocl_lk h1 with⟨e1,rfl⟩ | e1 <;> rcases ocl_lk h2 with⟨e2,e⟩ | e2
  ·rw[e1] at e2;exact aL e2
  ·exact(old y e2).elim
  ·subst e;exact(old x e1).elim
  ·exact I.ok.inj x y c (c1 x c e1) (c1 y c e2)
 has:=fun x hx=>by
  have hx':scope.names.lookup x=some .cell\/scope.names.lookup x=some .free:=of_relabel (sc:=scope) hx;rcases hx' with hx' | hx'
  ·have e:=hcell _ (mem_of_lk hx') rfl;subst e;exact⟨_,ocl_own⟩
  ·exact ocl_some (c2 x (mem_of_lk hx'))
 cab:=fun x c h hc=>by
  have h':oc=some x:=of_decide_eq_true h;rcases ocl_lk hc with⟨_,rfl⟩ | e
  ·exact db _
  ·rw[hun x h'] at e;cases e
 hd:=I.ok.hd
 frames:=I.ok.frames
 stk:=.inl rfl
 exf:=fun b hb=>⟨aC (hfl b hb),fun x c e=>by
  rcases ocl_lk e with⟨_,rfl⟩ | e
  ·intro z;exact absurd (show s.heap.objs.size + 1 < s.heap.objs.size from z ▸ hfl b hb) (Nat.not_lt.mpr (db _))
  ·exact(hf b hb).2.2.2.2.1 x c (c1 x c e)⟩
 bs:=I.bs
 bsz:=bN I.ok.bsz I.sz
 noex:=fun b o e hb=>by
  rcases(hf b hb).2.2.2.1 with z | z
  ·exact I.ok.noex b o e z
  ·have q:=I.ok.bs b o e;exact absurd (aF (aq q.1) z) (dh _)
 exfs:=fun b hb z=>by
  rcases ax.mp (I.stkSub b z) with e | e
  ·exact(hf b hb).2.1 e
  ·exact(hf b hb).2.2.1 e
 funs:=I.stack
 frf:=I.stkFree
theorem comp2_start {N':List Str} {is:List (Option Nat)} {scope:Scope} {cl:List (Str × Addr)} {fp:List Addr} {oc:Option Str} (I:Inv X pins σ H s) (ok:(cxComp2 X N' scope (ocl oc (s.heap.objs.size + 1) cl) s.heap.objs.size fp s H oc).Ok) (hN:X.N.Nodup)
  (c1:∀ x c,cl.lookup x=some c->X.env.cells.lookup x=some c) (c2:∀ x,(x,aU)∈scope.names->(cl.lookup x).isSome=true) (hu:∀ x,(x,aU)∈scope.names->scope.names.lookup x=some .free) (cp:Cap X.N scope N' is)
  (hV:∀ x,(x,aU)∈scope.names->Vis X.env.scope x/\X.env.scope.names.lookup x≠some .local) (hun:∀ x,oc=some x->cl.lookup x=none) :
  Inv (cxComp2 X N' scope (ocl oc (s.heap.objs.size + 1) cl) s.heap.objs.size fp s H oc) [] (capt is σ) H { s with heap:=ohp oc (s.heap.push { cls:=.type "dict",data:=.dict #[] }) }:=by
 have kp:∀ b o,s.heap.get? b=some o->(ohp oc (s.heap.push { cls:=.type "dict",data:=.dict #[] })).get? b=some o:=fun b o e=>ohp_keep (af _ e);exact {
 ok:=ok
 os:=rfl
 bare:=I.bare
 base:=Un.kept kp
 loc:=by
  refine⟨_,(aS.Ns.new s.heap (.type "dict")).keeps fun b o e=>ohp_keep e,fun j x v e1 e2 e3=>?_⟩;have e1':N'[j]?=some x:=e1;unfold capt at e2;rw[a6] at e2;cases hi:is[j]? with
  | none=>rw[hi] at e2;cases e2
  | some o =>
   rw[hi] at e2;cases o with
   | none=>cases e2
   | some i =>
    obtain⟨hx,hfree⟩:=cp.get e1' hi;have e2':(σ[i]?).join=some v:=aL e2;have e4:σ[i]?=some (some v):=by
     cases q:σ[i]? with
     | none=>rw[q] at e2';cases e2'
     | some z=>rw[q] at e2';cases z with
      | none=>cases e2'
      | some z=>cases e2';rfl
    obtain⟨m,hn,hl⟩:=I.loc;obtain⟨hvis,hnl⟩:=hV x hfree;obtain⟨u,r,l⟩:=hl i x v hx e4 hvis;refine⟨u,r,.inr ⟨relabel_free (sc:=scope) (.inr (hu x hfree)),?_⟩⟩;rcases l with⟨k,_⟩ | ⟨k,c,e,z⟩
    ·exact absurd k hnl
    ·obtain⟨c',e'⟩:=ocl_some (oc:=oc) (c:=s.heap.objs.size + 1) (c2 x hfree);have ee:c'=c:=by
      rcases ocl_lk e' with⟨z1,_⟩ | z1
      ·have:=c2 x hfree;rw[hun x z1] at this;cases this
      ·have:=c1 x c' z1;rw[e] at this;exact(aL this).symm
     subst ee;obtain⟨oc',hoc,hd⟩:=z;exact⟨c',e',oc',kp c' oc' hoc,hd⟩
 cell:=fun x c e=>by
  rcases ocl_lk (show(ocl oc (s.heap.objs.size + 1) cl).lookup x=some c from e) with⟨z,rfl⟩ | e
  ·subst z;refine⟨none,{ cls:=.type "cell",data:=.cell none },?_,rfl⟩;show((s.heap.push _).push _).get? _=_;rw[<- bU s.heap { cls:=.type "dict",data:=.dict #[] }];exact ao _ rfl
  ·obtain⟨v,o,ho,hd⟩:=I.cell x c (c1 x c e);exact⟨v,o,kp c o ho,hd⟩
 free:=I.hok.fresh (aj _)
 freeC:=fun x c e=>by
  rcases ocl_lk (show(ocl oc (s.heap.objs.size + 1) cl).lookup x=some c from e) with⟨z,rfl⟩ | e
  ·exact I.hok.fresh (db _)
  ·exact I.freeC x c (c1 x c e)
 pin:=fun p hp=>absurd (show p∈([]:List (Addr × Obj)) from hp) (by simp)
 hok:=I.hok.kept kp
 len:=by
  show(capt is σ).length=N'.length;unfold capt;rw[ag,cp.length] }
def FrC (X:Cx) (pins:List (Addr × Obj)) (C:Addr) (H:Hp):Prop:=H C=none/\C≠X.env.locals/\X.s₀.heap.objs.size<=C/\(∀ x c,X.env.cells.lookup x=some c->c≠C)/\∀ p∈X.pn++pins,p.1≠C
theorem FrC.gone {C:Addr} {h':aS} (f:FrC X pins C H) (I:Inv X pins σ H s) (sb:cB C s.heap h'):Inv X pins σ H { s with heap:=h' } :=
 I.turned (t':=s.toks) (fun b o hb e=>(sb.2 b hb).trans e) f.1 f.2.1 (.inr f.2.2.1) f.2.2.2.1 f.2.2.2.2
theorem comp_gen {elt target iter:Expr} {ifs:List Expr} {gs:List jw} {scope:Scope} {pos:Pos} {N':List Str} {is:List (Option Nat)} {wi:TI} {g:TG} {tt:TT} {tb:Addr->TB} {oc:Option Str} {m:ad->Env->Sem Unit} (hcalm:X.calm=true) (hN:X.N.Nodup)
  (hturn:∀ it acc env,i4 (.ListComp elt (⟨target,iter,ifs,0⟩::gs) scope pos) 0 it acc env=turnOf target ifs iter.pos (m acc env) (.compLoop (.ListComp elt (⟨target,iter,ifs,0⟩::gs) scope pos) 0 it acc env) it env)
  (cp:Cap X.N scope N' is) (hi:PI X target iter wi)
  (hg:∀ cl C fp s H,PG (cxComp2 X N' scope cl C fp s H oc) target g) (ht:∀ cl C fp s H,PTs (cxComp2 X N' scope cl C fp s H oc) ifs tt) (hb:∀ cl C fp s H D,PB (cxComp2 X N' scope cl C fp s H oc) (m (.ref D) (km scope cl C X.env)) (tb D))
  (hcf:∀ n acc,gC n scope.names acc=ocl oc n acc) (hpc:∀ h,jF h scope.names=ohp oc h)
  (hkind:scope.kind=.function) (hcell:∀ y∈scope.names,y.2=.cell->oc=some y.1)
  (hu:∀ y∈scope.names,scope.names.lookup y.1=some y.2) (hoc:∀ x,oc=some x->scope.names.lookup x=some .cell)
  (hVb:okV scope.names X.env.scope.names=true)
  (hs:∀ x,dQ iter X.env x=pure x)
  {use:Option (ad->Sem Unit)} {Q:VK} {Qv:ad->ah->Prop} (I:Inv X pins σ H s) (h:tComp2 is wi g tt tb σ H Q)
  (fin:∀ D C H5 s6,Inv X pins σ H5 s6->(∃ m,s6.heap.Ns C m)->FrC X pins C H5->Q (.ref D) H5->compPost (aA X.prog X.w) X.A X.xe use Qv (.ref D) C (.ok .next) s6) :
  aw (aA X.prog X.w) X.A (comprehension (.ListComp elt (⟨target,iter,ifs,0⟩::gs) scope pos) scope X.env (firstIterPos (⟨target,iter,ifs,0⟩::gs) pos) (newList []) (firstAsync (⟨target,iter,ifs,0⟩::gs)) (firstIter (⟨target,iter,ifs,0⟩::gs) X.env) use) Qv X.xe s:=by
 have hV:=okV_ok hVb;have hV':∀ x,(x,aU)∈scope.names->Vis X.env.scope x/\X.env.scope.names.lookup x≠some .local:=fun x hx=>hV (x,.free) hx rfl;have hu':∀ x,(x,aU)∈scope.names->scope.names.lookup x=some .free:=fun x hx=>hu (x,.free) hx;have hnames:∀ x∈scope.names,x.2=.local->scope.names.lookup x.1=some .local:=fun x hx hl=>by rw[hu x hx,hl]
 obtain⟨cl,hclos,c1,c2,c3⟩:=closureFor_of' (env:=X.env) (scope:=scope) fun x hx=>I.ok.has x (by
  obtain⟨v,n⟩:=hV' x hx;rcases v with v | v | v
  ·exact absurd v n
  ·exact .inl v
  ·exact .inr v)
 have hun:∀ x,oc=some x->cl.lookup x=none:=fun x hx=>by
  cases e:cl.lookup x with
  | none=>rfl
  | some c =>
   have:=hu' x (c3 x c e)
   rw[hoc x hx] at this;cases this
 refine wpAny_comprehension_free (use:=use) rfl hs hclos hkind hnames (thn (hi pins s σ H _ I h) fun v s1 h1=>thn h1 fun itv s2 h2=>?_);obtain⟨it,fp,tn,J,H2,rfl,I2,T,st2,f2,q2⟩:=h2;refine bj ?_;have hD:H2 s2.heap.objs.size=none:=I2.hok.fresh (aj _);have fpl:∀ b∈fp,b < s2.heap.objs.size:=fun b hb=>by obtain⟨o,e,_⟩:=T.obj _ _ st2 b hb;exact aq e
 have I3:Inv X pins σ (upd H2 s2.heap.objs.size (.lst [])) { s2 with heap:=s2.heap.push { cls:=.type "list",dict:=none,data:=.seq ([]:List ad).toArray } } :=
  I2.laid (t':=s2.toks) (fun b u e=>af _ e) (aj _) ⟨bG _,[],0,.nil,ao _ rfl⟩
 have st3:tn 0 (s2.heap.push { cls:=.type "list",dict:=none,data:=.seq ([]:List ad).toArray }):=T.keep _ _ _ st2 fun b hb o e=>af _ e;have f3:∀ b∈fp,FpOk X pins (upd H2 s2.heap.objs.size (.lst [])) b:=fun b hb=>⟨by rw[upd_ne (aC (fpl b hb))];exact(f2 b hb).1,(f2 b hb).2⟩
 have fpl3:∀ b∈fp,b < (s2.heap.push { cls:=.type "list",dict:=none,data:=.seq ([]:List ad).toArray }).objs.size:=fun b hb=>by rw[bU];exact cZ (fpl b hb)
 have q3:=q2 _ hD;generalize hDe:s2.heap.objs.size=D at *
 generalize hs3:({ s2 with heap:=s2.heap.push { cls:=.type "list",dict:=none,data:=.seq ([]:List ad).toArray } }:ah)=s3 at *
 have hsh:s3.heap=s2.heap.push { cls:=.type "list",dict:=none,data:=.seq ([]:List ad).toArray }:=by rw[<- hs3]
 rw[<- hsh] at st3 fpl3;have ok:=cxComp2_ok (N':=N') (cl:=cl) (oc:=oc) I3 f3 fpl3 hkind c1 c2 hcell hun;have I4:=comp2_start I3 ok hN c1 c2 hu' cp hV' hun;refine env_new ?_;rw[hcf,hpc];have kp:∀ b o,s3.heap.get? b=some o->(ohp oc (s3.heap.push { cls:=.type "dict",data:=.dict #[] })).get? b=some o:=fun b o e=>ohp_keep (af _ e);have st4:tn 0 (ohp oc (s3.heap.push { cls:=.type "dict",data:=.dict #[] })):=T.keep _ _ _ st3 fun b _ o e=>kp b o e;have f4:∀ b∈fp,FpOk (cxComp2 X N' scope (ocl oc (s3.heap.objs.size + 1) cl) s3.heap.objs.size fp s3 (upd H2 D (.lst [])) oc) [] (upd H2 D (.lst [])) b:=fun b hb =>
  ⟨(f3 b hb).1,(ok.exf b hb).1,ok.exfs b hb,.inl hb,(ok.exf b hb).2,fun p hp=>absurd (show p∈([]:List (Addr × Obj)) from hp) (by simp)⟩
 have loop:=loop_run (X:=cxComp2 X N' scope (ocl oc (s3.heap.objs.size + 1) cl) s3.heap.objs.size fp s3 (upd H2 D (.lst [])) oc) (e:=.ListComp elt (⟨target,iter,ifs,0⟩::gs) scope pos) (d:=0) (acc:=.ref D)
  (R:=compPost (aA X.prog X.w) X.A X.xe use Qv (.ref D) s3.heap.objs.size) hcalm rfl (hturn _ _ _) rfl rfl T (hg _ _ _ _ _) (ht _ _ _ _ _) (hb _ _ _ _ _ D) I4 st4 f4 q3 (by
   intro H5 s6 I6 _ qn;obtain⟨m6,n6,_⟩:=id I6.loc;have un:Un (frs X.stack) fp (upd H2 D (.lst [])) H5 s3.heap s6.heap:=I6.base;have hok':HOk X.prog X.w H5 s6.heap:=I6.hok;refine fin D s3.heap.objs.size H5 s6 (I3.call' (s':=s6) (ch:=fp) I6.os un hok' I6.bare fun b hb=>⟨(f3 b hb).2.2.2.1,(f3 b hb).2.1,(f3 b hb).2.2.2.2.1,(f3 b hb).2.2.2.2.2⟩) ⟨m6,n6⟩ ⟨I6.free,bX I3.lt,I3.sz,fun x c e z=>?_,fun p hp z=>?_⟩ qn
   ·obtain⟨v,q⟩:=I3.cell x c e;exact absurd q.lt (by rw[z];exact dh _)
   ·exact absurd (aq (I3.pin p hp).1) (by rw[z];exact dh _))
 exact codeAny_compStart_list loop (T.self _ 0 _ _ _ st4 loop)
theorem pe_compG {elt target iter:Expr} {ifs:List Expr} {gs:List jw} {scope:Scope} {pos:Pos} {N':List Str} {is:List (Option Nat)} {wi:TI} {g:TG} {tt:TT} {tb:Addr->TB} {oc:Option Str} {m:ad->Env->Sem Unit} (hcalm:X.calm=true) (hN:X.N.Nodup)
  (hturn:∀ it acc env,i4 (.ListComp elt (⟨target,iter,ifs,0⟩::gs) scope pos) 0 it acc env=turnOf target ifs iter.pos (m acc env) (.compLoop (.ListComp elt (⟨target,iter,ifs,0⟩::gs) scope pos) 0 it acc env) it env)
  (cp:Cap X.N scope N' is) (hi:PI X target iter wi)
  (hg:∀ cl C fp s H,PG (cxComp2 X N' scope cl C fp s H oc) target g) (ht:∀ cl C fp s H,PTs (cxComp2 X N' scope cl C fp s H oc) ifs tt) (hb:∀ cl C fp s H D,PB (cxComp2 X N' scope cl C fp s H oc) (m (.ref D) (km scope cl C X.env)) (tb D))
  (hcf:∀ n acc,gC n scope.names acc=ocl oc n acc:=by intro _ _;rfl) (hpc:∀ h,jF h scope.names=ohp oc h:=by intro _;rfl)
  (hkind:scope.kind=.function:=by rfl) (hcell:∀ y∈scope.names,y.2=.cell->oc=some y.1:=by decide +kernel)
  (hu:∀ y∈scope.names,scope.names.lookup y.1=some y.2:=by decide +kernel) (hoc:∀ x,oc=some x->scope.names.lookup x=some .cell:=by intro x h;cases h <;> rfl)
  (hVb:okV scope.names X.env.scope.names=true:=by first | rfl | kernel_rfl)
  (hs:∀ x,dQ iter X.env x=pure x:=by intro _;rfl) :
  PE X (.ListComp elt (⟨target,iter,ifs,0⟩::gs) scope pos) (tComp2 is wi g tt tb):=by
 intro pins s σ H Q I h;rw[eval_ListComp];refine comp_gen hcalm hN hturn cp hi hg ht hb hcf hpc hkind hcell hu hoc hVb hs I h fun D C H5 s6 I6 ⟨m,n⟩ fc qn=>?_;exact⟨m,n,fun h' sb=>⟨.ref D,H5,fc.gone I6 sb,rfl,qn⟩⟩
theorem ps_setC {x:Str} {i:Nat} {pos' spos:Pos} (hix:X.N[i]?=some x) (hx:Loc X.env.scope x) {elt target iter:Expr} {ifs:List Expr} {gs:List jw} {scope:Scope} {pos:Pos} {N':List Str} {is:List (Option Nat)} {wi:TI} {g:TG} {tt:TT} {tb:Addr->TB} {oc:Option Str} {m:ad->Env->Sem Unit} (hcalm:X.calm=true) (hN:X.N.Nodup)
  (hturn:∀ it acc env,i4 (.ListComp elt (⟨target,iter,ifs,0⟩::gs) scope pos) 0 it acc env=turnOf target ifs iter.pos (m acc env) (.compLoop (.ListComp elt (⟨target,iter,ifs,0⟩::gs) scope pos) 0 it acc env) it env)
  (cp:Cap X.N scope N' is) (hi:PI X target iter wi)
  (hg:∀ cl C fp s H,PG (cxComp2 X N' scope cl C fp s H oc) target g) (ht:∀ cl C fp s H,PTs (cxComp2 X N' scope cl C fp s H oc) ifs tt) (hb:∀ cl C fp s H D,PB (cxComp2 X N' scope cl C fp s H oc) (m (.ref D) (km scope cl C X.env)) (tb D))
  (hcf:∀ n acc,gC n scope.names acc=ocl oc n acc:=by intro _ _;rfl) (hpc:∀ h,jF h scope.names=ohp oc h:=by intro _;rfl)
  (hkind:scope.kind=.function:=by rfl) (hcell:∀ y∈scope.names,y.2=.cell->oc=some y.1:=by decide +kernel)
  (hu:∀ y∈scope.names,scope.names.lookup y.1=some y.2:=by decide +kernel) (hoc:∀ x,oc=some x->scope.names.lookup x=some .cell:=by intro x h;cases h <;> rfl)
  (hVb:okV scope.names X.env.scope.names=true:=by first | rfl | kernel_rfl)
  (hs:∀ x,dQ iter X.env x=pure x:=by intro _;rfl)
  (hsw:jC (.ListComp elt (⟨target,iter,ifs,0⟩::gs) scope pos) (some (.Name x pos')) spos.line X.env=pure true:=by first | rfl | kernel_rfl) (hf:X.fn x=true\/X.env.scope.names.lookup x=some .local:=by first | exact .inl rfl | exact .inr rfl | assumption) :
  PS X (.Assign [.Name x pos'] (.ListComp elt (⟨target,iter,ifs,0⟩::gs) scope pos) spos) (tAsg (tComp2 is wi g tt tb) (gName i)):=by
 intro pins s σ H D I h;rw[exec_Assign_Name_used _ _ _ _ hsw];refine aa (wpAny_standAt (aa ?_));show aw _ _ (comprehension _ _ _ _ _ _ _ (some _) >>= fun _=>pure ()) _ _ _;refine aa (comp_gen (Qv:=fun _ s'=>aw (aA X.prog X.w) X.A (pure ()) _ X.xe s') hcalm hN hturn cp hi hg ht hb hcf hpc hkind hcell hu hoc hVb hs I h fun E C H5 s6 I6 ⟨m,n⟩ fc qn=>?_);refine wpAny_assign_Name (store_ok2 I6 hN hix hx (show RelV (.ref E) (.ref E) from rfl) (fun s7 I7 ⟨a,sb,ha⟩=>?_) hf)
 have hca:C≠a:=by
  rintro rfl;rcases ha with z | z
  ·exact fc.2.1 z
  ·exact fc.2.2.2.1 x C z rfl
 refine⟨m,n.sameBut sb hca,fun h' sb'=>ae (ae ?_)⟩;exact⟨_,H5,fc.gone I7 sb',qn⟩
end
end L2
set_option maxHeartbeats 4000000
namespace L2
open PySem PySem.Spec PyProof.Rows
abbrev Dn (α:Type):=Hp->V->α->Prop
abbrev Fg:=av
def dS:Dn Str:=fun _ v x=>v=.str x
def dB:Dn Bool:=fun _ v b=>v=.bl b
def dT {α:Type} (K:Fg) (R:Dn α):Dn (List α):=fun H v ds=>∃ a xs,v=.ref a/\SqT K H a xs/\bb (R H) xs ds
def dL {α:Type} (K:Fg) (R:Dn α):Dn (List α):=fun H v ds=>∃ a xs,v=.ref a/\SqL K H a xs/\bb (R H) xs ds
def SameT (H H':Hp):Prop:=∀ a xs,Rd H a (.tup xs)->Rd H' a (.tup xs)
theorem Same.t {H H':Hp} (h:Same H H'):SameT H H':=fun a xs r=>by
 rcases r with r | ⟨o,r⟩
 ·exact .inl (h _ _ r)
 ·exact .inr ⟨o,h _ _ r⟩
theorem same_upd {H:Hp} {p:Addr} {o:HO} (h:H p=none):Same H (upd H p o):=fun b o' e=>by
 rw[upd_ne (by rintro rfl;rw[h] at e;cases e)];exact e
theorem SqT.stay {K:Fg} {H H':Hp} {a:Addr} {xs:List V} (h:SqT K H a xs) (s:SameT H H'):SqT K H' a xs:=h.elim (fun r=>.inl (s a xs r)) .inr
class Im {α:Type} (R:Dn α):Prop where
 im:∀ {H H' v d},SameT H H'->R H v d->R H' v d
class Mo {α:Type} (R:Dn α):Prop where
 mo:∀ {H H' v d},Same H H'->R H v d->R H' v d
instance (priority:=low) {α:Type} {R:Dn α} [Im R]:Mo R:=⟨fun s r=>Im.im s.t r⟩
theorem Paired.imp {α β:Type} {F G:α->β->Prop} (h:∀ a b,F a b->G a b):∀ {l:List α} {m:List β},bb F l m->bb G l m
 | _,_,.nil=>.nil
 | _,_,.cons p q=>.cons (h _ _ p) (Paired.imp h q)
instance:Im dS:=⟨fun _ h=>h⟩
instance {α:Type} {K:Fg} {R:Dn α} [Im R]:Im (dT K R):=⟨fun s ⟨a,xs,e,q,p⟩=>⟨a,xs,e,q.stay s,Paired.imp (fun _ _ r=>Im.im s r) p⟩⟩
theorem beq_dec {α:Type} [DecidableEq α] [BEq α] [LawfulBEq α] (a b:α):(a == b)=decide (a=b):=by
 by_cases h:a=b
 ·subst h;simp
 ·simp[h]
theorem Paired.get' {α β:Type} {F:α->β->Prop}:∀ {l:List α} {m:List β} {i:Nat} {a:α},bb F l m->l[i]?=some a->∃ b,m[i]?=some b/\F a b
 | _,_,_,_,.nil,h=>by simp at h
 | _,_,0,_,.cons p _,h=>by simp at h;subst h;exact⟨_,rfl,p⟩
 | _,_,i + 1,a,.cons _ q,h=>by
  obtain⟨b,e,f⟩:=Paired.get' (i:=i) (a:=a) q (by simpa using h)
  exact⟨b,by simpa using e,f⟩
theorem all_eq {α:Type} [DecidableEq α]:∀ (ds es:List α),((aD (min ds.length es.length)).all fun j=>decide (ds[j]?=es[j]?))=true->ds.length=es.length->ds=es:=fun ds es h hl=>by
 apply jp;intro i
 by_cases hi:i < ds.length
 ·have:=bq.mp h i (aM.mpr (by lia))
  exact of_decide_eq_true this
 ·rw[bE (by lia),bE (by lia)]
theorem seq_ans {α:Type} [DecidableEq α] (ds es:List α) (n m:Nat) (hn:n=ds.length) (hm:m=es.length):((aD (min n m)).all (fun j=>decide (ds[j]?=es[j]?)) && (n == m))=decide (ds=es):=by
 subst hn;subst hm
 by_cases h:ds=es
 ·subst h;simp
 ·rw[decide_eq_false h,Bool.and_eq_false_iff]
  by_cases hl:ds.length=es.length
  ·left
   cases q:(aD (min ds.length es.length)).all fun j=>decide (ds[j]?=es[j]?) with
   | false=>rfl
   | true=>exact absurd (all_eq ds es q hl) h
  ·right;simpa using hl
variable {α β γ:Type}
end L2
namespace ST
open PySem PySem.SetTable
def step (mask:Nat) (p:Probe):Probe :=
 if p.more > 0 then { p with j:=p.j + 1,more:=p.more - 1 } else
 { p with j:=(leap mask p.i p.perturb).1,more:=runEnd mask (leap mask p.i p.perturb).1 - (leap mask p.i p.perturb).1,i:=(leap mask p.i p.perturb).1,perturb:=(leap mask p.i p.perturb).2 }
theorem advance_eq (t:aI) (p:Probe):t.advance p=step t.mask p:=by
 unfold aI.advance step
 split <;> rfl
def road (mask:Nat):Nat->Probe->Probe
 | 0,p=>p
 | m + 1,p=>road mask m (step mask p)
theorem road_succ (mask:Nat):∀ (m:Nat) (p:Probe),road mask (m + 1) p=step mask (road mask m p)
 | 0,_=>rfl
 | m + 1,p=>by
  show road mask (m + 1) (step mask p)=step mask (road mask m (step mask p));exact road_succ mask m (step mask p)
theorem road_add (mask:Nat):∀ (a b:Nat) (p:Probe),road mask (a + b) p=road mask b (road mask a p)
 | 0,b,p=>by rw[jZ];rfl
 | a + 1,b,p=>by
  rw[i5];show road mask (a + b) (step mask p)=road mask b (road mask a (step mask p));exact road_add mask a b _
theorem step_dummy (mask:Nat) (p:Probe):(step mask p).dummy=p.dummy:=by unfold step;split <;> rfl
theorem runEnd_le (mask i:Nat) (h:i<=mask):i<=runEnd mask i/\runEnd mask i<=mask/\runEnd mask i<=i + 9:=by
 unfold runEnd;split <;> lia
structure PV (mask:Nat) (p:Probe):Prop where
 more:p.more<=9
 i:p.i<=mask
 j:p.j + p.more<=mask
 pt:p.perturb < 2 ^ 64
theorem leap_le (mask i pt:Nat):(leap mask i pt).1<=mask:=by
 unfold leap
 have:=kJ (i * 5 + 1 + pt / 32) (show 0 < mask + 1 by lia)
 show(i * 5 + 1 + pt / 32) % (mask + 1)<=mask;lia
theorem PV.step {mask:Nat} {p:Probe} (v:PV mask p):PV mask (ST.step mask p):=by
 unfold ST.step;have h1:=v.more;have h2:=v.i;have h3:=v.j;have h4:=v.pt
 split
 ·exact⟨by dsimp only;lia,h2,by dsimp only;lia,h4⟩
 ·have l:=leap_le mask p.i p.perturb;have r:=runEnd_le mask _ l;refine⟨by dsimp only;lia,l,by dsimp only;lia,?_⟩
  show p.perturb / 32 < 2 ^ 64;exact eC (Nat.div_le_self _ _) h4
theorem PV.road {mask:Nat}:∀ (m:Nat) {p:Probe},PV mask p->PV mask (ST.road mask m p)
 | 0,_,v=>v
 | m + 1,_,v=>PV.road m v.step
theorem bits_lt (h:Int):bits h < 2 ^ 64:=by
 unfold bits;have h1:=iD h (show(2 ^ 64:Int)≠0 by decide)
 have h2:=gA h (show(0:Int) < 2 ^ 64 by decide)
 have:(2:Int) ^ 64=18446744073709551616:=by decide
 have:(2:Nat) ^ 64=18446744073709551616:=by decide
 lia
def start (mask:Nat) (h:Int):Probe:={ j:=bits h % (mask + 1),more:=runEnd mask (bits h % (mask + 1)) - bits h % (mask + 1),i:=bits h % (mask + 1),perturb:=bits h,dummy:=none }
theorem start_pv (mask:Nat) (h:Int):PV mask (start mask h):=by
 have l:bits h % (mask + 1)<=mask:=dq (kJ _ (iN mask));have r:=runEnd_le mask _ l;exact⟨by show _ - _<=9;lia,l,by show bits h % (mask + 1) + (runEnd mask (bits h % (mask + 1)) - bits h % (mask + 1))<=mask;lia,bits_lt h⟩
theorem in_run (mask:Nat):∀ (k:Nat) (p:Probe),k<=p.more->road mask k p={ p with j:=p.j + k,more:=p.more - k }
 | 0,p,_=>rfl
 | k + 1,p,h=>by
  show road mask k (step mask p)=_;have e:step mask p={ p with j:=p.j + 1,more:=p.more - 1 }:=by unfold step;rw[if_pos (by lia)]
  rw[e,in_run mask k _ (by show k<=p.more - 1;lia)]
  show({ j:=p.j + 1 + k,more:=p.more - 1 - k,i:=p.i,perturb:=p.perturb,dummy:=p.dummy }:Probe)={ j:=p.j + (k + 1),more:=p.more - (k + 1),i:=p.i,perturb:=p.perturb,dummy:=p.dummy };rw[show p.j + 1 + k=p.j + (k + 1) by lia,show p.more - 1 - k=p.more - (k + 1) by lia]
theorem to_leap (mask:Nat) (p:Probe):road mask (p.more + 1) p={ p with j:=(leap mask p.i p.perturb).1,more:=runEnd mask (leap mask p.i p.perturb).1 - (leap mask p.i p.perturb).1,i:=(leap mask p.i p.perturb).1,perturb:=(leap mask p.i p.perturb).2 }:=by
 rw[road_succ,in_run mask p.more p (aj _)];unfold step;rw[if_neg (by show ¬ p.more - p.more > 0;lia)]
def leaps (mask:Nat):Nat->Nat × Nat->Nat × Nat
 | 0,s=>s
 | l + 1,s=>leaps mask l (leap mask s.1 s.2)
theorem leaps_succ (mask:Nat):∀ (l:Nat) (s:Nat × Nat),leaps mask (l + 1) s=leap mask (leaps mask l s).1 (leaps mask l s).2
 | 0,_=>rfl
 | l + 1,s=>by
  show leaps mask (l + 1) (leap mask s.1 s.2)=_;exact leaps_succ mask l _
theorem leaps_pt (mask:Nat):∀ (l:Nat) (s:Nat × Nat),(leaps mask l s).2=s.2 / 32 ^ l
 | 0,s=>by simp[leaps]
 | l + 1,s=>by
  rw[leaps_succ];show(leaps mask l s).2 / 32=_;rw[leaps_pt mask l s,Nat.div_div_eq_div_mul,Nat.pow_succ]
theorem far (mask:Nat):∀ (l:Nat) (p:Probe),PV mask p->∃ m,m<=10 * l/\(road mask m p).i=(leaps mask l (p.i,p.perturb)).1/\(road mask m p).perturb=(leaps mask l (p.i,p.perturb)).2/\(0 < l->(road mask m p).j=(road mask m p).i)
 | 0,p,_=>⟨0,aj _,rfl,rfl,fun h=>absurd h (dh _)⟩
 | l + 1,p,v=>by
  obtain⟨m,h1,h2,h3,h4⟩:=far mask l p v;have v':=PV.road m v;refine⟨m + ((road mask m p).more + 1),?_,?_⟩
  ·have:=v'.more;lia
  ·rw[road_add,to_leap,leaps_succ,<- h2,<- h3];exact⟨rfl,rfl,fun _=>rfl⟩
def f5 (N x:Nat):Nat:=(x * 5 + 1) % N
def f5s (N:Nat):Nat->Nat->Nat
 | 0,x=>x
 | a + 1,x=>f5s N a (f5 N x)
theorem f5s_add (N:Nat):∀ (a b x:Nat),f5s N (a + b) x=f5s N b (f5s N a x)
 | 0,b,x=>by rw[jZ];rfl
 | a + 1,b,x=>by rw[i5];exact f5s_add N a b _
def orbit (N:Nat):Nat->Nat->List Nat->List Nat
 | 0,_,acc=>acc
 | a + 1,x,acc=>orbit N a (f5 N x) (x::acc)
theorem mem_orbit (N:Nat):∀ (a x:Nat) (acc:List Nat) (y:Nat),y∈orbit N a x acc->y∈acc\/∃ b,b < a/\f5s N b x=y
 | 0,_,_,_,h=>.inl h
 | a + 1,x,acc,y,h=>by
  rcases mem_orbit N a (f5 N x) (x::acc) y h with h | ⟨b,hb,e⟩
  ·rcases ax.mp h with h | h
   ·exact .inr ⟨0,iN _,h.symm⟩
   ·exact .inl h
  ·exact .inr ⟨b + 1,Nat.succ_lt_succ hb,e⟩
def Full (N:Nat):Prop:=f5s N N 0=0/\∀ y,y < N->∃ b,b < N/\f5s N b 0=y
theorem full_of {N:Nat} (h:(f5s N N 0 == 0 && (aD N).all fun y=>(orbit N N 0 []).contains y)=true):Full N:=by
 simp only[aK,beq_iff_eq,bq,aM] at h;refine⟨h.1,fun y hy=>?_⟩;have q:=h.2 y hy;rcases mem_orbit N N 0 [] y (by simpa using q) with z | z
 ·cases z
 ·exact z
theorem Full.from {N:Nat} (F:Full N) {x y:Nat} (hx:x < N) (hy:y < N):∃ a,a < N/\f5s N a x=y:=by
 obtain⟨b,hb,eb⟩:=F.2 x hx;obtain⟨c,hc,ec⟩:=F.2 y hy
 by_cases h:b<=c
 ·refine⟨c - b,by lia,?_⟩
  rw[<- eb,<- f5s_add,show b + (c - b)=c by lia,ec]
 ·refine⟨N - b + c,by lia,?_⟩
  rw[<- eb,<- f5s_add,show b + (N - b + c)=N + c by lia,f5s_add,F.1,ec]
theorem full8:Full 8:=full_of (by decide +kernel)
theorem full32:Full 32:=full_of (by decide +kernel)
theorem full128:Full 128:=full_of (by decide +kernel)
theorem full512:Full 512:=full_of (by decide +kernel)
def Mask (mask:Nat):Prop:=mask=7\/mask=31\/mask=127\/mask=511
theorem Mask.full {mask:Nat} (h:Mask mask):Full (mask + 1):=by
 rcases h with rfl | rfl | rfl | rfl
 ·exact full8
 ·exact full32
 ·exact full128
 ·exact full512
theorem leaps_f5 {mask:Nat}:∀ (a:Nat) (s:Nat × Nat),s.2 < 32->(leaps mask a s).1=f5s (mask + 1) a s.1
 | 0,_,_=>rfl
 | a + 1,s,h=>by
  show(leaps mask a (leap mask s.1 s.2)).1=f5s (mask + 1) a (f5 (mask + 1) s.1);have e:s.2 / 32=0:=Nat.div_eq_of_lt h;have e1:(leap mask s.1 s.2).1=f5 (mask + 1) s.1:=by
   show(s.1 * 5 + 1 + s.2 / 32) % (mask + 1)=_;rw[e];rfl
  rw[leaps_f5 a _ (by show s.2 / 32 < 32;lia),e1]
theorem leaps_add (mask:Nat):∀ (a b:Nat) (s:Nat × Nat),leaps mask (a + b) s=leaps mask b (leaps mask a s)
 | 0,b,s=>by rw[jZ];rfl
 | a + 1,b,s=>by rw[i5];exact leaps_add mask a b _
theorem cover {mask:Nat} (hm:Mask mask) {p:Probe} (v:PV mask p) {y:Nat} (hy:y<=mask):∃ m,m < 10 * (mask + 15)/\(road mask m p).j=y:=by
 have h12:(leaps mask 12 (p.i,p.perturb)).1 < mask + 1:=by
  rw[leaps_succ mask 11];exact dR (leap_le _ _ _)
 have hp:(leaps mask 12 (p.i,p.perturb)).2 < 32:=by
  rw[leaps_pt]
  have:=v.pt
  show p.perturb / 32 ^ 12 < 32;have e:(2:Nat) ^ 64=18446744073709551616:=by decide
  have e2:(32:Nat) ^ 12=1152921504606846976:=by decide
  rw[e2];lia
 obtain⟨a,ha,ea⟩:=hm.full.from h12 (dR hy)
 obtain⟨m,h1,h2,_,h4⟩:=far mask (12 + a) p v;refine⟨m,by lia,?_⟩
 rw[h4 (by lia),h2,leaps_add,leaps_f5 a _ hp,ea]
def Ris (xs:List Nat):Prop:=xs.Pairwise (· < ·)
theorem below_go (xs:Array Nat) (j:Nat) (hr:Ris xs.toList):∀ (fuel lo hi:Nat),hi - lo<=fuel->lo<=hi->hi<=xs.size->(∀ i,i < lo->xs.getD i j < j)->(∀ i,hi<=i->i < xs.size->j<=xs.getD i j) ->
  below.go xs j fuel lo hi<=xs.size/\(∀ i,i < below.go xs j fuel lo hi->xs.getD i j < j)/\∀ i,below.go xs j fuel lo hi<=i->i < xs.size->j<=xs.getD i j
 | 0,lo,hi,hf,hl,hs,h1,h2=>by
  have e:lo=hi:=by lia
  subst e;exact⟨hs,h1,h2⟩
 | fuel + 1,lo,hi,hf,hl,hs,h1,h2=>by
  unfold below.go
  by_cases hlt:lo < hi
  ·rw[if_pos hlt];have mlt:(lo + hi) / 2 < xs.size:=by lia
   have mono:∀ a b,a<=b->b < xs.size->xs.getD a j<=xs.getD b j:=fun a b hab hb=>by
    rcases eD hab with h | h
    ·have q:=(cT.mp hr) a b (by simpa using dZ h hb) (by simpa using hb) h
     simp only[cI,hb,dZ h hb,dif_pos];simpa using fM q
    ·subst h;exact aj _
   show(if xs.getD ((lo + hi) / 2) j < j then _ else _)<=_/\_
   by_cases hc:xs.getD ((lo + hi) / 2) j < j
   ·simp only[hc,if_true];exact below_go xs j hr fuel _ hi (by lia) (by lia) hs (fun i hi'=>eC (mono i ((lo + hi) / 2) (by lia) mlt) hc) h2
   ·simp only[hc,if_false];exact below_go xs j hr fuel lo _ (by lia) (by lia) (by lia) h1 (fun i hi' hs'=>bN (Nat.le_of_not_lt hc) (mono _ i hi' hs'))
  ·rw[if_neg hlt];have e:lo=hi:=by lia
   subst e;exact⟨hs,h1,h2⟩
theorem below_spec {xs:Array Nat} (hr:Ris xs.toList) (j:Nat):below xs j<=xs.size/\(∀ i,i < below xs j->xs.getD i j < j)/\∀ i,below xs j<=i->i < xs.size->j<=xs.getD i j :=
 below_go xs j hr xs.size 0 xs.size (by lia) (by lia) (aj _) (fun i h=>absurd h (cP _)) (fun i h h'=>absurd h' (Nat.not_lt.mpr h))
theorem below_at {xs:Array Nat} (hr:Ris xs.toList) {i j:Nat} (h:xs[i]?=some j):below xs j=i:=by
 obtain⟨hi,e⟩:=cM.mp h;obtain⟨b1,b2,b3⟩:=below_spec hr j;have eg:∀ k,k < xs.size->xs.getD k j=xs.getD k 0:=fun k hk=>by simp[cI,hk]
 have ei:xs.getD i j=j:=by simp[cI,hi,e]
 have inc:∀ a b,a < b->b < xs.size->xs.getD a j < xs.getD b j:=fun a b hab hb=>by
  have q:=(cT.mp hr) a b (by simpa using dZ hab hb) (by simpa using hb) hab
  simp only[cI,hb,dZ hab hb,dif_pos];simpa using q
 rcases fA (below xs j) i with h | h | h
 ·have q1:=inc _ _ h hi;have q2:=b3 _ (aj _) (dZ h hi);lia
 ·exact h
 ·have q:=b2 i h;lia
structure Tab (t:aI):Prop where
 mask:Mask t.mask
 nodum:t.dummies=#[]
 ris:Ris t.place.toList
 top:∀ j∈t.place.toList,j<=t.mask
theorem slot_of {t:aI} (T:Tab t) {j i:Nat} (h:t.place[i]?=some j):t.slot j=.live i:=by
 unfold kE;dsimp only;rw[below_at T.ris h,h];simp
theorem slot_free {t:aI} (T:Tab t) {j:Nat} (h:j∉t.place.toList):t.slot j=.empty:=by
 unfold kE;dsimp only;have e:(t.place[below t.place j]? == some j)=false:=by
  cases q:t.place[below t.place j]? == some j with
  | false=>rfl
  | true =>
   have:=gE q
   obtain⟨hi,e⟩:=cM.mp this;exact absurd (by rw[<- e];simp) h
 rw[e];simp only[aE,if_false];have e2:has t.dummies j=false:=by rw[T.nodum];unfold has;simp
 rw[e2];simp
theorem slot_cases {t:aI} (T:Tab t) (j:Nat):(∃ i,t.slot j=.live i/\t.place[i]?=some j)\/(t.slot j=.empty/\j∉t.place.toList):=by
 by_cases h:j∈t.place.toList
 ·obtain⟨i,hi,e⟩:=aY h;have q:t.place[i]?=some j:=by
   rw[cM];exact⟨by simpa using hi,by simpa using e⟩
  exact .inl ⟨i,slot_of T q,q⟩
 ·exact .inr ⟨slot_free T h,h⟩
theorem go_spec {t : aI} (T : Tab t) (hashAt : Nat -> Int) (h : Int) : ∀ (fuel : Nat) (p : Probe), p.dummy = none -> (∃ m, m < fuel /\ (road t.mask m p).j ∉ t.place.toList) ->
    ∃ m, m < fuel /\ (∀ m', m' < m -> ∃ i, t.place[i]? = some (road t.mask m' p).j /\ hashAt i ≠ h) /\
      (((road t.mask m p).j ∉ t.place.toList /\ probe.go t hashAt h fuel p = some (.empty (road t.mask m p).j none)) \/
       ∃ i, t.place[i]? = some (road t.mask m p).j /\ t.slot (road t.mask m p).j = .live i /\ hashAt i = h /\ probe.go t hashAt h fuel p = some (.candidate (road t.mask m p).j i (road t.mask (m + 1) p)))
  | 0, p, _, ⟨m, hm, _⟩ => absurd hm (cP _)
  | fuel + 1, p, hd, ⟨m, hm, hf⟩ => by
    unfold probe.go;rcases slot_cases T p.j with⟨i, e, q⟩ | ⟨e, q⟩
    · rw [e]
      dsimp only
      by_cases hh : hashAt i = h
      · refine⟨0, iN _, fun _ h' => absurd h' (cP _), .inr ⟨i, q, e, hh, ?_⟩⟩
        rw [if_pos (by simpa using hh), advance_eq]
        rfl
      · rw [if_neg (by simpa using hh), advance_eq]
        cases m with
        | zero => exact absurd (dO.mpr (eI q)) hf
        | succ m =>
          obtain⟨m1, h1, h2, h3⟩ := go_spec T hashAt h fuel (step t.mask p) (by rw [step_dummy]; exact hd) ⟨m, by lia, hf⟩
          refine⟨m1 + 1, by lia, fun m' hm' => ?_, h3⟩
          cases m' with
          | zero => exact⟨i, q, hh⟩
          | succ m' => exact h2 m' (by lia)
    · rw [e]
      exact⟨0, iN _, fun _ h' => absurd h' (cP _), .inl ⟨q, by rw [hd]; rfl⟩⟩
theorem free_place {t:aI} (T:Tab t) (hn:t.place.size<=t.mask):∃ y,y<=t.mask/\y∉t.place.toList:=by
 apply bc;intro hno;have all:∀ y,y < t.mask + 1->y∈t.place.toList:=fun y hy=>bc fun h=>hno ⟨y,dq hy,h⟩;have hl:(aD (t.mask + 1)).length<=t.place.toList.length:=by
  apply List.Nodup.length_le_of_subset h9;intro y hy;exact all y (aM.mp hy)
 rw[cJ] at hl
 have:t.place.toList.length=t.place.size:=by simp
 lia
theorem probe_spec {t : aI} (T : Tab t) (hn : t.place.size <= t.mask) (hashAt : Nat -> Int) (h : Int) {p : Probe} (v : PV t.mask p) (hd : p.dummy = none) :
    ∃ m, (∀ m', m' < m -> ∃ i, t.place[i]? = some (road t.mask m' p).j /\ hashAt i ≠ h) /\
      (((road t.mask m p).j ∉ t.place.toList /\ t.probe hashAt h p = some (.empty (road t.mask m p).j none)) \/
       ∃ i, t.place[i]? = some (road t.mask m p).j /\ t.slot (road t.mask m p).j = .live i /\ hashAt i = h /\ t.probe hashAt h p = some (.candidate (road t.mask m p).j i (road t.mask (m + 1) p))) := by
  obtain⟨y, hy, hf⟩ := free_place T hn;obtain⟨m, hm, e⟩ := cover T.mask v hy;obtain⟨m1, _, h2, h3⟩ := go_spec T hashAt h (10 * turns t.mask) p hd ⟨m, hm, by rw [e]; exact hf⟩
  exact⟨m1, h2, h3⟩
end ST
set_option autoImplicit false
namespace ST
open PySem PySem.SetTable
theorem insertAt_list {α:Type} (xs:Array α) (p:Nat) (x:α) (h:p<=xs.size):(insertAt xs p x).toList=xs.toList.take p++x::xs.toList.drop p:=by
 unfold insertAt;simp only[e5,gL,Array.toList_extract,dj,List.singleton_append];simp only[List.extract,i6,Nat.sub_zero];rw[bJ (l:=List.drop p xs.toList) (by simp)]
theorem insert_get {α:Type} {l:List α} {p i:Nat} {x y:α} (hp:p<=l.length) (h:(l.take p++x::l.drop p)[i]?=some y):(i < p/\l[i]?=some y)\/(i=p/\y=x)\/(p < i/\l[i - 1]?=some y):=by
 have hl:(l.take p).length=p:=by rw[aP];lia
 rcases fA i p with c | c | c
 ·left
  rw[dD (by lia),jv c] at h
  exact⟨c,h⟩
 ·right;left
  subst c;rw[di (by lia),hl,Nat.sub_self] at h
  simp at h;exact⟨rfl,h.symm⟩
 ·right;right
  rw[di (by lia),hl] at h
  rw[show i - p=(i - 1 - p) + 1 by lia,List.getElem?_cons_succ,List.getElem?_drop] at h
  rw[show p + (i - 1 - p)=i - 1 by lia] at h
  exact⟨c,h⟩
structure SetI (es:Array (Int × ad)) (t:aI):Prop where
 tab:Tab t
 size:t.place.size=es.size
 room:es.size * 5 < t.mask * 3
 reach:∀ (i j:Nat) (e:Int × ad),t.place[i]?=some j->es[i]?=some e->∃ r,(road t.mask r (start t.mask e.1)).j=j/\∀ r',r' < r->(road t.mask r' (start t.mask e.1)).j∈t.place.toList
theorem SetI.le {es:Array (Int × ad)} {t:aI} (I:SetI es t):t.place.size<=t.mask:=by have:=I.size;have:=I.room;lia
theorem SetI.fits {es:Array (Int × ad)} {t:aI} (I:SetI es t):t.fits es.size=true:=by
 unfold kF kG;rw[I.tab.nodum,I.size]
 have:=I.room
 simp only[aK,beq_iff_eq,decide_eq_true_eq];refine⟨trivial,?_⟩;simp;lia
theorem SetI.way {es:Array (Int × ad)} {t:aI} (I:SetI es t):t.gaveWay=false:=by
 unfold aI.gaveWay;rcases I.tab.mask with e | e | e | e <;> rw[e] <;> rfl
theorem fresh_ok (f m:Nat) (led:Bool):SetI #[] (ko f m led) where
 tab:=⟨.inl rfl,rfl,.nil,fun j h=>by simp[ko] at h⟩
 size:=rfl
 room:=by show 0 * 5 < 7 * 3;decide
 reach:=fun i j e h=>by simp[ko] at h
structure Put (t t':aI) (j p:Nat):Prop where
 tab:Tab t'
 mask:t'.mask=t.mask
 le:p<=t.place.size
 place:t'.place.toList=t.place.toList.take p++j::t.place.toList.drop p
theorem put_ok {t : aI} (T : Tab t) {j : Nat} (hj : j <= t.mask) (hf : j ∉ t.place.toList) : Put t (t.put j).1 j (t.put j).2 := by
  obtain⟨b1, b2, b3⟩ := below_spec T.ris j;have e : (t.put j).1.place.toList = t.place.toList.take (below t.place j) ++ j :: t.place.toList.drop (below t.place j) := insertAt_list _ _ _ b1;have e2 : (t.put j).1.dummies = #[] := by
    show(if has t.dummies j = true then _ else t.dummies) = #[]
    have q : has t.dummies j = false := by rw [T.nodum]; unfold has; simp
    rw [q]; simp [T.nodum]
  refine⟨⟨T.mask, e2, ?_, ?_⟩, rfl, b1, e⟩
  · unfold Ris
    rw [e, fK, bA];have hr := T.ris;unfold Ris at hr;have lt1 : ∀ a ∈ t.place.toList.take (below t.place j), a < j := fun a ha => by
      obtain⟨i, hi, ea⟩ := aY ha;rw [aP] at hi
      have hi' : i < t.place.size := by have : t.place.toList.length = t.place.size := by simp
                                        lia
      have q := b2 i (by lia)
      simp only [cI, hi', dif_pos] at q;rw [jq] at ea;rw [<- ea];simpa using q
    have gt1 : ∀ a ∈ t.place.toList.drop (below t.place j), j < a := fun a ha => by
      obtain⟨i, hi, ea⟩ := aY ha;rw [bo] at hi;have hl : t.place.toList.length = t.place.size := by simp
      have hi' : below t.place j + i < t.place.size := by lia
      have q := b3 (below t.place j + i) (by lia) hi'
      simp only [cI, hi', dif_pos] at q;rw [jr] at ea;have ne : a ≠ j := fun z => hf (by rw [<- z]; exact dP ha)
      have q' : j <= a := by rw [<- ea]; simpa using q
      lia
    refine⟨hr.sublist (fx _ _), ⟨gt1, hr.sublist (js _ _)⟩, fun a ha b hb => ?_⟩;rcases ax.mp hb with rfl | hb
    · exact lt1 a ha
    · exact dZ (lt1 a ha) (gt1 b hb)
  · intro a ha
    rw [e] at ha;rcases bB.mp ha with ha | ha
    · exact T.top a (de ha)
    · rcases ax.mp ha with rfl | ha
      · exact hj
      · exact T.top a (dP ha)
theorem put_set {es:Array (Int × ad)} {t:aI} (I:SetI es t) {j r:Nat} {h:Int} {x:ad} (hj:j<=t.mask) (hf:j∉t.place.toList) (e:(road t.mask r (start t.mask h)).j=j) (hr:∀ r',r' < r->(road t.mask r' (start t.mask h)).j∈t.place.toList) :
  ∀ b,(insertAt es (t.put j).2 (h,x)).toList=es.toList.take (t.put j).2++(h,x)::es.toList.drop (t.put j).2/\(insertAt es (t.put j).2 (h,x)).size=es.size + 1 /\
   Tab { (t.put j).1 with plain:=b }/\(t.put j).1.place.size=es.size + 1/\(t.put j).1.mask=t.mask /\
   ∀ (i j':Nat) (e':Int × ad),(t.put j).1.place[i]?=some j'->(insertAt es (t.put j).2 (h,x))[i]?=some e'->∃ r,(road t.mask r (start t.mask e'.1)).j=j'/\∀ r',r' < r->(road t.mask r' (start t.mask e'.1)).j∈(t.put j).1.place.toList:=by
 intro b;have P:=put_ok I.tab hj hf;have hle:(t.put j).2<=es.size:=by rw[<- I.size];exact P.le
 have el:=insertAt_list es (t.put j).2 (h,x) hle;have sz:(insertAt es (t.put j).2 (h,x)).size=es.size + 1:=by
  have q:=congrArg fj el;rw[az,bH,aP,bo] at q
  have:es.toList.length=es.size:=by simp
  rw[show(insertAt es (t.put j).2 (h,x)).toList.length=(insertAt es (t.put j).2 (h,x)).size by simp] at q
  lia
 have szp:(t.put j).1.place.size=es.size + 1:=by
  have q:=congrArg fj P.place;rw[az,bH,aP,bo] at q
  have:t.place.toList.length=t.place.size:=by simp
  have:=I.size
  have:=P.le
  rw[show(t.put j).1.place.toList.length=(t.put j).1.place.size by simp] at q
  lia
 refine⟨el,sz,⟨P.tab.mask,P.tab.nodum,P.tab.ris,P.tab.top⟩,szp,P.mask,fun i j' e' h1 h2=>?_⟩;have sub:∀ a∈t.place.toList,a∈(t.put j).1.place.toList:=fun a ha=>by
  rw[P.place];rw[<- eJ (t.put j).2 t.place.toList] at ha;rcases bB.mp ha with ha | ha
  ·exact da _ ha
  ·exact bt _ (au _ ha)
 have old:∀ i0,t.place.toList[i0]?=some j'->es.toList[i0]?=some e'->∃ r,(road t.mask r (start t.mask e'.1)).j=j'/\∀ r',r' < r->(road t.mask r' (start t.mask e'.1)).j∈(t.put j).1.place.toList:=fun i0 a b=>by
  obtain⟨r,q1,q2⟩:=I.reach i0 j' e' (by rw[<- bu];exact a) (by rw[<- bu];exact b)
  exact⟨r,q1,fun r' hr'=>sub _ (q2 r' hr')⟩
 have h1':(t.place.toList.take (t.put j).2++j::t.place.toList.drop (t.put j).2)[i]?=some j':=by rw[<- P.place];simpa using h1
 have h2':(es.toList.take (t.put j).2++(h,x)::es.toList.drop (t.put j).2)[i]?=some e':=by rw[<- el];simpa using h2
 rcases insert_get (by simpa using P.le) h1' with⟨c1,q1⟩ | ⟨c1,q1⟩ | ⟨c1,q1⟩
 ·rcases insert_get (by simpa using hle) h2' with⟨c2,q2⟩ | ⟨c2,q2⟩ | ⟨c2,q2⟩
  ·exact old i q1 q2
  ·lia
  ·lia
 ·rcases insert_get (by simpa using hle) h2' with⟨c2,q2⟩ | ⟨c2,q2⟩ | ⟨c2,q2⟩
  ·lia
  ·subst q1 q2;exact⟨r,e,fun r' hr'=>sub _ (hr r' hr')⟩
  ·lia
 ·rcases insert_get (by simpa using hle) h2' with⟨c2,q2⟩ | ⟨c2,q2⟩ | ⟨c2,q2⟩
  ·lia
  ·lia
  ·exact old (i - 1) q1 q2
abbrev Own:=Array (Option Nat)
def liveOf (mask:Nat) (owner:Own):List (Nat × Nat):=(aD (mask + 1)).filterMap fun j=>(owner.getD j none).map (j,·)
theorem filterMap_congr' {α β:Type} {f g:α->Option β}:∀ {l:List α},(∀ a∈l,f a=g a)->l.filterMap f=l.filterMap g
 | [],_=>rfl
 | a::l,h=>by
  rw[cv,cv,h a ar,filterMap_congr' fun b hb=>h b (au _ hb)]
theorem live_set {mask:Nat} {owner:Own} {j k:Nat} (hs:owner.size=mask + 1) (hj:j<=mask) (hn:owner.getD j none=none):(liveOf mask (owner.setIfInBounds j (some k))).Perm ((j,k)::liveOf mask owner):=by
 unfold liveOf;obtain⟨s,u,e⟩:=List.append_of_mem (aM.mpr (dR hj));have nd:(aD (mask + 1)).Nodup:=h9;rw[e] at nd ⊢;have h1:j∉s:=fun h=>by
  have:=fB.mp nd
  exact absurd rfl (this.2.2 j h j ar)
 have h2:j∉u:=fun h=>by
  have:=fB.mp nd
  exact(cx.mp this.2.1).1 h
 have g:∀ a,a≠j->(owner.setIfInBounds j (some k)).getD a none=owner.getD a none:=fun a ha=>by
  rw[bY,bY,g7 (bW ha)]
 have gj:(owner.setIfInBounds j (some k)).getD j none=some k:=by
  rw[bY,fF (by lia)];rfl
 rw[hU,hU,cv,cv,gj,hn];simp only[Option.map_some,Option.map_none];rw[filterMap_congr' (l:=s) (g:=fun j=>(owner.getD j none).map (j,·)) fun a ha=>by rw[g a fun z=>h1 (z ▸ ha)],filterMap_congr' (l:=u) (g:=fun j=>(owner.getD j none).map (j,·)) fun a ha=>by rw[g a fun z=>h2 (z ▸ ha)]]
 exact List.perm_middle
theorem own_getD {owner:Own} {j:Nat} (h:j < owner.size) (d:Option Nat):owner.getD j d=owner[j]:=by simp[cI,h]
theorem free_spec {mask:Nat} {owner:Own} (hs:owner.size=mask + 1):∀ (fuel:Nat) (p:Probe),PV mask p->p.j=p.i->p.more=runEnd mask p.i - p.i->(∃ l,l < fuel/\owner.getD (leaps mask l (p.i,p.perturb)).1 none=none) ->
  ∃ r j,layClean.free mask owner fuel p.i p.perturb=some j/\(road mask r p).j=j/\j<=mask/\owner.getD j none=none/\∀ r',r' < r->(owner.getD (road mask r' p).j none).isSome=true
 | 0,p,_,_,_,⟨l,h,_⟩=>absurd h (cP _)
 | fuel + 1,p,v,hj,hm,⟨l,hl,hf⟩=>by
  have re:=runEnd_le mask p.i v.i;have jm:=v.j;have inb:∀ k,k<=p.more->p.i + k<=mask:=fun k hk=>by lia
  have gd:∀ k,k<=p.more->owner.getD (p.i + k) (some 0)=owner.getD (p.i + k) none:=fun k hk=>by
   have:p.i + k < owner.size:=by have:=inb k hk;lia
   rw[own_getD this,own_getD this]
  have rd:∀ k,k<=p.more->(road mask k p).j=p.i + k:=fun k hk=>by rw[in_run mask k p hk,<- hj]
  unfold layClean.free;have en:runEnd mask p.i + 1 - p.i=p.more + 1:=by lia
  rw[en];cases hq:(aD (p.more + 1)).find? fun k=>(owner.getD (p.i + k) (some 0)).isNone with
  | some k =>
   rw[List.find?_range_eq_some] at hq;obtain⟨h1,h2,h3⟩:=hq;have hk:k<=p.more:=dq (aM.mp h2);refine⟨k,p.i + k,rfl,rd k hk,inb k hk,?_,fun r' hr'=>?_⟩
   ·rw[gd k hk] at h1;exact Option.isNone_iff_eq_none.mp h1
   ·have q:=h3 r' hr';rw[gd r' (by lia)] at q
    rw[rd r' (by lia)]
    cases e:owner.getD (p.i + r') none with
    | none=>rw[e] at q;cases q
    | some z=>rfl
  | none =>
   rw[List.find?_eq_none] at hq;have taken:∀ k,k<=p.more->(owner.getD (p.i + k) none).isSome=true:=fun k hk=>by
    have q:=hq k (aM.mpr (dR hk));rw[gd k hk] at q;cases e:owner.getD (p.i + k) none with
    | none=>rw[e] at q;exact absurd rfl q
    | some z=>rfl
   cases l with
   | zero =>
    have q:=taken 0 (bG _);have hf':owner.getD p.i none=none:=hf;rw[Nat.add_zero,hf'] at q;cases q
   | succ l =>
    have e:=to_leap mask p;have v':PV mask (road mask (p.more + 1) p):=PV.road _ v;obtain⟨r,j,f1,f2,f3,f4,f5⟩:=free_spec hs fuel (road mask (p.more + 1) p) v' (by rw[e]) (by rw[e]) ⟨l,by lia,by rw[e];exact hf⟩
    refine⟨p.more + 1 + r,j,?_,by rw[road_add];exact f2,f3,f4,fun r' hr'=>?_⟩
    ·rw[e] at f1;exact f1
    ·by_cases c:r'<=p.more
     ·rw[rd r' c];exact taken r' c
     ·have q:=f5 (r' - (p.more + 1)) (by lia)
      rw[<- road_add,show p.more + 1 + (r' - (p.more + 1))=r' by lia] at q
      exact q
structure OwnI (mask:Nat) (owner:Own) (hs:List Int):Prop where
 size:owner.size=mask + 1
 perm:((liveOf mask owner).map (·.2)).Perm (aD hs.length)
 reach:∀ (j k:Nat),owner.getD j none=some k->∃ h,hs[k]?=some h/\∃ r,(road mask r (start mask h)).j=j/\∀ r',r' < r->(owner.getD (road mask r' (start mask h)).j none).isSome=true
theorem OwnI.free {mask:Nat} (hm:Mask mask) {owner:Own} {hs:List Int} (I:OwnI mask owner hs) (hl:hs.length<=mask):∃ y,y<=mask/\owner.getD y none=none:=by
 apply bc;intro hno;have all:∀ y,y < mask + 1->(owner.getD y none).isSome=true:=fun y hy=>by
  cases e:owner.getD y none with
  | none=>exact absurd ⟨y,dq hy,e⟩ hno
  | some z=>rfl
 have len:((aD (mask + 1)).filterMap fun j=>(owner.getD j none).map (j,·)).length=mask + 1:=by
  have gen:∀ l:List Nat,(∀ y∈l,(owner.getD y none).isSome=true)->(l.filterMap fun j=>(owner.getD j none).map (j,·)).length=l.length:=by
   intro l
   induction l with
   | nil=>intro _;rfl
   | cons a l ih =>
    intro h;obtain⟨z,e⟩:=cF.mp (h a ar);rw[cv,e];simp only[Option.map_some,bH];rw[ih fun y hy=>h y (au _ hy)]
  rw[gen _ fun y hy=>all y (aM.mp hy),cJ]
 have q:=I.perm.length_eq;rw[ag,cJ] at q;unfold liveOf at q;lia
theorem head_free {mask:Nat} (hm:Mask mask) {owner:Own} {y:Nat} (hy:y<=mask) (hf:owner.getD y none=none) (p:Probe) (v:PV mask p):∃ l,l < turns mask/\owner.getD (leaps mask l (p.i,p.perturb)).1 none=none:=by
 have h12:(leaps mask 12 (p.i,p.perturb)).1 < mask + 1:=by rw[leaps_succ mask 11];exact dR (leap_le _ _ _)
 have hp:(leaps mask 12 (p.i,p.perturb)).2 < 32:=by
  rw[leaps_pt]
  have:=v.pt
  show p.perturb / 32 ^ 12 < 32;have e:(2:Nat) ^ 64=18446744073709551616:=by decide
  have e2:(32:Nat) ^ 12=1152921504606846976:=by decide
  rw[e2];lia
 obtain⟨a,ha,ea⟩:=hm.full.from h12 (dR hy)
 refine⟨12 + a,by unfold turns;lia,?_⟩
 rw[leaps_add,leaps_f5 a _ hp,ea];exact hf
def layStep (mask:Nat) (acc:Option (Own × Nat)) (h:Int):Option (Own × Nat):=do
 let (owner,k) <- acc
 let j <- layClean.free mask owner (turns mask) (bits h % (mask + 1)) (bits h)
 pure (owner.setIfInBounds j (some k),k + 1)
theorem lay_fold {mask:Nat} (hm:Mask mask):∀ (hs done:List Int) (owner:Own),OwnI mask owner done->done.length + hs.length<=mask ->
  ∃ owner',hs.foldl (layStep mask) (some (owner,done.length))=some (owner',(done++hs).length)/\OwnI mask owner' (done++hs)
 | [],done,owner,I,_=>⟨owner,by rw[eN];rfl,by rw[eN];exact I⟩
 | h::hs,done,owner,I,hl=>by
  rw[bH] at hl;obtain⟨y,hy,hf⟩:=I.free hm (by lia)
  have v:=start_pv mask h;obtain⟨r,j,f1,f2,f3,f4,f5⟩:=free_spec I.size (turns mask) (start mask h) v rfl rfl (head_free hm hy hf _ v);have hjs:j < owner.size:=by have:=I.size;lia
  have gne:∀ a,a≠j->(owner.setIfInBounds j (some done.length)).getD a none=owner.getD a none:=fun a ha=>by
   rw[bY,bY,g7 (bW ha)]
  have gj:(owner.setIfInBounds j (some done.length)).getD j none=some done.length:=by
   rw[bY,fF hjs];rfl
  have more:∀ a,(owner.getD a none).isSome=true->((owner.setIfInBounds j (some done.length)).getD a none).isSome=true:=fun a ha=>by
   by_cases c:a=j
   ·rw[c,gj];rfl
   ·rw[gne a c];exact ha
  have I':OwnI mask (owner.setIfInBounds j (some done.length)) (done++[h]):=by
   refine⟨by rw[Array.size_setIfInBounds];exact I.size,?_,fun a k e=>?_⟩
   ·have q:=(live_set (k:=done.length) I.size f3 f4).map (·.2);rw[bm] at q;refine q.trans ?_;rw[az,eG,gq];exact(I.perm.cons _).trans (i7 _ _).symm
   ·by_cases c:a=j
    ·subst c;rw[gj] at e;cases e;refine⟨h,by simp,r,f2,fun r' hr'=>more _ (f5 r' hr')⟩
    ·rw[gne a c] at e;obtain⟨h',e1,r',e2,e3⟩:=I.reach a k e;exact⟨h',by rw[dD (aH.mp e1).1];exact e1,r',e2,fun x hx=>more _ (e3 x hx)⟩
  obtain⟨owner',e1,e2⟩:=lay_fold hm hs (done++[h]) _ I' (by rw[az,eG];lia)
  refine⟨owner',?_,by rw[dj] at e2;exact e2⟩
  rw[kd];have es:layStep mask (some (owner,done.length)) h=some (owner.setIfInBounds j (some done.length),done.length + 1):=by
   show(do let j <- layClean.free mask owner (turns mask) (bits h % (mask + 1)) (bits h);pure (owner.setIfInBounds j (some done.length),done.length + 1))=_
   have f1':layClean.free mask owner (turns mask) (bits h % (mask + 1)) (bits h)=some j:=f1;rw[f1']
   rfl
  rw[es];rw[az,eG,dj] at e1;exact e1
theorem own_start (mask:Nat):OwnI mask (gu (mask + 1) none) [] where
 size:=by simp
 perm:=by
  have e:liveOf mask (gu (mask + 1) none)=[]:=by
   unfold liveOf;rw[List.filterMap_eq_nil_iff];intro a ha
   have:(gu (mask + 1) (none:Option Nat)).getD a none=none:=by
    rw[bY,jx];split <;> rfl
   rw[this];rfl
  rw[e];exact e9 _
 reach:=fun j k e=>by
  have:(gu (mask + 1) (none:Option Nat)).getD j none=none:=by
   rw[bY,jx];split <;> rfl
  rw[this] at e;cases e
theorem layClean_ok {mask:Nat} (hm:Mask mask) (hs:Array Int) (hl:hs.size<=mask):∃ owner,layClean mask hs=some owner/\OwnI mask owner hs.toList:=by
 obtain⟨owner,e1,e2⟩:=lay_fold hm hs.toList [] _ (own_start mask) (by simpa using hl)
 refine⟨owner,?_,by simpa using e2⟩
 unfold layClean
 have:hs.foldl (init:=some (gu (mask + 1) (none:Option Nat),0)) (fun acc h=>do
  let (owner,k) <- acc
  let j <- layClean.free mask owner (turns mask) (bits h % (mask + 1)) (bits h)
  pure (owner.setIfInBounds j (some k),k + 1))=some (owner,hs.size):=by
  rw[<- Array.foldl_toList];have q:=e1;simp only[cO,dY] at q;rw[show hs.toList.length=hs.size by simp] at q
  exact q
 rw[this]
 rfl
theorem fm_all {α β:Type} {f:α->Option β}:∀ {l:List α},(∀ a∈l,(f a).isSome=true)->(l.filterMap f).length=l.length/\∀ i:Nat,(l.filterMap f)[i]?=(l[i]?).bind f
 | [],_=>⟨rfl,fun i=>by simp⟩
 | a::l,h=>by
  obtain⟨z,e⟩:=cF.mp (h a ar);obtain⟨h1,h2⟩:=fm_all (l:=l) (f:=f) fun b hb=>h b (au _ hb);rw[cv,e];refine⟨by simp[h1],fun i=>?_⟩
  cases i with
  | zero=>simp[e]
  | succ i=>simpa using h2 i
theorem mem_live {mask:Nat} {owner:Own} {j k:Nat} (h:(j,k)∈liveOf mask owner):j<=mask/\owner.getD j none=some k:=by
 unfold liveOf at h;obtain⟨a,ha,e⟩:=eB.mp h;cases q:owner.getD a none with
 | none=>rw[q] at e;cases e
 | some z=>rw[q] at e;cases e;exact⟨dq (aM.mp ha),q⟩
theorem live_mem {mask:Nat} {owner:Own} {j k:Nat} (h1:j<=mask) (h2:owner.getD j none=some k):(j,k)∈liveOf mask owner :=
 eB.mpr ⟨j,aM.mpr (dR h1),by rw[h2];rfl⟩
theorem live_ris (mask:Nat) (owner:Own):Ris ((liveOf mask owner).map (·.1)):=by
 unfold Ris liveOf;rw[bO];refine kH.filterMap _ ?_ (List.pairwise_lt_range (n:=mask + 1));intro a a' haa b hb b' hb';cases q:owner.getD a none with
 | none=>rw[q] at hb;cases hb
 | some z =>
  rw[q] at hb;cases hb;cases q':owner.getD a' none with
  | none=>rw[q'] at hb';cases hb'
  | some z'=>rw[q'] at hb';cases hb';exact haa
theorem range_fm {α:Type} (es:Array α):((aD es.size).filterMap fun k=>es[k]?)=es.toList:=by
 apply jp;intro i;have h:=fm_all (l:=aD es.size) (f:=fun k=>es[k]?) (fun a ha=>by
  have:=aM.mp ha
  simp[this])
 rw[h.2 i]
 by_cases c:i < es.size
 ·rw[List.getElem?_range c];simp
 ·rw[bE (by simpa using c)];simp[c]
theorem relaid_ok {es:Array (Int × ad)} {mask' wanted:Nat} (t:aI) (hm:Mask mask') (hw:sizeAbove wanted - 1=mask') (hsz:es.size * 5 < mask' * 3) :
  ∃ t' order,t.relaid (es.map (·.1)) wanted=some (t',order)/\(order.filterMap (es[·]?)).size=es.size/\SetI (order.filterMap (es[·]?)) t'/\(order.filterMap (es[·]?)).toList.Perm es.toList:=by
 obtain⟨owner,e1,I⟩:=layClean_ok hm (es.map (·.1)) (by rw[kq];lia)
 have el:(es.map (·.1)).toList.length=es.size:=by simp
 have hp:=I.perm;rw[el] at hp;have ks:∀ k∈(liveOf mask' owner).map (·.2),(es[k]?).isSome=true:=fun k hk=>by
  have:=aM.mp (hp.mem_iff.mp hk)
  simp[this]
 obtain⟨f1,f2⟩:=fm_all (f:=fun k=>es[k]?) ks;have etl:(ke (es[·]?) ((liveOf mask' owner).map (·.2)).toArray).toList=((liveOf mask' owner).map (·.2)).filterMap (fun k=>es[k]?):=by simp
 have perm:(ke (es[·]?) ((liveOf mask' owner).map (·.2)).toArray).toList.Perm es.toList:=by
  rw[etl,<- range_fm es];exact hp.filterMap _
 have size:(ke (es[·]?) ((liveOf mask' owner).map (·.2)).toArray).size=es.size:=by
  have:=perm.length_eq
  simpa using this
 refine⟨{ mask:=mask',place:=((liveOf mask' owner).map (·.1)).toArray,dummies:=#[],finger:=t.finger,led:=t.led,moves:=t.movedTo mask',plain:=t.plain },((liveOf mask' owner).map (·.2)).toArray,?_,size,?_,perm⟩
 ·unfold relaid laid;rw[hw,e1]
  rfl
 ·refine⟨⟨hm,rfl,?_,fun j hj=>?_⟩,?_,?_,fun i j e h1 h2=>?_⟩
  ·show Ris ((liveOf mask' owner).map (·.1)).toArray.toList;exact live_ris _ _
  ·have hj':j∈(liveOf mask' owner).map (·.1):=hj;obtain⟨⟨a,k⟩,h,rfl⟩:=br.mp hj';exact(mem_live h).1
  ·rw[size];show((liveOf mask' owner).map (·.1)).toArray.size=es.size
   have:=hp.length_eq
   simpa using this
  ·rw[size];exact hsz
  ·have h1':((liveOf mask' owner).map (·.1))[i]?=some j:=by simpa using h1
   have h2':(((liveOf mask' owner).map (·.2)).filterMap (fun k=>es[k]?))[i]?=some e:=by
    rw[<- etl,bu];exact h2
   rw[f2 i] at h2';rw[a6] at h1' h2';cases q:(liveOf mask' owner)[i]? with
   | none=>rw[q] at h1';cases h1'
   | some jk =>
    obtain⟨a,k⟩:=jk;rw[q] at h1' h2';have ea:a=j:=aL h1';subst ea;have ek:es[k]?=some e:=h2';obtain⟨_,ow⟩:=mem_live (bL q);obtain⟨h,eh,r,r1,r2⟩:=I.reach a k ow;have eh':e.1=h:=by
     have:(es.map (·.1)).toList[k]?=some e.1:=by
      rw[bu,Array.getElem?_map,ek];rfl
     rw[this] at eh;exact aL eh
    rw[eh'];refine⟨r,r1,fun r' hr'=>?_⟩;obtain⟨z,ez⟩:=cF.mp (r2 r' hr');have pv:=PV.road r' (start_pv mask' h)
    have:=pv.j
    show _∈((liveOf mask' owner).map (·.1)).toArray.toList;exact br.mpr ⟨_,live_mem (by lia) ez,rfl⟩
theorem grow {mask n:Nat} (hm:Mask mask) (h1:n * 5 < mask * 3) (h2:(n + 1) * 5 >= mask * 3) (hn:n + 1<=300):∃ mask',Mask mask'/\sizeAbove (grown (n + 1)) - 1=mask'/\(n + 1) * 5 < mask' * 3/\¬ sizeAbove (grown (n + 1)) > sizeLine:=by
 rcases hm with rfl | rfl | rfl | rfl
 ·have e:n=4:=by lia
  subst e;exact⟨31,.inr (.inl rfl),by decide +kernel,by decide,by decide +kernel⟩
 ·have e:n=18:=by lia
  subst e;exact⟨127,.inr (.inr (.inl rfl)),by decide +kernel,by decide,by decide +kernel⟩
 ·have e:n=76:=by lia
  subst e;exact⟨511,.inr (.inr (.inr rfl)),by decide +kernel,by decide,by decide +kernel⟩
 ·lia
end ST
set_option maxHeartbeats 1000000
namespace ST
open PySem PySem.SetTable
def JT (t:aI):Prop:=Ris t.place.toList/\t.dummies=#[]
theorem ris_range (n:Nat):Ris (Array.range n).toList:=by
 rw[Array.toList_range];exact List.pairwise_lt_range
theorem jt_stand (t:aI) (n:Nat):JT (t.standIn n):=⟨ris_range n,rfl⟩
theorem jt_or {t:aI} (h:JT t) (n:Nat):JT (t.orStandIn n):=by
 unfold SetTable.orStandIn
 split
 ·exact h
 ·exact jt_stand t n
theorem ris_put {xs:Array Nat} {j:Nat} (hr:Ris xs.toList) (hf:j∉xs.toList):Ris (insertAt xs (below xs j) j).toList:=by
 obtain⟨b1,b2,b3⟩:=below_spec hr j;have hl:xs.toList.length=xs.size:=by simp
 unfold Ris at *
 rw[insertAt_list _ _ _ b1,fK,bA];have lo:∀ a∈xs.toList.take (below xs j),a < j:=fun a ha=>by
  obtain⟨i,hi,rfl⟩:=aY ha;rw[aP] at hi;have q:=b2 i (by lia)
  rw[cI,dif_pos (show i < xs.size by lia)] at q
  simpa [jq] using q
 have up:∀ a∈xs.toList.drop (below xs j),j < a:=fun a ha=>by
  have ne:a≠j:=fun z=>hf (by rw[<- z];exact dP ha)
  obtain⟨i,hi,rfl⟩:=aY ha;rw[bo] at hi;have q:=b3 (below xs j + i) (by lia) (by lia)
  rw[cI,dif_pos (show below xs j + i < xs.size by lia)] at q
  have q':j<=(xs.toList.drop (below xs j))[i]:=by simpa [jr] using q
  lia
 refine⟨hr.sublist (fx _ _),⟨up,hr.sublist (js _ _)⟩,fun a ha b hb=>?_⟩;rcases ax.mp hb with rfl | hb
 ·exact lo a ha
 ·exact dZ (lo a ha) (up b hb)
theorem jt_slot {t:aI} (h:JT t) (j:Nat):t.slot j≠.dummy/\(t.slot j=.empty->j∉t.place.toList):=by
 have hd:has t.dummies j=false:=by rw[h.2];unfold has;simp
 unfold kE;dsimp only;rw[hd]
 by_cases e:(t.place[below t.place j]? == some j)=true
 ·rw[if_pos e];exact⟨nofun,nofun⟩
 ·rw[if_neg e];refine⟨nofun,fun _ hj=>e ?_⟩;obtain⟨i,hi,q⟩:=aY hj;have q:t.place[i]?=some j:=cM.mpr ⟨by simpa using hi,by simpa using q⟩
  rw[below_at h.1 q,q];simp
theorem jt_go {t:aI} (h:JT t) (f:Nat->Int) (x:Int):∀ (n:Nat) (p:Probe) (j:Nat) (d:Option Nat),p.dummy=none->probe.go t f x n p=some (.empty j d)->j∉t.place.toList/\d=none
 | 0,p,j,d,_,e=>by unfold probe.go at e;cases e
 | n + 1,p,j,d,hp,e=>by
  have ha:(t.advance p).dummy=none:=by rw[advance_eq,step_dummy];exact hp
  unfold probe.go at e;obtain⟨s1,s2⟩:=jt_slot h p.j;cases hs:t.slot p.j with
  | empty=>rw[hs] at e;cases e;exact⟨s2 hs,hp⟩
  | dummy=>exact absurd hs s1
  | live i =>
   rw[hs] at e;dsimp only at e
   split at e
   ·cases e
   ·exact jt_go h f x n _ j d ha e
theorem jt_new {t:aI} (h:JT t) (es:Array (Int × ad)) (x:Int) (v:ad):JT (layNew t es x v).2.1:=by
 unfold layNew;cases hf:t.freeSlot x with
 | none=>exact jt_stand _ _
 | some q =>
  obtain⟨j,b⟩:=q;dsimp only;refine jt_or ?_ _;unfold aI.freeSlot at hf
  split at hf
  ·rename_i j' d hp;obtain⟨h1,h2⟩:=jt_go h _ _ _ _ _ _ rfl hp;subst h2;cases hf;have hd:has t.dummies j'=false:=by rw[h.2];unfold has;simp
   refine⟨ris_put h.1 h1,?_⟩;show(if has t.dummies j'=true then _ else t.dummies)=#[]
   rw[hd,if_neg bR];exact h.2
  ·cases hf
theorem jt_all (t:aI) (es:Array (Int × ad)) (n:Nat):JT (iw t es n).2.1:=by
 unfold iw
 split
 ·rename_i t' order hq;dsimp only
  split
  ·unfold relaid laid at hq;cases hc:layClean (sizeAbove n - 1) (Array.map (·.1) es) with
   | none=>rw[hc] at hq;cases hq
   | some ow =>
    rw[hc] at hq;cases hq;refine⟨?_,rfl⟩
    have:=live_ris (sizeAbove n - 1) ow
    simpa [liveOf] using this
  ·exact jt_stand _ _
 ·exact jt_stand _ _
theorem jt_fresh (led:Bool):JT (.fresh 0 0 led):=⟨.nil,rfl⟩
end ST
set_option maxHeartbeats 4000000
namespace ST
open PySem PySem.SetTable PySem.Spec PyProof.Rows
section
variable {prog:aB} {w:aN} {A:aO} {E:ad->ah->Prop} {s:ah}
def TK (prog:aB) (w:aN) (h:aS) (k:List Str) (v:ad):Prop:=∃ b,v=.ref b/\IsTupleKey (strKind prog w) h k b
theorem TK.inj {h:aS} {k k':List Str} {v:ad} (a:TK prog w h k v) (b:TK prog w h k' v):k=k':=by
 obtain⟨b1,rfl,h1⟩:=a;obtain⟨b2,e,h2⟩:=b;cases e;exact h1.inj h2
abbrev hashT (prog:aB) (w:aN) (k:List Str):Int:=tupleKeyHash (strKind prog w) k
theorem itemsAre_strs {k:List Str} {vs:List ad} (h:ItemsAre (strKind prog w) k vs):∀ v∈vs,∃ x t,v=iT x t:=by
 induction h with
 | nil=>intro v hv;cases hv
 | cons h1 _ ih =>
  intro v hv;rcases ax.mp hv with rfl | hv
  ·obtain⟨t,e⟩:=eY h1;exact⟨_,t,e⟩
  ·exact ih v hv
theorem notClass {k:List Str} {v:ad} {Q:Bool->ah->Prop} (hk:TK prog w s.heap k v) (h:Q false s):aw (aA prog w) A (fC 8 v) Q E s:=by
 obtain⟨b,rfl,hk⟩:=hk;have hT:=hk.typeIs;obtain⟨o,items,n,ho,_,hd,hi⟩:=hk;unfold fC;refine aa (eQ hT ?_);dsimp only;simp only[beq_self_eq_true,if_true];refine aa (ae ?_);simp only[f6,aE,if_false];refine aa (cg ho hd ?_);dsimp only;refine aa ?_;show aw _ _ (forIn items _ _) _ _ s;rw[<- Array.forIn_toList];refine ia _ (fun rest r s'=>r.1=none/\s'=s/\∀ v∈rest,∃ x t,v=iT x t) _ ?_ ?_ _ _ ⟨rfl,rfl,itemsAre_strs hi⟩
 ·rintro x rest r s' ⟨hr,rfl,hall⟩;obtain⟨y,t,rfl⟩:=hall x ar;unfold fC;refine aa (ae ?_);simp only[aE,if_false];exact ae ⟨rfl,rfl,fun u hu=>hall u (au _ hu)⟩
 ·rintro⟨r1,r2⟩ s' ⟨hr,rfl,_⟩;simp only at hr;subst hr;exact ae h
theorem quietT {k:List Str} {v:ad} {Q:Bool->ah->Prop} (hk:TK prog w s.heap k v) (h:Q true s):aw (aA prog w) A (eqIsQuiet 8 v) Q E s:=by
 obtain⟨b,rfl,hk⟩:=hk;exact wpAny_eqIsQuiet_tuple hk h
theorem notSeen {k:List Str} {x:ad} {stored:List ad} {Q:Bool->ah->Prop} (hx:TK prog w s.heap k x) (hs:∀ y∈stored,∃ k',TK prog w s.heap k' y) (h:Q false s) :
  aw (aA prog w) A (searchCouldBeSeen x stored) Q E s:=by
 unfold searchCouldBeSeen;refine aa (ia _ (fun rest r s'=>r.1=none/\s'=s/\∀ y∈rest,∃ k',TK prog w s.heap k' y) _ ?_ ?_ _ _ ⟨rfl,rfl,hs⟩)
 ·rintro y rest r s' ⟨hr,rfl,hall⟩;obtain⟨k',hy⟩:=hall y ar;have fin:∀ y∈rest,∃ k',TK prog w s'.heap k' y:=fun z hz=>hall z (au _ hz);obtain⟨bx,ex,_⟩:=id hx;obtain⟨by',ey,_⟩:=id hy
  have main:∀ c:Bool,aw (aA prog w) A (if c=true then pure (ce ((none,()):Option Bool × Unit)) else do
    if !(<- eqIsQuiet 8 x) then pure (gM (some true,())) else
    if !(<- eqIsQuiet 8 y) then pure (gM (some true,())) else
    if <- fC 8 x then pure (gM (some true,())) else
    if <- fC 8 y then pure (gM (some true,())) else pure (ce (none,())))
    (fun r s'_1=>match r with
     | ce b'=>b'.fst=none/\s'_1=s'/\∀ (y:ad),y∈rest->∃ k',TK prog w s'.heap k' y
     | gM b'=>False) E s':=by
   intro c;cases c with
   | true=>exact ae ⟨rfl,rfl,fin⟩
   | false =>
    simp only[aE,if_false];refine aa (quietT hx ?_);simp only[f6,aE,if_false];refine aa (quietT hy ?_);simp only[f6,aE,if_false];refine aa (notClass hx ?_);simp only[aE,if_false];refine aa (notClass hy ?_);simp only[aE,if_false];exact ae ⟨rfl,rfl,fin⟩
  rw[ex,ey] at main ⊢;dsimp only;refine cH (main ((bx == by') || (carriedByValue (.ref bx) && carriedByValue (.ref by')))) (fun r s1 h=>?_) (fun _ _ e=>e)
  cases r with
  | yield b'=>exact h
  | done b'=>exact h.elim
 ·rintro⟨r1,r2⟩ s' ⟨hr,rfl,_⟩;simp only at hr;subst hr;exact ae h
def ElT (prog:aB) (w:aN) (h:aS) (es:List (Int × ad)):Prop:=∀ e∈es,∃ k,TK prog w h k e.2/\e.1=hashT prog w k
structure SetAt (h:aS) (a:Addr) (es:Array (Int × ad)) (ep:Nat) (t:aI):Prop where
 obj:h.get? a=some { cls:=.type "set",dict:=none,data:=.set es ep t }
 inv:SetI es t
theorem SetAt.state {a:Addr} {es:Array (Int × ad)} {ep:Nat} {t:aI} {Q:(Array (Int × ad) × Nat × aI)->ah->Prop} (S:SetAt s.heap a es ep t) (h:Q (es,ep,t) s):aw (aA prog w) A (setState a) Q E s :=
 dr S.obj rfl S.inv.fits h
theorem searchT {a:Addr} {es:Array (Int × ad)} {ep:Nat} {t:aI} {k:List Str} {x:ad} {adding:Bool} (S:SetAt s.heap a es ep t) (hu:A.units < bS) (hel:ElT prog w s.heap es.toList) (hx:TK prog w s.heap k x)
  {M0:Nat} (hM:(road t.mask M0 (start t.mask (hashT prog w k))).j∉t.place.toList) {Q:SetFound->ah->Prop}
  (hfound:∀ i?,(adding=true\/i?.isSome=true)->(∃ e∈es.toList,TK prog w s.heap k e.2)->Q (.there i?) s)
  (hfree:∀ j r,j<=t.mask->j∉t.place.toList->(road t.mask r (start t.mask (hashT prog w k))).j=j->(∀ r',r' < r->(road t.mask r' (start t.mask (hashT prog w k))).j∈t.place.toList)->(¬ ∃ e∈es.toList,TK prog w s.heap k e.2)->Q (.free j false) s) :
  ∀ (fuel m:Nat) (stand:Option Probe),M0 < fuel + m->stand.getD (t.probeStart (hashT prog w k))=road t.mask m (start t.mask (hashT prog w k)) ->
   (∀ m',m' < m->∃ (i:Nat) (e:Int × ad),t.place[i]?=some (road t.mask m' (start t.mask (hashT prog w k))).j/\es[i]?=some e/\¬ TK prog w s.heap k e.2)->m<=M0 ->
   aw (aA prog w) A (setSearchFrom a x (hashT prog w k) adding fuel stand) Q E s
 | 0,m,stand,hf,_,_,hm=>by lia
 | fuel + 1,m,stand,hf,hst,hpast,hm=>by
  unfold setSearchFrom;refine aa (S.state ?_);dsimp only;rw[S.inv.way];simp only[aE,if_false];have v:=PV.road m (start_pv t.mask (hashT prog w k));have dn:∀ m,(road t.mask m (start t.mask (hashT prog w k))).dummy=none:=fun m=>by
   induction m with
   | zero=>rfl
   | succ m ih=>rw[road_succ,step_dummy];exact ih
  obtain⟨m1,p1,p2⟩:=probe_spec S.inv.tab S.inv.le (fun i=>(es[i]?.map (·.1)).getD 0) (hashT prog w k) v (dn m);rw[hst];have ahead:∀ r,r < m + m1->∃ (i:Nat) (e:Int × ad),t.place[i]?=some (road t.mask r (start t.mask (hashT prog w k))).j/\es[i]?=some e/\¬ TK prog w s.heap k e.2:=fun r hr=>by
   by_cases c:r < m
   ·exact hpast r c
   ·obtain⟨i,q1,q2⟩:=p1 (r - m) (by lia)
    rw[<- road_add,show m + (r - m)=r by lia] at q1
    obtain⟨hi,_⟩:=cM.mp q1;have hi':i < es.size:=by rw[<- S.inv.size];exact hi
    have ee:es[i]?=some es[i]:=by simp[hi']
    refine⟨i,es[i],q1,ee,fun z=>q2 ?_⟩;obtain⟨k',z',eh⟩:=hel es[i] (by simp)
    rw[ee];show es[i].1=_;rw[eh,z'.inj z]
  have inplace:∀ r,r < m + m1->(road t.mask r (start t.mask (hashT prog w k))).j∈t.place.toList:=fun r hr=>by
   obtain⟨i,e,q,_⟩:=ahead r hr;exact dO.mpr (eI q)
  have hmM:m + m1<=M0:=by
   rcases bP M0 (m + m1) with c | c
   ·exact absurd (inplace M0 c) hM
   ·exact c
  rcases p2 with⟨q1,q2⟩ | ⟨i,q1,q2,q3,q4⟩
  ·generalize hP:aI.probe t _ (hashT prog w k) (road t.mask m (start t.mask (hashT prog w k)))=pr;have e2:pr=some (.empty (road t.mask m1 (road t.mask m (start t.mask (hashT prog w k)))).j none):=by rw[<- hP];exact q2
   rw[e2];dsimp only;rw[<- road_add] at q1 ⊢;have pv:=(PV.road (m + m1) (start_pv t.mask (hashT prog w k))).j;refine ae (hfree _ (m + m1) (by lia) q1 rfl inplace ?_)
   rintro⟨e,he,hke⟩;obtain⟨i,hi,ei⟩:=aY he;have ee:es[i]?=some e:=by
    have h2:i < es.size:=by simpa using hi
    rw[<- ei];simp[h2]
   have hi':i < t.place.size:=by rw[S.inv.size];simpa using hi
   obtain⟨r,r1,r2⟩:=S.inv.reach i t.place[i] e (by simp[hi']) ee
   obtain⟨k',z',eh⟩:=hel e he;have hk':k'=k:=z'.inj hke;rw[eh,hk'] at r1 r2;rcases bP r (m + m1) with c | c
   ·obtain⟨i',e',a1,a2,a3⟩:=ahead r c;rw[r1] at a1;have s1:=slot_of S.inv.tab a1;have s2:=slot_of (j:=t.place[i]) (i:=i) S.inv.tab (by simp[hi'])
    rw[s1] at s2;cases s2;rw[ee] at a2;cases a2;exact a3 hke
   ·rcases eD c with c | c
    ·exact q1 (r2 _ c)
    ·rw[c,r1] at q1;exact q1 (by simp)
  ·generalize hP:aI.probe t _ (hashT prog w k) (road t.mask m (start t.mask (hashT prog w k)))=pr;have e2:pr=some (.candidate (road t.mask m1 (road t.mask m (start t.mask (hashT prog w k)))).j i (road t.mask (m1 + 1) (road t.mask m (start t.mask (hashT prog w k))))):=by rw[<- hP];exact q4
   rw[e2];dsimp only;have hi':i < es.size:=by
    obtain⟨hi,_⟩:=cM.mp q1;rw[<- S.inv.size];exact hi
   have ee:es[i]?=some es[i]:=by simp[hi']
   obtain⟨k',hy,eh⟩:=hel es[i] (by simp)
   by_cases hled:t.led=true
   ·rw[hled];simp only[f6,aE,if_false];rw[ee];obtain⟨b,eb,hb⟩:=hy;obtain⟨bx,ex,hbx⟩:=id hx;have hpair:es[i]=(es[i].1,cA b):=by rw[<- eb]
    rw[hpair];dsimp only;refine aa (aW ?_);rw[ex];refine wpAny_eqBool_tuple hu hb hbx ?_;refine aa (S.state ?_);dsimp only;have yes:k'=k->∃ e∈es.toList,TK prog w s.heap k e.2:=fun c=>⟨es[i],by simp,⟨b,eb,c ▸ hb⟩⟩
    by_cases hadd:(adding && decide (k'=k))=true
    ·rw[if_pos hadd];have c:k'=k:=by
      simp only[aK,decide_eq_true_eq] at hadd;exact hadd.2
     exact ae (hfound none (.inl (by simp only[aK] at hadd;exact hadd.1)) (yes c))
    ·rw[if_neg hadd];have sm:t.sameMemory t.moves t.mask=some true:=by unfold sameMemory;rw[if_pos (by simp)]
     rw[sm];dsimp only;rw[if_pos rfl,q2];dsimp only;rw[ee,hpair];dsimp only;refine aa (wpAny_isSame_ref_self ?_);rw[if_pos rfl];refine aa (ae ?_);dsimp only
     by_cases c:k'=k
     ·rw[decide_eq_true c,if_pos rfl];exact ae (hfound _ (.inr rfl) (yes c))
     ·rw[decide_eq_false c,if_neg bR];rw[<- ex];refine searchT S hu hel hx hM hfound hfree fuel (m + m1 + 1) _ (by lia) ?_ (fun r hr=>?_) ?_
      ·show road t.mask (m1 + 1) (road t.mask m _)=_;rw[<- road_add,Nat.add_assoc]
      ·rcases eD (dq hr) with d | d
       ·exact ahead r d
       ·rw[d];rw[<- road_add] at q1;refine⟨i,es[i],q1,ee,fun z=>c ?_⟩;exact TK.inj ⟨b,eb,hb⟩ z
      ·rcases eD hmM with d | d
       ·exact d
       ·rw[<- road_add] at q1;rw[d] at q1;exact absurd (dO.mpr (eI q1)) hM
   ·have hled':t.led=false:=eS.mpr hled;rw[hled'];simp only[kr,if_true];refine aa (notSeen hx (fun y hy'=>?_) ?_)
    ·obtain⟨e,he,rfl⟩:=br.mp hy';have he':e∈es.toList:=by
      have:=dO.mp he
      exact dO.mpr (Array.mem_filter.mp this).1
     obtain⟨k',z,_⟩:=hel e he';exact⟨k',z⟩
    ·simp only[aE,if_false];rw[ee];obtain⟨b,eb,hb⟩:=hy;obtain⟨bx,ex,hbx⟩:=id hx;have hpair:es[i]=(es[i].1,cA b):=by rw[<- eb]
     rw[hpair];dsimp only;refine aa (aW ?_);rw[ex];refine wpAny_eqBool_tuple hu hb hbx ?_;refine aa (S.state ?_);dsimp only;have yes:k'=k->∃ e∈es.toList,TK prog w s.heap k e.2:=fun c=>⟨es[i],by simp,⟨b,eb,c ▸ hb⟩⟩
     by_cases hadd:(adding && decide (k'=k))=true
     ·rw[if_pos hadd];have c:k'=k:=by
       simp only[aK,decide_eq_true_eq] at hadd;exact hadd.2
      exact ae (hfound none (.inl (by simp only[aK] at hadd;exact hadd.1)) (yes c))
     ·rw[if_neg hadd];have sm:t.sameMemory t.moves t.mask=some true:=by unfold sameMemory;rw[if_pos (by simp)]
      rw[sm];dsimp only;rw[if_pos rfl,q2];dsimp only;rw[ee,hpair];dsimp only;refine aa (wpAny_isSame_ref_self ?_);rw[if_pos rfl];refine aa (ae ?_);dsimp only
      by_cases c:k'=k
      ·rw[decide_eq_true c,if_pos rfl];exact ae (hfound _ (.inr rfl) (yes c))
      ·rw[decide_eq_false c,if_neg bR];rw[<- ex];refine searchT S hu hel hx hM hfound hfree fuel (m + m1 + 1) _ (by lia) ?_ (fun r hr=>?_) ?_
       ·show road t.mask (m1 + 1) (road t.mask m _)=_;rw[<- road_add,Nat.add_assoc]
       ·rcases eD (dq hr) with d | d
        ·exact ahead r d
        ·rw[d];rw[<- road_add] at q1;refine⟨i,es[i],q1,ee,fun z=>c ?_⟩;exact TK.inj ⟨b,eb,hb⟩ z
       ·rcases eD hmM with d | d
        ·exact d
        ·rw[<- road_add] at q1;rw[d] at q1;exact absurd (dO.mpr (eI q1)) hM
end
section
variable {prog:aB} {w:aN} {A:aO} {E:ad->ah->Prop} {s:ah}
theorem setRelay_eq (a:Addr) (wanted:Nat):setRelay a wanted=(do
 let (es,_,t) <- setState a
 if aI.sizeAbove wanted > sizeLine then ix "set:memory"
 let (es,t) <- (do
  let some (t,order):=t.relaid (es.map (·.1)) wanted | ix "internal:set-table-without-room"
  let es':=order.filterMap (es[·]?)
  if es'.size != es.size then ix "internal:set-table-lost-an-element"
  pure (es',t))
 storeSet a es t):=by rfl
theorem hbvT {k:List Str} {v:ad} {Q:Bool->ah->Prop} (hk:TK prog w s.heap k v) (h:Q (decide (k=[])) s):aw (aA prog w) A (hashByValue 8 v) Q E s:=by
 obtain⟨b,rfl,hk⟩:=hk;have hT:=hk.typeIs;obtain⟨o,items,n,ho,_,hd,hi⟩:=hk;unfold hashByValue;refine aa (gv hT PySem.F.slot_tuple_hash.lookup ?_);dsimp only;refine aa (cg ho hd ?_);refine aa ?_;show aw _ _ (forIn items _ _) _ _ s;rw[<- Array.forIn_toList];generalize hits:items.toList=its at hi;cases hi with
 | nil =>
  rw[gN];exact ae (ae h)
 | cons h1 h2 =>
  obtain⟨t,e⟩:=eY h1;subst e;rw[dy];have e2:∀ n x t,hashByValue n (iT x t)=pure false:=fun n x t=>by unfold hashByValue;rfl
  rw[e2];refine aa (aa (ae ?_));simp only[kr,if_true];refine ae ?_;exact ae (ae (by simpa using h))
def PlainT (prog:aB) (w:aN) (h:aS) (es:List (Int × ad)) (t:aI):Prop:=t.plain=true->∀ e∈es,TK prog w h [] e.2
theorem addT {a:Addr} {es:Array (Int × ad)} {ep:Nat} {t:aI} {k:List Str} {x:ad} (S:SetAt s.heap a es ep t) (hu:A.units < bS) (hel:ElT prog w s.heap es.toList) (hpl:PlainT prog w s.heap es.toList t) (hx:TK prog w s.heap k x) (hn:es.size + 1<=300) {Q:Bool->ah->Prop}
  (h:∀ h' es' ep' t' added,SetAt h' a es' ep' t'->cB a s.heap h'->PlainT prog w s.heap es'.toList t'->t'.led=t.led ->
   ((added=false/\es'=es/\∃ e∈es.toList,TK prog w s.heap k e.2)\/(added=true/\es'.toList.Perm ((hashT prog w k,x)::es.toList)/\¬ ∃ e∈es.toList,TK prog w s.heap k e.2))->Q added { s with heap:=h' }) :
  aw (aA prog w) A (j0 a x (hashT prog w k)) Q E s:=by
 unfold j0 setAddHashedIn;refine aW (aa (S.state ?_));dsimp only;have hbs:byScan x es=false:=by
  obtain⟨b,rfl,_⟩:=hx
  rfl
 rw[hbs];simp only[aE,if_false];obtain⟨y,hy,hf⟩:=free_place S.inv.tab S.inv.le;obtain⟨m,hm,e⟩:=cover S.inv.tab.mask (start_pv t.mask (hashT prog w k)) hy;have hm':m < 100000 + 0:=by
  have:=S.inv.tab.mask
  have:t.mask<=511:=by rcases this with z | z | z | z <;> lia
  lia
 refine aa ?_;unfold setSearch;refine searchT S hu hel hx (M0:=m) (by rw[e];exact hf) (fun i? _ hyes=>?_) (fun j r hj hfj ej hrj hno=>?_) 100000 0 none hm' rfl (fun m' h'=>absurd h' (cP _)) (bG _)
 ·dsimp only;have q:=h s.heap es ep t false S (jt a s.heap) hpl rfl (.inl ⟨rfl,rfl,hyes⟩);exact ae q
 ·dsimp only;refine aa (S.state ?_);dsimp only;have P:=put_set (x:=x) S.inv hj hfj ej hrj true;obtain⟨p1,p2,p3,p4,p5,p6⟩:=P;have p3d:(t.put j).1.dummies=#[]:=p3.nodum;have p3r:Ris (t.put j).1.place.toList:=p3.ris;have p3t:∀ a∈(t.put j).1.place.toList,a<=(t.put j).1.mask:=p3.top;generalize hes:aI.insertAt es (t.put j).2 (hashT prog w k,x)=es1 at p1 p2 p6 ⊢;have hperm:es1.toList.Perm ((hashT prog w k,x)::es.toList):=by
   rw[p1];refine List.perm_middle.trans ?_;rw[eJ]
  have rest:∀ tt:aI,tt.place=(t.put j).1.place->tt.dummies=#[]->tt.mask=t.mask->tt.led=t.led->(tt.plain=true->t.plain=true/\k=[])->aw (aA prog w) A (do
    storeSet a es1 tt
    if (!false && tt.tooFull)=true then do
     setRelay a (c5 (es.size + 1))
     pure true
    else pure true) Q E s:=by
   intro tt h1 h2 h3 h4 h5;have T':Tab tt:=⟨by rw[h3];exact S.inv.tab.mask,h2,by rw[h1];exact p3r,fun a ha=>by rw[h1] at ha;rw[h3,<- p5];exact p3t a ha⟩
   have hplain:∀ es'':List (Int × ad),es''.Perm ((hashT prog w k,x)::es.toList)->∀ t2:aI,t2.plain=tt.plain->PlainT prog w s.heap es'' t2:=by
    intro es'' hp t2 ht2 hpt ee hee;rw[ht2] at hpt;obtain⟨q1,q2⟩:=h5 hpt;rcases ax.mp (hp.mem_iff.mp hee) with q | q
    ·rw[q,<- q2];exact hx
    ·exact hpl q1 ee q
   have hz:es1.size<=sizeLine:=by rw[p2,bn];lia
   refine aa (gP S.obj rfl ?_ hz);have ho1:(s.heap.update a (dG es1 tt)).get? a=some { cls:=.type "set",dict:=none,data:=.set es1 (ep + 1) tt }:=by
    have:=bD (dG es1 tt) S.obj (by rw[ib _ _ rfl];rfl)
    rw[ib _ _ rfl] at this;exact this
   have hsb1:=be s.heap a (dG es1 tt);have tf:tt.tooFull=decide ((es.size + 1) * 5 >= t.mask * 3):=by
    unfold aI.tooFull kG;rw[h2,h1,p4,h3]
    rfl
   have room:=S.inv.room
   by_cases hfull:(es.size + 1) * 5 >= t.mask * 3
   ·rw[tf,decide_eq_true hfull];simp only[kr,Bool.and_self,if_true];obtain⟨mask',hm1,hm2,hm3,hm4⟩:=grow S.inv.tab.mask room hfull hn;obtain⟨t',order,r1,r2,r3,r4⟩:=relaid_ok (es:=es1) tt hm1 hm2 (by rw[p2];exact hm3)
    have hled:t'.led=tt.led/\t'.plain=tt.plain:=by
     unfold relaid laid at r1;cases hq:layClean (sizeAbove (grown (es.size + 1)) - 1) (Array.map (·.1) es1) with
     | none=>rw[hq] at r1;cases r1
     | some ow=>rw[hq] at r1;cases r1;exact⟨rfl,rfl⟩
    have hfit1:tt.fits es1.size=true:=by
     unfold kF kG
     have:t.mask >= 7:=by rcases S.inv.tab.mask with z | z | z | z <;> lia
     simp only[aK,beq_iff_eq,decide_eq_true_eq];rw[h2,h1,p4,p2,h3];refine⟨rfl,?_⟩;show es.size + 1 + 0<=t.mask;lia
    refine aa ?_;rw[setRelay_eq];refine aa (dr ho1 rfl hfit1 ?_);dsimp only;rw[if_neg hm4,r1];dsimp only;rw[r2];simp only[bne_self_eq_false,aE,if_false,pure_bind];have hz2:(order.filterMap (es1[·]?)).size<=sizeLine:=by rw[r2];exact hz
    refine gP ho1 rfl ?_ hz2;have ho2:((s.heap.update a (dG es1 tt)).update a (dG (order.filterMap (es1[·]?)) t')).get? a=some { cls:=.type "set",dict:=none,data:=.set (order.filterMap (es1[·]?)) (ep + 1 + 1) t' }:=by
     have:=bD (dG (order.filterMap (es1[·]?)) t') ho1 (by rw[ib _ _ rfl];rfl)
     rw[ib _ _ rfl] at this;exact this
    have hsb2:=hsb1.trans (be (s.heap.update a (dG es1 tt)) a (dG (order.filterMap (es1[·]?)) t'));exact ae (h _ _ _ _ true ⟨ho2,r3⟩ hsb2 (hplain _ (r4.trans hperm) _ hled.2) (hled.1.trans h4) (.inr ⟨rfl,r4.trans hperm,hno⟩))
   ·rw[tf,decide_eq_false hfull];simp only[Bool.and_false,aE,if_false];have I':SetI es1 tt:=by
     refine⟨T',by rw[h1,p4,p2],by rw[h3,p2];lia,fun i j' e' q1 q2=>?_⟩
     rw[h1] at q1;obtain⟨r,r1,r2⟩:=p6 i j' e' q1 q2;rw[h3,h1];exact⟨r,r1,r2⟩
    exact ae (h _ _ (ep + 1) _ true ⟨ho1,I'⟩ hsb1 (hplain _ hperm _ rfl) h4 (.inr ⟨rfl,hperm,hno⟩))
  by_cases hp:t.plain=true
  ·have hp':(t.put j).1.plain=true:=hp;rw[hp'];simp only[if_true];refine aa (hbvT hx ?_)
   by_cases hk:k=[]
   ·rw[decide_eq_true hk];simp only[if_true];exact rest (t.put j).1 rfl p3d p5 rfl (fun _=>⟨hp,hk⟩)
   ·rw[decide_eq_false hk];simp only[aE,if_false];exact rest { (t.put j).1 with plain:=false } rfl p3d p5 rfl (fun z=>nomatch z)
  ·have hp':(t.put j).1.plain=false:=eS.mpr hp;rw[hp'];simp only[aE,if_false];refine aa (ae ?_);simp only[if_true];exact rest (t.put j).1 rfl p3d p5 rfl (fun z=>by rw[hp'] at z;cases z)
theorem setAddT {a:Addr} {es:Array (Int × ad)} {ep:Nat} {t:aI} {k:List Str} {x:ad} (S:SetAt s.heap a es ep t) (hu:A.units < bS) (hel:ElT prog w s.heap es.toList) (hpl:PlainT prog w s.heap es.toList t) (hx:TK prog w s.heap k x) (hn:es.size + 1<=300) {Q:Bool->ah->Prop}
  (h:∀ h' tk es' ep' t' added,SetAt h' a es' ep' t'->cB a s.heap h'->PlainT prog w s.heap es'.toList t'->t'.led=t.led->s.toks<=tk ->
   ((added=false/\es'=es/\∃ e∈es.toList,TK prog w s.heap k e.2)\/(added=true/\es'.toList.Perm ((hashT prog w k,x)::es.toList)/\¬ ∃ e∈es.toList,TK prog w s.heap k e.2))->Q added { s with heap:=h',toks:=tk }) :
  aw (aA prog w) A (setAdd a x) Q E s:=by
 obtain⟨b,rfl,hk⟩:=id hx;unfold setAdd;refine aW (aa (wpAny_pyHash_tuple hu hk ?_));exact addT (s:={ s with toks:=s.toks + (k.length + 1) }) S hu hel hpl hx hn fun h' es' ep' t' added h1 h2 h3 h4 h5=>h h' _ es' ep' t' added h1 h2 h3 h4 (fP _ _) h5
end
def TupKeep (h h':aS):Prop:=∀ b o,h.get? b=some o->o.cls=.type "tuple"->h'.get? b=some o
theorem TupKeep.trans {a b c:aS} (x:TupKeep a b) (y:TupKeep b c):TupKeep a c:=fun d o e h=>y d o (x d o e h) h
def setOb (es:Array (Int × ad)) (ep:Nat) (t:aI):Obj:={ cls:=.type "set",dict:=none,data:=.set es ep t }
structure SetKd (prog:aB) (w:aN) (κ:Type) where
 pk:Bool
 is:aS->κ->ad->Prop
 I:aS->Addr->Array (Int × ad)->Nat->aI->Prop
 inj:∀ {h:aS} {k k':κ} {v:ad},is h k v->is h k' v->k=k'
 obj:∀ {h:aS} {a:Addr} {es:Array (Int × ad)} {ep:Nat} {t:aI},I h a es ep t->h.get? a=some (setOb es ep t)
 fits:∀ {h:aS} {a:Addr} {es:Array (Int × ad)} {ep:Nat} {t:aI},I h a es ep t->t.fits es.size=true
 few:pk=false->∀ {h:aS} {a:Addr} {es:Array (Int × ad)} {ep:Nat} {t:aI} {ks:List κ},I h a es ep t->bb (fun(e:Int × ad) k=>is h k e.2) es.toList ks->ks.Nodup->t.plain=true->es.size<=1
 fresh:∀ {h:aS} {a:Addr} {led:Bool},h.get? a=some (setOb #[] 0 (.fresh 0 0 led))->I h a #[] 0 (.fresh 0 0 led)
 keepIs:∀ {h h':aS} {k:κ} {v:ad},is h k v->TupKeep h h'->is h' k v
 keepI:∀ {h h':aS} {a:Addr} {es:Array (Int × ad)} {ep:Nat} {t:aI},I h a es ep t->h'.get? a=h.get? a->TupKeep h h'->I h' a es ep t
 add:∀ {A:aO} {E:ad->ah->Prop} {s:ah} {a:Addr} {es:Array (Int × ad)} {ep:Nat} {t:aI} {k:κ} {x:ad} {Q:Bool->ah->Prop},A.units < bS->I s.heap a es ep t->is s.heap k x->es.size + 1<=300 ->
  (∀ h' tk es' ep' t' added,I h' a es' ep' t'->cB a s.heap h'->t'.led=t.led->s.toks<=tk ->
   ((added=false/\es'=es/\∃ e∈es.toList,is s.heap k e.2)\/(added=true/\(∃ hh,es'.toList.Perm ((hh,x)::es.toList))/\¬ ∃ e∈es.toList,is s.heap k e.2))->Q added { s with heap:=h',toks:=tk }) ->
  aw (aA prog w) A (setAdd a x) Q E s
theorem sameBut_tup {h h':aS} {a:Addr} {es:Array (Int × ad)} {ep:Nat} {t:aI} (ho:h.get? a=some (setOb es ep t)) (sb:cB a h h'):TupKeep h h':=fun b o e c=>by
 refine(sb.2 b ?_).trans e;rintro rfl;rw[ho] at e;have e':o=setOb es ep t:=(aL e).symm;rw[e'] at c;have c':cV "set" = cV "tuple":=c;injection c' with c''
 exact absurd c'' (by decide)
section
variable {prog:aB} {w:aN}
theorem TK.keep {h h':aS} {k:List Str} {v:ad} (x:TK prog w h k v) (kp:TupKeep h h'):TK prog w h' k v:=by
 obtain⟨b,rfl,o,items,n,ho,hc,hd,hi⟩:=x;exact⟨b,rfl,o,items,n,kp b o ho hc,hc,hd,hi⟩
theorem paired_mem {α β:Type} {R:α->β->Prop}:∀ {l:List α} {m:List β},bb R l m->∀ a∈l,∃ b∈m,R a b
 | _,_,.nil,a,h=>nomatch h
 | _,_,.cons r t,a,h=>by
  rcases ax.mp h with rfl | h
  ·exact⟨_,ar,r⟩
  ·obtain⟨b,hb,q⟩:=paired_mem t a h;exact⟨b,au _ hb,q⟩
theorem paired_mem' {α β:Type} {R:α->β->Prop}:∀ {l:List α} {m:List β},bb R l m->∀ b∈m,∃ a∈l,R a b
 | _,_,.nil,a,h=>nomatch h
 | _,_,.cons r t,a,h=>by
  rcases ax.mp h with rfl | h
  ·exact⟨_,ar,r⟩
  ·obtain⟨b,hb,q⟩:=paired_mem' t a h;exact⟨b,au _ hb,q⟩
theorem paired_perm {α β:Type} {R:α->β->Prop} {l l':List α} (p:l'.Perm l):∀ {m:List β},bb R l m->∃ m',m'.Perm m/\bb R l' m':=by
 have gen:∀ {l l':List α},l.Perm l'->∀ {m:List β},bb R l m->∃ m',m'.Perm m/\bb R l' m':=by
  intro l l' p
  induction p with
  | nil=>intro m h;cases h;exact⟨[],e9 _,.nil⟩
  | cons x _ ih =>
   intro m h;cases h with
   | cons r t =>
    obtain⟨m',h1,h2⟩:=ih t;exact⟨_,h1.cons _,.cons r h2⟩
  | swap x y l =>
   intro m h;cases h with
   | cons r t =>
    cases t with
    | cons r2 t2=>exact⟨_,kx.swap _ _ _,.cons r2 (.cons r t2)⟩
  | trans _ _ ih1 ih2 =>
   intro m h;obtain⟨m1,a1,b1⟩:=ih1 h;obtain⟨m2,a2,b2⟩:=ih2 b1;exact⟨m2,a2.trans a1,b2⟩
 intro m h;exact gen p.symm h
theorem few_aux {α β:Type} {R:α->β->Prop} {k0:β} {l:List α} {m:List β} (hp:bb R l m) (h0:∀ a∈l,R a k0) (inj:∀ a b b',R a b->R a b'->b=b') (nd:m.Nodup):l.length<=1:=by
 cases hp with
 | nil=>exact bG _
 | cons r1 t1 =>
  cases t1 with
  | nil=>exact aj _
  | cons r2 t2 =>
   have k1:=inj _ _ _ (h0 _ ar) r1;have k2:=inj _ _ _ (h0 _ (au _ ar)) r2
   have:=(cx.mp nd).1
   exact absurd (by rw[<- k1,k2];exact ar) this
theorem empty_el {P:Int × ad->Prop}:∀ e∈(#[]:Array (Int × ad)).toList,P e:=fun e he=>absurd he (by simp)
def tupKd (prog:aB) (w:aN):SetKd prog w (List Str) where
 pk:=false
 is:=TK prog w
 I:=fun h a es ep t=>SetAt h a es ep t/\ElT prog w h es.toList/\PlainT prog w h es.toList t
 inj:=fun a b=>a.inj b
 obj:=fun x=>x.1.obj
 fits:=fun x=>x.1.inv.fits
 few:=fun _ {h a es ep t ks} x hp nd hpl=>by
  have q:=few_aux hp (x.2.2 hpl) (fun _ _ _ r1 r2=>r1.inj r2) nd;simpa using q
 fresh:=fun ho=>⟨⟨ho,fresh_ok _ _ _⟩,empty_el,fun _=>empty_el⟩
 keepIs:=fun x kp=>x.keep kp
 keepI:=fun x e kp=>⟨⟨by rw[e];exact x.1.obj,x.1.inv⟩,fun e he=>by
  obtain⟨k,q1,q2⟩:=x.2.1 e he;exact⟨k,q1.keep kp,q2⟩,fun hp e he=>(x.2.2 hp e he).keep kp⟩
 add:=fun {A E s a es ep t k x Q} hu hI hx hn h=>by
  obtain⟨S,hel,hpl⟩:=hI;refine setAddT S hu hel hpl hx hn fun h' tk es' ep' t' added h1 h2 h3 h4 h5 h6=>?_;have kp:=sameBut_tup S.obj h2;refine h h' tk es' ep' t' added ⟨h1,?_,fun hp e he=>(h3 hp e he).keep kp⟩ h2 h4 h5 ?_
  ·intro e he;rcases h6 with⟨_,rfl,_⟩ | ⟨_,hp,_⟩
   ·obtain⟨k,q1,q2⟩:=hel e he;exact⟨k,q1.keep kp,q2⟩
   ·rcases ax.mp (hp.mem_iff.mp he) with q | q
    ·rw[q];exact⟨k,hx.keep kp,rfl⟩
    ·obtain⟨k,q1,q2⟩:=hel e q;exact⟨k,q1.keep kp,q2⟩
  ·rcases h6 with q | ⟨q1,q2,q3⟩
   ·exact .inl q
   ·exact .inr ⟨q1,⟨_,q2⟩,q3⟩
theorem standIn_led (t:aI) (n:Nat):(t.orStandIn n).led=t.led:=by unfold SetTable.orStandIn;split <;> rfl
theorem addS {κ : Type} [DecidableEq κ] (kn : kB prog w κ) (sc : ∀ {k : κ} {x : ad}, kn.is k x = true -> x.scannable = true) {A : aO} {E : ad -> ah -> Prop} {s : ah} {a : Addr} {es : Array (Int × ad)} {ep : Nat} {t : aI} {k : κ} {x : ad} {Q : Bool -> ah -> Prop} (ho : s.heap.get? a = some (setOb es ep t)) (hf : t.fits es.size = true) (hel : ElemsOf kn es.toList)
    (hpl : iU x = false -> t.plain = true -> es = #[]) (hx : kn.is k x = true) (hn : es.size + 1 <= 300)
    (h : ∀ h' es' ep' t' added, h'.get? a = some (setOb es' ep' t') -> t'.fits es'.size = true -> ElemsOf kn es'.toList -> (iU x = false -> t'.plain = true -> es' = #[]) -> cB a s.heap h' -> (t'.led = t.led /\ (JT t -> JT t')) ->
      ((added = false /\ es' = es /\ ∃ e ∈ es.toList, kn.is k e.2 = true) \/ (added = true /\ es'.toList.Perm ((kn.hash k, x) :: es.toList) /\ ¬ ∃ e ∈ es.toList, kn.is k e.2 = true)) -> Q added { s with heap := h' }) :
    aw (aA prog w) A (j0 a x (kn.hash k)) Q E s := by
  have hb : es.size < scanBound := by unfold scanBound; lia
  unfold j0 setAddHashedIn;refine aW (aa (dr ho rfl hf ?_));dsimp only;rw [byScan_of (sc hx) hb hel];simp only [↓reduceIte];unfold setAddByScan;refine aa ?_;refine aa (dH ?_);refine aa (wpAny_setScan_of hx ho rfl hf hel ?_);cases hr : List.findIdx? (fun e => kn.is k e.2) es.toList with
  | some j =>
    dsimp only;obtain⟨hj, hpj, _⟩ := List.findIdx?_eq_some_iff_getElem.mp hr;refine ae (ae ?_);exact h s.heap es ep t false ho hf hel hpl (jt a s.heap) ⟨rfl, id⟩ (.inl ⟨rfl, rfl, es.toList[j], cf hj, hpj⟩)
  | none =>
    dsimp only;have hno : ¬ ∃ e ∈ es.toList, kn.is k e.2 = true := by
      rintro⟨e, he, hp⟩;have := List.findIdx?_eq_none_iff.mp hr e he;rw [hp] at this; exact Bool.noConfusion this
    have hgw : ∀ (b : Bool) {s1 : ah} {Q' : Unit -> ah -> Prop}, Q' () s1 -> aw (aA prog w) A (match b with | true => rule "set.scan.the-table-gave-way" | false => pure ()) Q' E s1 :=
      fun b s1 Q' hq => by cases b <;> first | exact ae hq | exact dH hq
    have hperm := layNew_perm t es (kn.hash k) x;have hfits := layNew_fits t es (kn.hash k) x;have hJ : JT t -> JT (layNew t es (kn.hash k) x).2.1 := fun z => jt_new z es (kn.hash k) x;have hled : (layNew t es (kn.hash k) x).2.1.led = t.led := by
      unfold layNew
      split
      · exact standIn_led _ _
      · rfl
    generalize hL : layNew t es (kn.hash k) x = L at hperm hfits hled hJ ⊢;obtain⟨es1, t1, wasDummy, gave⟩ := L;dsimp only at hperm hfits hled hJ ⊢;rw [gL] at hperm;have hperm' : es1.toList.Perm ((kn.hash k, x) :: es.toList) := hperm.trans (i7 _ _);have hel1 : ElemsOf kn es1.toList := (hel.push hx (sc hx)).perm hperm;have hsz1 : es1.size = es.size + 1 := by
      have := hperm'.length_eq;simpa using this
    have hz1 : es1.size <= sizeLine := by rw [hsz1, bn]; lia
    refine aa (hgw _ ?_)
    have rest : ∀ t2 : aI, t2.fits es1.size = true -> (iU x = false -> t2.plain = false) -> (t2.led = t.led /\ (JT t -> JT t2)) -> aw (aA prog w) A (do
        storeSet a es1 t2
        if (!wasDummy && t2.tooFull) = true then do
            (match (iw t2 es1 (c5 es1.size)).2.2 with | true => rule "set.scan.the-table-gave-way" | false => pure ())
            storeSet a (iw t2 es1 (c5 es1.size)).1 (iw t2 es1 (c5 es1.size)).2.1
            pure (some true)
          else pure (some true)) (fun r s' => aw (aA prog w) A (match r with | some added => pure added | none => setAddHashedIn a x (kn.hash k) 99999) Q E s') E s := by
      intro t2 q1 q2 q3;refine aa (gP ho rfl ?_ hz1);have ho1 : (s.heap.update a (dG es1 t2)).get? a = some (setOb es1 (ep + 1) t2) := by
        have := bD (dG es1 t2) ho (by rw [ib _ _ rfl]; rfl)
        rw [ib _ _ rfl] at this; exact this
      have hsb1 := be s.heap a (dG es1 t2)
      split
      · have hp := relayAll_perm t2 es1 (c5 es1.size)
        have hfr := relayAll_fits t2 es1 (c5 es1.size);have hJ2 := jt_all t2 es1 (c5 es1.size);have hkk : (iw t2 es1 (c5 es1.size)).2.1.led = t2.led /\ (iU x = false -> (iw t2 es1 (c5 es1.size)).2.1.plain = false) := by
          unfold iw
          split
          · rename_i t' order hq
            have : t'.led = t2.led /\ t'.plain = t2.plain := by
              unfold relaid laid at hq;cases hc : layClean (sizeAbove (c5 es1.size) - 1) (Array.map (·.1) es1) with
              | none => rw [hc] at hq; cases hq
              | some ow => rw [hc] at hq; cases hq; exact⟨rfl, rfl⟩
            dsimp only
            split
            · exact⟨this.1, fun z => this.2.trans (q2 z)⟩
            · exact⟨rfl, fun _ => rfl⟩
          · exact⟨rfl, fun _ => rfl⟩
        generalize hRl : iw t2 es1 (c5 es1.size) = Rl at hp hfr hkk hJ2 ⊢;obtain⟨es2, t3, gave2⟩ := Rl;dsimp only at hp hfr hkk hJ2 ⊢;have hsz2 : es2.size = es1.size := by
          have := hp.length_eq;simpa using this
        refine aa (hgw _ ?_);refine aa (gP ho1 rfl ?_ (by rw [hsz2]; exact hz1))
        have ho2 : ((s.heap.update a (dG es1 t2)).update a (dG es2 t3)).get? a = some (setOb es2 (ep + 1 + 1) t3) := by
          have := bD (dG es2 t3) ho1 (by rw [ib _ _ rfl]; rfl)
          rw [ib _ _ rfl] at this; exact this
        refine ae (ae ?_);exact h _ es2 _ t3 true ho2 hfr (hel1.perm hp) (fun y z => by rw [hkk.2 y] at z; cases z) (hsb1.trans (be _ a _)) ⟨hkk.1.trans q3.1, fun _ => hJ2⟩ (.inr ⟨rfl, hp.trans hperm', hno⟩)
      · refine ae (ae ?_)
        exact h _ es1 _ t2 true ho1 q1 hel1 (fun y z => by rw [q2 y] at z; cases z) hsb1 q3 (.inr ⟨rfl, hperm', hno⟩)
    split
    · refine aa ?_
      rw [hashByValue_scannable 8 (sc hx)];refine ae ?_;cases hk : iU x with
      | true =>
        simp only [↓reduceIte];exact rest _ hfits (fun z => by rw [hk] at z; cases z) ⟨hled, hJ⟩
      | false =>
        simp only [aE, ↓reduceIte];exact rest _ (aI.fits_plain_off hfits) (fun _ => rfl) ⟨hled, hJ⟩
    · rename_i hnp
      refine aa (ae ?_);simp only [↓reduceIte];exact rest t1 hfits (fun _ => eS.mpr hnp) ⟨hled, hJ⟩
end
section
variable {prog:aB} {w:aN}
def kindKd {κ:Type} [DecidableEq κ] (prog:aB) (w:aN) (kn:kB prog w κ) (sc:∀ {k:κ} {x:ad},kn.is k x=true->x.scannable=true) (pk:Bool) (hkp:∀ {k:κ} {x:ad},kn.is k x=true->pk=false->iU x=false) (hpk:∀ {k:κ} {x:ad},kn.is k x=true->iU x=false->pk=false):SetKd prog w κ where
 pk:=pk
 is:=fun _ k v=>kn.is k v=true
 I:=fun h a es ep t=>h.get? a=some (setOb es ep t)/\t.fits es.size=true/\ElemsOf kn es.toList/\(pk=false->t.plain=true->es=#[])/\JT t
 inj:=fun a b=>kn.inj _ _ _ a b
 obj:=fun x=>x.1
 fits:=fun x=>x.2.1
 few:=fun z _ _ _ _ _ _ x _ _ hp=>by rw[x.2.2.2.1 z hp];exact bG _
 fresh:=fun ho=>⟨ho,rfl,empty_el,fun _ _=>rfl,jt_fresh _⟩
 keepIs:=fun x _=>x
 keepI:=fun x e _=>⟨by rw[e];exact x.1,x.2⟩
 add:=fun {A E s a es ep t k x Q} hu hI hx hn h=>by
  obtain⟨ho,hf,hel,hpl,hJ⟩:=hI;unfold setAdd;refine aW (aa (kn.pyHash hx ?_));exact addS kn sc (s:={ s with toks:=s.toks + 1 }) ho hf hel (fun z=>hpl (hpk hx z)) hx hn fun h' es' ep' t' added h1 h2 h3 h4 h5 h6 h7=>h h' _ es' ep' t' added ⟨h1,h2,h3,fun z=>h4 (hkp hx z),h6.2 hJ⟩ h5 h6.1 (db _) (by
   rcases h7 with q | ⟨q1,q2,q3⟩
   ·exact .inl q
   ·exact .inr ⟨q1,⟨_,q2⟩,q3⟩)
abbrev strKd (prog:aB) (w:aN):SetKd prog w Str:=kindKd prog w (d9 prog w) (fun h=>by obtain⟨t,rfl⟩:=eY h;rfl) false (fun h _=>by obtain⟨t,rfl⟩:=eY h;rfl) fun _ _=>rfl
structure Mem {κ:Type} (D:SetKd prog w κ) (h:aS) (a:Addr) (done:List κ) (led:Bool) (ks:List κ):Prop where
 ex:∃ es ep t,D.I h a es ep t/\t.led=led/\bb (fun(e:Int × ad) k=>D.is h k e.2) es.toList ks
 nd:ks.Nodup
 mem:∀ k,k∈ks↔k∈done
theorem Mem.keep {κ:Type} {D:SetKd prog w κ} {h h':aS} {a:Addr} {done:List κ} {led:Bool} {ks:List κ} (M:Mem D h a done led ks) (e:h'.get? a=h.get? a) (kp:TupKeep h h'):Mem D h' a done led ks:=by
 obtain⟨es,ep,t,h1,h2,h3⟩:=M.ex;exact⟨⟨es,ep,t,D.keepI h1 e kp,h2,L2.Paired.mapP h3 fun _ _ q=>D.keepIs q kp⟩,M.nd,M.mem⟩
theorem Mem.size {κ:Type} {D:SetKd prog w κ} {h:aS} {a:Addr} {done:List κ} {led:Bool} {ks:List κ} (M:Mem D h a done led ks):ks.length<=done.length :=
 M.nd.length_le_of_subset fun k hk=>(M.mem k).mp hk
theorem addM {κ:Type} [DecidableEq κ] (D:SetKd prog w κ) {A:aO} {E:ad->ah->Prop} {s:ah} {a:Addr} {done:List κ} {led:Bool} {ks:List κ} {k:κ} {x:ad} {Q:Bool->ah->Prop} (hu:A.units < bS) (M:Mem D s.heap a done led ks) (hx:D.is s.heap k x) (hn:done.length + 1<=300)
  (h:∀ h' tk ks',Mem D h' a (done++[k]) led ks'->cB a s.heap h'->TupKeep s.heap h'->s.toks<=tk->Q (decide (k∉ks)) { s with heap:=h',toks:=tk }) :
  aw (aA prog w) A (setAdd a x) Q E s:=by
 have hsz:=M.size;obtain⟨es,ep,t,h1,h2,h3⟩:=M.ex;have hl:es.size=ks.length:=by have:=cz h3;simpa using this
 refine D.add hu h1 hx (by lia) fun h' tk es' ep' t' added q1 q2 q3 q4 q5=>?_
 have kp:=sameBut_tup (D.obj h1) q2;have h3':bb (fun(e:Int × ad) k=>D.is h' k e.2) es.toList ks:=L2.Paired.mapP h3 fun _ _ q=>D.keepIs q kp;have isin:(∃ e∈es.toList,D.is s.heap k e.2)↔k∈ks:=by
  constructor
  ·rintro⟨e,he,q⟩;obtain⟨k',hk',q'⟩:=paired_mem h3 e he;rw[D.inj q q'];exact hk'
  ·intro hk;obtain⟨e,he,q⟩:=paired_mem' h3 k hk;exact⟨e,he,q⟩
 rcases q5 with⟨r1,r2,r3⟩ | ⟨r1,⟨hh,r2⟩,r3⟩
 ·have hk:=isin.mp r3;have q:=h h' tk ks ⟨⟨es',ep',t',q1,q3.trans h2,by rw[r2];exact h3'⟩,M.nd,fun k'=>by
   rw[M.mem k',bB,aG];exact⟨.inl,fun z=>z.elim id fun z=>by rw[z];exact(M.mem k).mp hk⟩⟩ q2 kp q4
  rw[decide_eq_false (fun z=>z hk)] at q;rw[r1];exact q
 ·have hk:k∉ks:=fun z=>r3 (isin.mpr z);obtain⟨ks',p1,p2⟩:=paired_perm r2 (R:=fun(e:Int × ad) k=>D.is h' k e.2) (m:=k::ks) (.cons (D.keepIs hx kp) h3');have q:=h h' tk ks' ⟨⟨es',ep',t',q1,q3.trans h2,p2⟩,p1.nodup_iff.mpr (cx.mpr ⟨hk,M.nd⟩),fun k'=>by
   rw[p1.mem_iff,ax,bB,aG,M.mem k'];exact⟨fun z=>z.symm,fun z=>z.symm⟩⟩ q2 kp q4
  rw[decide_eq_true hk] at q;rw[r1];exact q
theorem set_loop {κ:Type} [DecidableEq κ] (D:SetKd prog w κ) {A:aO} {R:Result->ah->Prop} {I S l:Addr} {items:Array ad} {ks:List κ} {led:Bool} (hh:A.in1.handled=none) (hu:A.in1.units < bS) (hne:l≠I) (hSI:S≠I) (hSl:S≠l) (hn:items.size + 1<=300) :
  ∀ (j i:Nat) (s:ah),items.size - i=j->i<=items.size->s.heap.IsListIter I l i->s.heap.IsList l items->bb (fun v k=>D.is s.heap k v) items.toList ks->(∃ ms,Mem D s.heap S (ks.take i) led ms) ->
   (∀ h' tk ms,Mem D h' S ks led ms->TupKeep s.heap h'->(∀ b o,b≠S->b≠I->s.heap.get? b=some o->h'.get? b=some o)->R (.ok (.ret .none)) { s with heap:=h',toks:=tk }) ->
   ij (aA prog w) A (.builtin "set.update.loop" ⟨[.ref S,.ref I],[]⟩) R s:=by
 have itk:∀ {h h':aS} {i:Nat},h.IsListIter I l i->(∀ b o,b≠I->h.get? b=some o->h'.get? b=some o)->TupKeep h h':=fun st k b o e c=>k b o (by
  rintro rfl;obtain⟨o',e',c',_⟩:=st;rw[e] at e';cases e';rw[c] at c';injection c' with c''
  exact absurd c'' (by decide)) e
 intro j
 induction j with
 | zero =>
  intro i s hj hi hst hl hp hM hR;have hin:i=items.size:=by lia
  subst hin;refine bv cX ?_;rw[aZ bV _];show aw _ A.in1 (e6 (.ref I) >>= _) _ _ s;refine aa (wpAny_pyNext_list_end hh hst hl (by simp) fun h' eb=>?_)
  show aw _ A.in1 (ret bg) _ _ _;have kp:=itk hst fun b o hb e=>eb b o hb e;obtain⟨ms,M⟩:=hM;have hlen:ks.length=items.size:=by have:=cz hp;simpa using this.symm
  rw[bJ (by lia)] at M
  obtain⟨es,ep,t,h1,_⟩:=id M.ex;have hS:=D.obj h1;exact ae (hR h' s.toks ms (M.keep (by rw[hS];exact eb S _ hSI hS) kp) kp fun b o _ hb e=>eb b o hb e)
 | succ j ih =>
  intro i s hj hi hst hl hp hM hR;have hlt:i < items.size:=by lia
  refine bv cX ?_;rw[aZ bV _];show aw _ A.in1 (e6 (.ref I) >>= _) _ _ s;refine aa (wpAny_pyNext_list_item hst hl (x:=items[i]) (by simp[hlt]) fun h1 st1 sb1=>?_)
  have kp1:=itk hst fun b o hb e=>(sb1.2 b hb).trans e;obtain⟨ms,M⟩:=hM;obtain⟨es,ep,t,q1,_⟩:=id M.ex;have hS:=D.obj q1;have M1:=M.keep (h':=h1) (by rw[sb1.2 S hSI]) kp1
  have hlen:ks.length=items.size:=by have:=cz hp;simpa using this.symm
  have hki:ks[i]?=some ks[i]:=ai (by lia)
  have hx:D.is s.heap ks[i] items[i]:=by
   have gen:∀ {l:List ad} {m:List κ},bb (fun v k=>D.is s.heap k v) l m->∀ (n:Nat) (v:ad) (k:κ),l[n]?=some v->m[n]?=some k->D.is s.heap k v:=by
    intro l m hp
    induction hp with
    | nil=>intro n v k h;simp at h
    | cons r _ ih =>
     intro n v k h1 h2;cases n with
     | zero=>simp at h1 h2;subst h1;subst h2;exact r
     | succ n=>exact ih n v k (by simpa using h1) (by simpa using h2)
   exact gen hp i _ _ (by simp[hlt]) hki
  show aw _ A.in1 (gH [items[i]] (setAdd S items[i]) >>= _) _ _ _;refine aa (aW ?_);refine addM D (s:={ s with heap:=h1 }) hu M1 (D.keepIs hx kp1) (by rw[aP];lia) fun h2 tk ms' M2 sb2 kp2 htk=>?_
  have hl2:h2.IsList l items:=by
   obtain⟨o,e,r⟩:=hl;exact⟨o,(sb2.2 l (bW hSl)).trans ((sb1.2 l hne).trans e),r⟩
  have st2:h2.IsListIter I l (i + 1):=by
   obtain⟨o,e,r⟩:=st1;exact⟨o,(sb2.2 I (bW hSI)).trans e,r⟩
  refine ae ⟨cQ bV _,ih (i + 1) _ (by lia) hlt st2 hl2 (L2.Paired.mapP hp fun _ _ q=>D.keepIs q (kp1.trans kp2)) ⟨ms',?_⟩ fun h' tk' ms'' a1 a2 a3=>?_⟩
  ·have et:ks.take (i + 1)=ks.take i++[ks[i]]:=by rw[dU,hki];rfl
   rw[et];exact M2
  ·exact hR h' tk' ms'' a1 ((kp1.trans kp2).trans a2) fun b o hb1 hb2 e=>a3 b o hb1 hb2 ((sb2.2 b hb1).trans ((sb1.2 b hb2).trans e))
abbrev ledOf (w:aN):Bool:=!(w.params.followText "set-order")
theorem set_newT {A:aO} {E:ad->ah->Prop} {s:ah} (a:ad) {Q1:ad->ah->Prop}
  (h:Q1 (.ref s.heap.objs.size) { s with heap:=s.heap.push (setOb #[] 0 (.fresh 0 0 (ledOf w))) }) :
  ij (aA prog w) A (.call (.builtin "set.__new__") ⟨[.type "set",a],[]⟩) (wants Q1 E) s:=by
 refine codeAny_of_tree ?_;show aw _ A.in1 (do checkBuiltinCall "set.__new__" ⟨[.type "set",a],[]⟩;again (.builtin "set.__new__" ⟨[.type "set",a],[]⟩)) _ _ s
 refine aa (wpAny_of_eq (PySem.F.newCall_set_1 a) (ae ⟨cQ ki _,bv PySem.F.entry_set_new ?_⟩));rw[aZ ki _];unfold bC.«set.__new__» bC.Frozenset.newClass;have hsub:=sub_set_self;obtain⟨hp,g,d,tk,os⟩:=s;dsimp only
 wp_walk
 refine fb (ae ?_);dsimp only;simp only[newObj];refine aa (wpAny_alloc (ae ?_));exact ae h
end
section
variable {prog:aB} {w:aN}
theorem call_setK {κ:Type} [DecidableEq κ] (D:SetKd prog w κ) {A:aO} {E:ad->ah->Prop} {s:ah} {l:Addr} {items:Array ad} {ks:List κ} {Q:ad->ah->Prop}
  (hh:A.handled=none) (hu:A.units + 8 < bS) (hl:s.heap.IsList l items) (hi:bb (fun v k=>D.is s.heap k v) items.toList ks) (hb:items.size + 1<=300)
  (h:∀ (h':aS) (tk:Nat) ms,Mem D h' s.heap.objs.size ks (ledOf w) ms->TupKeep s.heap h' ->
   (∀ b o,b < s.heap.objs.size->s.heap.get? b=some o->h'.get? b=some o)->Q (.ref s.heap.objs.size) { s with heap:=h',toks:=tk }) :
  aw (aA prog w) A (call (.type "set") [.ref l]) Q E s:=by
 obtain⟨c,tl,hmro⟩:=bh.mro;have hmade:=bh.made;have hsub:=bh.sub;refine wpAny_call (codeAny_of_tree ?_);show aw _ _ (callAny (.type "set") _) _ _ _;refine ae ⟨Code.quiet_builtin _ (by decide +kernel),bv jG ?_⟩
 rw[Around.under_plain (weight_type_call_type "set" [.ref l] []) rfl];have h1:=bh.notType;have h2:=bh.canCreate;have hct:=j3 (.ref l)
 repeat (any_goals (first | assumption | wp_step))
 refine fO (set_newT (.ref l) (E:=E) (Q1:=fun obj s1=>obj=.ref s.heap.objs.size/\s1={ s with heap:=s.heap.push (setOb #[] 0 (.fresh 0 0 (ledOf w))) }) ⟨rfl,rfl⟩) fun r s1 hr=>?_
 cases r with
 | error e=>exact hr
 | ok fl =>
  cases fl with
  | ret obj =>
   obtain⟨rfl,rfl⟩:=hr;have hS:(s.heap.push (setOb #[] 0 (.fresh 0 0 (ledOf w)))).get? s.heap.objs.size=some (setOb #[] 0 (.fresh 0 0 (ledOf w))):=ao _ rfl;have hT:ip { s with heap:=s.heap.push (setOb #[] 0 (.fresh 0 0 (ledOf w))) } (.ref s.heap.objs.size) "set":=⟨_,hS,rfl⟩
   have hli:=bh.init.lookup;have hbi:=bh.init.bind (.ref s.heap.objs.size)
   repeat (any_goals (first | assumption | wp_step))
   refine fO (codeAny_call_builtin (R:=wants (fun r s2=>r=.none/\∃ h' tk ms,s2={ s with heap:=h',toks:=tk }/\Mem D h' s.heap.objs.size ks (ledOf w) ms/\TupKeep s.heap h' /\
     (∀ b o,b < s.heap.objs.size->s.heap.get? b=some o->h'.get? b=some o)) E) bh.init.plain j4 (check_set_init_1 hT ?_)) fun r2 s2 hr2=>?_
   ·obtain⟨ol,hol,hcl,nl,hdl⟩:=hl;obtain⟨ocls,odict,odata,oslots⟩:=ol;simp only at hcl hdl;subst hcl;subst hdl;have hol':(s.heap.push (setOb #[] 0 (.fresh 0 0 (ledOf w)))).get? l=some { cls:=.type "list",dict:=odict,data:=.seq items nl,slots:=oslots }:=af _ hol;have hsls:=PySem.F.sub_list_set;have hslf:=PySem.F.sub_list_frozenset;have hne:(cV "list" == cV "dict")=false:=by decide
    have hl1:(s.heap.push (setOb #[] 0 (.fresh 0 0 (ledOf w)))).IsList l items:=⟨_,hol',rfl,nl,rfl⟩;unfold bC.«set.__init__» noKeywords iE;generalize hPI:pyIter=PI;unfold setOb at *
    wp_walk
    subst hPI;refine gQ hl1 ?_;refine aa (i8 ?_);have hlS:l < s.heap.objs.size:=aq hol;have hh3:A.in1.in1.in1.handled=none:=by simp[hh]
    have hu3:A.in1.in1.in1.units < bS:=by show A.units + 1 + 1 + 1 < bS;lia
    have hneI:l≠(s.heap.push { cls:=.type "set",dict:=none,data:=.set #[] 0 (.fresh 0 0 (ledOf w)) }).objs.size:=by
     rw[bU];exact aC (cZ hlS)
    have hSI:s.heap.objs.size≠(s.heap.push { cls:=.type "set",dict:=none,data:=.set #[] 0 (.fresh 0 0 (ledOf w)) }).objs.size:=by
     rw[bU];exact aC (ic _)
    have kp:TupKeep s.heap ((s.heap.push { cls:=.type "set",dict:=none,data:=.set #[] 0 (.fresh 0 0 (ledOf w)) }).push { cls:=.type "list_iterator",data:=.fields #[.ref l,.int 0 0] }):=fun b o e _=>af _ (af _ e)
    have hget:((s.heap.push { cls:=.type "set",dict:=none,data:=.set #[] 0 (.fresh 0 0 (ledOf w)) }).push { cls:=.type "list_iterator",data:=.fields #[.ref l,.int 0 0] }).get? s.heap.objs.size
       = some (setOb #[] 0 (.fresh 0 0 (ledOf w))):=af _ hS
    refine set_loop D hh3 hu3 hneI hSI (bW (aC hlS)) hb (items.size - 0) 0 _ (by lia) (bG _) ⟨_,ao _ rfl,rfl,rfl⟩ (hl1.push _) (L2.Paired.mapP hi fun _ _ q=>D.keepIs q kp)
     ⟨[],⟨⟨#[],0,.fresh 0 0 (ledOf w),D.fresh hget,rfl,.nil⟩,gR,fun k=>by simp⟩⟩ ?hR
    case hR =>
     intro h' tk' ms hM kp' hk';show aw _ _ _ _ _ _;refine ae ?_;show aw _ _ (ret bg) _ _ _;refine ae ⟨rfl,h',tk',ms,rfl,hM,kp.trans kp',fun b o hb e=>?_⟩;exact hk' b o (aC hb) (by rw[bU];exact aC (cZ hb)) (af _ (af _ e))
   ·cases r2 with
    | error e=>exact hr2
    | ok fl2 =>
     cases fl2 with
     | ret r =>
      obtain⟨rfl,h',tk,ms,rfl,hM,kp',hk'⟩:=hr2
      repeat (any_goals (first | assumption | wp_step))
      exact h _ _ _ hM kp' hk'
     | _=>exact hr2.elim
  | _=>exact hr.elim
end
section
variable {prog:aB} {w:aN}
theorem set_loopT {κ:Type} [DecidableEq κ] (D:SetKd prog w κ) {A:aO} {R:Result->ah->Prop} {I S l:Addr} {items:Array ad} {ks:List κ} {led:Bool} (hh:A.in1.handled=none) (hu:A.in1.units < bS) (hne:l≠I) (hSI:S≠I) (hSl:S≠l) (hn:items.size + 1<=300) :
  ∀ (j i:Nat) (s:ah),items.size - i=j->i<=items.size->s.heap.IsTupleIter I l i->s.heap.IsTuple l items->bb (fun v k=>D.is s.heap k v) items.toList ks->(∃ ms,Mem D s.heap S (ks.take i) led ms) ->
   (∀ h' tk ms,Mem D h' S ks led ms->TupKeep s.heap h'->(∀ b o,b≠S->b≠I->s.heap.get? b=some o->h'.get? b=some o)->R (.ok (.ret .none)) { s with heap:=h',toks:=tk }) ->
   ij (aA prog w) A (.builtin "set.update.loop" ⟨[.ref S,.ref I],[]⟩) R s:=by
 have itk:∀ {h h':aS} {i:Nat},h.IsTupleIter I l i->(∀ b o,b≠I->h.get? b=some o->h'.get? b=some o)->TupKeep h h':=fun st k b o e c=>k b o (by
  rintro rfl;obtain⟨o',e',c',_⟩:=st;rw[e] at e';cases e';rw[c] at c';injection c' with c''
  exact absurd c'' (by decide)) e
 intro j
 induction j with
 | zero =>
  intro i s hj hi hst hl hp hM hR;have hin:i=items.size:=by lia
  subst hin;refine bv cX ?_;rw[aZ bV _];show aw _ A.in1 (e6 (.ref I) >>= _) _ _ s;refine aa (wpAny_pyNext_tuple_end hh hst hl (by simp) fun h' eb=>?_)
  show aw _ A.in1 (ret bg) _ _ _;have kp:=itk hst fun b o hb e=>eb b o hb e;obtain⟨ms,M⟩:=hM;have hlen:ks.length=items.size:=by have:=cz hp;simpa using this.symm
  rw[bJ (by lia)] at M
  obtain⟨es,ep,t,h1,_⟩:=id M.ex;have hS:=D.obj h1;exact ae (hR h' s.toks ms (M.keep (by rw[hS];exact eb S _ hSI hS) kp) kp fun b o _ hb e=>eb b o hb e)
 | succ j ih =>
  intro i s hj hi hst hl hp hM hR;have hlt:i < items.size:=by lia
  refine bv cX ?_;rw[aZ bV _];show aw _ A.in1 (e6 (.ref I) >>= _) _ _ s;refine aa (wpAny_pyNext_tuple_item hst hl (x:=items[i]) (by simp[hlt]) fun h1 st1 sb1=>?_)
  have kp1:=itk hst fun b o hb e=>(sb1.2 b hb).trans e;obtain⟨ms,M⟩:=hM;obtain⟨es,ep,t,q1,_⟩:=id M.ex;have hS:=D.obj q1;have M1:=M.keep (h':=h1) (by rw[sb1.2 S hSI]) kp1
  have hlen:ks.length=items.size:=by have:=cz hp;simpa using this.symm
  have hki:ks[i]?=some ks[i]:=ai (by lia)
  have hx:D.is s.heap ks[i] items[i]:=by
   have gen:∀ {l:List ad} {m:List κ},bb (fun v k=>D.is s.heap k v) l m->∀ (n:Nat) (v:ad) (k:κ),l[n]?=some v->m[n]?=some k->D.is s.heap k v:=by
    intro l m hp
    induction hp with
    | nil=>intro n v k h;simp at h
    | cons r _ ih =>
     intro n v k h1 h2;cases n with
     | zero=>simp at h1 h2;subst h1;subst h2;exact r
     | succ n=>exact ih n v k (by simpa using h1) (by simpa using h2)
   exact gen hp i _ _ (by simp[hlt]) hki
  show aw _ A.in1 (gH [items[i]] (setAdd S items[i]) >>= _) _ _ _;refine aa (aW ?_);refine addM D (s:={ s with heap:=h1 }) hu M1 (D.keepIs hx kp1) (by rw[aP];lia) fun h2 tk ms' M2 sb2 kp2 htk=>?_
  have hl2:h2.IsTuple l items:=by
   obtain⟨o,e,r⟩:=hl;exact⟨o,(sb2.2 l (bW hSl)).trans ((sb1.2 l hne).trans e),r⟩
  have st2:h2.IsTupleIter I l (i + 1):=by
   obtain⟨o,e,r⟩:=st1;exact⟨o,(sb2.2 I (bW hSI)).trans e,r⟩
  refine ae ⟨cQ bV _,ih (i + 1) _ (by lia) hlt st2 hl2 (L2.Paired.mapP hp fun _ _ q=>D.keepIs q (kp1.trans kp2)) ⟨ms',?_⟩ fun h' tk' ms'' a1 a2 a3=>?_⟩
  ·have et:ks.take (i + 1)=ks.take i++[ks[i]]:=by rw[dU,hki];rfl
   rw[et];exact M2
  ·exact hR h' tk' ms'' a1 ((kp1.trans kp2).trans a2) fun b o hb1 hb2 e=>a3 b o hb1 hb2 ((sb2.2 b hb1).trans ((sb1.2 b hb2).trans e))
theorem call_setT {κ:Type} [DecidableEq κ] (D:SetKd prog w κ) {A:aO} {E:ad->ah->Prop} {s:ah} {l:Addr} {items:Array ad} {ks:List κ} {Q:ad->ah->Prop}
  (hh:A.handled=none) (hu:A.units + 8 < bS) (hl:s.heap.IsTuple l items) (hi:bb (fun v k=>D.is s.heap k v) items.toList ks) (hb:items.size + 1<=300)
  (h:∀ (h':aS) (tk:Nat) ms,Mem D h' s.heap.objs.size ks (ledOf w) ms->TupKeep s.heap h' ->
   (∀ b o,b < s.heap.objs.size->s.heap.get? b=some o->h'.get? b=some o)->Q (.ref s.heap.objs.size) { s with heap:=h',toks:=tk }) :
  aw (aA prog w) A (call (.type "set") [.ref l]) Q E s:=by
 obtain⟨c,tl,hmro⟩:=bh.mro;have hmade:=bh.made;have hsub:=bh.sub;refine wpAny_call (codeAny_of_tree ?_);show aw _ _ (callAny (.type "set") _) _ _ _;refine ae ⟨Code.quiet_builtin _ (by decide +kernel),bv jG ?_⟩
 rw[Around.under_plain (weight_type_call_type "set" [.ref l] []) rfl];have h1:=bh.notType;have h2:=bh.canCreate;have hct:=j3 (.ref l)
 repeat (any_goals (first | assumption | wp_step))
 refine fO (set_newT (.ref l) (E:=E) (Q1:=fun obj s1=>obj=.ref s.heap.objs.size/\s1={ s with heap:=s.heap.push (setOb #[] 0 (.fresh 0 0 (ledOf w))) }) ⟨rfl,rfl⟩) fun r s1 hr=>?_
 cases r with
 | error e=>exact hr
 | ok fl =>
  cases fl with
  | ret obj =>
   obtain⟨rfl,rfl⟩:=hr;have hS:(s.heap.push (setOb #[] 0 (.fresh 0 0 (ledOf w)))).get? s.heap.objs.size=some (setOb #[] 0 (.fresh 0 0 (ledOf w))):=ao _ rfl;have hT:ip { s with heap:=s.heap.push (setOb #[] 0 (.fresh 0 0 (ledOf w))) } (.ref s.heap.objs.size) "set":=⟨_,hS,rfl⟩
   have hli:=bh.init.lookup;have hbi:=bh.init.bind (.ref s.heap.objs.size)
   repeat (any_goals (first | assumption | wp_step))
   refine fO (codeAny_call_builtin (R:=wants (fun r s2=>r=.none/\∃ h' tk ms,s2={ s with heap:=h',toks:=tk }/\Mem D h' s.heap.objs.size ks (ledOf w) ms/\TupKeep s.heap h' /\
     (∀ b o,b < s.heap.objs.size->s.heap.get? b=some o->h'.get? b=some o)) E) bh.init.plain j4 (check_set_init_1 hT ?_)) fun r2 s2 hr2=>?_
   ·obtain⟨ol,hol,hcl,nl,hdl⟩:=hl;obtain⟨ocls,odict,odata,oslots⟩:=ol;simp only at hcl hdl;subst hcl;subst hdl;have hol':(s.heap.push (setOb #[] 0 (.fresh 0 0 (ledOf w)))).get? l=some { cls:=.type "tuple",dict:=odict,data:=.seq items nl,slots:=oslots }:=af _ hol;have hsls:=PySem.F.sub_tuple_set;have hslf:=PySem.F.sub_tuple_frozenset;have hne:(cV "tuple" == cV "dict")=false:=by decide
    have hl1:(s.heap.push (setOb #[] 0 (.fresh 0 0 (ledOf w)))).IsTuple l items:=⟨_,hol',rfl,nl,rfl⟩;unfold bC.«set.__init__» noKeywords iE;generalize hPI:pyIter=PI;unfold setOb at *
    wp_walk
    subst hPI;refine eE hl1 ?_;refine aa (i8 ?_);have hlS:l < s.heap.objs.size:=aq hol;have hh3:A.in1.in1.in1.handled=none:=by simp[hh]
    have hu3:A.in1.in1.in1.units < bS:=by show A.units + 1 + 1 + 1 < bS;lia
    have hneI:l≠(s.heap.push { cls:=.type "set",dict:=none,data:=.set #[] 0 (.fresh 0 0 (ledOf w)) }).objs.size:=by
     rw[bU];exact aC (cZ hlS)
    have hSI:s.heap.objs.size≠(s.heap.push { cls:=.type "set",dict:=none,data:=.set #[] 0 (.fresh 0 0 (ledOf w)) }).objs.size:=by
     rw[bU];exact aC (ic _)
    have kp:TupKeep s.heap ((s.heap.push { cls:=.type "set",dict:=none,data:=.set #[] 0 (.fresh 0 0 (ledOf w)) }).push { cls:=.type "tuple_iterator",data:=.fields #[.ref l,.int 0 0] }):=fun b o e _=>af _ (af _ e)
    have hget:((s.heap.push { cls:=.type "set",dict:=none,data:=.set #[] 0 (.fresh 0 0 (ledOf w)) }).push { cls:=.type "tuple_iterator",data:=.fields #[.ref l,.int 0 0] }).get? s.heap.objs.size
       = some (setOb #[] 0 (.fresh 0 0 (ledOf w))):=af _ hS
    refine set_loopT D hh3 hu3 hneI hSI (bW (aC hlS)) hb (items.size - 0) 0 _ (by lia) (bG _) ⟨_,ao _ rfl,rfl,rfl⟩ (hl1.push _) (L2.Paired.mapP hi fun _ _ q=>D.keepIs q kp)
     ⟨[],⟨⟨#[],0,.fresh 0 0 (ledOf w),D.fresh hget,rfl,.nil⟩,gR,fun k=>by simp⟩⟩ ?hR
    case hR =>
     intro h' tk' ms hM kp' hk';show aw _ _ _ _ _ _;refine ae ?_;show aw _ _ (ret bg) _ _ _;refine ae ⟨rfl,h',tk',ms,rfl,hM,kp.trans kp',fun b o hb e=>?_⟩;exact hk' b o (aC hb) (by rw[bU];exact aC (cZ hb)) (af _ (af _ e))
   ·cases r2 with
    | error e=>exact hr2
    | ok fl2 =>
     cases fl2 with
     | ret r =>
      obtain⟨rfl,h',tk,ms,rfl,hM,kp',hk'⟩:=hr2
      repeat (any_goals (first | assumption | wp_step))
      exact h _ _ _ hM kp' hk'
     | _=>exact hr2.elim
  | _=>exact hr.elim
end
end ST
namespace L2
open PySem PySem.Spec PyProof.Rows
variable {α β:Type}
theorem bool_at {H:Hp} {xs:List V} {us:List ad} {bs:List Bool} (p:bb (dB H) xs bs) (r:Vals xs us) {i:Nat} {v:ad} (h:us[i]?=some v):∃ b,bs[i]?=some b/\v=.bool b:=by
 have hl:=r.length;have hi:i < xs.length:=by
  rcases bP i us.length with z | z
  ·lia
  ·rw[bE z] at h;cases h
 obtain⟨b,e,rb⟩:=Paired.get' p (ai hi);obtain⟨u,eu,ru⟩:=r.get (ai hi);rw[h] at eu;cases eu;have rb':xs[i]=V.bl b:=rb;rw[rb'] at ru;exact⟨b,e,ru⟩
theorem walk_old {h h':aS} {o:Obj} (hk:∀ b x,b∉[h.objs.size]->(h.push o).get? b=some x->h'.get? b=some x):∀ b x,h.get? b=some x->h'.get? b=some x:=fun b x e =>
 hk b x (fun z=>by have:=aG.mp z;subst this;exact dh _ (aq e)) (af _ e)
theorem range_all' (bs:List Bool):∀ n,n=bs.length->((aD n).all fun i=>(bs[i]?).getD true)=bs.all id:=by
 rintro n rfl;rw[iF,bq,bq];refine⟨fun h b hb=>?_,fun h i hi=>?_⟩
 ·obtain⟨i,hi,rfl⟩:=aY hb
  have:=h i (aM.mpr hi)
  rwa [ai hi] at this
 ·have hi':=aM.mp hi;rw[ai hi'];exact h _ (cf hi')
theorem range_any' (bs:List Bool):∀ n,n=bs.length->((aD n).any fun i=>(bs[i]?).getD false)=bs.any id:=by
 rintro n rfl;rw[iF,List.any_eq_true,List.any_eq_true];refine⟨fun⟨i,hi,h⟩=>?_,fun⟨b,hb,h⟩=>?_⟩
 ·have hi':=aM.mp hi;rw[ai hi'] at h;exact⟨_,cf hi',h⟩
 ·obtain⟨i,hi,rfl⟩:=aY hb;exact⟨i,aM.mpr hi,by rw[ai hi];exact h⟩
section
variable {X:Cx}
theorem call_allD (hc:X.calm=true):CallR X (.builtin "all") (fun xs H Q=>∃ x bs,xs=[x]/\dL X.K dB H x bs/\Q (.bl (bs.all id)) H):=by
 intro pins s σ H xs us Q I r h;obtain⟨x,bs,rfl,⟨a,ys,rfl,hq,p⟩,q⟩:=h;obtain⟨u,rfl,rx⟩:=vals1 r;cases rx;obtain⟨its,ri,pl,_⟩:=I.list hq;obtain⟨o,ho,_⟩:=id pl.isList;refine PySem.call_all_walk (gQ pl.isList ⟨_,_,_,_,_,_,fun i=>(bs[i]?).getD true,rfl,PySem.Walks.list (A:=X.A.in1) (by have:=I.ok.hd hc;simp[this]) _ a (aC (aq ho)) its.toArray,⟨⟨_,ao _ rfl,rfl,rfl⟩,pl.isList.push _⟩,fun i v s' Q' E' hP hQ=>?_,fun h' tk hk=>?_⟩)
 ·obtain⟨b,e,rfl⟩:=bool_at p ri (show its[i]?=some v by simpa using hP)
  simp only[e,Option.getD_some] at hQ;exact cY hQ
 ·rw[range_all' bs _ (by rw[ak,<- ri.length,p.length])]
  exact⟨.bl _,H,I.kept (t':=tk) (walk_old hk),rfl,q⟩
theorem call_anyD (hc:X.calm=true):CallR X (.builtin "any") (fun xs H Q=>∃ x bs,xs=[x]/\dL X.K dB H x bs/\Q (.bl (bs.any id)) H):=by
 intro pins s σ H xs us Q I r h;obtain⟨x,bs,rfl,⟨a,ys,rfl,hq,p⟩,q⟩:=h;obtain⟨u,rfl,rx⟩:=vals1 r;cases rx;obtain⟨its,ri,pl,_⟩:=I.list hq;obtain⟨o,ho,_⟩:=id pl.isList;refine PySem.call_any_walk (gQ pl.isList ⟨_,_,_,_,_,_,fun i=>(bs[i]?).getD false,rfl,PySem.Walks.list (A:=X.A.in1) (by have:=I.ok.hd hc;simp[this]) _ a (aC (aq ho)) its.toArray,⟨⟨_,ao _ rfl,rfl,rfl⟩,pl.isList.push _⟩,fun i v s' Q' E' hP hQ=>?_,fun h' tk hk=>?_⟩)
 ·obtain⟨b,e,rfl⟩:=bool_at p ri (show its[i]?=some v by simpa using hP)
  simp only[e,Option.getD_some] at hQ;exact cY hQ
 ·rw[range_any' bs _ (by rw[ak,<- ri.length,p.length])]
  exact⟨.bl _,H,I.kept (t':=tk) (walk_old hk),rfl,q⟩
def SzOk (ds:List α) (n:Nat):Prop:=n<=ds.length/\(n=ds.length↔ds.Nodup)
theorem nodup_of_len [DecidableEq α]:∀ (ds ms:List α),ms.Nodup->ms ⊆ ds->ds.length<=ms.length->ds.Nodup
 | [],_,_,_,_=>gR
 | x::xs,ms,nd,sub,le=>by
  have hx:x∉xs:=fun hx=>by
   have:ms ⊆ xs:=fun k hk=>by
    rcases ax.mp (sub hk) with rfl | z
    ·exact hx
    ·exact z
   have:=nd.length_le_of_subset this
   simp only[bH] at le;lia
  refine cx.mpr ⟨hx,nodup_of_len xs (ms.erase x) (nd.erase x) (fun k hk=>?_) ?_⟩
  ·have hk':=(List.Nodup.mem_erase_iff nd).mp hk;exact(ax.mp (sub hk'.2)).resolve_left hk'.1
  ·simp only[bH] at le
   have:=List.length_erase (a:=x) (l:=ms)
   split at this <;> lia
theorem szOk_of [DecidableEq α] {ds ms:List α} (nd:ms.Nodup) (h:∀ k,k∈ms↔k∈ds):SzOk ds ms.length:=by
 have sub:ms ⊆ ds:=fun k hk=>(h k).mp hk;have le:ms.length<=ds.length:=nd.length_le_of_subset sub;refine⟨le,fun e=>?_,fun nd'=>Nat.le_antisymm le (nd'.length_le_of_subset fun k hk=>(h k).mpr hk)⟩;exact nodup_of_len ds ms nd sub (by lia)
theorem tk_of {P:aB} {w:aN} {h:aS} {H:Hp} {K:Fg} {b:Addr} {xs:List V} {its:List ad} {k:List Str} (p:bb (dS H) xs k) (r:Vals xs its) (t:iW h b its.toArray):ST.TK P w h k (.ref b):=by
 obtain⟨o,ho,hc,n,hd⟩:=t;refine⟨b,rfl,o,its.toArray,n,ho,hc,hd,?_⟩;show ItemsAre (d9 P w) k its;have go:∀ {xs:List V} {its:List ad} {k:List Str},bb (dS H) xs k->Vals xs its->ItemsAre (d9 P w) k its:=by
  intro xs its k p r
  induction p generalizing its with
  | nil=>cases r;first | exact trivial | exact .nil
  | cons e _ ih =>
   cases r with
   | cons r t =>
    cases e;obtain⟨tk,rfl⟩:=r
    first
     | exact⟨by simp[d9,fX],ih t⟩
     | exact .cons (by simp[d9,fX]) (ih t)
 exact go p r
theorem texted {P:aB} {w:aN} {H:Hp} {h:aS}:∀ {xs:List V} {us:List ad} {ds:List Str},bb (dS H) xs ds->Vals xs us->bb (fun v k=>(ST.strKd P w).is h k v) us ds
 | _,_,_,.nil,.nil=>.nil
 | _,_,_,.cons p q,.cons r t=>by
  refine .cons ?_ (texted q t);cases p;obtain⟨tk,rfl⟩:=r;exact(fun b=>(by simp[d9,fX]:(d9 P w).is b (iT b tk)=true)) _
end
end L2
namespace L2
open PySem PySem.Spec PyProof.Rows
section
variable {prog:aB} {w:aN} {A:aO} {E:ad->ah->Prop} {s:ah}
theorem nx_item {it t:Addr} {i:Nat} {items:Array ad} {x:ad} {Q:ad->ah->Prop} (hit:s.heap.IsTupleIter it t i) (ht:s.heap.IsTuple t items) (hx:items[i]?=some x)
  (hQ:∀ h',h'.IsTupleIter it t (i + 1)->cB it s.heap h'->Q x { s with heap:=h' }):aw (aA prog w) A (aT (.ref it)) Q E s:=by
 obtain⟨o,ho,hc,hd⟩:=id hit;obtain⟨ol,hol,_,nl,hdl⟩:=ht;have ne:¬ ((cA t == bg)=true):=bR;refine aa (b7 (name:=aJ "__next__") hit.typeIs F.slot_tuple_iterator_next (b4 F.slot_tuple_iterator_next hit.typeIs F.entry_tuple_iterator_next ?_ (F.args_tuple_iterator_next_1 _)));refine aa (m:=jH (.ref it) 0) (bT ho hd (x:=.ref t) rfl ?_);refine(if_neg ne).symm ▸ (aa (m:=jH (.ref it) 1) (bT ho hd (x:=.int i 0) rfl ?_));refine aa (m:=seqItems? (.ref t)) (cg hol hdl ?_);simp only[bF,hx];refine aa (wpAny_setField ho hd (by simp) (ae ⟨x,rfl,ae (hQ _ ⟨_,bD _ ho (Obj.isFreed_of_fields (Obj.data_mapFields hd _)),(Obj.cls_mapFields ..).trans hc,?_⟩ (be ..))⟩))
 rw[Obj.data_mapFields hd];simp[dz]
theorem nx_end {it t:Addr} {i:Nat} {items:Array ad} {Q:ad->ah->Prop} (hh:A.handled=none) (hit:s.heap.IsTupleIter it t i) (ht:s.heap.IsTuple t items) (hx:items[i]?=none)
  (hE:∀ h' e,aS.ExtBut it s.heap h'->(∃ o,h'.get? e=some o/\o.cls=.type "StopIteration")->E (.ref e) { s with heap:=h' }):aw (aA prog w) A (aT (.ref it)) Q E s:=by
 obtain⟨o,ho,hc,hd⟩:=id hit;obtain⟨ol,hol,_,nl,hdl⟩:=ht;have ne:¬ ((cA t == bg)=true):=bR;refine aa (b7 (name:=aJ "__next__") hit.typeIs F.slot_tuple_iterator_next (b4 F.slot_tuple_iterator_next hit.typeIs F.entry_tuple_iterator_next ?_ (F.args_tuple_iterator_next_1 _)));refine aa (m:=jH (.ref it) 0) (bT ho hd (x:=.ref t) rfl ?_);refine(if_neg ne).symm ▸ (aa (m:=jH (.ref it) 1) (bT ho hd (x:=.int i 0) rfl ?_));refine aa (m:=seqItems? (.ref t)) (cg hol hdl ?_);simp only[bF,hx];refine aa (dH (aa (wpAny_setField ho hd (by simp) (aa (m:=newExc (.type "StopIteration") []) ?_))))
 simp only[newExc,newTuple];refine aa (bj (aa (m:=i9 _ _) (wpAny_of_eq (a:=bg) (by first | rfl | (simp only[i9];rfl)) (bj ?_ (by size_fits)))) (by size_fits))
 simp only[raiseNew];refine aa (wpAny_handled ?_)
 first | rw[show A.in1.handled=none from hh] | rw[hh]
 exact aa (ae (wpAny_throw (hE _ _ (((be ..).extBut.push _).push _) ⟨_,ao _ rfl,rfl⟩)))
theorem draws_tup (hh:A.handled=none) (it l:Addr) (hne:l≠it) (items:Array ad):Draws prog w A it [it,l] items.size (fun i v=>items[i]?=some v) (fun i h=>h.IsTupleIter it l i/\h.IsTuple l items) where
 live:=fun _ _ st=>let ⟨o,ho,_⟩:=st.1;⟨o,ho⟩
 frame:=fun _ _ _ st hk=>⟨let ⟨o,ho,r⟩:=st.1;⟨o,hk it (by simp) o ho,r⟩,let ⟨o,ho,r⟩:=st.2;⟨o,hk l (by simp) o ho,r⟩⟩
 item:=fun i s Q E hi st hQ=>nx_item st.1 st.2 (x:=items[i]) (by simp[hi]) fun h' hit' hs'=>hQ _ h' s.toks (by simp[hi]) ⟨hit',st.2.extBut hs'.extBut hne⟩ hs'
 done:=fun s Q E st hE=>nx_end hh st.1 st.2 (by simp) hE
theorem en_new (l:Addr) (items:Array ad) (n:Nat) (dct:Option Addr) (sl:Array (Option ad)) :
  Meets (bC.«enumerate.__new__» ⟨[.type "enumerate",.ref l],[]⟩) (fun _ R s=>s.heap.get? l=some { cls:=.type "tuple",dict:=dct,data:=.seq items n,slots:=sl } /\
   R (.ok (.ret (.ref (s.heap.push { cls:=.type "tuple_iterator",data:=.fields #[.ref l,.int 0 0] }).objs.size)))
    { s with heap:=(s.heap.push { cls:=.type "tuple_iterator",data:=.fields #[.ref l,.int 0 0] }).push { cls:=.type "enumerate",data:=.fields #[.none,.bool false,.ref s.heap.objs.size,dz 0,.none,.none] } }) :=
 .of_wp fun prog w A R s h=>by
  obtain⟨hp,g,d,tk,os⟩:=s;obtain⟨hl,h⟩:=h;have hsub:=sub_enumerate;have hT:iO (ah.heap ⟨hp,g,d,tk,os⟩) l items:=⟨_,hl,rfl,n,rfl⟩
  wp_walk using bw hl
  refine wpAny_stack_any fun st=>ae ?_
  split
  ·rename_i c _ _ _ _ _;cases (c == cV "enumerate") <;>
   ·wp_walk using bw hl,eE hT
    exact⟨_,rfl,h⟩
  ·wp_walk using bw hl,eE hT
   exact⟨_,rfl,h⟩
theorem call_en {l:Addr} {items:Array ad} {Q:ad->ah->Prop} (hT:s.heap.IsTuple l items)
  (h:∀ h',IsEnum h' (s.heap.objs.size + 1) s.heap.objs.size 0 .none->h'.IsTupleIter s.heap.objs.size l 0->(∀ b o,s.heap.get? b=some o->h'.get? b=some o)->Q (.ref (s.heap.objs.size + 1)) { s with heap:=h' }) :
  aw (aA prog w) A (call (.type "enumerate") [.ref l]) Q E s:=by
 obtain⟨⟨c,dct,dt,sl⟩,hl,hc,n,hd⟩:=hT;replace hc:c=.type "tuple":=hc;replace hd:dt=.seq items n:=hd;subst hc hd;refine callType_new F.called_enumerate (by decide) (F.typeCall_enumerate_1 _) (F.newCall_enumerate_1 _) (fun obj=>F.args_object_init_2 obj _) F.entry_enumerate_new (en_new l items n dct sl) ⟨hl,?_⟩
 generalize ho:({ cls:=.type "tuple_iterator",data:=.fields #[.ref l,.int 0 0] }:Obj)=o1;have hz:(s.heap.push o1).objs.size=s.heap.objs.size + 1:=bU ..;have he:=ao (s.heap.push o1) (o:={ cls:=.type "enumerate",data:=.fields #[.none,.bool false,.ref s.heap.objs.size,dz 0,.none,.none] }) rfl;have hi:(s.heap.push o1).get? s.heap.objs.size=some o1:=ao _ (by rw[<- ho];rfl)
 show _/\_;rw[hz] at he ⊢;exact⟨⟨_,he,rfl⟩,h _ he ⟨o1,af _ hi,by rw[<- ho],by rw[<- ho];rfl⟩ fun b o x=>af _ (af _ x)⟩
end
def Ite (K:Fg) (a:Addr):It:=⟨fun i H=>∃ xs x,SqT K H a xs/\xs[i]?=some x,fun i H x H'=>∃ p y,H p=none/\x=.ref p/\H'=upd H p (.tup [.int i,y])/\∀ xs,SqT K H a xs->xs[i]?=some y,fun i H=>∃ xs,SqT K H a xs/\xs.length<=i⟩
theorem turn_en {P:aB} {w:aN} {K:Fg} {elts:List Expr} {x1:Nat} {pos:Pos} (a it e:Addr) (hei:e≠it) (hae:a≠e) (hai:a≠it):Turn P w K (.Tuple elts x1 pos) (Ite K a) [e,it] e (fun i h=>(∃ old,IsEnum h e it i old)/\h.IsTupleIter it a i) where
 mem:=by simp
 obj:=fun i h st b hb=>by
  obtain⟨⟨old,he⟩,o,ho,hc,hd⟩:=st;rcases ax.mp hb with rfl | hb
  ·exact⟨_,he,fun v z=>by cases z⟩
  ·have:=aG.mp hb
   subst this;exact⟨o,ho,fun v z=>by rw[hd] at z;cases z⟩
 keep:=fun i h h' st k=>by
  obtain⟨⟨old,he⟩,o,ho,r⟩:=st;exact⟨⟨old,k e (by simp) _ he⟩,o,k it (by simp) _ ho,r⟩
 item:=by
  intro X hP hw hK hc i pins s σ H E I hf st hg;subst hP hw hK;obtain⟨xs,x,hq,hx⟩:=hg;obtain⟨its,rv,p,hz⟩:=I.tuple hq;obtain⟨u,hu,ru⟩:=rv.get hx;obtain⟨⟨old,he⟩,st2⟩:=st;have hi:i < its.toArray.size:=by
   rcases bP i its.toArray.size with z | z
   ·exact z
   ·rw[ak] at z;rw[bE z] at hu;cases hu
  have hh:X.A.in1.handled=none:=by have:=I.ok.hd hc;simp[this]
  have hT:s.heap.IsTuple a its.toArray:=p;refine wpAny_pyNext_enum_itemD (draws_tup hh it a hai its.toArray) he ⟨st2,hT⟩ hi hei (by simp;exact⟨hei,fun z=>hae z.symm⟩) fun y h' tk hy ho hs' hT' hsz hk=>⟨_,rfl,?_⟩
  have hy':y=u:=by
   have:its[i]?=some y:=by simpa using hy
   rw[hu] at this;exact(aL this).symm
  subst hy';refine wpAny_letOwnedTupleGo_enum ho fun h2 he2 hs2=>?_;have fe:=hf e (by simp)
  have fi:=hf it (by simp)
  have kk:∀ b o,b≠e->b≠it->s.heap.get? b=some o->h2.get? b=some o:=fun b o n1 n2 g=>(hs2.2 b n1).trans (hk b o n1 n2 g);have hel:e < s.heap.objs.size:=aq he;have hfresh:H s.heap.objs.size=none:=I.hok.fresh (aj _);have nT:∀ b o,s.heap.get? b=some o->b≠s.heap.objs.size:=fun b o g=>aC (aq g);have nH:∀ b u,H b=some u->b≠e/\b≠it:=fun b u g=>⟨fun z=>(by rw[z,fe.1] at g;cases g),fun z=>(by rw[z,fi.1] at g;cases g)⟩
  have tupT:h2.get? s.heap.objs.size=some { cls:=.type "tuple",data:=.seq #[.int i tk,y] }:=(hs2.2 _ (bX hel)).trans hT';have hok:HOk X.prog X.w (upd H s.heap.objs.size (.tup [.int i,x])) h2:=fun b ob g=>by
   by_cases hb:b=s.heap.objs.size
   ·subst hb;rw[upd_same] at g;cases g;refine⟨by rw[bn];show 2<=_;decide,[.int i tk,y],.cons ⟨tk,rfl⟩ (.cons ru .nil),⟨_,tupT,rfl,0,rfl⟩,fun o e=>by rw[tupT] at e;cases e;rfl⟩
   ·rw[upd_ne hb] at g;refine(I.hok b ob g).stay (fun c w' hc' q=>?_) (fun c q=>?_) fun c ys q=>?_
    ·rcases hc' with rfl | hc'
     ·exact kk _ _ (nH _ _ g).1 (nH _ _ g).2 q
     ·exact kk _ _ (nH _ _ hc').1 (nH _ _ hc').2 q
    ·rw[upd_ne (ne_of_none q hfresh)];exact q
    ·rw[upd_ne (ne_of_none q hfresh)];exact q
  have un:Un (frs X.stack) [e,it] H (upd H s.heap.objs.size (.tup [.int i,x])) s.heap h2:=by
   have ab:∀ {b:Addr},b∉[e,it]->b≠e/\b≠it:=fun hb=>⟨fun z=>hb (by simp[z]),fun z=>hb (by simp[z])⟩
   exact⟨fun b o g _ _ hb=>kk b o (ab hb).1 (ab hb).2 g,fun b o g _ _ hb=>⟨o.slots,kk b o (ab hb).1 (ab hb).2 g⟩,fun b o g n _=>by rw[upd_ne (nT b o g)];exact n,fun b o g hb=>⟨o,kk b o (ab hb).1 (ab hb).2 g⟩,
    fun b ys g=>by rw[upd_ne (ne_of_none g hfresh)];exact g,fun b o v g=>by rw[upd_ne (ne_of_none g hfresh)];exact g,fun b ps g=>⟨#[],by rw[upd_ne (ne_of_none g hfresh),g];simp⟩⟩
  have I2:Inv X pins σ (upd H s.heap.objs.size (.tup [.int i,x])) { s with heap:=h2,toks:=tk + 1 }:=I.call' (s':={ s with heap:=h2,toks:=tk + 1 }) rfl un hok I.bare fun b hb=>by
   rcases ax.mp hb with rfl | hb
   ·exact⟨fe.2.2.2.1,fe.2.1,fe.2.2.2.2.1,fe.2.2.2.2.2⟩
   ·have:=aG.mp hb
    subst this;exact⟨fi.2.2.2.1,fi.2.1,fi.2.2.2.2.1,fi.2.2.2.2.2⟩
  refine⟨.ref s.heap.objs.size,_,I2,rfl,⟨_,x,hfresh,rfl,rfl,fun ys hy=>by rw[I.tuple_inj hy hq];exact hx⟩,⟨⟨_,by simpa using he2⟩,?_⟩,fun b hb=>?_⟩
  ·obtain⟨o,g,r⟩:=hs'.1;exact⟨o,(hs2.2 it (bW hei)).trans g,r⟩
  ·have hb':b < s.heap.objs.size:=by
    rcases ax.mp hb with rfl | hb
    ·exact hel
    ·have:=aG.mp hb
     subst this;obtain⟨o,g,_⟩:=st2;exact aq g
   rw[upd_ne (aC hb')];exact(hf b hb).1
 done:=by
  intro X hP hw hK hc i pins s σ H E I hf st hg;subst hP hw hK;obtain⟨xs,hq,hx⟩:=hg;obtain⟨its,rv,p,hz⟩:=I.tuple hq;obtain⟨⟨old,he⟩,st2⟩:=st;have hl:=rv.length;have hh:X.A.in1.handled=none:=by have:=I.ok.hd hc;simp[this]
  have hT:s.heap.IsTuple a its.toArray:=p;obtain⟨f0,f1,f2,f3,f4,f5⟩:=hf it (by simp)
  have hT2:s.TypeIs (.ref e) "enumerate":=⟨_,he,rfl⟩;unfold e6;refine aa (f7 (b7 (name:=aJ "__next__") hT2 F.slot_enumerate_next (b4 F.slot_enumerate_next hT2 F.entry_enumerate_next ?_ (F.args_enumerate_next_1 _))));refine aa (m:=jH (.ref e) 2) (bT he rfl (x:=.ref it) rfl (aa (nx_end hh st2 hT (by simp;lia) fun h' x he' hx'=>?_)))
  obtain⟨o,ho,hc'⟩:=hx';refine aa (fQ (T := "StopIteration") (b:=true) ⟨o,ho,hc'⟩ ja ?_);exact ae ⟨rfl,I.turned (t':=s.toks) (fun b o hb g=>he' b o hb g) f0 f1 f3 f4 f5⟩
 self:=fun A i s Q E st h=>by
  obtain⟨⟨old,he⟩,_⟩:=st;exact gS he h
section
variable {X:Cx}
def iEnT (K:Fg) (ta:TA):TI:=fun σ H R=>ta σ H fun vs H1=>∃ a,vs=[.ref a]/\(∃ xs,SqT K H1 a xs)/\R (Ite K a) H1
theorem pi_en {e:Expr} {ta:TA} {p pos:Pos} {elts:List Expr} {x1:Nat} {tpos:Pos} (hg:Gl X "enumerate") (hm:X.mg "enumerate" = none) (ha:PA X [e] ta) (hs:am [e] X.env=[(false,eval e X.env)]:=by rfl) :
  PI X (.Tuple elts x1 tpos) (.Call (.Name "enumerate" p) [e] [] pos) (iEnT X.K ta):=by
 intro pins s σ H R I h;refine Call_ (ld_blt I hg hm iP (cj (thn (ha pos pins s σ H _ I h) fun us s1 ⟨vs,H1,I1,r1,q1⟩=>?_) hs rfl));obtain⟨a,rfl,⟨xs,hq⟩,q⟩:=q1;obtain⟨u,rfl,rx⟩:=vals1 r1;cases rx;obtain⟨its,rv,pl,hz⟩:=I1.tuple hq;have hal:a < s1.heap.objs.size:=by obtain⟨o,e,_⟩:=id pl;exact aq e
 refine call_en (show s1.heap.IsTuple a its.toArray from pl) fun h' he hi hk=>gS he ?_
 refine⟨s1.heap.objs.size + 1,[s1.heap.objs.size + 1,s1.heap.objs.size],_,_,H1,rfl,I1.kept (t':=s1.toks) hk,turn_en a s1.heap.objs.size (s1.heap.objs.size + 1) (Nat.succ_ne_self _) (aC (cZ hal)) (aC hal),⟨⟨_,he⟩,hi⟩,fun b hb=>?_,q⟩;rcases ax.mp hb with rfl | hb
 ·exact I1.fpOk (db _) (I1.hok.fresh (db _))
 ·have:=aG.mp hb
  subst this;exact I1.fpOk (aj _) (I1.hok.fresh (aj _))
end
end L2
namespace HT
open PySem PyProof.Rows
def ltS (a b:Str):Bool:=decide (a.cps.toList < b.cps.toList)
def lexS:List Str->List Str->Bool
 | [],[]=>false
 | [],_::_=>true
 | _::_,[]=>false
 | x::xs,y::ys=>if x=y then lexS xs ys else ltS x y
theorem lexS_cons (x y:Str) (xs ys:List Str):lexS (x::xs) (y::ys)=if x=y then lexS xs ys else ltS x y:=rfl
theorem lexS_nil_nil:lexS [] []=false:=rfl
theorem lexS_nil_cons (y:Str) (ys:List Str):lexS [] (y::ys)=true:=rfl
theorem lexS_cons_nil (x:Str) (xs:List Str):lexS (x::xs) []=false:=rfl
abbrev SAre:List ad->List Str->Prop:=bb fun v x=>∃ t,v=.str x t
theorem SAre.len {l:List ad} {m:List Str} (h:SAre l m):l.length=m.length:=cz h
theorem eqAt_st (A:aO) (s:ah) (a:Str) (t:Tok) (c:Str) (u:Tok):∃ e,cG A s (.str a t) (.str c u) e/\(e=true↔a=c) :=
 ⟨(a == c),jb a t c u,by simp⟩
theorem rcLt_st (A:aO) (s:ah) (a:Str) (t:Tok) (c:Str) (u:Tok) (prog:aB) (w:aN) (E:ad->ah->Prop) (Q:ad->ah->Prop) (h:Q (.bool (ltS a c)) s) :
  aw (aA prog w) A (richCompare .Lt (.str a t) (.str c u)) Q E s :=
 (ky h:aw (aA prog w) A (b6 .Lt (.str a t) (.str c u)) Q E s)
section
open PySem.SeqAt
open PySem.AutoSeq1 (wpAny_loadPart')
open PySem.MeetsSeq PySem.MeetsSeq2 PySem.MeetsSeq3
theorem tuple_lt_strs (l b:Addr) (items items2:Array ad) (n n2:Nat) (dd dd2:Option Addr) (sl sl2:Array (Option ad)) (ns ms:List Str) (hi:SAre items.toList ns) (hj:SAre items2.toList ms) :
  Meets (bC.«tuple.__lt__» ⟨[.ref l,.ref b],[]⟩)
   (fun _ R s=>s.heap.get? l=some { cls:=.type "tuple",dict:=dd,data:=.seq items n,slots:=sl }/\s.heap.get? b=some { cls:=.type "tuple",dict:=dd2,data:=.seq items2 n2,slots:=sl2 } /\
    R (.ok (.ret (.bool (lexS ns ms)))) s) :=
 .of_wp fun prog w A R s h=>by
  obtain⟨hp,g,d,tk,os⟩:=s;obtain⟨hl,hb,h⟩:=h;have f2:=jy;have z1:items.size=ns.length:=by rw[<- hi.len];simp
  have z2:items2.size=ms.length:=by rw[<- hj.len];simp
  wp_walk using bw hl,bw hb,ia _ (fun rest b s'=>b.1=none/\s'=⟨hp,g,d,tk,os⟩/\∃ (vs ws:List ad) (ns' ms':List Str),rest=vs.zip ws /\
   SAre vs ns'/\SAre ws ms'/\ns'.length + items2.size=ms'.length + items.size/\R (.ok (.ret (.bool (lexS ns' ms')))) ⟨hp,g,d,tk,os⟩) _
  case turn =>
   rintro⟨y,x⟩ rest b s' ⟨hb',rfl,vs,ws,ns',ms',hz,hvi,hwi,hlen,hR⟩;cases hvi with
   | nil=>rw[cK] at hz;cases hz
   | @cons va a _ _ ha hvi' =>
    obtain⟨t,rfl⟩:=ha;cases hwi with
    | nil=>rw[cN] at hz;cases hz
    | @cons vc c _ _ hc hwi' =>
     obtain⟨u,rfl⟩:=hc;rw[cD] at hz;injection hz with hyx hrest
     injection hyx with hy hx
     subst hy hx;rw[lexS_cons] at hR;simp only[bH] at hlen;obtain⟨e,he,hiff⟩:=eqAt_st A.in1 ⟨hp,g,d,tk,os⟩ a t c u;refine aa (he prog w _ _ ?_);cases e with
     | true =>
      rw[if_pos (hiff.mp rfl)] at hR
      wp_walk
      exact⟨rfl,rfl,_,_,_,_,hrest,hvi',hwi',by lia,hR⟩
     | false =>
      rw[if_neg (fun q=>absurd (hiff.mpr q) bR)] at hR;have hri:=rcLt_st A.in1 ⟨hp,g,d,tk,os⟩ a t c u prog w
      wp_walk using hri
      exact⟨_,rfl,by simpa using hR⟩
  case fin =>
   rintro⟨b1,b2⟩ s' ⟨hb',rfl,vs,ws,ns',ms',hz,hvi,hwi,hlen,hR⟩;simp only at hb';subst hb';have hv:lexS ns' ms'=decide (items.size < items2.size):=by
    cases hvi with
    | nil =>
     cases hwi with
     | nil =>
      simp only[dY] at hlen;rw[lexS_nil_nil];exact(decide_eq_false (by lia)).symm
     | cons hc hw =>
      simp only[dY,bH] at hlen;rw[lexS_nil_cons];exact(decide_eq_true (by lia)).symm
    | cons ha hv =>
     cases hwi with
     | nil =>
      simp only[dY,bH] at hlen;rw[lexS_cons_nil];exact(decide_eq_false (by lia)).symm
     | cons hc hw =>
      rw[cD] at hz;cases hz
   rw[hv] at hR
   wp_walk
   exact⟨_,rfl,by simpa [g8] using hR⟩
  case h =>
   exact⟨rfl,rfl,items.toList,items2.toList,ns,ms,rfl,hi,hj,by lia,h⟩
end
section
variable {prog:aB} {w:aN} {A:aO} {E:ad->ah->Prop} {s:ah}
theorem lt_tupStrs {l b:Addr} {items items2:Array ad} {ns ms:List Str} {Q:ad->ah->Prop} (hl:iW s.heap l items) (hb:iW s.heap b items2) (hi:SAre items.toList ns) (hj:SAre items2.toList ms)
  (hu:A.units < bS) (h:Q (.bool (lexS ns ms)) s):aw (aA prog w) A (b6 .Lt (.ref l) (.ref b)) Q E s:=by
 obtain⟨⟨cls,dd,data,sl⟩,ho,hc,n,hd⟩:=id hl;obtain⟨⟨cls2,dd2,data2,sl2⟩,ho2,hc2,n2,hd2⟩:=id hb;simp only at hc hd hc2 hd2;subst hc hd hc2 hd2;exact gU (op:=.Lt) ⟨_,ho,rfl⟩ ⟨_,ho2,rfl⟩ dE fr (ff _ _) (tuple_lt_strs l b items items2 n n2 dd dd2 sl sl2 ns ms hi hj)
  ⟨ho,ho2,show fG (lexS ns ms)≠iy/\Q (.bool (lexS ns ms)) s from⟨(fun x=>nomatch x),h⟩⟩ hu
end
end HT
namespace L2
open PySem PySem.Spec PyProof.Rows
theorem sare_of {H:Hp}:∀ {xs:List V} {us:List ad} {ds:List Str},bb (dS H) xs ds->Vals xs us->HT.SAre us ds
 | _,_,_,.nil,.nil=>.nil
 | _,_,_,.cons p q,.cons r t=>by
  cases p;exact .cons r (sare_of q t)
def rLtS (K:Fg):R2:=fun x y H Q=>∃ d e,dT K dS H x d/\dT K dS H y e/\Q (.bl (HT.lexS d e)) H
theorem op_ltS {X:Cx} (hu:X.A.units < bS):OpR X (b6 .Lt) (rLtS X.K):=by
 intro pins s σ H x y v u Q I rx ry h;obtain⟨d,e,⟨a,xs,rfl,ha,pa⟩,⟨b,ys,rfl,hb,pb⟩,q⟩:=h;cases rx;cases ry;obtain⟨its,r1,p1,_⟩:=I.tuple ha;obtain⟨its2,r2,p2,_⟩:=I.tuple hb;exact HT.lt_tupStrs p1 p2 (sare_of pa r1) (sare_of pb r2) hu ⟨.bl (HT.lexS d e),H,I,rfl,q⟩
variable {α β γ:Type}
theorem nd_ (l:List Str) (h:l.Nodup:=by decide +kernel):l.Nodup:=h
theorem lt64 {k n:Nat} {A:aO} (r:Room k A) (h:n<=64:=by decide):A.units + n < bS:=by have:=r.units;lia
section
variable {X:Cx} {K:Fg} {tg:Expr} {a:Expr} {ta:TE}
theorem sl_tupK (hK:X.K=K:=by rfl):SlR X (rSlT K):=hK ▸ sl_tup
theorem sl_listK (hK:X.K=K:=by rfl):SlR X (rSlL K):=hK ▸ sl_list
theorem op_catTK (hK:X.K=K:=by rfl):OpR X (dM .Add) (rCatT K):=hK ▸ op_catT
theorem call_tupleK (hK:X.K=K:=by rfl):CallR X (.type "tuple") (fun xs H Q=>∃ p ys,xs=[.ref p]/\((SqL K H p ys/\∀ l,H l=none->Q (.ref l) (upd H l (.tup ys)))\/(SqT K H p ys/\Q (.ref p) H))):=hK ▸ call_tuple_of
theorem call_listK (hK:X.K=K:=by rfl):CallR X (.type "list") (fun xs H Q=>∃ p ys,xs=[.ref p]/\(SqL K H p ys\/SqT K H p ys)/\∀ l,H l=none->Q (.ref l) (upd H l (.lst ys))):=hK ▸ call_list_of
theorem call_allK (hK:X.K=K:=by rfl) (hc:X.calm=true:=by rfl):CallR X (.builtin "all") (fun xs H Q=>∃ x bs,xs=[x]/\dL K dB H x bs/\Q (.bl (bs.all id)) H):=hK ▸ call_allD hc
theorem call_anyK (hK:X.K=K:=by rfl) (hc:X.calm=true:=by rfl):CallR X (.builtin "any") (fun xs H Q=>∃ x bs,xs=[x]/\dL K dB H x bs/\Q (.bl (bs.any id)) H):=hK ▸ call_anyD hc
theorem op_ltSK (hu:X.A.units < bS) (hK:X.K=K:=by rfl):OpR X (b6 .Lt) (rLtS K):=hK ▸ op_ltS hu
theorem pt_truthK (ha:PE X a ta) (he:∀ whole,isTrue a X.env whole=(do let v <- whole;standAt a.pos;gH [v] (truthy v))) (hK:X.K=K:=by rfl):PT X a (fun σ H Q=>ta σ H fun x H'=>∃ k,TruV K x H' k/\Q k H'):=by subst hK;exact pt_truth ha he
theorem pi_enK {e:Expr} {ta:TA} {p pos:Pos} {elts:List Expr} {x1:Nat} {tpos:Pos} (hg:Gl X "enumerate") (hm:X.mg "enumerate" = none) (ha:PA X [e] ta) (hs:am [e] X.env=[(false,eval e X.env)]:=by rfl) (hK:X.K=K:=by rfl) :
  PI X (.Tuple elts x1 tpos) (.Call (.Name "enumerate" p) [e] [] pos) (iEnT K ta):=by subst hK;exact pi_en hg hm ha hs
end
end L2
namespace KS
open PySem PySem.W PyProof.Rows
def run {α:Type} (lt:Nat->Nat->Bool):KasT α->α
 | .ret a=>a
 | .ask i j k=>run lt (k (lt i j))
theorem run_bind {α β:Type} {lt:Nat->Nat->Bool} {f:α->KasT β}:∀ t:KasT α,run lt (t.bind f)=run lt (f (run lt t))
 | .ret _=>rfl
 | .ask i j k=>run_bind (k (lt i j))
structure Ord (lt:Nat->Nat->Bool) (n:Nat):Prop where
 tot:∀ i j,i < n->j < n->i≠j->lt i j=false->lt j i=true
 asy:∀ i j,lt i j=true->lt j i=false
 tr:∀ i j k,lt i j=true->lt j k=true->lt i k=true
variable {lt:Nat->Nat->Bool} {n:Nat}
abbrev at' (p:Array Nat) (k:Nat):Nat:=p.getD k 0
theorem at_get (p:Array Nat) (k:Nat):at' p k=(p[k]?).getD 0:=by
 unfold at'
 by_cases h:k < p.size
 ·simp[cI,h]
 ·simp[cI,h]
structure Vd (n:Nat) (p:Array Nat):Prop where
 sz:p.size=n
 pm:p.toList.Perm (aD n)
theorem Vd.low {p:Array Nat} (v:Vd n p) {a:Nat} (h:a < n):at' p a < n:=by
 have hs:a < p.size:=by rw[v.sz];exact h
 have e:at' p a=p[a]:=by simp[at',cI,hs]
 rw[e]
 have:p[a]∈p.toList:=by simp
 exact aM.mp (v.pm.mem_iff.mp this)
theorem Vd.ne {p:Array Nat} (v:Vd n p) {a b:Nat} (ha:a < n) (hb:b < n) (hab:a≠b):at' p a≠at' p b:=by
 have nd:p.toList.Nodup:=v.pm.nodup_iff.mpr h9;have hs:a < p.size:=by rw[v.sz];exact ha
 have hs':b < p.size:=by rw[v.sz];exact hb
 have e:at' p a=p[a]:=by simp[at',cI,hs]
 have e':at' p b=p[b]:=by simp[at',cI,hs']
 rw[e,e'];intro z;have z':p.toList[a]'(by simpa using hs)=p.toList[b]'(by simpa using hs'):=by simpa using z
 exact hab ((fN nd).mp z')
theorem Vd.perm {p q:Array Nat} (v:Vd n p) (h:q.Perm p):Vd n q:=⟨by
 have:=h.toList.length_eq
 simp only[aR] at this;rw[this,v.sz],h.toList.trans v.pm⟩
def Asc (lt:Nat->Nat->Bool) (p:Array Nat) (m:Nat):Prop:=∀ a b,a < b->b < m->lt (at' p a) (at' p b)=true
def Dsc (lt:Nat->Nat->Bool) (p:Array Nat) (m:Nat):Prop:=∀ a b,a < b->b < m->lt (at' p b) (at' p a)=true
theorem Asc.up (o:Ord lt n) {p:Array Nat} {m:Nat} (h:Asc lt p m) (h1:1<=m) (hl:lt (at' p (m - 1)) (at' p m)=true):Asc lt p (m + 1):=fun a b hab hb=>by
 rcases bP b m with z | z
 ·exact h a b hab z
 ·have e:b=m:=by lia
  subst e;rcases bP a (b - 1) with y | y
  ·exact o.tr _ _ _ (h a (b - 1) y (by lia)) hl
  ·have e:a=b - 1:=by lia
   rw[e];exact hl
theorem Dsc.up (o:Ord lt n) {p:Array Nat} {m:Nat} (h:Dsc lt p m) (h1:1<=m) (hl:lt (at' p m) (at' p (m - 1))=true):Dsc lt p (m + 1):=fun a b hab hb=>by
 rcases bP b m with z | z
 ·exact h a b hab z
 ·have e:b=m:=by lia
  subst e;rcases bP a (b - 1) with y | y
  ·exact o.tr _ _ _ hl (h a (b - 1) y (by lia))
  ·have e:a=b - 1:=by lia
   rw[e];exact hl
theorem run_asc (o:Ord lt n) {p:Array Nat} (v:Vd n p):∀ (f m:Nat),1<=m->m + f<=n->Asc lt p m->m<=run lt (kas_asc p f m)/\run lt (kas_asc p f m)<=m + f/\Asc lt p (run lt (kas_asc p f m))/\(run lt (kas_asc p f m) < m + f->lt (at' p (run lt (kas_asc p f m))) (at' p (run lt (kas_asc p f m) - 1))=true)
 | 0,m,_,_,h=>⟨aj _,aj _,h,fun z=>absurd z (dh _)⟩
 | f + 1,m,h1,hf,h=>by
  show _<=run lt (if lt (at' p m) (at' p (m - 1))=true then KasT.ret m else kas_asc p f (m + 1))/\run lt (if lt (at' p m) (at' p (m - 1))=true then KasT.ret m else kas_asc p f (m + 1))<=_/\Asc lt p (run lt (if lt (at' p m) (at' p (m - 1))=true then KasT.ret m else kas_asc p f (m + 1)))/\(run lt (if lt (at' p m) (at' p (m - 1))=true then KasT.ret m else kas_asc p f (m + 1)) < _->lt (at' p (run lt (if lt (at' p m) (at' p (m - 1))=true then KasT.ret m else kas_asc p f (m + 1)))) (at' p (run lt (if lt (at' p m) (at' p (m - 1))=true then KasT.ret m else kas_asc p f (m + 1)) - 1))=true)
  cases c:lt (at' p m) (at' p (m - 1)) with
  | true =>
   rw[if_pos rfl];exact⟨aj _,by show m<=_;lia,h,fun _=>c⟩
  | false =>
   rw[if_neg (by simp)]
   obtain⟨a,b,c',d⟩:=run_asc o v f (m + 1) (by lia) (by lia) (h.up o h1 (o.tot _ _ (v.low (by lia)) (v.low (by lia)) (v.ne (by lia) (by lia) (by lia)) c))
   exact⟨by lia,by lia,c',fun z=>d (by lia)⟩
theorem run_desc (o:Ord lt n) {p:Array Nat} (v:Vd n p):∀ (f m:Nat),1<=m->m + f<=n->Dsc lt p m->∃ m',run lt (kas_desc f p m 0)=(p,m',0)/\m<=m'/\m'<=m + f/\Dsc lt p m'
 | 0,m,_,_,h=>⟨m,rfl,aj _,aj _,h⟩
 | f + 1,m,h1,hf,h=>by
  cases c:lt (at' p m) (at' p (m - 1)) with
  | true =>
   obtain⟨m',e,a,b,d⟩:=run_desc o v f (m + 1) (by lia) (by lia) (h.up o h1 c)
   refine⟨m',?_,by lia,by lia,d⟩
   show run lt (if lt (at' p m) (at' p (m - 1))=true then (if 0 > 0 then kas_desc f (kas_rev p (m - (0 + 1)) m) (m + 1) 0 else kas_desc f p (m + 1) 0) else _)=_
   rw[c,if_pos rfl,if_neg (by lia)]
   exact e
  | false =>
   have c2:=o.tot _ _ (v.low (a:=m) (by lia)) (v.low (a:=m - 1) (by lia)) (v.ne (by lia) (by lia) (by lia)) c
   refine⟨m,?_,by lia,by lia,h⟩
   show run lt (if lt (at' p m) (at' p (m - 1))=true then _ else KasT.ask (p.getD (m - 1) 0) (p.getD m 0) fun d=>if d=true then KasT.ret (p,m,0) else kas_desc f p (m + 1) (0 + 1))=_
   rw[c,if_neg (by simp)]
   show run lt (if lt (at' p (m - 1)) (at' p m)=true then KasT.ret (p,m,0) else kas_desc f p (m + 1) (0 + 1))=_
   rw[c2,if_pos rfl]
   rfl
theorem rev_vd {p:Array Nat} (v:Vd n p) (m:Nat):Vd n (kas_rev p 0 m):=v.perm (mirror_perm _ _ _ _)
theorem rev_at {p:Array Nat} (v:Vd n p) {m:Nat} (hm:m<=n) {a:Nat} (ha:a < m):at' (kas_rev p 0 m) a=at' p (m - 1 - a):=by
 rw[at_get,at_get];unfold kas_rev;rw[iJ (by rw[v.sz];exact hm),if_pos ⟨bG _,ha⟩,jZ]
theorem rev_asc {p:Array Nat} (v:Vd n p) {m:Nat} (hm:m<=n) (h:Dsc lt p m):Asc lt (kas_rev p 0 m) m:=fun a b hab hb=>by
 rw[rev_at v hm (by lia),rev_at v hm hb]
 exact h _ _ (by lia) (by lia)
theorem run_tail (o:Ord lt n) {p:Array Nat} (v:Vd n p) {m:Nat} (h1:1<=m) (hm:m<=n) (h:Dsc lt p m):Vd n (run lt (kas_tail3 m n p)).2/\1<=(run lt (kas_tail3 m n p)).1/\(run lt (kas_tail3 m n p)).1<=n/\Asc lt (run lt (kas_tail3 m n p)).2 (run lt (kas_tail3 m n p)).1:=by
 unfold kas_tail3;rw[run_bind];obtain⟨a,b,c,_⟩:=run_asc o (rev_vd v m) (n - m) m h1 (by lia) (rev_asc v hm h)
 exact⟨rev_vd v m,by show 1<=run lt _;lia,by show run lt _<=n;lia,c⟩
theorem run_count (o:Ord lt n) {p:Array Nat} (v:Vd n p) (hn:1<=n):Vd n (run lt (kas_count n p)).2/\1<=(run lt (kas_count n p)).1/\(run lt (kas_count n p)).1<=n/\Asc lt (run lt (kas_count n p)).2 (run lt (kas_count n p)).1:=by
 unfold kas_count;rw[run_bind];have one:Asc lt p 1:=fun a b h1 h2=>by lia
 obtain⟨ha,hb,hc,hd⟩:=run_asc o v (n - 1) 1 (aj _) (by lia) one
 generalize run lt (kas_asc p (n - 1) 1)=m at ha hb hc hd
 by_cases e:(m == n)=true
 ·rw[if_pos e]
  have:m=n:=by simpa using e
  exact⟨v,ha,by show m<=n;lia,hc⟩
 ·rw[if_neg e];have hne:m≠n:=by simpa using e
  by_cases h1:m > 1
  ·rw[if_pos h1];have c:lt (p.getD 0 0) (p.getD (m - 1) 0)=true:=hc 0 (m - 1) (by lia) (by lia)
   show Vd n (run lt (if lt (p.getD 0 0) (p.getD (m - 1) 0)=true then KasT.ret (m,p) else kas_descPart m n (kas_rev p 0 m))).2/\1<=(run lt (if lt (p.getD 0 0) (p.getD (m - 1) 0)=true then KasT.ret (m,p) else kas_descPart m n (kas_rev p 0 m))).1/\(run lt (if lt (p.getD 0 0) (p.getD (m - 1) 0)=true then KasT.ret (m,p) else kas_descPart m n (kas_rev p 0 m))).1<=n/\Asc lt (run lt (if lt (p.getD 0 0) (p.getD (m - 1) 0)=true then KasT.ret (m,p) else kas_descPart m n (kas_rev p 0 m))).2 (run lt (if lt (p.getD 0 0) (p.getD (m - 1) 0)=true then KasT.ret (m,p) else kas_descPart m n (kas_rev p 0 m))).1
   rw[c,if_pos rfl];exact⟨v,ha,by show m<=n;lia,hc⟩
  ·rw[if_neg h1];have em:m=1:=by lia
   subst em;have d2:Dsc lt p 2:=fun a b hab hb'=>by
    have e1:a=0:=by lia
    have e2:b=1:=by lia
    subst e1 e2;exact hd (by lia)
   obtain⟨m',e',h2,h3,h4⟩:=run_desc o v (n - 2) 2 (by lia) (by lia) d2
   have e3:run lt (kas_descPart 1 n p)=run lt (kas_tail3 m' n p):=by
    unfold kas_descPart;rw[run_bind];show run lt (if (run lt (kas_desc (n - 2) p 2 0)).2.2 > 0 then _ else kas_tail3 (run lt (kas_desc (n - 2) p 2 0)).2.1 n (run lt (kas_desc (n - 2) p 2 0)).1)=_
    rw[e',if_neg (by show ¬ 0 > 0;lia)]
   rw[e3];exact run_tail o v (by lia) (by lia) h4
theorem run_place (o:Ord lt n) {p:Array Nat} (v:Vd n p) {k:Nat} (hk:k < n) (h:Asc lt p k):∀ (f l r:Nat),l<=r->r<=k->r - l<=f->(∀ a,a < l->lt (at' p a) (at' p k)=true)->(∀ b,r<=b->b < k->lt (at' p k) (at' p b)=true) ->
  ∃ z,run lt (kas_place p k f l r)=z/\z<=k/\(∀ a,a < z->lt (at' p a) (at' p k)=true)/\∀ b,z<=b->b < k->lt (at' p k) (at' p b)=true
 | 0,l,r,h1,h2,h3,h4,h5=>⟨l,rfl,by lia,h4,fun b hb=>h5 b (by lia)⟩
 | f + 1,l,r,h1,h2,h3,h4,h5=>by
  show ∃ z,run lt (if l >= r then KasT.ret l else _)=z/\_
  by_cases hlr:l >= r
  ·rw[if_pos hlr];exact⟨l,rfl,by lia,h4,fun b hb=>h5 b (by lia)⟩
  ·rw[if_neg hlr];show ∃ z,run lt (if lt (at' p k) (at' p ((l + r) / 2))=true then kas_place p k f l ((l + r) / 2) else kas_place p k f ((l + r) / 2 + 1) r)=z/\_
   have hm:(l + r) / 2 < k:=by lia
   cases c:lt (at' p k) (at' p ((l + r) / 2)) with
   | true =>
    rw[if_pos rfl];refine run_place o v hk h f l ((l + r) / 2) (by lia) (by lia) (by lia) h4 fun b hb hbk=>?_
    rcases eF hb with e | e
    ·rw[<- e];exact c
    ·exact o.tr _ _ _ c (h _ _ e hbk)
   | false =>
    rw[if_neg (by simp)]
    have c2:=o.tot _ _ (v.low hk) (v.low (a:=(l + r) / 2) (by lia)) (v.ne hk (by lia) (by lia)) c
    refine run_place o v hk h f ((l + r) / 2 + 1) r (by lia) h2 (by lia) (fun a ha=>?_) h5
    rcases eF (dq ha) with e | e
    ·rw[e];exact c2
    ·exact o.tr _ _ _ (h _ _ e hm) c2
theorem run_bin (o:Ord lt n):∀ (f:Nat) {p:Array Nat} {k:Nat},Vd n p->k + f=n->Asc lt p k->Vd n (run lt (kas_bin f p k))/\Asc lt (run lt (kas_bin f p k)) n
 | 0,p,k,v,e,h=>by
  have:k=n:=by lia
  subst this;exact⟨v,h⟩
 | f + 1,p,k,v,e,h=>by
  have hk:k < n:=by lia
  show Vd n (run lt ((kas_place p k k 0 k).bind _))/\Asc lt (run lt ((kas_place p k k 0 k).bind _)) n;rw[run_bind];obtain⟨z,ez,hz,h1,h2⟩:=run_place o v hk h k 0 k (bG _) (aj _) (by lia) (fun a ha=>by lia) (fun b hb hb'=>by lia)
  rw[ez];have v':Vd n (bubble p k (k - z)):=v.perm (bubble_perm _ _ _);refine run_bin o f v' (by lia) fun a b hab hb=>?_
  have g:∀ j,at' (bubble p k (k - z)) j=if j=z then at' p k else if z < j/\j<=k then at' p (j - 1) else at' p j:=fun j=>by
   rw[at_get,getElem?_bubble (by rw[v.sz];exact hk) (k - z) (by lia),show k - (k - z)=z by lia]
   split
   ·rw[at_get]
   ·split <;> rw[at_get]
  rw[g,g]
  by_cases ea:a=z
  ·rw[if_pos ea,if_neg (by lia),if_pos ⟨by lia,by lia⟩]
   exact h2 _ (by lia) (by lia)
  ·rw[if_neg ea]
   by_cases eb:b=z
   ·rw[if_pos eb,if_neg (by lia)]
    exact h1 _ (by lia)
   ·rw[if_neg eb]
    by_cases ca:z < a/\a<=k <;> by_cases cb:z < b/\b<=k
    ·rw[if_pos ca,if_pos cb];exact h _ _ (by lia) (by lia)
    ·lia
    ·rw[if_neg ca,if_pos cb];exact h _ _ (by lia) (by lia)
    ·rw[if_neg ca,if_neg cb];exact h _ _ (by lia) (by lia)
theorem run_sort (o:Ord lt n) (hn:1<=n):Vd n (run lt (kas_sort n))/\Asc lt (run lt (kas_sort n)) n:=by
 unfold kas_sort;rw[run_bind];have v0:Vd n (eT (aD n)):=⟨by simp,by simp⟩
 obtain⟨a,b,c,d⟩:=run_count o v0 hn
 by_cases h:(run lt (kas_count n (eT (aD n)))).1 < n
 ·rw[if_pos h];have e:max (run lt (kas_count n (eT (aD n)))).1 1=(run lt (kas_count n (eT (aD n)))).1:=by lia
  rw[e];exact run_bin o _ a (by lia) d
 ·rw[if_neg h];have e:(run lt (kas_count n (eT (aD n)))).1=n:=by lia
  rw[e] at d;exact⟨a,d⟩
def Okq {α:Type} (lt:Nat->Nat->Bool) (n:Nat):KasT α->Prop
 | .ret _=>True
 | .ask i j k=>i < n/\j < n/\Okq lt n (k (lt i j))
theorem okq_bind {α β:Type} {f:α->KasT β}:∀ t:KasT α,Okq lt n t->Okq lt n (f (run lt t))->Okq lt n (t.bind f)
 | .ret _,_,h=>h
 | .ask i j k,⟨a,b,c⟩,h=>⟨a,b,okq_bind (k (lt i j)) c h⟩
theorem Vd.any {p:Array Nat} (v:Vd n p) (hn:1<=n) (a:Nat):p.getD a 0 < n:=by
 by_cases h:a < n
 ·exact v.low h
 ·have:¬ a < p.size:=by rw[v.sz];exact h
  simp[cI,this];lia
theorem okq_asc {p:Array Nat} (v:Vd n p) (hn:1<=n):∀ f m,Okq lt n (kas_asc p f m)
 | 0,_=>trivial
 | f + 1,m=>⟨v.any hn _,v.any hn _,by
  dsimp only
  split
  ·trivial
  ·exact okq_asc v hn f (m + 1)⟩
theorem rev_vd' {p:Array Nat} (v:Vd n p) (i j:Nat):Vd n (kas_rev p i j):=v.perm (mirror_perm _ _ _ _)
theorem okq_desc (hn:1<=n):∀ (f:Nat) {p:Array Nat} (m q:Nat),Vd n p->Okq lt n (kas_desc f p m q)/\Vd n (run lt (kas_desc f p m q)).1
 | 0,p,m,q,v=>⟨trivial,v⟩
 | f + 1,p,m,q,v=>by
  show(_/\_/\Okq lt n (if lt (p.getD m 0) (p.getD (m - 1) 0)=true then (if q > 0 then kas_desc f (kas_rev p (m - (q + 1)) m) (m + 1) 0 else kas_desc f p (m + 1) 0) else _))/\Vd n (run lt (if lt (p.getD m 0) (p.getD (m - 1) 0)=true then (if q > 0 then kas_desc f (kas_rev p (m - (q + 1)) m) (m + 1) 0 else kas_desc f p (m + 1) 0) else _)).1
  by_cases c:lt (p.getD m 0) (p.getD (m - 1) 0)=true
  ·rw[if_pos c]
   by_cases hq:q > 0
   ·rw[if_pos hq];obtain⟨a,b⟩:=okq_desc hn f (m + 1) 0 (rev_vd' v (m - (q + 1)) m);exact⟨⟨v.any hn _,v.any hn _,a⟩,b⟩
   ·rw[if_neg hq];obtain⟨a,b⟩:=okq_desc hn f (m + 1) 0 v;exact⟨⟨v.any hn _,v.any hn _,a⟩,b⟩
  ·rw[if_neg c];show(_/\_/\_/\_/\Okq lt n (if lt (p.getD (m - 1) 0) (p.getD m 0)=true then KasT.ret (p,m,q) else kas_desc f p (m + 1) (q + 1)))/\Vd n (run lt (if lt (p.getD (m - 1) 0) (p.getD m 0)=true then KasT.ret (p,m,q) else kas_desc f p (m + 1) (q + 1))).1
   by_cases d:lt (p.getD (m - 1) 0) (p.getD m 0)=true
   ·rw[if_pos d];exact⟨⟨v.any hn _,v.any hn _,v.any hn _,v.any hn _,trivial⟩,v⟩
   ·rw[if_neg d];obtain⟨a,b⟩:=okq_desc hn f (m + 1) (q + 1) v;exact⟨⟨v.any hn _,v.any hn _,v.any hn _,v.any hn _,a⟩,b⟩
theorem okq_tail {p:Array Nat} (v:Vd n p) (hn:1<=n) (m k:Nat):Okq lt n (kas_tail3 m k p):=okq_bind _ (okq_asc (rev_vd v m) hn _ _) trivial
theorem okq_descPart {p:Array Nat} (v:Vd n p) (hn:1<=n) (m k:Nat):Okq lt n (kas_descPart m k p):=by
 obtain⟨a,b⟩:=okq_desc (lt:=lt) hn (k - (m + 1)) (m + 1) 0 v;refine okq_bind _ a ?_
 split
 ·exact okq_tail (rev_vd' b _ _) hn _ _
 ·exact okq_tail b hn _ _
theorem okq_count {p:Array Nat} (v:Vd n p) (hn:1<=n) (k:Nat):Okq lt n (kas_count k p):=by
 refine okq_bind _ (okq_asc v hn _ _) ?_
 split
 ·trivial
 ·split
  ·refine⟨v.any hn _,v.any hn _,?_⟩;dsimp only
   split
   ·trivial
   ·exact okq_descPart (rev_vd v _) hn _ _
  ·exact okq_descPart v hn _ _
theorem okq_place {p:Array Nat} (v:Vd n p) (hn:1<=n) (k:Nat):∀ f l r,Okq lt n (kas_place p k f l r)
 | 0,_,_=>trivial
 | f + 1,l,r=>by
  show Okq lt n (if l >= r then KasT.ret l else _)
  split
  ·trivial
  ·refine⟨v.any hn _,v.any hn _,?_⟩;dsimp only
   split
   ·exact okq_place v hn k f _ _
   ·exact okq_place v hn k f _ _
theorem okq_bin (hn:1<=n):∀ (f:Nat) {p:Array Nat} (k:Nat),Vd n p->Okq lt n (kas_bin f p k)
 | 0,_,_,_=>trivial
 | f + 1,p,k,v=>okq_bind _ (okq_place v hn k _ _ _) (okq_bin hn f (k + 1) (v.perm (bubble_perm _ _ _)))
theorem okq_sort (o:Ord lt n) (hn:1<=n):Okq lt n (kas_sort n):=by
 have v0:Vd n (eT (aD n)):=⟨by simp,by simp⟩
 refine okq_bind _ (okq_count v0 hn n) ?_
 split
 ·exact okq_bin hn _ _ (run_count o v0 hn).1
 ·trivial
theorem wp_run {α:Type} {cmp:Nat->Nat->(Bool->ah->Prop)->ah->Prop} {s:ah} (hc:∀ i j C,i < n->j < n->C (lt i j) s->cmp i j C s) {Q:α->ah->Prop}:∀ t:KasT α,Okq lt n t->Q (run lt t) s->t.kasWp cmp Q s
 | .ret a,_,q=>q
 | .ask i j k,⟨a,b,c⟩,q=>hc i j _ a b (wp_run hc (k (lt i j)) c q)
end KS
set_option maxHeartbeats 1000000
namespace ST
open PySem PySem.SetTable PySem.Spec PyProof.Rows
theorem entry_set_iter:entryFor table "set.__iter__" = some bC.«frozenset.__iter__»:=entryFor_alias (id' := "frozenset.__iter__") (by kernel_rfl) rfl (by decide +kernel) (by kernel_rfl)
theorem slot_setit_next:Slot "set_iterator" "__next__" "set_iterator.__next__" :=
 .of (owner := "set_iterator") (n := "__next__") (by rw[fu,dF];kernel_rfl) (by decide +kernel) (by decide +kernel) (by decide +kernel)
  (by first | exact .inl (by decide +kernel) | exact .inr (by decide +kernel)) (by rw[isSubtype_type];kernel_rfl)
theorem entry_setit_next:entryFor table "set_iterator.__next__" = some bC.«set_iterator.__next__»:=entryFor_of_tree (by kernel_rfl)
theorem args_setit_next (a:ad):argsOk "set_iterator.__next__" ⟨[a],[]⟩:=by unfold argsOk;kernel_rfl
theorem hint_set:hX (.type "set") "__len__" = pure (some (.builtin "set.__len__")):=by rw[fu,dF];kernel_rfl
section
variable {prog:aB} {w:aN} {A:aO} {E:ad->ah->Prop} {s:ah}
theorem lenHint {p:Addr} {es:Array (Int × ad)} {ep:Nat} {t:aI} {Q:Bool->ah->Prop} (ho:s.heap.get? p=some (setOb es ep t)) (h:Q false s):aw (aA prog w) A (d0 (.ref p)) Q E s:=by
 have hT:s.TypeIs (.ref p) "set":=⟨_,ho,rfl⟩;unfold d0;refine aa (gv hT hint_set ?_);dsimp only;have e1:splitId "set.__len__" = some ("set", "__len__"):=by decide +kernel
 rw[e1];dsimp only;refine aa (fQ (b:=true) hT (by rw[isSubtype_type];kernel_rfl) ?_)
 rw[if_neg (show ¬ ((!true)=true) by decide)]
 refine eO (fun hc=>?_) (fun hc=>absurd (by decide +kernel) hc)
 refine aa (eQ hT ?_);exact ae h
theorem erase_perm {α:Type} {l:List α} {i:Nat} (h:i < l.length):(l[i]::l.eraseIdx i).Perm l:=by
 have e:l=l.take i++l[i]::l.drop (i + 1):=by
  rw[<- cU h,eJ]
 rw[g9];refine List.perm_middle.symm.trans ?_;rw[<- e]
theorem chooseT {n:Nat} {Q:Nat->ah->Prop} (hn:n≠0) (h:∀ i,i < n->Q i { s with drawn:=s.drawn.bump .order }):aw (aA prog w) A (choose .order n) Q E s:=fun Γ p hΓ=>by
 show Sem.wp _ _ (.choose .order n .pure) _ _ _ _;rw[Sem.wp_choose];exact⟨hn,h _ (kJ _ (Nat.pos_of_ne_zero hn))⟩
theorem drawT {α:Type}:∀ (n:Nat) (xs:List α) {s:ah} {Q:List α->ah->Prop},xs.length=n->(∀ ys d,ys.Perm xs->Q ys { s with drawn:=d })->aw (aA prog w) A (drawOrder n xs) Q E s
 | 0,xs,s,Q,hl,h=>by
  have e:xs=[]:=jI.mp hl;subst e;unfold drawOrder;exact ae (h [] s.drawn (e9 _))
 | n + 1,xs,s,Q,hl,h=>by
  cases xs with
  | nil=>cases hl
  | cons x r =>
   unfold drawOrder;refine aa ?_;have hne:(x::r).length≠0:=by simp
   refine chooseT hne fun i hi=>?_;have hg:(x::r)[i]?=some (x::r)[i]:=ai hi;rw[hg];dsimp only;refine aa (drawT n ((x::r).eraseIdx i) (s:={ s with drawn:=s.drawn.bump .order }) (by rw[jc hi];simp at hl ⊢;omega) fun ys d hp=>?_)
   refine ae (h _ d ?_);refine(hp.cons _).trans ?_;exact erase_perm hi
theorem pick_perm {α:Type} (next:Nat->Nat):∀ (fuel k:Nat) (left:List α) (out:Array α),left.length=fuel->(kL next fuel k left out).toList.Perm (out.toList++left)
 | 0,k,left,out,hl=>by
  have e:left=[]:=jI.mp hl;subst e;unfold kL;rw[eN]
 | fuel + 1,k,left,out,hl=>by
  unfold kL;have hi:next k % left.length < left.length:=kJ _ (by omega)
  rw[ai hi];dsimp only;refine(pick_perm next fuel (k + 1) _ _ (by rw[jc hi];omega)).trans ?_
  rw[gL,dj];exact kx.append_left _ (erase_perm hi)
theorem pickOrder_perm {α:Type} (next:Nat->Nat) (xs:Array α):(iV next xs).toList.Perm xs.toList:=by
 have:=pick_perm next xs.size 0 xs.toList #[] (by simp)
 simpa [iV] using this
def itOb (first:ad) (i:Nat) (p:Addr) (n ep:Nat):Obj:={ cls:=.type "set_iterator",dict:=none,data:=.fields #[first,.int i 0,.ref p,.int n 0,.int ep 0],slots:=#[] }
theorem stopT {I:Addr} {Q:Option ad->ah->Prop} {s:ah} (hh:A.in1.handled=none) (h:∀ h',(∀ b o,s.heap.get? b=some o->h'.get? b=some o)->Q none { s with heap:=h' }) :
  aw (aA prog w) A.in1 (newExc (.type "StopIteration") [] >>= fun e=>(raiseNew e:Sem Fin)) (fun fin s'=>∃ r,fin=.done (.ret r)/\aw (aA prog w) A (pure (some r)) Q E s') (fun e s'=>aw (aA prog w) A (do if <- isInstance e (.type "StopIteration") then pure none else throw e) Q E s') s:=by
 refine aa ?_;simp only[newExc,newTuple];refine aa (bj ?_ (by size_fits))
 refine aa (m:=i9 _ _) (wpAny_of_eq (a:=bg) (by first | rfl | (simp only[i9];rfl)) ?_)
 refine bj ?_ (by size_fits)
 simp only[raiseNew];refine aa (wpAny_handled ?_);rw[hh];refine aa (ae (wpAny_throw ?_));refine aa (fQ (T := "StopIteration") (b:=true) ⟨_,ao _ rfl,rfl⟩ ja ?_);exact ae (h _ fun b o e=>af _ (af _ e))
theorem nextPre {I p:Addr} {es:Array (Int × ad)} {ep:Nat} {t:aI} {first:ad} {i:Nat} {Q:Option ad->ah->Prop} (hp:s.heap.get? p=some (setOb es ep t)) (hf:t.fits es.size=true) (hI:s.heap.get? I=some (itOb first i p es.size ep))
  (h:aw (aA prog w) A.in1 (if let .int slot _:=first then do
    match <- setNext p slot.toNat (i:Int).toNat (ep:Int).toNat with
    | some (x,next)=>do
     kt (.ref I) 0 (dz next)
     kt (.ref I) 1 (dz ((i:Int) + 1))
     ret x
    | none=>do kt (.ref I) 2 .none;raiseNew (<- newExc (.type "StopIteration") [])
   else do
    let some places <- seqItems? first | ix "internal:set_iterator"
    match places[(i:Int).toNat]? with
    | some (.int place _)=>do
     let x <- setNextDrawn p place.toNat (ep:Int).toNat
     kt (.ref I) 1 (dz ((i:Int) + 1))
     ret x
    | some _=>ix "internal:set_iterator"
    | none=>do kt (.ref I) 0 (dz 0);kt (.ref I) 2 .none;raiseNew (<- newExc (.type "StopIteration") []))
   (fun fin s'=>∃ r,fin=.done (.ret r)/\aw (aA prog w) A (pure (some r)) Q E s') (fun e s'=>aw (aA prog w) A (do if <- isInstance e (.type "StopIteration") then pure none else throw e) Q E s') s) :
  aw (aA prog w) A (e6 (.ref I)) Q E s:=by
 have hT:s.TypeIs (.ref I) "set_iterator":=⟨_,hI,rfl⟩;unfold e6;refine aa (f7 (b7 (name:=aJ "__next__") hT slot_setit_next
  (b4 slot_setit_next hT entry_setit_next ?_ (args_setit_next _))))
 unfold bC.«set_iterator.__next__» slotArgs;simp only[List.isEmpty_nil,f6,aE,↓reduceIte,bind_assoc,dY,bne_self_eq_false];refine aa (ae ?_)
 try dsimp only
 refine aa (wpAny_fieldsOf hI rfl ?_);dsimp only;refine aa (wpAny_setEntries_of hp rfl hf ?_);rw[if_neg (by simp)]
 exact h
structure Gives (prog:aB) (w:aN) (A:aO) (I:Addr) (fp:List Addr) (vals:List ad) (St:Nat->aS->Prop):Prop where
 mem:I∈fp
 frame:∀ i h h',St i h->(∀ b∈fp,∀ o,h.get? b=some o->h'.get? b=some o)->St i h'
 item:∀ (i:Nat) (s:ah) (v:ad) (Q:Option ad->ah->Prop) (E:ad->ah->Prop),vals[i]?=some v->St i s.heap ->
  (∀ h',St (i + 1) h'->(∀ b o,b≠I->s.heap.get? b=some o->h'.get? b=some o)->Q (some v) { s with heap:=h' })->aw (aA prog w) A (e6 (.ref I)) Q E s
 done:∀ (s:ah) (Q:Option ad->ah->Prop) (E:ad->ah->Prop),St vals.length s.heap ->
  (∀ h',(∀ b o,b≠I->s.heap.get? b=some o->h'.get? b=some o)->Q none { s with heap:=h' })->aw (aA prog w) A (e6 (.ref I)) Q E s
theorem nextText {p:Addr} {es:Array (Int × ad)} {ep i:Nat} {t:aI} {Q:Option (ad × Nat)->ah->Prop} (hp:s.heap.get? p=some (setOb es ep t)) (hf:t.fits es.size=true) (hw:w.params.followText "set-order" = true)
  (h:Q (((iV (w.params.setOrder p ep) es)[i]?).map fun e=>(e.2,0)) s):aw (aA prog w) A (setNext p (0:Int).toNat (i:Int).toNat (ep:Int).toNat) Q E s:=by
 unfold setNext;refine aa (dr hp rfl hf ?_);dsimp only;unfold setsByText;refine aa (aa (fb (ae ?_)));have hw':(aA prog w).w.params.followText "set-order" = true:=hw;rw[hw',if_pos rfl,if_neg (by simp)]
 unfold setWalk;refine aa (aa (dr hp rfl hf ?_));dsimp only;unfold setsByText;refine aa (aa (fb (ae ?_)));rw[hw',if_pos rfl];refine aa (fb ?_);refine ae (ae ?_);rw[bF];exact h
theorem givesA {p I T:Addr} {es:Array (Int × ad)} {ep:Nat} {t:aI} {vals:List ad} {places:Array ad} (hh:A.in1.handled=none) (hTI:T≠I) (hpI:p≠I) (hl:places.size=vals.length)
  (hpl:∀ (j:Nat) (pl:ad),places[j]?=some pl->∃ q:Nat,pl=kw (q:Int) 0/\∃ e,es[q]?=some e/\vals[j]?=some e.2) :
  Gives prog w A I [I,p,T] vals (fun i h=>h.get? p=some (setOb es ep t)/\t.fits es.size=true/\h.get? I=some (itOb (.ref T) i p es.size ep)/\∃ o c,h.get? T=some o/\o.data=.seq places c) where
 mem:=by simp
 frame:=fun i h h' st k=>by
  obtain⟨h1,h2,h3,o,c,h4,h5⟩:=st;exact⟨k p (by simp) _ h1,h2,k I (by simp) _ h3,o,c,k T (by simp) _ h4,h5⟩
 item:=fun i s v Q E hv st hQ=>by
  obtain⟨h1,h2,h3,o,c,h4,h5⟩:=st;refine nextPre h1 h2 h3 ?_;dsimp only;refine aa (cg h4 h5 ?_);dsimp only;have hi:i < places.size:=by rw[hl];exact(aH.mp hv).1
  obtain⟨q,e1,e,e2,e3⟩:=hpl i places[i] (by simp[hi])
  have eg:places[(i:Int).toNat]?=some (kw (q:Int) 0):=by rw[bF,<- e1];simp[hi]
  rw[eg];dsimp only;have ev:e.2=v:=by rw[hv] at e3;exact(aL e3).symm
  refine aa ?_;unfold setNextDrawn;refine aa (dr h1 rfl h2 ?_);dsimp only;rw[if_neg (by simp),bF,e2]
  dsimp only;refine ae ?_;refine aa (bi h3 (by show 1 < 5;decide) fun h' g1 g2=>?_)
  rw[ev];refine ae ⟨v,rfl,ae (hQ h' ⟨?_,h2,?_,o,c,?_,h5⟩ fun b o' hb e=>(g2.2 b hb).trans e)⟩
  ·exact(g2.2 p hpI).trans h1
  ·exact g1
  ·exact(g2.2 T hTI).trans h4
 done:=fun s Q E st hQ=>by
  obtain⟨h1,h2,h3,o,c,h4,h5⟩:=st;refine nextPre h1 h2 h3 ?_;dsimp only;refine aa (cg h4 h5 ?_);dsimp only;have eg:places[(vals.length:Int).toNat]?=none:=by rw[bF,<- hl];simp
  rw[eg];dsimp only;refine aa (bi h3 (by show 0 < 5;decide) fun h' g1 g2=>?_)
  refine aa (bi g1 (by show 2 < 5;decide) fun h'' g3 g4=>?_)
  exact stopT (I:=I) hh fun h3' k=>hQ h3' fun b o' hb e=>k b o' ((g4.2 b hb).trans ((g2.2 b hb).trans e))
theorem givesB {p I:Addr} {es:Array (Int × ad)} {ep:Nat} {t:aI} {vals:List ad} (hh:A.in1.handled=none) (hpI:p≠I) (hw:w.params.followText "set-order" = true) (hv:vals=(iV (w.params.setOrder p ep) es).toList.map (·.2)) :
  Gives prog w A I [I,p] vals (fun i h=>h.get? p=some (setOb es ep t)/\t.fits es.size=true/\h.get? I=some (itOb (.int 0 0) i p es.size ep)) where
 mem:=by simp
 frame:=fun i h h' st k=>by
  obtain⟨h1,h2,h3⟩:=st;exact⟨k p (by simp) _ h1,h2,k I (by simp) _ h3⟩
 item:=fun i s v Q E hv' st hQ=>by
  obtain⟨h1,h2,h3⟩:=st;refine nextPre h1 h2 h3 ?_;dsimp only;refine aa (nextText h1 h2 hw ?_);have eg:((iV (w.params.setOrder p ep) es)[i]?).map (fun e=>(e.2,0))=some (v,0):=by
   rw[hv,a6,bu] at hv';cases q:(iV (w.params.setOrder p ep) es)[i]? with
   | none=>rw[q] at hv';cases hv'
   | some e=>rw[q] at hv';cases hv';rfl
  rw[eg];dsimp only;refine aa (bi h3 (by show 0 < 5;decide) fun h' g1 g2=>?_)
  refine aa (bi g1 (by show 1 < 5;decide) fun h'' g3 g4=>?_)
  refine ae ⟨v,rfl,ae (hQ h'' ⟨?_,h2,g3⟩ fun b o' hb e=>(g4.2 b hb).trans ((g2.2 b hb).trans e))⟩;exact(g4.2 p hpI).trans ((g2.2 p hpI).trans h1)
 done:=fun s Q E st hQ=>by
  obtain⟨h1,h2,h3⟩:=st;refine nextPre h1 h2 h3 ?_;dsimp only;refine aa (nextText h1 h2 hw ?_);have eg:(iV (w.params.setOrder p ep) es)[vals.length]?=none:=by
   rw[hv];simp
  rw[eg];dsimp only[Option.map];refine aa (bi h3 (by show 2 < 5;decide) fun h'' g3 g4=>?_)
  exact stopT (I:=I) hh fun h3' k=>hQ h3' fun b o' hb e=>k b o' ((g4.2 b hb).trans e)
end
end ST
set_option maxHeartbeats 4000000
namespace ST
open PySem PySem.SetTable PySem.Spec PyProof.Rows
section
variable {prog:aB} {w:aN} {A:aO} {E:ad->ah->Prop} {s:ah}
theorem nextPlain {p:Addr} {es:Array (Int × ad)} {ep i sl:Nat} {t:aI} {Q:Option (ad × Nat)->ah->Prop} (hp:s.heap.get? p=some (setOb es ep t)) (hf:t.fits es.size=true) (hw:w.params.followText "set-order" = false) (hled:t.led=true) (h1:t.plain=true\/es.size<=1)
  (h:Q (match es[below t.place sl]?,t.place[below t.place sl]? with | some (_,x),some j=>some (x,j + 1) | _,_=>none) s):aw (aA prog w) A (setNext p (sl:Int).toNat (i:Int).toNat (ep:Int).toNat) Q E s:=by
 unfold setNext;refine aa (dr hp rfl hf ?_);dsimp only;unfold setsByText;refine aa (aa (fb (ae ?_)));have hw':(aA prog w).w.params.followText "set-order" = false:=hw;rw[hw',if_neg bR];refine eO (fun hc=>?_) (fun _=>?_)
 ·have hc':(!t.plain && decide (es.size > 1))=true:=hc;simp only[aK,decide_eq_true_eq] at hc';rcases h1 with h1 | h1
  ·rw[h1] at hc';exact absurd hc'.1 (by decide)
  ·lia
 ·refine aa ?_;show aw _ _ (if (!t.led && !es.isEmpty)=true then ix "set:maker-not-led" else pure ()) _ _ _
  rw[hled,if_neg (by simp)]
  refine ae ?_;refine ae ?_;rw[bF];exact h
theorem ris_few {l:List Nat} (h:l.length<=1):Ris l:=by
 cases l with
 | nil=>exact .nil
 | cons a l =>
  cases l with
  | nil=>exact cL _ _
  | cons b l=>simp at h
theorem below_0 {xs:Array Nat} (hr:Ris xs.toList):below xs 0=0:=by
 obtain⟨_,b,_⟩:=below_spec hr 0;cases e:below xs 0 with
 | zero=>rfl
 | succ n=>exact absurd (b 0 (by lia)) (cP _)
theorem below_s {xs:Array Nat} (hr:Ris xs.toList) {i:Nat} (hi:i < xs.size):below xs (xs[i] + 1)=i + 1:=by
 obtain⟨b1,b2,b3⟩:=below_spec hr (xs[i] + 1);have inc:∀ a b (h:a < b) (hb:b < xs.size),xs[a] < xs[b]:=fun a b hab hb=>by
  have q:=(cT.mp hr) a b (by simpa using dZ hab hb) (by simpa using hb) hab
  simpa using q
 rcases fA (below xs (xs[i] + 1)) (i + 1) with h | h | h
 ·have q:=b3 i (by lia) hi
  rw[cI,dif_pos hi] at q;have q':xs[i] + 1<=xs[i]:=q;lia
 ·exact h
 ·have q:=b2 (i + 1) h;have hs:i + 1 < xs.size:=by lia
  rw[cI,dif_pos hs] at q;have q':xs[i + 1] < xs[i] + 1:=q
  have:=inc i (i + 1) (by lia) hs
  lia
theorem place_of {es:Array (Int × ad)} {t:aI} (hf:t.fits es.size=true):t.place.size=es.size:=by
 unfold kF at hf;simp only[aK,beq_iff_eq] at hf;exact hf.1
theorem givesC {p I:Addr} {es:Array (Int × ad)} {ep:Nat} {t:aI} {vals:List ad} (hh:A.in1.handled=none) (hpI:p≠I) (hw:w.params.followText "set-order" = false) (hled:t.led=true) (h1s:t.plain=true\/es.size<=1) (hr:Ris t.place.toList) (hv:vals=es.toList.map (·.2)) :
  Gives prog w A I [I,p] vals (fun i h=>h.get? p=some (setOb es ep t)/\t.fits es.size=true/\∃ sl:Nat,h.get? I=some (itOb (.int sl 0) i p es.size ep)/\below t.place sl=i) where
 mem:=by simp
 frame:=fun i h h' st k=>by
  obtain⟨h1,h2,sl,h3,h4⟩:=st;exact⟨k p (by simp) _ h1,h2,sl,k I (by simp) _ h3,h4⟩
 item:=fun i s v Q E hv' st hQ=>by
  obtain⟨h1,h2,sl,h3,h4⟩:=st;refine nextPre h1 h2 h3 ?_;dsimp only;refine aa (nextPlain h1 h2 hw hled h1s ?_);have hps:=place_of h2;have hi:i < es.size:=by
   have:=(aH.mp hv').1
   rw[hv] at this;simpa using this
  have hi':i < t.place.size:=by lia
  have e0:es[i].2=v:=by
   rw[hv,a6,bu,fU hi] at hv';exact aL hv'
  have e1:es[i]?=some (es[i].1,v):=by rw[fU hi,<- e0]
  rw[h4,e1,fU hi'];dsimp only;refine aa (bi h3 (by show 0 < 5;decide) fun h' g1 g2=>?_)
  refine aa (bi g1 (by show 1 < 5;decide) fun h'' g3 g4=>?_)
  exact ae ⟨v,rfl,ae (hQ h'' ⟨(g4.2 p hpI).trans ((g2.2 p hpI).trans h1),h2,t.place[i] + 1,g3,below_s hr hi'⟩ fun b o' hb e=>(g4.2 b hb).trans ((g2.2 b hb).trans e))⟩
 done:=fun s Q E st hQ=>by
  obtain⟨h1,h2,sl,h3,h4⟩:=st;refine nextPre h1 h2 h3 ?_;dsimp only;refine aa (nextPlain h1 h2 hw hled h1s ?_);have nn:es[below t.place sl]?=none:=by
   rw[h4,hv];simp
  rw[nn];dsimp only;refine aa (bi h3 (by show 2 < 5;decide) fun h'' g3 g4=>?_)
  exact stopT (I:=I) hh fun h3' k=>hQ h3' fun b o' hb e=>k b o' ((g4.2 b hb).trans e)
theorem iterT {p:Addr} {es:Array (Int × ad)} {ep:Nat} {t:aI} {Q:ad->ah->Prop} (hh:A.in1.handled=none) (hp:s.heap.get? p=some (setOb es ep t)) (hf:t.fits es.size=true) (hled:t.led=ledOf w) (hpl:t.plain=true->Ris t.place.toList) (hn:es.size<=300)
  (h:∀ I fp vals St h' d,vals.Perm (es.toList.map (·.2))->Gives prog w A I fp vals St->St 0 h'->s.heap.objs.size<=I->(∀ b∈fp,b=p\/s.heap.objs.size<=b)->(∀ b o,s.heap.get? b=some o->h'.get? b=some o)->Q (.ref I) { s with heap:=h',drawn:=d }) :
  aw (aA prog w) A (pyIter (.ref p)) Q E s:=by
 have hT:s.TypeIs (.ref p) "set":=⟨_,hp,rfl⟩;have hlt:p < s.heap.objs.size:=aq hp;refine wpAny_pyIter_slot hT kj (b4 kj hT entry_set_iter ?_ (PySem.F.args_set_iter_1 _));unfold bC.«frozenset.__iter__» bC.Frozenset.slot0 slotArgs;simp only[List.isEmpty_nil,f6,aE,↓reduceIte,bind_assoc,dY,bne_self_eq_false];unfold bC.Frozenset.addrOf bC.Frozenset.sizeOf;refine aa (ae ?_)
 try dsimp only
 refine aa (ae ?_);refine aa (aa (wpAny_setEntries_of hp rfl hf (ae ?_)));unfold setDrawn setsByText;refine aa (aa (dr hp rfl hf ?_));dsimp only;refine aa (aa (fb (ae ?_)));refine ae ?_;have fin:∀ (first:ad) (h1:aS) (d:Drawn) (Q':Fin->ah->Prop),h1.get? p=some (setOb es ep t) ->
   Q' (.done (.ret (.ref h1.objs.size))) { s with heap:=h1.push (itOb first 0 p es.size ep),drawn:=d } ->
   aw (aA prog w) A.in1 (do
    let e <- setEpoch p
    let v <- newFields "set_iterator" [first,dz 0,.ref p,dz es.size,dz e]
    ret v) Q' E { s with heap:=h1,drawn:=d }:=by
  intro first h1 d Q' ho hQ';refine aa (wpAny_setEpoch_of (s:={ s with heap:=h1,drawn:=d }) ho rfl hf ?_)
  exact aa (bj (ae hQ'))
 refine eO (fun hc=>?_) (fun hc=>?_)
 ·refine aa (drawT es.size (aD es.size) (by simp) fun ys d hperm=>?_)
  have yl:ys.length=es.size:=by have:=hperm.length_eq;simpa using this
  have yr:∀ q∈ys,q < es.size:=fun q hq=>aM.mp (hperm.mem_iff.mp hq);obtain⟨f1,f2⟩:=fm_all (l:=ys) (f:=fun q=>(es[q]?).map (·.2)) (fun q hq=>by have:=yr q hq;simp[this])
  refine aa (bj ?_ (by show(ys.map fun(i:Nat)=>dz i).toArray.size<=sizeLine;rw[ak,ag,yl,bn];lia))
  generalize hh1:s.heap.push _=h1;have hsz:h1.objs.size=s.heap.objs.size + 1:=by rw[<- hh1,bU]
  have old:∀ b o,s.heap.get? b=some o->h1.get? b=some o:=fun b o e=>by rw[<- hh1];exact af _ e
  have hTup:h1.get? s.heap.objs.size=some { cls:=.type "tuple",dict:=none,data:=.seq (ys.map fun(i:Nat)=>dz i).toArray }:=by rw[<- hh1];exact ao _ rfl
  refine fin (.ref s.heap.objs.size) h1 d _ (old p _ hp) ?_;have G:=givesA (prog:=prog) (w:=w) (A:=A) (p:=p) (I:=h1.objs.size) (T:=s.heap.objs.size) (es:=es) (ep:=ep) (t:=t) (vals:=ys.filterMap fun q=>(es[q]?).map (·.2)) (places:=(ys.map fun(i:Nat)=>dz i).toArray) hh (by rw[hsz];exact aC (ic _)) (by rw[hsz];exact aC (cZ hlt)) (by simp[f1]) (fun j pl hj=>by
   have hj':(ys.map fun(i:Nat)=>dz i)[j]?=some pl:=by simpa using hj
   rw[a6] at hj';cases q:ys[j]? with
   | none=>rw[q] at hj';cases hj'
   | some z =>
    rw[q] at hj';have hz:=yr z (bL q);refine⟨z,(aL hj').symm,es[z],by simp[hz],?_⟩
    rw[f2 j,q];simp[hz])
  refine⟨_,rfl, "set_iterator",_,⟨_,ao _ rfl,rfl⟩,slot_setit_next.lookup,h _ _ _ _ _ d ?_ G ⟨af _ (old p _ hp),hf,ao _ rfl,_,_,af _ hTup,rfl⟩ (by rw[hsz];exact db _) (fun b hb=>?_) fun b o e=>af _ (old b o e)⟩
  ·refine(hperm.filterMap _).trans ?_;have e:(aD es.size).filterMap (fun q=>(es[q]?).map (·.2))=es.toList.map (·.2):=by
    rw[<- range_fm es,List.map_filterMap]
   rw[e]
  ·simp only[ax,hZ,or_false] at hb;rcases hb with e | e | e
   ·right;rw[e,hsz];exact db _
   ·exact .inl e
   ·right;rw[e];exact aj _
 ·refine aa (ae ?_);refine fin (dz 0) s.heap s.drawn _ hp ?_;have hpI:p≠s.heap.objs.size:=aC hlt;have small:∀ b∈[s.heap.objs.size,p],b=p\/s.heap.objs.size<=b:=fun b hb=>by
   simp only[ax,hZ,or_false] at hb;rcases hb with e | e
   ·right;rw[e];exact aj _
   ·exact .inl e
  by_cases hw:w.params.followText "set-order" = true
  ·have G:=givesB (prog:=prog) (w:=w) (A:=A) (p:=p) (I:=s.heap.objs.size) (es:=es) (ep:=ep) (t:=t) hh hpI hw rfl;exact⟨_,rfl, "set_iterator",_,⟨_,ao _ rfl,rfl⟩,slot_setit_next.lookup,h _ _ _ _ _ s.drawn ((pickOrder_perm _ _).map _) G ⟨af _ hp,hf,ao _ rfl⟩ (aj _) small fun b o e=>af _ e⟩
  ·have hw':w.params.followText "set-order" = false:=eS.mpr hw;have h1:t.plain=true\/es.size<=1:=by
    have hc':¬ ((!(w.params.followText "set-order") && (!t.plain && decide (es.size > 1)))=true):=hc;rw[hw'] at hc'
    by_cases hp1:t.plain=true
    ·exact .inl hp1
    ·have:t.plain=false:=eS.mpr hp1
     rw[this] at hc';simp at hc';exact .inr hc'
   have hr:Ris t.place.toList:=by
    rcases h1 with h1 | h1
    ·exact hpl h1
    ·exact ris_few (by rw[aR,place_of hf];exact h1)
   have hl':t.led=true:=by rw[hled];show(!(w.params.followText "set-order"))=true;rw[hw'];rfl
   have G:=givesC (prog:=prog) (w:=w) (A:=A) (p:=p) (I:=s.heap.objs.size) (es:=es) (ep:=ep) (t:=t) hh hpI hw' hl' h1 hr rfl;exact⟨_,rfl, "set_iterator",_,⟨_,ao _ rfl,rfl⟩,slot_setit_next.lookup,h _ _ _ _ _ s.drawn (e9 _) G ⟨af _ hp,hf,0,ao _ rfl,below_0 hr⟩ (aj _) small fun b o e=>af _ e⟩
theorem ext_loop {I S:Addr} {fp:List Addr} {vals:List ad} {St:Nat->aS->Prop} {R:Result->ah->Prop} (G:Gives prog w A.in1 I fp vals St) (hn:vals.length<=300) (hSf:S∉fp) (res:ad) :
  ∀ (k i:Nat) (s:ah) (c:Nat),vals.length - i=k->i<=vals.length->St i s.heap->s.heap.get? S=some { cls:=.type "list",dict:=none,data:=.seq (vals.take i).toArray c,slots:=#[] } ->
  (∀ h' c',(∀ b o,b≠S->b≠I->s.heap.get? b=some o->h'.get? b=some o)->h'.get? S=some { cls:=.type "list",dict:=none,data:=.seq vals.toArray c',slots:=#[] }->R (.ok (.ret res)) { s with heap:=h' }) ->
  ij (aA prog w) A (.builtin "list.extend.loop" ⟨[.ref S,.ref I,res],[]⟩) R s:=by
 have hSI:S≠I:=fun e=>hSf (e ▸ G.mem);intro k
 induction k with
 | zero =>
  intro i s c hk hi hst hS hR;have hin:i=vals.length:=by lia
  subst hin;refine bv eL ?_;rw[aZ b8 _];show aw _ A.in1 (e6 (.ref I) >>= _) _ _ s;refine aa (G.done s _ _ hst fun h' hk'=>?_);rw[bJ (aj _)] at hS;exact ae (hR h' c (fun b o _ hb e=>hk' b o hb e) (hk' S _ hSI hS))
 | succ k ih =>
  intro i s c hk hi hst hS hR;have hlt:i < vals.length:=by lia
  have hv:vals[i]?=some vals[i]:=ai hlt;refine bv eL ?_;rw[aZ b8 _];show aw _ A.in1 (e6 (.ref I) >>= _) _ _ s;refine aa (G.item i s _ _ _ hv hst fun h1 st1 k1=>?_);have hS1:=k1 S _ hSI hS;have szl:=bn;have hts:(vals.take i).toArray.size=i:=by rw[ak,aP];lia
  show aw _ A.in1 (jJ S (·.push vals[i]) >>= _) _ _ _;refine aa ?_;refine fv (s:={ s with heap:=h1 }) hS1 rfl (ae ⟨cQ b8 _,?_⟩) (by rw[hts];lia) (by show((vals.take i).toArray.push vals[i]).size<=sizeLine + 1;rw[Array.size_push,hts];lia)
  have hS2:=bD (aV (·.push vals[i])) hS1 rfl;have et:(vals.take i).toArray.push vals[i]=(vals.take (i + 1)).toArray:=by
   rw[dU,hv];simp
  obtain⟨c1,hS2'⟩:∃ c1,(h1.update S (aV (·.push vals[i]))).get? S=some { cls:=.type "list",dict:=none,data:=.seq (vals.take (i + 1)).toArray c1,slots:=#[] }:=⟨_,by rw[<- et];exact hS2⟩
  refine ih (i + 1) { s with heap:=h1.update S (aV (·.push vals[i])) } c1 (by lia) hlt (G.frame _ _ _ st1 fun b hb o e=>(cC _ _ (fun h:S=b=>hSf (by rw[h];exact hb))).trans e) hS2' fun h' c' a1 a2=>?_
  ·exact hR h' c' (fun b o hb1 hb2 e=>a1 b o hb1 hb2 ((cC _ _ (bW hb1)).trans (k1 b o hb2 e))) a2
theorem collectJ {p:Addr} {es:Array (Int × ad)} {ep:Nat} {t:aI} {Q:List ad->ah->Prop} (hh:A.handled=none) (hp:s.heap.get? p=some (setOb es ep t)) (hf:t.fits es.size=true) (hled:t.led=ledOf w) (hpl:t.plain=true->Ris t.place.toList) (hn:es.size<=300)
  (h:∀ vals h' d,vals.Perm (es.toList.map (·.2))->(∀ b o,s.heap.get? b=some o->h'.get? b=some o)->Q vals { s with heap:=h',drawn:=d }):aw (aA prog w) A (collect (.ref p)) Q E s:=by
 have hlt:p < s.heap.objs.size:=aq hp;have hT:∀ s':ah,s'.heap.get? p=some (setOb es ep t)->s'.TypeIs (.ref p) "set":=fun s' e=>⟨_,e,rfl⟩;unfold collect;refine aa (i8 (bv iQ ?_));rw[aZ iR _];show aw _ A.in1 (newList [] >>= fun l=>again (.builtin "list.__iadd__" ⟨[l,.ref p],[]⟩)) _ _ s;refine aa (bj ?_);refine ae ⟨cQ fg _,bv jK ?_⟩;rw[aZ fg _];show aw _ A.in1 (d6 (.ref s.heap.objs.size) (.ref p) (.ref s.heap.objs.size)) _ _ _;generalize hh1:s.heap.push _=h1;have old:∀ b o,s.heap.get? b=some o->h1.get? b=some o:=fun b o e=>by rw[<- hh1];exact af _ e
 have hsz:h1.objs.size=s.heap.objs.size + 1:=by rw[<- hh1,bU]
 have hS1:h1.get? s.heap.objs.size=some { cls:=.type "list",dict:=none,data:=.seq #[] 0,slots:=#[] }:=by rw[<- hh1];exact ao _ rfl
 have hp1:=old p _ hp;unfold d6;refine aa (eQ (hT { s with heap:=h1 } hp1) ?_)
 have e1:eW (.ref s.heap.objs.size) (.ref p)=false:=by simp[eW,bX hlt]
 rw[if_neg (by rw[e1];decide)]
 refine aa (iterT (s:={ s with heap:=h1 }) hh hp1 hf hled hpl hn fun I fp vals St h2 d hperm G st2 hI hfp k2=>?_)
 have hvl:vals.length=es.size:=by have:=hperm.length_eq;simpa using this
 have hI':h1.objs.size<=I:=hI;have hSI:s.heap.objs.size≠I:=by lia
 refine aa (aW (lenHint (k2 p _ hp1) ?_));have hSf:s.heap.objs.size∉fp:=fun z=>by
  have q:=hfp _ z;have q':s.heap.objs.size=p\/h1.objs.size<=s.heap.objs.size:=q;rcases q' with e | e
  ·exact absurd e (bX hlt)
  ·rw[hsz] at e;exact absurd e (Nat.not_succ_le_self _)
 refine eO (fun _=>?_) (fun hc=>absurd (by decide +kernel) hc)
 refine aa (dH ?_);refine aa ?_;have hS2:=k2 _ _ hS1;show aw _ _ (jJ s.heap.objs.size (·.push .none) >>= fun _=>jJ s.heap.objs.size (·.pop)) _ _ _;refine aa (fv hS2 rfl ?_);have hS3:=bD (aV (·.push bg)) hS2 rfl;refine fv (hz:=by seq_fits) hS3 rfl ?_
 have hS4:=bD (aV (·.pop)) hS3 rfl;refine ae ⟨cQ b8 _,?_⟩;refine ext_loop G (by lia) hSf _ (vals.length - 0) 0 _ _ rfl (bG _) (G.frame _ _ _ st2 fun b hb o e=>?_) hS4 fun h' c' a1 a2=>?_
 ·have hbS:b≠s.heap.objs.size:=fun z=>hSf (z ▸ hb);exact(cC _ _ (bW hbS)).trans ((cC _ _ (bW hbS)).trans e)
 ·show aw _ A (load s.heap.objs.size >>= _) _ _ _;refine aa (wpAny_load a2 ?_)
  have:=h vals h' d hperm fun b o e=>?_
  ·exact ae this
  ·have hbS:b≠s.heap.objs.size:=aC (aq e);have hbI:b≠I:=aC (aF (aq e) (bN (by rw[hsz];exact db _) hI'))
   exact a1 b o hbS hbI ((cC _ _ (bW hbS)).trans ((cC _ _ (bW hbS)).trans (k2 b o (old b o e))))
theorem collectT {p:Addr} {es:Array (Int × ad)} {ep:Nat} {t:aI} {Q:List ad->ah->Prop} (hh:A.handled=none) (hp:s.heap.get? p=some (setOb es ep t)) (hf:t.fits es.size=true) (hled:t.led=ledOf w) (hpl:t.plain=true->es.size<=1) (hn:es.size<=300)
  (h:∀ vals h' d,vals.Perm (es.toList.map (·.2))->(∀ b o,s.heap.get? b=some o->h'.get? b=some o)->Q vals { s with heap:=h',drawn:=d }):aw (aA prog w) A (collect (.ref p)) Q E s :=
 collectJ hh hp hf hled (fun z=>ris_few (by rw[aR,place_of hf];exact hpl z)) hn h
end
end ST
namespace KS
open PySem PySem.W PyProof.Rows
def TS (h:aS) (v:ad) (d:List Str):Prop:=∃ b items,v=.ref b/\iW h b items/\HT.SAre items.toList d
section
variable {prog:aB} {w:aN} {A:aO} {E:ad->ah->Prop} {s:ah}
theorem lex_go {Q:Bool->ah->Prop}:∀ {us vs:List ad} {d e:List Str} (i:Nat) {fin:Bool},HT.SAre us d->HT.SAre vs e->fin=decide (d.length < e.length)->Q (HT.lexS d e) s->KatLex prog w A true fin Q (us.zip vs) i s
 | _,_,_,_,i,fin,.nil,.nil,hf,h=>by subst hf;exact kat_nil h
 | _,_,_,_,i,fin,.nil,.cons _ _,hf,h=>by
  subst hf;rw[cK];rw[HT.lexS_nil_cons] at h;exact kat_nil (by simpa using h)
 | _,_,_,_,i,fin,.cons _ _,.nil,hf,h=>by
  subst hf;rw[cN];rw[HT.lexS_cons_nil] at h;exact kat_nil (by simpa using h)
 | _,_,x::d,y::e,i,fin,.cons ⟨t,ht⟩ p,.cons ⟨u,hu⟩ q,hf,h=>by
  subst ht hu;rw[cD];rw[HT.lexS_cons] at h;refine kat_cons (jb x t y u _ _ _ _ ?_);refine kat_go (fun z=>kat_yes (lex_go (i + 1) p q (by subst hf;simp) (by rw[if_pos (by simpa using z)] at h;exact h))) fun z=>kat_no ?_
  rw[if_neg (by simpa using z)] at h
  cases i with
  | zero=>exact oneLt_str h
  | succ i =>
   show aw _ _ (oneLt' false _ _) _ _ _;exact kat_one _ _ (ky (show jL Q (.bool (HT.ltS x y)) s from h))
theorem lt_tuples {x y:ad} {d e:List Str} {Q:Bool->ah->Prop} (hx:TS s.heap x d) (hy:TS s.heap y e) (h:Q (HT.lexS d e) s):aw (aA prog w) A (keyLt' (tuples' true) x y) Q E s:=by
 obtain⟨b,items,rfl,⟨o,ho,_,n,hd⟩,p⟩:=hx;obtain⟨b2,items2,rfl,⟨o2,ho2,_,n2,hd2⟩,p2⟩:=hy;refine kat_lt ho hd ho2 hd2 (lex_go 0 p p2 ?_ h);have l1:=p.len;have l2:=p2.len;simp only[aR] at l1 l2;rw[l1,l2]
theorem lt_general {x y:ad} {d e:List Str} {Q:Bool->ah->Prop} (hu:A.units < bS) (hx:TS s.heap x d) (hy:TS s.heap y e) (h:Q (HT.lexS d e) s):aw (aA prog w) A (keyLt' general' x y) Q E s:=by
 obtain⟨b,items,rfl,t1,p⟩:=hx;obtain⟨b2,items2,rfl,t2,p2⟩:=hy;show aw _ _ (oneLt' false _ _) _ _ _;exact kat_one _ _ (HT.lt_tupStrs t1 t2 p p2 hu (show jL Q (.bool (HT.lexS d e)) s from h))
theorem lt_one {x y:ad} {d e:List Str} {Q:Bool->ah->Prop} (hu:A.units < bS) (hx:TS s.heap x d) (hy:TS s.heap y e) (h:Q (HT.lexS d e) s):aw (aA prog w) A (keyLt' oneType' x y) Q E s:=by
 obtain⟨b,items,rfl,t1,p⟩:=hx;obtain⟨b2,items2,rfl,t2,p2⟩:=hy;rw[keyLt'_oneType,oneLt'_eq];simp only[if_true];obtain⟨⟨cls,dd,data,sl⟩,ho,hc,n,hd⟩:=id t1;obtain⟨⟨cls2,dd2,data2,sl2⟩,ho2,hc2,n2,hd2⟩:=id t2;simp only at hc hd hc2 hd2;subst hc hd hc2 hd2;refine aa (wpAny_cRoomFor hu ?_);refine aa (ie ⟨_,ho,rfl⟩ dE (gz dE ⟨_,ho,rfl⟩ fr (ff _ _) (HT.tuple_lt_strs b b2 items items2 n n2 dd dd2 sl sl2 d e p p2) ⟨ho,ho2,?_⟩));exact cY h
theorem firsts_go:∀ {vs:List ad} {ds:List (List Str)} {Q:List (Option ad)->ah->Prop},bb (TS s.heap) vs ds->(∀ fs:List (Option ad),bb (fun f d=>match f with | none=>d=[] | some v=>∃ x r t,d=x::r/\v=.str x t) fs ds->Q fs s)->aw (aA prog w) A (vs.mapM firstOfTuple') Q E s
 | _,_,_,.nil,h=>by rw[kI];exact ae (h [] .nil)
 | _,_,Q,.cons p q,h=>by
  obtain⟨b,items,rfl,⟨o,ho,hc,n,hd⟩,sa⟩:=p;rw[ku];refine aa ?_;rw[kas_first_eq];refine aa (Looks.here (show Looks (aA prog w) s.heap (typeOf (.ref b)) o.cls from(Looks.ld ho).andThen .now) ?_)
  rw[hc,if_neg (by first | decide | simp)]
  refine aa (j5 ho hd (ae ?_));refine aa (firsts_go q fun fs pf=>ae (h _ (.cons ?_ pf)));obtain⟨items⟩:=items;have sa:HT.SAre items _:=sa;have e:(Array.mk items)[0]?=items[0]?:=by simp
  rw[e];cases sa with
  | nil=>rfl
  | cons z _=>obtain⟨t,ht⟩:=z;exact⟨_,_,t,rfl,ht⟩
theorem kind_go {vs:List ad} {ds:List (List Str)} {Q:f8->ah->Prop} (p:bb (TS s.heap) vs ds) (hne:vs≠[]) (h:∀ κ,κ=tuples' true\/κ=general'\/κ=oneType'->Q κ s):aw (aA prog w) A (keyKind' vs.toArray) Q E s:=by
 rw[kat_kind_eq,fD,map_eq_pure_bind];refine aa (aa (firsts_go p fun fs pf=>ae ?_))
 by_cases hall:(fs.toArray.all fun x=>x.isSome)=true
 ·rw[if_pos hall];refine aa (dH ?_);rw[oneTypeOnly'_eq];have hv:∀ v∈(fs.toArray.filterMap id).toList,∃ x t,v=.str x t:=fun v hv=>by
   simp only[Array.toList_filterMap,eB,id] at hv;obtain⟨f,hf,rfl⟩:=hv
   have:∀ {fs:List (Option ad)} {ds:List (List Str)},bb (fun f d=>match f with | none=>d=[] | some v=>∃ x r t,d=x::r/\v=.str x t) fs ds->some v∈fs->∃ x t,v=.str x t:=by
    intro fs ds pf
    induction pf with
    | nil=>intro hm;cases hm
    | cons z _ ih =>
     intro hm;rcases ax.mp hm with e | hm
     ·subst e;obtain⟨x,r,t,_,e⟩:=z;exact⟨x,t,e⟩
     ·exact ih hm
   exact this pf hf
  have hne':(fs.toArray.filterMap id).toList≠[]:=by
   have hfl:fs.length=vs.length:=by have:=cz p;have:=cz pf;lia
   cases fs with
   | nil=>exact absurd (bz (by simpa using hfl.symm)) hne
   | cons f fs =>
    simp only[List.all_toArray,jz,aK] at hall;obtain⟨v,rfl⟩:=cF.mp hall.1;simp
  generalize (fs.toArray.filterMap id)=gs at hv hne';obtain⟨gs⟩:=gs;rw[fD,map_eq_pure_bind];refine aa (aa (aa (kas_mapM (r:=cV "str") gs (fun v hv' Q' hq=>?_) (ae ?_))))
  ·obtain⟨x,t,rfl⟩:=hv v hv';exact ae hq
  ·obtain⟨g,gr,rfl⟩:∃ g gr,gs=g::gr:=by
    cases gs with
    | nil=>exact absurd rfl hne'
    | cons g gr=>exact⟨g,gr,rfl⟩
   have h0:(List.map (fun _=>cV "str") (g::gr)).toArray[0]?=some (cV "str"):=by simp
   have hall2:((List.map (fun _=>cV "str") (g::gr)).toArray.all fun x=>x == cV "str")=true:=by
    simp only[List.all_toArray,fR,bq];intro _ _;simp
   rw[h0];simp only[hall2,if_true];exact ae (ae (h _ (.inl rfl)))
 ·rw[if_neg hall]
  by_cases h1:((fs.toArray[0]?.bind id).isSome)=true
  ·rw[if_pos h1];exact ae (h _ (.inr (.inl rfl)))
  ·rw[if_neg h1,oneTypeOnly'_eq,fD,map_eq_pure_bind];refine aa (aa (aa (kas_mapM (r:=cV "tuple") vs (fun v hv' Q' hq=>?_) (ae ?_))))
   ·have:∀ {vs:List ad} {ds:List (List Str)},bb (TS s.heap) vs ds->v∈vs->∃ d,TS s.heap v d:=by
     intro vs ds pp
     induction pp with
     | nil=>intro hm;cases hm
     | cons z _ ih =>
      intro hm;rcases ax.mp hm with e | hm
      ·subst e;exact⟨_,z⟩
      ·exact ih hm
    obtain⟨d,b,items,rfl,⟨o,ho,hc,_⟩,_⟩:=this p hv';refine Looks.here (show Looks (aA prog w) s.heap (typeOf (.ref b)) (.type "tuple") from ?_) hq
    rw[<- hc];exact(Looks.ld ho).andThen .now
   ·generalize (List.map (fun _=>cV "tuple") vs).toArray=ts;cases ts[0]? with
    | none=>exact ae (ae (by first | exact h _ (.inr (.inl rfl)) | exact h _ (.inr (.inr rfl))))
    | some t =>
     by_cases h2:(ts.all (· == t))=true
     ·simp only[h2,if_true];exact ae (ae (h _ (.inr (.inr rfl))))
     ·simp only[h2,if_false];exact ae (ae (h _ (.inr (.inl rfl))))
end
end KS
namespace HT
open PySem
theorem ltS_tot {a b:Str} (h:ltS a b=false) (hne:a≠b):ltS b a=true:=by
 unfold ltS at *
 refine decide_eq_true ?_;have h1:=of_decide_eq_false h;refine bc fun h2=>hne ?_;have e:a.cps.toList=b.cps.toList:=List.le_antisymm (List.not_lt.mp h2) (List.not_lt.mp h1);cases a;cases b
 congr 1
 exact jM.mp e
theorem ltS_tr {a b c:Str} (h:ltS a b=true) (h':ltS b c=true):ltS a c=true:=decide_eq_true (List.lt_trans (of_decide_eq_true h) (of_decide_eq_true h'))
theorem ltS_ir (a:Str):ltS a a=false:=decide_eq_false (List.lt_irrefl _)
theorem ltS_as {a b:Str} (h:ltS a b=true):ltS b a=false:=decide_eq_false (List.lt_asymm (of_decide_eq_true h))
theorem lexS_tot:∀ {a b:List Str},lexS a b=false->a≠b->lexS b a=true
 | [],[],_,h=>absurd rfl h
 | [],_::_,h,_=>by cases h
 | _::_,[],_,_=>rfl
 | x::xs,y::ys,h,hne=>by
  rw[lexS_cons] at h ⊢
  by_cases e:x=y
  ·rw[if_pos e] at h;rw[if_pos e.symm];exact lexS_tot h fun z=>hne (by rw[e,z])
  ·rw[if_neg e] at h;rw[if_neg fun z=>e z.symm];exact ltS_tot h e
theorem lexS_as:∀ {a b:List Str},lexS a b=true->lexS b a=false
 | [],[],h=>by cases h
 | [],_::_,_=>rfl
 | _::_,[],h=>by cases h
 | x::xs,y::ys,h=>by
  rw[lexS_cons] at h ⊢
  by_cases e:x=y
  ·rw[if_pos e] at h;rw[if_pos e.symm];exact lexS_as h
  ·rw[if_neg e] at h;rw[if_neg (fun z=>e z.symm)];exact ltS_as h
theorem lexS_tr:∀ {a b c:List Str},lexS a b=true->lexS b c=true->lexS a c=true
 | [],[],_,h,_=>by cases h
 | [],_::_,[],_,h=>by cases h
 | [],_::_,_::_,_,_=>rfl
 | _::_,[],_,h,_=>by cases h
 | _::_,_::_,[],_,h=>by cases h
 | x::xs,y::ys,z::zs,h,h'=>by
  rw[lexS_cons] at h h' ⊢
  by_cases e:x=y
  ·subst e;rw[if_pos rfl] at h
   by_cases e':x=z
   ·rw[if_pos e'] at h' ⊢;exact lexS_tr h h'
   ·rw[if_neg e'] at h' ⊢;exact h'
  ·rw[if_neg e] at h
   by_cases e':y=z
   ·subst e';rw[if_neg e];exact h
   ·rw[if_neg e'] at h';have hxz:=ltS_tr h h'
    have:x≠z:=by rintro rfl;rw[ltS_ir] at hxz;cases hxz
    rw[if_neg this];exact hxz
end HT
namespace KS
open PySem PySem.W PyProof.Rows
theorem paired_idx {α β:Type} {F:α->β->Prop} {l:List α} {m:List β} (p:bb F l m) (a:α) (b:β):∀ (idx:List Nat),(∀ i∈idx,i < l.length)->bb F (idx.map fun i=>l.getD i a) (idx.map fun i=>m.getD i b)
 | [],_=>.nil
 | i::idx,h=>by
  refine .cons ?_ (paired_idx p a b idx fun j hj=>h j (au _ hj));have hi:=h i ar;obtain⟨y,hy,hf⟩:=L2.Paired.get' p (ai hi);show F (l.getD i a) (m.getD i b);rw[ay,ay,hy,ai hi];exact hf
theorem TS.keep {h h':aS} {v:ad} {d:List Str} (t:TS h v d) (k:∀ b o,h.get? b=some o->o.cls=.type "tuple"->h'.get? b=some o):TS h' v d:=by
 obtain⟨b,items,e,⟨o,ho,hc,r⟩,p⟩:=t;exact⟨b,items,e,⟨o,k b o ho hc,hc,r⟩,p⟩
theorem ord_of {ds:List (List Str)} (nd:ds.Nodup):Ord (fun i j=>HT.lexS (ds.getD i []) (ds.getD j [])) ds.length where
 tot:=fun i j hi hj hne h=>HT.lexS_tot h fun z=>by
  rw[ay,ay,ai hi,ai hj] at z;exact hne ((fN nd).mp z)
 asy:=fun i j h=>HT.lexS_as h
 tr:=fun i j k h h'=>HT.lexS_tr h h'
theorem idx_sorted {ds:List (List Str)} {p:Array Nat} (v:Vd ds.length p) (h:Asc (fun i j=>HT.lexS (ds.getD i []) (ds.getD j [])) p ds.length):(p.toList.map fun i=>ds.getD i []).Pairwise (fun a b=>HT.lexS a b=true)/\(p.toList.map fun i=>ds.getD i []).Perm ds:=by
 constructor
 ·rw[bO,cT];intro i j hi hj hij;have hi':i < p.size:=by simpa using hi
  have hj':j < p.size:=by simpa using hj
  have:=h i j hij (by rw[<- v.sz];exact hj')
  have e1:at' p i=p.toList[i]:=by simp[at',cI,hi']
  have e2:at' p j=p.toList[j]:=by simp[at',cI,hj']
  rw[<- e1,<- e2];exact this
 ·refine(v.pm.map _).trans (kx.of_eq ?_);apply fh
  ·simp
  ·intro i h1 h2;simp only[eA,jd,ay];rw[ai h2]
   rfl
section
variable {prog:aB} {w:aN} {A:aO} {E:ad->ah->Prop} {s:ah}
theorem sort_tups {a:Addr} {vs:List ad} {ds:List (List Str)} {n:Nat} {P:PySem.Fin->ah->Prop} (hu:A.units < bS) (ho:s.heap.get? a=some (bM "list" vs.toArray n)) (hp:bb (TS s.heap) vs ds) (nd:ds.Nodup) (h64:vs.length < 64)
  (h:∀ (idx:List Nat) (h':aS) (c:Nat),idx.Perm (aD vs.length)->(idx.map fun i=>ds.getD i []).Pairwise (fun a b=>HT.lexS a b=true)->(idx.map fun i=>ds.getD i []).Perm ds->h'.get? a=some (bM "list" (idx.map fun i=>vs.getD i bg).toArray c) ->
   (∀ b o,b≠a->s.heap.get? b=some o->h'.get? b=some o)->P (.done (.ret .none)) { s with heap:=h' }) :
  aw (aA prog w) A (bC.«list.sort» ⟨[.ref a],[]⟩) P E s:=by
 have ha:a < s.heap.objs.size:=aq ho;have hl:vs.length=ds.length:=cz hp;rw[list_sort_plain];refine aa (j5 ho rfl ?_);refine aa (f9 ho rfl ?_ (by rw[ak,bn];lia) (bG _))
 obtain⟨e1,ho1⟩:∃ e1,(s.heap.update a (aV fun _=>(#[]:Array ad))).get? a=some (bM "list" #[] e1):=⟨_,gw ho fun _=>#[]⟩;refine aa (iz ho1 rfl ?_);refine aa (je ?_ (by show vs.length<=_;rw[bn];lia))
 refine aa (gc ?_ (bG _));refine aW ?_;have sb:=be s.heap a (aV fun _=>(#[]:Array ad));generalize hg:s.heap.update a (aV fun _=>(#[]:Array ad))=h1 at ho1 sb;generalize hm:(h1.push (bM "tuple" vs.toArray 0)).push (bM "list" #[] 0)=h2;have k2:∀ b o,h1.get? b=some o->h2.get? b=some o:=fun b o e=>by rw[<- hm];exact af _ (af _ e)
 have kk:∀ b o,b≠a->s.heap.get? b=some o->h2.get? b=some o:=fun b o hb e=>k2 b o ((sb.2 b hb).trans e);have ho2:=k2 _ _ ho1;show aw (aA prog w) A _ P E { s with heap:=h2 }
 dsimp only;have fin:∀ (idx:List Nat),idx.Perm (aD vs.length)->(idx.map fun i=>ds.getD i []).Pairwise (fun a b=>HT.lexS a b=true)->(idx.map fun i=>ds.getD i []).Perm ds->P (.done (.ret .none)) { s with heap:=h2.update a (aV fun _=>(idx.map fun i=>vs.getD i bg).toArray) }:=fun idx i1 i2 i3=>by
  have s2:=be h2 a (aV fun _=>(idx.map fun i=>vs.getD i bg).toArray);exact h idx _ _ i1 i2 i3 (gw ho2 fun _=>(idx.map fun i=>vs.getD i bg).toArray) fun b o hb e=>(s2.2 b hb).trans (kk b o hb e)
 by_cases hs2:vs.toArray.size < 2
 ·rw[if_pos hs2,if_pos hs2];refine aa (ae ?_);rw[StateT.run_pure];refine aa (ae ?_);dsimp only;refine aa (iz ho2 rfl ?_);have e0:((a8 (gB.mk' general' (vs.toArray.zip vs.toArray) #[] 7 none)).map (·.2))=((aD vs.length).map fun i=>vs.getD i bg).toArray:=by
   show((vs.toArray.zip vs.toArray).map (·.2))=_;apply jM.mp;simp only[Array.toList_map,Array.toList_zip];apply fh
   ·simp
   ·intro i h1 h2;simp at h1 h2 ⊢;rw[ai h2]
    rfl
  rw[e0];refine aa (f9 ho2 rfl ?_ (bG _) (by simp only[ak,ag,cJ];rw[bn];lia))
  simp only[bne_self_eq_false,aE,if_false];have hlen:ds.length < 2:=by rw[<- hl];simpa using hs2
  have ed:((aD vs.length).map fun i=>ds.getD i [])=ds:=by
   apply fh
   ·simp[hl]
   ·intro i h1 h2;simp only[eA,jd,ay];rw[ai h2]
    rfl
  refine ae (fin _ (e9 _) ?_ (by rw[ed]))
  rw[ed]
  match ds,hlen with
  | [],_=>exact .nil
  | [x],_=>exact cL _ _
 ·rw[if_neg hs2,if_neg hs2];have h2l:2<=vs.length:=by simpa using hs2
  have hp2:bb (TS h2) vs ds:=L2.Paired.imp (fun v d t=>t.keep fun b o e c=>kk b o (by
   rintro rfl;rw[ho] at e;have e':=aL e;rw[<- e'] at c;have c':cV "list" = cV "tuple":=c;injection c' with c''
   exact absurd c'' (by decide)) e) hp
  refine aa (kind_go (s:={ s with heap:=h2 }) hp2 (by rintro rfl;simp at h2l) fun κ hκ=>?_)
  obtain⟨v1,v2⟩:=run_sort (ord_of nd) (by lia)
  have ans:∀ i j (C:Bool->ah->Prop),i < ds.length->j < ds.length->C (HT.lexS (ds.getD i []) (ds.getD j [])) { s with heap:=h2 }->kas_ask prog w A κ vs i j C { s with heap:=h2 }:=by
   intro i j C hi hj c;unfold kas_ask;have g:∀ k,k < ds.length->TS h2 (vs.getD k bg) (ds.getD k []):=fun k hk=>by
    have hk':k < vs.length:=by lia
    obtain⟨d,hd,t⟩:=L2.Paired.get' hp2 (ai hk');rw[ay,ay,hd,ai hk'];exact t
   rcases hκ with rfl | rfl | rfl
   ·exact lt_tuples (s:={ s with heap:=h2 }) (g i hi) (g j hj) c
   ·exact lt_general (s:={ s with heap:=h2 }) hu (g i hi) (g j hj) c
   ·exact lt_one (s:={ s with heap:=h2 }) hu (g i hi) (g j hj) c
  have tree:(kas_sort vs.length).kasWp (kas_ask prog w A κ vs) (fun p s'=>s'={ s with heap:=h2 }/\p=run (fun i j=>HT.lexS (ds.getD i []) (ds.getD j [])) (kas_sort ds.length)) { s with heap:=h2 }:=by
   rw[hl];exact wp_run ans _ (okq_sort (ord_of nd) (by lia)) ⟨rfl,rfl⟩
  refine aa (cH (kat_run (Q:=fun st' s'=>∃ p:Array Nat,a8 st'=p.map (kas_item (vs.toArray.zip vs.toArray))/\failedOf st'=none/\s'={ s with heap:=h2 }/\p=run (fun i j=>HT.lexS (ds.getD i []) (ds.getD j [])) (kas_sort ds.length)) rfl h2l h64 (fun p st' s' _ a2 a3 a4=>⟨p,a2,a3,a4.1,a4.2⟩) tree) ?_ fun _ _ e=>e)
  rintro⟨⟨⟩,st'⟩ s' ⟨p,har,hf,rfl,rfl⟩;dsimp only;have hout:=kat_snds rfl har;rw[hout];obtain⟨i1,i2⟩:=idx_sorted v1 v2;refine aa (iz ho2 rfl ?_);refine aa (f9 ho2 rfl ?_ (bG _) (by
   simp only[ak,ag,aR]
   have:=v1.sz
   rw[bn];lia))
  rw[hf];simp only[bne_self_eq_false,aE,if_false];exact ae (fin _ (by rw[hl];exact v1.pm) i1 i2)
end
end KS
namespace ST
open PySem PySem.SetTable PySem.Spec PyProof.Rows
def restr {prog:aB} {w:aN} {κ:Type} (D:SetKd prog w κ) (W:κ->ad->Prop):SetKd prog w κ where
 pk:=D.pk
 is:=fun h k v=>D.is h k v/\W k v
 I:=fun h a es ep t=>D.I h a es ep t/\∀ e∈es.toList,∃ k,D.is h k e.2/\W k e.2
 inj:=fun a b=>D.inj a.1 b.1
 obj:=fun x=>D.obj x.1
 fits:=fun x=>D.fits x.1
 few:=fun z _ _ _ _ _ _ x p nd hp=>D.few z x.1 (L2.Paired.mapP p fun _ _ q=>q.1) nd hp
 fresh:=fun h=>⟨D.fresh h,fun e he=>by simp at he⟩
 keepIs:=fun x kp=>⟨D.keepIs x.1 kp,x.2⟩
 keepI:=fun x e kp=>⟨D.keepI x.1 e kp,fun e he=>let ⟨k,h1,h2⟩:=x.2 e he;⟨k,D.keepIs h1 kp,h2⟩⟩
 add:=fun {A E s a es ep t k x Q} hu hI hx hn h=>by
  refine D.add hu hI.1 hx.1 hn fun h' tk es' ep' t' added q1 q2 q3 q4 q5=>?_;have kp:=sameBut_tup (D.obj hI.1) q2;have up:∀ e∈es.toList,∃ k,D.is h' k e.2/\W k e.2:=fun e he=>let ⟨k,h1,h2⟩:=hI.2 e he;⟨k,D.keepIs h1 kp,h2⟩
  rcases q5 with⟨r1,r2,e,he,r3⟩ | ⟨r1,⟨hh,r2⟩,r3⟩
  ·obtain⟨k',z1,z2⟩:=hI.2 e he
   have:=D.inj r3 z1
   subst this;exact h h' tk es' ep' t' added ⟨q1,by rw[r2];exact up⟩ q2 q3 q4 (.inl ⟨r1,r2,e,he,r3,z2⟩)
  ·refine h h' tk es' ep' t' added ⟨q1,fun e he=>?_⟩ q2 q3 q4 (.inr ⟨r1,⟨hh,r2⟩,fun⟨e,he,z⟩=>r3 ⟨e,he,z.1⟩⟩);rcases ax.mp (r2.mem_iff.mp he) with z | z
   ·subst z;exact⟨k,D.keepIs hx.1 kp,hx.2⟩
   ·exact up e z
end ST
namespace L2
open PySem PySem.Spec PyProof.Rows
def stO (p:Addr) (es:Array (Int × ad)) (ep:Nat) (t:aI):HO:=.ext fun h=>h.get? p=some (ST.setOb es ep t)
abbrev PV (K:Fg) (H:Hp):ad->V × List Str->Prop:=fun v p=>RelV p.1 v/\dT K dS H p.1 p.2
def dSt (w:aN) (K:Fg):Dn (List (List Str)):=fun H v ms=>∃ p es ep t ps,v=.ref p/\H p=some (stO p es ep t)/\t.fits es.size=true/\t.led=ST.ledOf w/\(t.plain=true->es.size<=1)/\bb (PV K H) (es.toList.map (·.2)) ps/\ms=ps.map (·.2)
theorem Inv.drawn {X:Cx} {pins:List (Addr × Obj)} {σ:St} {H:Hp} {s:ah} (I:Inv X pins σ H s) (d:_):Inv X pins σ H { s with drawn:=d } :=
 ⟨I.ok,I.os,I.bare,I.base,I.loc,I.cell,I.free,I.freeC,I.pin,I.hok,I.len⟩
section
variable {X:Cx}
theorem pv_of {K:Fg} {H:Hp} {h:aS} {P:aB} {w:aN}:∀ {es:List (Int × ad)} {ms:List (List Str)},bb (fun(e:Int × ad) k=>ST.TK P w h k e.2/\∃ x,RelV x e.2/\dT K dS H x k) es ms->∃ ps,bb (PV K H) (es.map (·.2)) ps/\ms=ps.map (·.2)
 | _,_,.nil=>⟨[],.nil,rfl⟩
 | _,_,.cons ⟨_,x,r,d⟩ q=>by
  obtain⟨ps,h1,h2⟩:=pv_of q;exact⟨(x,_)::ps,.cons ⟨r,d⟩ h1,by rw[h2];rfl⟩
theorem keyed' {P:aB} {w:aN} {pins:List (Addr × Obj)} {σ:St} {H:Hp} {s:ah} (I:Inv X pins σ H s):∀ {xs:List V} {us:List ad} {ds:List (List Str)},bb (dT X.K dS H) xs ds->Vals xs us->bb (fun v k=>ST.TK P w s.heap k v/\∃ x,RelV x v/\dT X.K dS H x k) us ds
 | _,_,_,.nil,.nil=>.nil
 | _,_,_,.cons p q,.cons r t=>by
  refine .cons ⟨?_,_,r,p⟩ (keyed' I q t);obtain⟨b,ys,rfl,hq,pp⟩:=p;cases r;obtain⟨its,ri,tp,_⟩:=I.tuple hq;exact tk_of (K:=X.K) pp ri tp
def rSetLT (w:aN) (K:Fg):List V->Hp->VK->Prop:=fun xs H Q=>∃ x ds,xs=[x]/\dL K (dT K dS) H x ds/\ds.length + 1<=300/\∀ p ms H',Same H H'->ms.Nodup->(∀ k,k∈ms↔k∈ds)->dSt w K H' (.ref p) ms->Q (.ref p) H'
theorem call_setLT {K:Fg} {w:aN} (hu:X.A.units + 8 < bS) (hK:X.K=K:=by rfl) (hw:X.w=w:=by rfl) (hc:X.calm=true:=by rfl):CallR X (.type "set") (rSetLT w K):=by
 subst hK hw;intro pins s σ H xs us Q I r h;obtain⟨x,ds,rfl,⟨a,ys,rfl,hq,p⟩,hn,q⟩:=h;obtain⟨u,rfl,rx⟩:=vals1 r;cases rx;obtain⟨its,ri,pl,_⟩:=I.list hq;refine ST.call_setK (ST.restr (ST.tupKd X.prog X.w) fun k v=>∃ x,RelV x v/\dT X.K dS H x k) (I.ok.hd hc) hu pl.isList (keyed' I p ri) (by rw[ak,<- ri.length,p.length];exact hn) fun h' tk ms M _ hk=>?_
 obtain⟨es,ep,t,hI,hled,hp⟩:=M.ex;obtain⟨ps,h1,h2⟩:=pv_of hp;have hfr:H s.heap.objs.size=none:=I.hok.fresh (aj _);have sm:Same H (upd H s.heap.objs.size (stO s.heap.objs.size es ep t)):=same_upd hfr;refine⟨.ref s.heap.objs.size,_,I.laid (t':=tk) (o:=stO s.heap.objs.size es ep t) (fun b o e=>hk b o (aq e) e) (aj _) ?_,rfl,q _ _ _ sm M.nd M.mem ⟨_,es,ep,t,ps,rfl,upd_same,(ST.tupKd X.prog X.w).fits hI.1,hled,fun z=>?_,L2.Paired.imp (fun _ _ z=>⟨z.1,Mo.mo sm z.2⟩) h1,h2⟩⟩
 ·refine⟨(ST.tupKd X.prog X.w).obj hI.1,⟨_,(ST.tupKd X.prog X.w).obj hI.1⟩,fun g1 g2 g k=>k _ g⟩
 ·exact(ST.restr (ST.tupKd X.prog X.w) fun k v=>∃ x,RelV x v/\dT X.K dS H x k).few rfl hI hp M.nd z
end
section
variable {X:Cx}
theorem ts_of {K:Fg} {pins:List (Addr × Obj)} {σ:St} {H:Hp} {s:ah} (I:Inv X pins σ H s) (hK:X.K=K) {h':aS} (k:∀ b o,s.heap.get? b=some o->h'.get? b=some o):∀ {vs:List ad} {ps:List (V × List Str)},bb (PV K H) vs ps->bb (KS.TS h') vs (ps.map (·.2))
 | _,_,.nil=>.nil
 | _,_,.cons ⟨r,d⟩ q=>by
  refine .cons ?_ (ts_of I hK k q);obtain⟨b,xs,e,hq,pp⟩:=d;rw[e] at r;cases r;rw[<- hK] at hq;obtain⟨its,ri,⟨o,ho,z⟩,_⟩:=I.tuple hq;exact⟨b,its.toArray,rfl,⟨o,k b o ho,z⟩,sare_of pp ri⟩
theorem getD_snd:∀ (ps:List (V × List Str)) (i:Nat),(ps.map (·.2)).getD i []=(ps.getD i (V.non,[])).2
 | [],i=>by simp
 | p::ps,0=>by simp
 | p::ps,i + 1=>by simpa using getD_snd ps i
theorem pv_split {K:Fg} {H:Hp}:∀ {vs:List ad} {zs:List (V × List Str)},bb (PV K H) vs zs->Vals (zs.map (·.1)) vs/\bb (dT K dS H) (zs.map (·.1)) (zs.map (·.2))
 | _,_,.nil=>⟨.nil,.nil⟩
 | _,_,.cons ⟨r,d⟩ q=>⟨.cons r (pv_split q).1,.cons d (pv_split q).2⟩
theorem strs_of {H:Hp}:∀ {xs:List V} {us:List ad} {ds:List Str},bb (dS H) xs ds->Vals xs us->j6 us ds
 | _,_,_,.nil,.nil=>.nil
 | _,_,_,.cons p q,.cons r t=>by
  cases p;obtain⟨k,rfl⟩:=r;exact .cons _ k (strs_of q t)
theorem of_strs {H:Hp}:∀ {us:List ad} {ds:List Str},j6 us ds->Vals (ds.map V.str) us/\bb (dS H) (ds.map V.str) ds
 | _,_,.nil=>⟨.nil,.nil⟩
 | _,_,.cons y t r=>⟨.cons ⟨t,rfl⟩ (of_strs (H:=H) r).1,.cons rfl (of_strs r).2⟩
theorem srt_pw:∀ {l:List Str},sortedS l=true->l.Nodup->l.Pairwise fun a b=>HT.ltS a b=true
 | [],_,_=>.nil
 | [x],_,_=>cL _ _
 | x::y::l,h,nd=>by
  have h':(!ltCps y.cps.toList x.cps.toList && risingS y l)=true:=h;rw[aK] at h';have ih:=srt_pw (l:=y::l) h'.2 (cx.mp nd).2;have hxy:HT.ltS x y=true:=by
   have e:HT.ltS y x=false:=by
    have:=h'.1
    rw[c4] at this;rw[ltCps_eq] at this;exact this
   exact HT.ltS_tot e fun z=>(cx.mp nd).1 (z ▸ ar)
  refine bA.mpr ⟨fun z hz=>?_,ih⟩;rcases ax.mp hz with rfl | hz
  ·exact hxy
  ·exact HT.ltS_tr hxy ((bA.mp ih).1 z hz)
end
def Itel (K:Fg) (a:Addr):It:=⟨fun i H=>∃ xs x,SqL K H a xs/\xs[i]?=some x,fun i H x H'=>∃ p y,H p=none/\x=.ref p/\H'=upd H p (.tup [.int i,y])/\∀ xs,SqL K H a xs->xs[i]?=some y,fun i H=>∃ xs,SqL K H a xs/\xs.length<=i⟩
theorem turn_enl {P:aB} {w:aN} {K:Fg} {elts:List Expr} {x1:Nat} {pos:Pos} (a it e:Addr) (hei:e≠it) (hae:a≠e) (hai:a≠it):Turn P w K (.Tuple elts x1 pos) (Itel K a) [e,it] e (fun i h=>(∃ old,IsEnum h e it i old)/\h.IsListIter it a i) where
 mem:=by simp
 obj:=fun i h st b hb=>by
  obtain⟨⟨old,he⟩,o,ho,hc,hd⟩:=st;rcases ax.mp hb with rfl | hb
  ·exact⟨_,he,fun v z=>by cases z⟩
  ·have:=aG.mp hb
   subst this;exact⟨o,ho,fun v z=>by rw[hd] at z;cases z⟩
 keep:=fun i h h' st k=>by
  obtain⟨⟨old,he⟩,o,ho,r⟩:=st;exact⟨⟨old,k e (by simp) _ he⟩,o,k it (by simp) _ ho,r⟩
 item:=by
  intro X hP hw hK hc i pins s σ H E I hf st hg;subst hP hw hK;obtain⟨xs,x,hq,hx⟩:=hg;obtain⟨its,rv,p,hz⟩:=I.list hq;obtain⟨u,hu,ru⟩:=rv.get hx;obtain⟨⟨old,he⟩,st2⟩:=st;have hi:i < its.toArray.size:=by
   rcases bP i its.toArray.size with z | z
   ·exact z
   ·rw[ak] at z;rw[bE z] at hu;cases hu
  have hh:X.A.in1.handled=none:=by have:=I.ok.hd hc;simp[this]
  have hT:s.heap.IsList a its.toArray:=p.isList;refine wpAny_pyNext_enum_itemD (Draws.list hh it a hai its.toArray) he ⟨st2,hT⟩ hi hei (by simp;exact⟨hei,fun z=>hae z.symm⟩) fun y h' tk hy ho hs' hT' hsz hk=>⟨_,rfl,?_⟩
  have hy':y=u:=by
   have:its[i]?=some y:=by simpa using hy
   rw[hu] at this;exact(aL this).symm
  subst hy';refine wpAny_letOwnedTupleGo_enum ho fun h2 he2 hs2=>?_;have fe:=hf e (by simp)
  have fi:=hf it (by simp)
  have kk:∀ b o,b≠e->b≠it->s.heap.get? b=some o->h2.get? b=some o:=fun b o n1 n2 g=>(hs2.2 b n1).trans (hk b o n1 n2 g);have hel:e < s.heap.objs.size:=aq he;have hfresh:H s.heap.objs.size=none:=I.hok.fresh (aj _);have nT:∀ b o,s.heap.get? b=some o->b≠s.heap.objs.size:=fun b o g=>aC (aq g);have nH:∀ b u,H b=some u->b≠e/\b≠it:=fun b u g=>⟨fun z=>(by rw[z,fe.1] at g;cases g),fun z=>(by rw[z,fi.1] at g;cases g)⟩
  have tupT:h2.get? s.heap.objs.size=some { cls:=.type "tuple",data:=.seq #[.int i tk,y] }:=(hs2.2 _ (bX hel)).trans hT';have hok:HOk X.prog X.w (upd H s.heap.objs.size (.tup [.int i,x])) h2:=fun b ob g=>by
   by_cases hb:b=s.heap.objs.size
   ·subst hb;rw[upd_same] at g;cases g;refine⟨by rw[bn];show 2<=_;decide,[.int i tk,y],.cons ⟨tk,rfl⟩ (.cons ru .nil),⟨_,tupT,rfl,0,rfl⟩,fun o e=>by rw[tupT] at e;cases e;rfl⟩
   ·rw[upd_ne hb] at g;refine(I.hok b ob g).stay (fun c w' hc' q=>?_) (fun c q=>?_) fun c ys q=>?_
    ·rcases hc' with rfl | hc'
     ·exact kk _ _ (nH _ _ g).1 (nH _ _ g).2 q
     ·exact kk _ _ (nH _ _ hc').1 (nH _ _ hc').2 q
    ·rw[upd_ne (ne_of_none q hfresh)];exact q
    ·rw[upd_ne (ne_of_none q hfresh)];exact q
  have un:Un (frs X.stack) [e,it] H (upd H s.heap.objs.size (.tup [.int i,x])) s.heap h2:=by
   have ab:∀ {b:Addr},b∉[e,it]->b≠e/\b≠it:=fun hb=>⟨fun z=>hb (by simp[z]),fun z=>hb (by simp[z])⟩
   exact⟨fun b o g _ _ hb=>kk b o (ab hb).1 (ab hb).2 g,fun b o g _ _ hb=>⟨o.slots,kk b o (ab hb).1 (ab hb).2 g⟩,fun b o g n _=>by rw[upd_ne (nT b o g)];exact n,fun b o g hb=>⟨o,kk b o (ab hb).1 (ab hb).2 g⟩,
    fun b ys g=>by rw[upd_ne (ne_of_none g hfresh)];exact g,fun b o v g=>by rw[upd_ne (ne_of_none g hfresh)];exact g,fun b ps g=>⟨#[],by rw[upd_ne (ne_of_none g hfresh),g];simp⟩⟩
  have I2:Inv X pins σ (upd H s.heap.objs.size (.tup [.int i,x])) { s with heap:=h2,toks:=tk + 1 }:=I.call' (s':={ s with heap:=h2,toks:=tk + 1 }) rfl un hok I.bare fun b hb=>by
   rcases ax.mp hb with rfl | hb
   ·exact⟨fe.2.2.2.1,fe.2.1,fe.2.2.2.2.1,fe.2.2.2.2.2⟩
   ·have:=aG.mp hb
    subst this;exact⟨fi.2.2.2.1,fi.2.1,fi.2.2.2.2.1,fi.2.2.2.2.2⟩
  refine⟨.ref s.heap.objs.size,_,I2,rfl,⟨_,x,hfresh,rfl,rfl,fun ys hy=>by rw[I.list_inj hy hq];exact hx⟩,⟨⟨_,by simpa using he2⟩,?_⟩,fun b hb=>?_⟩
  ·obtain⟨o,g,r⟩:=hs'.1;exact⟨o,(hs2.2 it (bW hei)).trans g,r⟩
  ·have hb':b < s.heap.objs.size:=by
    rcases ax.mp hb with rfl | hb
    ·exact hel
    ·have:=aG.mp hb
     subst this;obtain⟨o,g,_⟩:=st2;exact aq g
   rw[upd_ne (aC hb')];exact(hf b hb).1
 done:=by
  intro X hP hw hK hc i pins s σ H E I hf st hg;subst hP hw hK;obtain⟨xs,hq,hx⟩:=hg;obtain⟨its,rv,p,hz⟩:=I.list hq;obtain⟨⟨old,he⟩,st2⟩:=st;have hl:=rv.length;have hh:X.A.in1.handled=none:=by have:=I.ok.hd hc;simp[this]
  have hT:s.heap.IsList a its.toArray:=p.isList;obtain⟨f0,f1,f2,f3,f4,f5⟩:=hf it (by simp)
  have hT2:s.TypeIs (.ref e) "enumerate":=⟨_,he,rfl⟩;unfold e6;refine aa (f7 (b7 (name:=aJ "__next__") hT2 F.slot_enumerate_next (b4 F.slot_enumerate_next hT2 F.entry_enumerate_next ?_ (F.args_enumerate_next_1 _))));refine aa (m:=jH (.ref e) 2) (bT he rfl (x:=.ref it) rfl (aa (wpAny_nextOf_list_end hh st2 hT (by simp;lia) fun h' x he' hx'=>?_)))
  obtain⟨o,ho,hc'⟩:=hx';refine aa (fQ (T := "StopIteration") (b:=true) ⟨o,ho,hc'⟩ ja ?_);exact ae ⟨rfl,I.turned (t':=s.toks) (fun b o hb g=>he' b o hb g) f0 f1 f3 f4 f5⟩
 self:=fun A i s Q E st h=>by
  obtain⟨⟨old,he⟩,_⟩:=st;exact gS he h
section
variable {X:Cx}
def iEnL (K:Fg) (ta:TA):TI:=fun σ H R=>ta σ H fun vs H1=>∃ a,vs=[.ref a]/\(∃ xs,SqL K H1 a xs)/\R (Itel K a) H1
theorem pi_enL {e:Expr} {ta:TA} {p pos:Pos} {elts:List Expr} {x1:Nat} {tpos:Pos} (hg:Gl X "enumerate") (hm:X.mg "enumerate" = none) (ha:PA X [e] ta) (hs:am [e] X.env=[(false,eval e X.env)]:=by rfl) :
  PI X (.Tuple elts x1 tpos) (.Call (.Name "enumerate" p) [e] [] pos) (iEnL X.K ta):=by
 intro pins s σ H R I h;refine Call_ (ld_blt I hg hm iP (cj (thn (ha pos pins s σ H _ I h) fun us s1 ⟨vs,H1,I1,r1,q1⟩=>?_) hs rfl));obtain⟨a,rfl,⟨xs,hq⟩,q⟩:=q1;obtain⟨u,rfl,rx⟩:=vals1 r1;cases rx;obtain⟨its,rv,pl,hz⟩:=I1.list hq;have hal:a < s1.heap.objs.size:=by obtain⟨o,e,_⟩:=id pl.isList;exact aq e
 refine call_enumerate_list pl.isList fun h' he hi _ hk=>gS he ?_;refine⟨s1.heap.objs.size + 1,[s1.heap.objs.size + 1,s1.heap.objs.size],_,_,H1,rfl,I1.kept (t':=s1.toks) hk,turn_enl a s1.heap.objs.size (s1.heap.objs.size + 1) (Nat.succ_ne_self _) (aC (cZ hal)) (aC hal),⟨⟨_,he⟩,hi⟩,fun b hb=>?_,q⟩;rcases ax.mp hb with rfl | hb
 ·exact I1.fpOk (db _) (I1.hok.fresh (db _))
 ·have:=aG.mp hb
  subst this;exact I1.fpOk (aj _) (I1.hok.fresh (aj _))
theorem pi_enLK {K:Fg} {e:Expr} {ta:TA} {p pos:Pos} {elts:List Expr} {x1:Nat} {tpos:Pos} (hg:Gl X "enumerate") (hm:X.mg "enumerate" = none) (ha:PA X [e] ta) (hs:am [e] X.env=[(false,eval e X.env)]:=by rfl) (hK:X.K=K:=by rfl) :
  PI X (.Tuple elts x1 tpos) (.Call (.Name "enumerate" p) [e] [] pos) (iEnL K ta):=by subst hK;exact pi_enL hg hm ha hs
end
def cutS (z:Str) (lo hi:Option Int):Str:=if ((bZ lo hi 1 z.length).length == z.length)=true then z else ⟨((bZ lo hi 1 z.length).filterMap (z.cps[·]?)).toArray⟩
def rSlS:V->Option Int->Option Int->Hp->VK->Prop:=fun x lo hi H Q=>∃ z,x=.str z/\z.length<=1000000/\Q (.str (cutS z lo hi)) H
theorem sl_str {X:Cx}:SlR X rSlS:=by
 intro pins s σ H x v vl vu lo hi sl Q I rx hs pl pu h;obtain⟨z,rfl,hz,q⟩:=h;obtain⟨t,rfl⟩:=rx;refine⟨"str",_,PySem.F.slot_str_getitem.lookup,typeIs_str _ _ _,?_⟩;have go:∀ (l u:Option (Int × Tok)),l.map (·.1)=lo->u.map (·.1)=hi->s.heap.IsSlice sl l u none->aw (aA X.prog X.w) X.A (ik (.str z t) (.ref sl)) (EP X pins σ Q) X.xe s:=fun l u hl hu hS=>by
  refine wpAny_getItem_str_slice hS rfl ?_;unfold sliceMade slicePicked;simp only[Option.map_none,jE,beq_self_eq_true,jA,hl,hu];unfold cutS at q
  by_cases c:((bZ lo hi 1 z.length).length == z.length)=true
  ·rw[if_pos c] at q ⊢;exact⟨.str z,H,I,⟨t,rfl⟩,q⟩
  ·rw[if_neg c] at q ⊢;refine⟨?_,.str _,H,I.tok _,⟨_,rfl⟩,q⟩;have h1:=PyProof.Rows.indices_len_le lo hi z.length;have h2:((bZ lo hi 1 z.length).filterMap (z.cps[·]?)).length<=(bZ lo hi 1 z.length).length:=List.length_filterMap_le _ _;show((bZ lo hi 1 z.length).filterMap (z.cps[·]?)).toArray.size<=_;rw[ak,bn];lia
 obtain⟨o,ho,hc,hd⟩:=hs;cases pl with
 | none =>
  cases pu with
  | none=>exact go none none rfl rfl ⟨o,ho,hc,hd⟩
  | int j tj=>exact go none (some (j,tj)) rfl rfl ⟨o,ho,hc,hd⟩
 | int i ti =>
  cases pu with
  | none=>exact go (some (i,ti)) none rfl rfl ⟨o,ho,hc,hd⟩
  | int j tj=>exact go (some (i,ti)) (some (j,tj)) rfl rfl ⟨o,ho,hc,hd⟩
end L2
set_option maxHeartbeats 1000000
namespace L2
open PySem PySem.Spec PyProof.Rows
inductive D where
 | non | bl (b:Bool) | int (i:Int) | str (x:Str) | ty (n:String) | ref (a:Addr) | tup (xs:List D) | lst (xs:List D)
abbrev Am:=Addr->Prop
structure Keep (M:Am) (H:Hp) (M':Am) (H':Hp):Prop where
 st:∀ a o,¬ M a->H a=some o->H' a=some o
 nm:∀ a,¬ M a->H a≠none->¬ M' a
inductive DO where
 | lst (xs:List D) | dk (kvs:List (Key × D)) | dt (kvs:List (List Key × D))
 | tb (pos:Pos) (qual:Str)
 | ex (f:Am->Hp->Addr->Prop) (hk:∀ M M' H H' a,Keep M H M' H'->H' a=H a->f M H a->f M' H' a) (hl:∀ M H a,f M H a->∃ g,H a=some (.ext g))
abbrev Sto:=Addr->Option DO
abbrev Gm:=List (Option D)
def supd (S:Sto) (a:Addr) (o:DO):Sto:=fun b=>if b=a then some o else S b
theorem supd_same {S:Sto} {a:Addr} {o:DO}:supd S a o a=some o:=by unfold supd;rw[if_pos rfl]
theorem supd_ne {S:Sto} {a b:Addr} {o:DO} (h:b≠a):supd S a o b=S b:=by unfold supd;rw[if_neg h]
def TupAt (K:Fg) (M:Am) (H:Hp) (a:Addr) (xs:List V):Prop:=(¬ M a/\Rd H a (.tup xs))\/SqT K (fun _=>none) a xs
theorem TupAt.sq {K:Fg} {M:Am} {H:Hp} {a:Addr} {xs:List V} (h:TupAt K M H a xs):SqT K H a xs:=by
 rcases h with h | (h | ⟨o,h⟩) | h
 ·exact .inl h.2
 ·cases h
 ·cases h
 ·exact .inr h
def LstAt (K:Fg) (M:Am) (H:Hp) (a:Addr) (xs:List V):Prop:=(¬ M a/\Rd H a (.lst xs))\/SqL K (fun _=>none) a xs
theorem LstAt.sq {K:Fg} {M:Am} {H:Hp} {a:Addr} {xs:List V} (h:LstAt K M H a xs):SqL K H a xs:=by
 rcases h with h | (h | ⟨o,h⟩) | h
 ·exact .inl h.2
 ·cases h
 ·cases h
 ·exact .inr h
mutual
def RepV (K:Fg) (M:Am) (H:Hp):D->V->Prop
 | .non,v=>v=.non
 | .bl b,v=>v=.bl b
 | .int i,v=>v=.int i
 | .str x,v=>v=.str x
 | .ty n,v=>v=.ty n
 | .ref a,v=>v=.ref a
 | .tup ds,v=>∃ a xs,v=.ref a/\TupAt K M H a xs/\RepL K M H ds xs
 | .lst ds,v=>∃ a xs,v=.ref a/\LstAt K M H a xs/\RepL K M H ds xs
def RepL (K:Fg) (M:Am) (H:Hp):List D->List V->Prop
 | [],xs=>xs=[]
 | d::ds,xs=>∃ v vs,xs=v::vs/\RepV K M H d v/\RepL K M H ds vs
end
theorem Rd.live {H:Hp} {a:Addr} {u:HO} (r:Rd H a u):H a≠none:=by
 rcases r with r | ⟨o,r⟩ <;> rw[r] <;> exact fun z=>by cases z
theorem Keep.rd {M M':Am} {H H':Hp} (k:Keep M H M' H') {a:Addr} {u:HO} (hm:¬ M a) (r:Rd H a u):Rd H' a u:=by
 rcases r with r | ⟨o,r⟩
 ·exact .inl (k.st a _ hm r)
 ·exact .inr ⟨o,k.st a _ hm r⟩
theorem TupAt.keep {K:Fg} {M M':Am} {H H':Hp} {p:Addr} {us:List V} (t:TupAt K M H p us) (x:Keep M H M' H'):TupAt K M' H' p us:=by
 rcases t with⟨hm,r⟩ | t
 ·exact .inl ⟨x.nm p hm r.live,x.rd hm r⟩
 ·exact .inr t
theorem LstAt.keep {K:Fg} {M M':Am} {H H':Hp} {p:Addr} {us:List V} (t:LstAt K M H p us) (x:Keep M H M' H'):LstAt K M' H' p us:=by
 rcases t with⟨hm,r⟩ | t
 ·exact .inl ⟨x.nm p hm r.live,x.rd hm r⟩
 ·exact .inr t
mutual
theorem RepV.keep {K:Fg} {M M':Am} {H H':Hp} (k:Keep M H M' H'):∀ {d:D} {v:V},RepV K M H d v->RepV K M' H' d v
 | .non,_,h=>h
 | .bl _,_,h=>h
 | .int _,_,h=>h
 | .str _,_,h=>h
 | .ty _,_,h=>h
 | .ref _,_,h=>h
 | .tup ds,v,h=>by
  unfold RepV at h ⊢;obtain⟨a,xs,e,t,l⟩:=h;exact⟨a,xs,e,t.keep k,RepL.keep k l⟩
 | .lst ds,v,h=>by
  unfold RepV at h ⊢;obtain⟨a,xs,e,t,l⟩:=h;exact⟨a,xs,e,t.keep k,RepL.keep k l⟩
theorem RepL.keep {K:Fg} {M M':Am} {H H':Hp} (k:Keep M H M' H'):∀ {ds:List D} {xs:List V},RepL K M H ds xs->RepL K M' H' ds xs
 | [],_,h=>h
 | d::ds,xs,h=>by
  unfold RepL at h ⊢;obtain⟨v,vs,e,r,l⟩:=h;exact⟨v,vs,e,RepV.keep k r,RepL.keep k l⟩
end
section
variable {K:Fg} {M:Am} {H:Hp}
theorem RepL.length:∀ {ds:List D} {xs:List V},RepL K M H ds xs->xs.length=ds.length
 | [],_,h=>by unfold RepL at h;rw[h];rfl
 | d::ds,xs,h=>by
  unfold RepL at h;obtain⟨v,vs,rfl,_,l⟩:=h;simp[RepL.length l]
theorem RepL.nil:RepL K M H [] []:=by unfold RepL;rfl
theorem RepL.cons {d:D} {ds:List D} {v:V} {vs:List V} (r:RepV K M H d v) (l:RepL K M H ds vs):RepL K M H (d::ds) (v::vs):=by unfold RepL;exact⟨v,vs,rfl,r,l⟩
theorem RepL.app:∀ {ds es:List D} {xs ys:List V},RepL K M H ds xs->RepL K M H es ys->RepL K M H (ds++es) (xs++ys)
 | [],es,xs,ys,h,h'=>by unfold RepL at h;rw[h];exact h'
 | d::ds,es,xs,ys,h,h'=>by
  unfold RepL at h;obtain⟨v,vs,rfl,r,l⟩:=h;exact RepL.cons r (RepL.app l h')
theorem RepL.get:∀ {ds:List D} {xs:List V} {i:Nat} {d:D},RepL K M H ds xs->ds[i]?=some d->∃ v,xs[i]?=some v/\RepV K M H d v
 | [],_,_,_,_,e=>by simp at e
 | d::ds,xs,0,e,h,he=>by
  unfold RepL at h;obtain⟨v,vs,rfl,r,l⟩:=h;simp at he;subst he;exact⟨v,rfl,r⟩
 | d::ds,xs,i + 1,e,h,he=>by
  unfold RepL at h;obtain⟨v,vs,rfl,r,l⟩:=h;obtain⟨w,h1,h2⟩:=RepL.get (i:=i) l (by simpa using he)
  exact⟨w,by simpa using h1,h2⟩
theorem RepL.get' {ds:List D} {xs:List V} {i:Nat} {v:V} (h:RepL K M H ds xs) (e:xs[i]?=some v):∃ d,ds[i]?=some d/\RepV K M H d v:=by
 have hl:=h.length;have hi:i < xs.length:=by
  rcases bP i xs.length with z | z
  ·exact z
  ·rw[bE z] at e;cases e
 have e':ds[i]?=some ds[i]:=ai (by omega)
 obtain⟨w,h1,h2⟩:=h.get e';rw[e] at h1;cases h1;exact⟨_,e',h2⟩
theorem RepL.take:∀ {ds:List D} {xs:List V} (n:Nat),RepL K M H ds xs->RepL K M H (ds.take n) (xs.take n)
 | _,_,0,_=>by simpa using RepL.nil
 | [],_,n + 1,h=>by unfold RepL at h;subst h;simpa using RepL.nil
 | d::ds,xs,n + 1,h=>by
  unfold RepL at h;obtain⟨v,vs,rfl,r,l⟩:=h;simpa using RepL.cons r (RepL.take n l)
theorem RepL.drop:∀ {ds:List D} {xs:List V} (n:Nat),RepL K M H ds xs->RepL K M H (ds.drop n) (xs.drop n)
 | _,_,0,h=>by simpa using h
 | [],_,n + 1,h=>by unfold RepL at h;subst h;simpa using RepL.nil
 | d::ds,xs,n + 1,h=>by
  unfold RepL at h;obtain⟨v,vs,rfl,r,l⟩:=h;simpa using RepL.drop n l
theorem RepL.set {d:D} {v:V} (r:RepV K M H d v):∀ {ds:List D} {xs:List V} (i:Nat),RepL K M H ds xs->RepL K M H (ds.set i d) (xs.set i v)
 | [],_,i,h=>by unfold RepL at h;subst h;simpa using RepL.nil
 | e::ds,xs,0,h=>by
  unfold RepL at h;obtain⟨w,vs,rfl,_,l⟩:=h;simpa using RepL.cons r l
 | e::ds,xs,i + 1,h=>by
  unfold RepL at h;obtain⟨w,vs,rfl,q,l⟩:=h;simpa using RepL.cons q (RepL.set r i l)
theorem RepL.erase:∀ {ds:List D} {xs:List V} (i:Nat),RepL K M H ds xs->RepL K M H (ds.eraseIdx i) (xs.eraseIdx i)
 | [],_,i,h=>by unfold RepL at h;subst h;simpa using RepL.nil
 | e::ds,xs,0,h=>by
  unfold RepL at h;obtain⟨w,vs,rfl,_,l⟩:=h;simpa using l
 | e::ds,xs,i + 1,h=>by
  unfold RepL at h;obtain⟨w,vs,rfl,q,l⟩:=h;simpa using RepL.cons q (RepL.erase i l)
theorem RepL.one {d:D} {xs:List V} (h:RepL K M H [d] xs):∃ v,xs=[v]/\RepV K M H d v:=by
 unfold RepL at h;obtain⟨v,vs,rfl,r,l⟩:=h;unfold RepL at l;subst l;exact⟨v,rfl,r⟩
theorem RepL.two {d e:D} {xs:List V} (h:RepL K M H [d,e] xs):∃ v w,xs=[v,w]/\RepV K M H d v/\RepV K M H e w:=by
 unfold RepL at h;obtain⟨v,vs,rfl,r,l⟩:=h;obtain⟨w,rfl,r'⟩:=l.one;exact⟨v,w,rfl,r,r'⟩
end
def mt (S:Sto) (F:Am):Am:=fun a=>S a≠none\/F a
abbrev cdO (c:Addr) (oc:Obj):HO:=.ext fun h=>h.get? c=some oc
def TbOk (M:Am) (H:Hp) (pos:Pos) (qual:Str) (ps:Array ad):Prop:=TriplesOk ps.toList/\(codeAmong pos ps.toList=none \/
 ∃ c oc,codeAmong pos ps.toList=some (.ref c)/\¬ M c/\H c=some (cdO c oc)/\∃ vs t,oc.data=.fields vs/\vs[1]?=some (.str qual t))
theorem TbOk.keep {M M':Am} {H H':Hp} (k:Keep M H M' H') {pos:Pos} {qual:Str} {ps:Array ad} (h:TbOk M H pos qual ps):TbOk M' H' pos qual ps:=by
 obtain⟨h1,h2⟩:=h;refine⟨h1,h2.imp id fun⟨c,oc,e1,m,e2,r⟩=>⟨c,oc,e1,k.nm c m (by rw[e2];exact fun z=>by cases z),k.st c _ m e2,r⟩⟩
def RepO (K:Fg) (M:Am) (H:Hp) (a:Addr):DO->Prop
 | .lst ds=>∃ xs,H a=some (.lst xs)/\RepL K M H ds xs
 | .dk kvs=>∃ ks,H a=some (.dK ks)/\bb (fun(p:Key × V) (q:Key × D)=>p.1=q.1/\RepV K M H q.2 p.2) ks kvs
 | .dt kvs=>∃ ks,H a=some (.dT ks)/\bb (fun(p:List Key × V) (q:List Key × D)=>p.1=q.1/\RepV K M H q.2 p.2) ks kvs
 | .tb pos qual=>∃ ps,H a=some (.tbl ps)/\TbOk M H pos qual ps
 | .ex f _ _=>f M H a
theorem RepO.live {K:Fg} {M:Am} {H:Hp} {a:Addr} {o:DO} (h:RepO K M H a o):H a≠none:=by
 cases o with
 | ex f hk hl=>obtain⟨g,e⟩:=hl _ _ _ h;rw[e];exact fun z=>by cases z
 | _=>obtain⟨xs,e,_⟩:=h;rw[e];exact fun z=>by cases z
theorem RepO.keep {K:Fg} {M M':Am} {H H':Hp} (k:Keep M H M' H') {a:Addr} {o:DO} (e:H' a=H a) (h:RepO K M H a o):RepO K M' H' a o:=by
 cases o with
 | lst ds=>obtain⟨xs,e1,l⟩:=h;exact⟨xs,e.trans e1,l.keep k⟩
 | dk kvs=>obtain⟨xs,e1,l⟩:=h;exact⟨xs,e.trans e1,Paired.imp (fun _ _ z=>⟨z.1,z.2.keep k⟩) l⟩
 | dt kvs=>obtain⟨xs,e1,l⟩:=h;exact⟨xs,e.trans e1,Paired.imp (fun _ _ z=>⟨z.1,z.2.keep k⟩) l⟩
 | tb pos qual=>obtain⟨xs,e1,l⟩:=h;exact⟨xs,e.trans e1,l.keep k⟩
 | ex f hk hl=>exact hk _ _ _ _ _ k e h
def Clt:HO->Prop
 | .lst _=>True
 | .ext _=>True
 | _=>False
structure Rp (K:Fg) (F:Am) (S:Sto) (H:Hp):Prop where
 obj:∀ a o,S a=some o->RepO K (mt S F) H a o
 frm:∀ a,F a->(∃ u,H a=some u/\Clt u)/\S a=none
structure Ext (S:Sto) (H:Hp) (S':Sto) (H':Hp):Prop where
 keep:∀ a o,S a=none->H a=some o->H' a=some o
 live:∀ a,H a≠none->H' a≠none
 new:∀ a,S' a≠none->S a≠none\/H a=none
theorem Ext.refl (S:Sto) (H:Hp):Ext S H S H:=⟨fun _ _ _ h=>h,fun _ h=>h,fun _ h=>.inl h⟩
theorem Ext.sn {S S':Sto} {H H':Hp} (x:Ext S H S' H') {a:Addr} (h:S a=none) (h':H a≠none):S' a=none:=by
 cases e:S' a with
 | none=>rfl
 | some o =>
  rcases x.new a (by rw[e];exact fun z=>by cases z) with z | z
  ·exact absurd h z
  ·exact absurd z h'
theorem Ext.trans {S S1 S2:Sto} {H H1 H2:Hp} (x:Ext S H S1 H1) (y:Ext S1 H1 S2 H2):Ext S H S2 H2 :=
 ⟨fun a o h h'=>y.keep a o (x.sn h (by rw[h'];exact fun z=>by cases z)) (x.keep a o h h'),fun a h=>y.live a (x.live a h),fun a h=>by
  rcases y.new a h with z | z
  ·exact x.new a z
  ·refine .inr (bc fun n=>x.live a n z)⟩
theorem Ext.same {S:Sto} {H H':Hp} (s:Same H H'):Ext S H S H' where
 keep:=fun a o _ h=>s a o h
 live:=fun a h=>by
  cases e:H a with
  | none=>exact absurd e h
  | some o =>
   rw[s a o e];exact fun z=>by cases z
 new:=fun _ h=>.inl h
theorem Ext.kp {F:Am} {S S':Sto} {H H':Hp} (x:Ext S H S' H'):Keep (mt S F) H (mt S' F) H':=⟨fun a o h e=>x.keep a o (bc fun n=>h (.inl n)) e,fun a h e=>fun z=>by
 rcases z with z | z
 ·rcases x.new a z with y | y
  ·exact h (.inl y)
  ·exact e y
 ·exact h (.inr z)⟩
section
variable {K:Fg} {F:Am} {S S':Sto} {H H':Hp}
theorem RepV.ext {d:D} {v:V} (h:RepV K (mt S F) H d v) (x:Ext S H S' H'):RepV K (mt S' F) H' d v:=h.keep x.kp
theorem RepL.ext {ds:List D} {vs:List V} (h:RepL K (mt S F) H ds vs) (x:Ext S H S' H'):RepL K (mt S' F) H' ds vs:=h.keep x.kp
theorem Rp.same (r:Rp K F S H) (s:Same H H'):Rp K F S H' where
 obj:=fun a o h=>by
  have q:=r.obj a o h;have e:H' a=H a:=by
   cases z:H a with
   | none=>exact absurd z q.live
   | some u=>exact s a u z
  exact q.keep (Ext.same s).kp e
 frm:=fun a h=>by
  obtain⟨⟨zs,e,ct⟩,h2⟩:=r.frm a h;exact⟨⟨zs,s a _ e,ct⟩,h2⟩
theorem Ext.write {a:Addr} {o:DO} {u:HO} (h:S a≠none):Ext S H (supd S a o) (upd H a u) where
 keep:=fun b ob h1 h2=>by
  have ne:b≠a:=by rintro rfl;exact h h1
  rw[upd_ne ne];exact h2
 live:=fun b hb=>by
  by_cases e:b=a
  ·subst e;rw[upd_same];exact fun z=>by cases z
  ·rw[upd_ne e];exact hb
 new:=fun b hb=>by
  by_cases e:b=a
  ·subst e;exact .inl h
  ·rw[supd_ne e] at hb;exact .inl hb
theorem Rp.write {a:Addr} {o:DO} {u:HO} (r:Rp K F S H) (h:S a≠none) (q:RepO K (mt (supd S a o) F) (upd H a u) a o):Rp K F (supd S a o) (upd H a u) where
 obj:=fun b ob hb=>by
  by_cases e:b=a
  ·subst e;rw[supd_same] at hb;cases hb;exact q
  ·rw[supd_ne e] at hb;exact(r.obj b ob hb).keep (Ext.write h).kp (upd_ne e)
 frm:=fun b hb=>by
  have e:b≠a:=by rintro rfl;exact h (r.frm b hb).2
  rw[upd_ne e,supd_ne e];exact r.frm b hb
theorem Rp.sn (r:Rp K F S H) {a:Addr} (h:H a=none):S a=none:=by
 cases e:S a with
 | none=>rfl
 | some o=>exact absurd h (r.obj a o e).live
theorem Ext.mk' {a:Addr} {o:DO} {u:HO} (h:H a=none):Ext S H (supd S a o) (upd H a u) where
 keep:=fun b ob h1 h2=>by
  have ne:b≠a:=by rintro rfl;rw[h] at h2;cases h2
  rw[upd_ne ne];exact h2
 live:=fun b hb=>by
  have ne:b≠a:=by rintro rfl;exact hb h
  rw[upd_ne ne];exact hb
 new:=fun b hb=>by
  by_cases e:b=a
  ·subst e;exact .inr h
  ·rw[supd_ne e] at hb;exact .inl hb
theorem Rp.mk' {a:Addr} {o:DO} {u:HO} (r:Rp K F S H) (h:H a=none) (q:RepO K (mt (supd S a o) F) (upd H a u) a o):Rp K F (supd S a o) (upd H a u) where
 obj:=fun b ob hb=>by
  by_cases e:b=a
  ·subst e;rw[supd_same] at hb;cases hb;exact q
  ·rw[supd_ne e] at hb;exact(r.obj b ob hb).keep (Ext.mk' h).kp (upd_ne e)
 frm:=fun b hb=>by
  have e:b≠a:=by
   rintro rfl;obtain⟨⟨zs,e,_⟩,_⟩:=r.frm b hb;rw[h] at e;cases e
  rw[upd_ne e,supd_ne e];exact r.frm b hb
theorem Ext.less {S':Sto} (h:∀ a o,S' a=some o->S a=some o):Ext S H S' H:=⟨fun _ _ _ e=>e,fun _ e=>e,fun a e=>.inl fun z=>by
 cases q:S' a with
 | none=>exact e q
 | some o=>rw[h a o q] at z;cases z⟩
theorem Rp.less {S':Sto} (r:Rp K F S H) (h:∀ a o,S' a=some o->S a=some o):Rp K F S' H where
 obj:=fun a o e=>(r.obj a o (h a o e)).keep (Ext.less h).kp rfl
 frm:=fun a e=>⟨(r.frm a e).1,by
  cases q:S' a with
  | none=>rfl
  | some o=>have:=h a o q;rw[(r.frm a e).2] at this;cases this⟩
end
def look (g:Gm) (i:Nat) (k:D->Prop):Prop:=match i with
 | 0=>match g with
  | some d::_=>k d
  | _=>False
 | n + 1=>match g with
  | _::g=>look g n k
  | []=>False
def RepG (K:Fg) (M:Am) (H:Hp):Gm->St->Prop
 | [],σ=>σ=[]
 | none::g,σ=>∃ v τ,σ=v::τ/\RepG K M H g τ
 | some d::g,σ=>∃ v τ,σ=some v::τ/\RepV K M H d v/\RepG K M H g τ
theorem RepG.keep {K:Fg} {M M':Am} {H H':Hp} (k:Keep M H M' H'):∀ {g:Gm} {σ:St},RepG K M H g σ->RepG K M' H' g σ
 | [],_,h=>h
 | none::g,_,⟨v,τ,e,r⟩=>⟨v,τ,e,RepG.keep k r⟩
 | some d::g,_,⟨v,τ,e,q,r⟩=>⟨v,τ,e,q.keep k,RepG.keep k r⟩
theorem RepG.ext {K:Fg} {F:Am} {S S':Sto} {H H':Hp} {g:Gm} {σ:St} (h:RepG K (mt S F) H g σ) (x:Ext S H S' H'):RepG K (mt S' F) H' g σ:=h.keep x.kp
theorem RepG.look {K:Fg} {M:Am} {H:Hp} {k:D->Prop}:∀ {g:Gm} {σ:St} {i:Nat},RepG K M H g σ->look g i k->∃ v d,σ[i]?=some (some v)/\RepV K M H d v/\k d
 | [],_,0,_,h=>dX h
 | [],_,_ + 1,_,h=>dX h
 | none::_,_,0,_,h=>dX h
 | some d::g,_,0,⟨v,τ,e,q,r⟩,h=>⟨v,d,by rw[e];rfl,q,h⟩
 | some d::g,_,i + 1,⟨v,τ,e,q,r⟩,h=>by
  obtain⟨u,d',e1,h1⟩:=RepG.look (i:=i) r h;exact⟨u,d',by rw[e];simpa using e1,h1⟩
 | none::g,_,i + 1,⟨v,τ,e,r⟩,h=>by
  obtain⟨u,d',e1,h1⟩:=RepG.look (i:=i) r h;exact⟨u,d',by rw[e];simpa using e1,h1⟩
theorem RepG.set {K:Fg} {M:Am} {H:Hp} {d:D} {v:V} (q:RepV K M H d v):∀ {g:Gm} {σ:St} (i:Nat),RepG K M H g σ->RepG K M H (g.set i (some d)) (σ.set i (some v))
 | [],_,_,h=>by cases h;rfl
 | none::g,_,0,⟨w,τ,e,r⟩=>by subst e;exact⟨v,τ,rfl,q,r⟩
 | some _::g,_,0,⟨w,τ,e,_,r⟩=>by subst e;exact⟨v,τ,rfl,q,r⟩
 | none::g,_,i + 1,⟨w,τ,e,r⟩=>by subst e;exact⟨w,_,rfl,RepG.set q i r⟩
 | some _::g,_,i + 1,⟨w,τ,e,z,r⟩=>by subst e;exact⟨w,_,rfl,z,RepG.set q i r⟩
abbrev DK:=D->Sto->Prop
abbrev ED:=Gm->Sto->DK->Prop
abbrev TD:=Gm->Sto->(Bool->Sto->Prop)->Prop
abbrev AD:=Gm->Sto->(List D->Sto->Prop)->Prop
structure EndsD where
 nx:Gm->Sto->Prop
 rt:DK
 bk:Gm->Sto->Prop:=fun _ _=>False
 ct:Gm->Sto->Prop:=fun _ _=>False
abbrev SD:=EndsD->Gm->Sto->Prop
def upE (K:Fg) (t:ED):TE:=fun σ H Q=>∃ F S Γ QD,Rp K F S H/\RepG K (mt S F) H Γ σ/\t Γ S QD/\∀ v d H' S',Ext S H S' H'->Rp K F S' H'->RepV K (mt S' F) H' d v->QD d S'->Q v H'
theorem upE.el {K:Fg} {t:ED} {σ:St} {H:Hp} {Q:VK} {p:Prop} (h:upE K t σ H Q) (k:∀ F S Γ QD,Rp K F S H->RepG K (mt S F) H Γ σ->t Γ S QD->(∀ v d H' S',Ext S H S' H'->Rp K F S' H'->RepV K (mt S' F) H' d v->QD d S'->Q v H')->p):p:=by
 obtain⟨F,S,Γ,QD,h0,h1,h2,h3⟩:=h;exact k F S Γ QD h0 h1 h2 h3
def upT (K:Fg) (t:TD):TT:=fun σ H Q=>∃ F S Γ QD,Rp K F S H/\RepG K (mt S F) H Γ σ/\t Γ S QD/\∀ b H' S',Ext S H S' H'->Rp K F S' H'->QD b S'->Q b H'
theorem upT.el {K:Fg} {t:TD} {σ:St} {H:Hp} {Q:Bool->Hp->Prop} {p:Prop} (h:upT K t σ H Q) (k:∀ F S Γ QD,Rp K F S H->RepG K (mt S F) H Γ σ->t Γ S QD->(∀ b H' S',Ext S H S' H'->Rp K F S' H'->QD b S'->Q b H')->p):p:=by
 obtain⟨F,S,Γ,QD,h0,h1,h2,h3⟩:=h;exact k F S Γ QD h0 h1 h2 h3
def upA (K:Fg) (t:AD):TA:=fun σ H Q=>∃ F S Γ QD,Rp K F S H/\RepG K (mt S F) H Γ σ/\t Γ S QD/\∀ vs ds H' S',Ext S H S' H'->Rp K F S' H'->RepL K (mt S' F) H' ds vs->QD ds S'->Q vs H'
theorem upA.el {K:Fg} {t:AD} {σ:St} {H:Hp} {Q:List V->Hp->Prop} {p:Prop} (h:upA K t σ H Q) (k:∀ F S Γ QD,Rp K F S H->RepG K (mt S F) H Γ σ->t Γ S QD->(∀ vs ds H' S',Ext S H S' H'->Rp K F S' H'->RepL K (mt S' F) H' ds vs->QD ds S'->Q vs H')->p):p:=by
 obtain⟨F,S,Γ,QD,h0,h1,h2,h3⟩:=h;exact k F S Γ QD h0 h1 h2 h3
structure CnS (K:Fg) (F:Am) (S:Sto) (H:Hp) (E:EndsD) (D':Ends):Prop where
 nx:∀ Γ' S' σ' H',Ext S H S' H'->Rp K F S' H'->RepG K (mt S' F) H' Γ' σ'->E.nx Γ' S'->D'.nx σ' H'
 rt:∀ v d H' S',Ext S H S' H'->Rp K F S' H'->RepV K (mt S' F) H' d v->E.rt d S'->D'.rt v H'
 bk:∀ Γ' S' σ' H',Ext S H S' H'->Rp K F S' H'->RepG K (mt S' F) H' Γ' σ'->E.bk Γ' S'->D'.bk σ' H'
 ct:∀ Γ' S' σ' H',Ext S H S' H'->Rp K F S' H'->RepG K (mt S' F) H' Γ' σ'->E.ct Γ' S'->D'.ct σ' H'
theorem CnS.ext {K:Fg} {F:Am} {S S1:Sto} {H H1:Hp} {E:EndsD} {D':Ends} (c:CnS K F S H E D') (x:Ext S H S1 H1):CnS K F S1 H1 E D' :=
 ⟨fun Γ' S' σ' H' y=>c.nx Γ' S' σ' H' (x.trans y),fun v d H' S' y=>c.rt v d H' S' (x.trans y),fun Γ' S' σ' H' y=>c.bk Γ' S' σ' H' (x.trans y),fun Γ' S' σ' H' y=>c.ct Γ' S' σ' H' (x.trans y)⟩
def upS (K:Fg) (t:SD):TS:=fun D' σ H=>∃ F S Γ E,Rp K F S H/\RepG K (mt S F) H Γ σ/\t E Γ S/\CnS K F S H E D'
theorem upS.el {K:Fg} {t:SD} {D':Ends} {σ:St} {H:Hp} {p:Prop} (h:upS K t D' σ H) (k:∀ F S Γ E,Rp K F S H->RepG K (mt S F) H Γ σ->t E Γ S->CnS K F S H E D'->p):p:=by
 obtain⟨F,S,Γ,E,h0,h1,h2,h3⟩:=h;exact k F S Γ E h0 h1 h2 h3
structure PD (K:Fg) (X:Cx) (e:Expr) (t:ED):Prop where
 o:PE X e (upE K t)
structure PTD (K:Fg) (X:Cx) (e:Expr) (t:TD):Prop where
 o:PT X e (upT K t)
structure PAD (K:Fg) (X:Cx) (es:List Expr) (t:AD):Prop where
 o:PA X es (upA K t)
structure PSD (K:Fg) (X:Cx) (st:Stmt) (t:SD):Prop where
 o:PS X st (upS K t)
structure PSsD (K:Fg) (X:Cx) (st:List Stmt) (t:SD):Prop where
 o:PSs X st (upS K t)
section
variable {X:Cx} {K:Fg}
theorem PD.of {e:Expr} {te:TE} {t:ED} (h:PE X e te) (i:∀ σ H Q,upE K t σ H Q->te σ H Q):PD K X e t:=⟨fun pins s σ H Q I q=>h pins s σ H Q I (i σ H Q q)⟩
theorem PTD.of {e:Expr} {te:TT} {t:TD} (h:PT X e te) (i:∀ σ H Q,upT K t σ H Q->te σ H Q):PTD K X e t:=⟨fun pins s σ H Q I q=>h pins s σ H Q I (i σ H Q q)⟩
theorem PAD.of {e:List Expr} {te:TA} {t:AD} (h:PA X e te) (i:∀ σ H Q,upA K t σ H Q->te σ H Q):PAD K X e t:=⟨fun pos pins s σ H Q I q=>h pos pins s σ H Q I (i σ H Q q)⟩
theorem PSD.of {e:Stmt} {te:TS} {t:SD} (h:PS X e te) (i:∀ D' σ H,upS K t D' σ H->te D' σ H):PSD K X e t:=⟨fun pins s σ H D' I q=>h pins s σ H D' I (i D' σ H q)⟩
theorem PSsD.of {e:List Stmt} {te:TS} {t:SD} (h:PSs X e te) (i:∀ D' σ H,upS K t D' σ H->te D' σ H):PSsD K X e t:=⟨fun pins s σ H D' I q=>h pins s σ H D' I (i D' σ H q)⟩
def dVar (i:Nat):ED:=fun Γ S Q=>look Γ i fun d=>Q d S
def dC (d:D):ED:=fun _ S Q=>Q d S
theorem dv (i:Nat) {x:Str} {pos:Pos} (hN:X.N[i]?=some x:=by rfl) (hv:Vis X.env.scope x:=by first | exact a7 rfl | exact gV (a7 rfl) | exact gV (gV rfl)) (hd:(x == ("__debug__" : Str))=false:=by decide)
  (hcd:(x == ("__classdict__" : Str))=false:=by decide):PD K X (.Name x pos) (dVar i):=.of (pe_var hN hv hd hcd) fun σ H Q z0=>z0.el fun F S Γ QD r g h c=>by
 obtain⟨v,d,e,q,z⟩:=g.look h;exact⟨v,e,c v d H S (Ext.refl _ _) r q z⟩
theorem up_c {d:D} {v:V} (h:∀ M H,RepV K M H d v):∀ σ H Q,upE K (dC d) σ H Q->tC v σ H Q:=fun σ H Q z0=>z0.el fun F S Γ QD r g q c=>c v d H S (Ext.refl _ _) r (h _ _) q
theorem e_int {i j pos}:PD K X (.Constant (.int i) j pos) (dC (.int i)):=.of pe_int (up_c fun _ _=>by unfold RepV;rfl)
theorem e_bl {b j pos}:PD K X (.Constant (.bool b) j pos) (dC (.bl b)):=.of pe_bl (up_c fun _ _=>by unfold RepV;rfl)
theorem e_non {j pos}:PD K X (.Constant .none j pos) (dC .non):=.of pe_non (up_c fun _ _=>by unfold RepV;rfl)
theorem e_str {x j pos}:PD K X (.Constant (.str x) j pos) (dC (.str x)):=.of pe_str (up_c fun _ _=>by unfold RepV;rfl)
def Cn (K:Fg) (F:Am) (S:Sto) (H:Hp) (QD:DK) (Q:VK):Prop:=∀ v d H' S',Ext S H S' H'->Rp K F S' H'->RepV K (mt S' F) H' d v->QD d S'->Q v H'
abbrev R2D:=D->D->Sto->DK->Prop
def OpD (K:Fg) (r:R2) (rd:R2D):Prop:=∀ F S H d e x y Q QD,Rp K F S H->RepV K (mt S F) H d x->RepV K (mt S F) H e y->rd d e S QD->Cn K F S H QD Q->r x y H Q
def dOp (rd:R2D) (ta tb:ED):ED:=fun Γ S Q=>ta Γ S fun x S1=>tb Γ S1 fun y S2=>rd x y S2 Q
theorem up_op {r:R2} {rd:R2D} {ta tb:ED} (h:OpD K r rd):∀ σ H Q,upE K (dOp rd ta tb) σ H Q->tOp r (upE K ta) (upE K tb) σ H Q:=fun σ H Q z0=>z0.el fun F S Γ QD r g q c =>
 ⟨F,S,Γ,_,r,g,q,fun x d H1 S1 x1 r1 v1 q1=>⟨F,S1,Γ,_,r1,g.ext x1,q1,fun y e H2 S2 x2 r2 v2 q2=>h F S2 H2 d e x y Q QD r2 (v1.ext x2) v2 q2 fun v z H3 S3 x3=>c v z H3 S3 (x1.trans (x2.trans x3))⟩⟩
theorem e_op {op:Operator} {r:R2} {rd:R2D} {a b:Expr} {ta tb:ED} {pos:Pos} (ho:OpR X (dM op) r) (h:OpD K r rd) (ha:PD K X a ta) (hb:PD K X b tb):PD K X (.BinOp a op b pos) (dOp rd ta tb):=.of (pe_op ho ha.o hb.o) (up_op h)
theorem e_cmp {op:CmpOp} {r:R2} {rd:R2D} {a b:Expr} {ta tb:ED} {pos:Pos} (ho:OpR X (b6 op) r) (h:OpD K r rd) (ha:PD K X a ta) (hb:PD K X b tb) (hm:d8 op b=false):PD K X (.Compare a [op] [b] pos) (dOp rd ta tb):=.of (pe_cmpR ho ha.o hb.o hm) (up_op h)
def dTest (t:ED):TD:=fun Γ S Q=>t Γ S fun d S1=>∃ b,d=.bl b/\Q b S1
theorem up_opT {r:R2} {rd:R2D} {ta tb:ED} (h:OpD K r rd):∀ σ H Q,upT K (dTest (dOp rd ta tb)) σ H Q->tTest (tOp r (upE K ta) (upE K tb)) σ H Q:=fun σ H Q q=>up_op (rd:=rd) h σ H _ (by
 obtain⟨F,S,Γ,QD,r,g,q,c⟩:=q;refine⟨F,S,Γ,_,r,g,q,fun v d H1 S1 x1 r1 v1 ⟨b,e,q1⟩=>?_⟩;subst e;unfold RepV at v1;exact⟨b,v1,c b H1 S1 x1 r1 q1⟩)
theorem dt_cmp {op:CmpOp} {r:R2} {rd:R2D} {a b:Expr} {ta tb:ED} {pos:Pos} (ho:OpR X (b6 op) r) (h:OpD K r rd) (ha:PD K X a ta) (hb:PD K X b tb) (hm:d8 op b=false):PTD K X (.Compare a [op] [b] pos) (dTest (dOp rd ta tb)):=.of (pt_cmpR ho ha.o hb.o hm) (up_opT h)
end
end L2
set_option maxHeartbeats 4000000
namespace L2
open PySem PySem.Spec PyProof.Rows
section
variable {K:Fg} {F:Am} {S:Sto} {H:Hp} {QD:DK} {Q:VK}
theorem Cn.here (c:Cn K F S H QD Q) (r:Rp K F S H) {d:D} {v:V} (h:RepV K (mt S F) H d v) (q:QD d S):Q v H:=c v d H S (Ext.refl _ _) r h q
theorem Cn.int (c:Cn K F S H QD Q) (r:Rp K F S H) {i:Int} (q:QD (.int i) S):Q (.int i) H:=c.here r (by unfold RepV;rfl) q
theorem Cn.str (c:Cn K F S H QD Q) (r:Rp K F S H) {i:Str} (q:QD (.str i) S):Q (.str i) H:=c.here r (by unfold RepV;rfl) q
theorem Cn.bl (c:Cn K F S H QD Q) (r:Rp K F S H) {i:Bool} (q:QD (.bl i) S):Q (.bl i) H:=c.here r (by unfold RepV;rfl) q
theorem Rp.nmt (r:Rp K F S H) {a:Addr} (h:H a=none):¬ mt S F a:=fun z=>by
 rcases z with z | z
 ·exact z (r.sn h)
 ·obtain⟨⟨zs,e,_⟩,_⟩:=r.frm a z;rw[h] at e;cases e
theorem Cn.tup (c:Cn K F S H QD Q) (r:Rp K F S H) {l:Addr} (h:H l=none) {ds:List D} {xs:List V} (rl:RepL K (mt S F) H ds xs) (q:QD (.tup ds) S):Q (.ref l) (upd H l (.tup xs)):=by
 have x:Ext S H S (upd H l (.tup xs)):=Ext.same (same_upd h);refine c _ _ _ S x (r.same (same_upd h)) ?_ q;unfold RepV;exact⟨l,xs,rfl,.inl ⟨r.nmt h,.inl upd_same⟩,rl.ext x⟩
theorem Cn.lst (c:Cn K F S H QD Q) (r:Rp K F S H) {l:Addr} (h:H l=none) {ds:List D} {xs:List V} (rl:RepL K (mt S F) H ds xs) (q:QD (.lst ds) S):Q (.ref l) (upd H l (.lst xs)):=by
 have x:Ext S H S (upd H l (.lst xs)):=Ext.same (same_upd h);refine c _ _ _ S x (r.same (same_upd h)) ?_ q;unfold RepV;exact⟨l,xs,rfl,.inl ⟨r.nmt h,.inl upd_same⟩,rl.ext x⟩
theorem Cn.lstR (c:Cn K F S H QD Q) (r:Rp K F S H) {l:Addr} (h:H l=none) {ds:List D} {xs:List V} (rl:RepL K (mt S F) H ds xs) (q:QD (.ref l) (supd S l (.lst ds))):Q (.ref l) (upd H l (.lst xs)):=by
 have x:Ext S H (supd S l (.lst ds)) (upd H l (.lst xs)):=Ext.mk' h;exact c _ _ _ _ x (r.mk' h ⟨xs,upd_same,rl.ext x⟩) (by unfold RepV;rfl) q
def newL (b:Bool) (ds:List D) (S:Sto) (Q:DK):Prop:=match b with
 | false=>Q (.lst ds) S
 | true=>∀ p,S p=none->Q (.ref p) (supd S p (.lst ds))
theorem Cn.new (c:Cn K F S H QD Q) (r:Rp K F S H) {b:Bool} {l:Addr} (h:H l=none) {ds:List D} {xs:List V} (rl:RepL K (mt S F) H ds xs) (q:newL b ds S QD):Q (.ref l) (upd H l (.lst xs)):=by
 cases b with
 | false=>exact c.lst r h rl q
 | true=>exact c.lstR r h rl (q l (r.sn h))
def lsIs (S:Sto):D->List D->Prop
 | .lst ys,xs=>ys=xs
 | .ref a,xs=>S a=some (.lst xs)
 | _,_=>False
def sqIs (S:Sto):D->List D->Prop
 | .tup ys,xs=>ys=xs
 | .lst ys,xs=>ys=xs
 | .ref a,xs=>S a=some (.lst xs)
 | _,_=>False
theorem lsIs.sl (r:Rp K F S H) {d:D} {v:V} {ds:List D} (h:RepV K (mt S F) H d v) (l:lsIs S d ds):∃ a xs,v=.ref a/\SqL K H a xs/\RepL K (mt S F) H ds xs:=by
 cases d with
 | lst ys =>
  cases l;unfold RepV at h;obtain⟨a,xs,e,q,z⟩:=h;exact⟨a,xs,e,q.sq,z⟩
 | ref a =>
  unfold RepV at h;obtain⟨xs,e,z⟩:=r.obj a _ l;exact⟨a,xs,h,SqL.of e,z⟩
 | _=>exact l.elim
theorem tup.st {ds:List D} {v:V} (h:RepV K (mt S F) H (.tup ds) v):∃ a xs,v=.ref a/\SqT K H a xs/\RepL K (mt S F) H ds xs:=by
 unfold RepV at h;obtain⟨a,xs,e,t,z⟩:=h;exact⟨a,xs,e,t.sq,z⟩
theorem sqIs.sq (r:Rp K F S H) {d:D} {v:V} {ds:List D} (h:RepV K (mt S F) H d v) (l:sqIs S d ds):∃ a xs,v=.ref a/\(SqL K H a xs\/SqT K H a xs)/\RepL K (mt S F) H ds xs:=by
 cases d with
 | tup ys =>
  cases l;obtain⟨a,xs,e,t,z⟩:=tup.st h;exact⟨a,xs,e,.inr t,z⟩
 | lst ys =>
  obtain⟨a,xs,e,t,z⟩:=lsIs.sl r h (show lsIs S (.lst ys) ds from l)
  exact⟨a,xs,e,.inl t,z⟩
 | ref a =>
  obtain⟨a,xs,e,t,z⟩:=lsIs.sl r h (show lsIs S (.ref a) ds from l)
  exact⟨a,xs,e,.inl t,z⟩
 | _=>exact l.elim
theorem rint {i:Int} {v:V} (h:RepV K (mt S F) H (.int i) v):v=.int i:=by unfold RepV at h;exact h
theorem rstr {i:Str} {v:V} (h:RepV K (mt S F) H (.str i) v):v=.str i:=by unfold RepV at h;exact h
theorem rbl {i:Bool} {v:V} (h:RepV K (mt S F) H (.bl i) v):v=.bl i:=by unfold RepV at h;exact h
theorem rref {i:Addr} {v:V} (h:RepV K (mt S F) H (.ref i) v):v=.ref i:=by unfold RepV at h;exact h
theorem rnon {v:V} (h:RepV K (mt S F) H .non v):v=.non:=by unfold RepV at h;exact h
end
section
variable {X:Cx} {K:Fg}
def rCatL (K:Fg):R2:=fun x y H Q=>∃ l b xs zs,x=.ref l/\y=.ref b/\SqL K H l xs/\SqL K H b zs/\xs.length + zs.length<=sizeLine/\∀ p,H p=none->Q (.ref p) (upd H p (.lst (xs++zs)))
theorem op_catL (hK:X.K=K:=by rfl):OpR X (dM .Add) (rCatL K):=by
 subst hK;intro pins s σ H x y v u Q I rx ry h;obtain⟨l,b,xs,zs,rfl,rfl,hH,hB,hz,q⟩:=h;cases rx;cases ry;obtain⟨its,r,⟨⟨cls,dd,data,sl⟩,n,ho,hc,hd,hdt⟩,hz1⟩:=I.list hH;obtain⟨its2,r2,⟨⟨cls2,dd2,data2,sl2⟩,n2,ho2,hc2,hd2,hdt2⟩,hz2⟩:=I.list hB;simp only at hc hd hdt hc2 hd2 hdt2;subst hc hd hdt hc2 hd2 hdt2;have h1:=r.length;have h2:=r2.length;refine jX ⟨_,ho,rfl⟩ ⟨_,ho2,rfl⟩ noFill_list_add seq_list_add PySem.F.slot_list_add PySem.F.entry_list_add (PySem.F.args_list_add_2 _ _)
  (list_addW l b its.toArray its2.toArray n n2 none none sl sl2 (by rw[ak,ak];lia)) ⟨ho,ho2,?_⟩
 have ea:its.toArray++its2.toArray=(its++its2).toArray:=by simp
 rw[ea];exact⟨.ref _,_,I.lnew (t':=s.toks) (r.append r2) (by rw[az];lia),rfl,q _ I.fresh⟩
def rCat0 (K:Fg):R2:=fun x y H Q=>∃ a b ys,x=.ref a/\y=.ref b/\SqT K H a []/\SqT K H b ys/\Q (.ref b) H
theorem op_cat0 (hK:X.K=K:=by rfl):OpR X (dM .Add) (rCat0 K):=by
 subst hK;intro pins s σ H x y v u Q I rx ry h;obtain⟨a,b,ys,rfl,rfl,ha,hb,q⟩:=h;cases rx;cases ry;obtain⟨its,r1,p1,_⟩:=I.tuple ha;obtain⟨its2,r2,p2,_⟩:=I.tuple hb;cases r1;obtain⟨⟨cls,dd,data,sl⟩,ho,hc,n,hd⟩:=id p1;obtain⟨⟨cls2,dd2,data2,sl2⟩,ho2,hc2,n2,hd2⟩:=id p2;simp only at hc hd hc2 hd2;subst hc hd hc2 hd2;exact jX ⟨_,ho,rfl⟩ ⟨_,ho2,rfl⟩ jD seq_tuple_add gJ gD (fY _ _)
   (tuple_addW0 a b _ _ n n2 dd dd2 sl sl2 rfl) ⟨ho,ho2,⟨.ref b,H,I,rfl,q⟩⟩
def addD (b:Bool):R2D:=fun d e S Q=>match d,e with
 | .int i,.int j=>Q (.int (i + j)) S
 | .str x,.str y=>x.length + y.length<=sizeLine/\Q (.str (x++y)) S
 | .tup xs,.tup ys=>xs.length + ys.length<=sizeLine/\Q (.tup (xs++ys)) S
 | d,e=>∃ xs ys,lsIs S d xs/\lsIs S e ys/\xs.length + ys.length<=sizeLine/\newL b (xs++ys) S Q
def rAddA (K:Fg):R2:=fun x y H Q=>rI0 (fun i j=>.int (i + j)) x y H Q\/(∃ i j,x=.str i/\y=.str j/\i.length + j.length<=sizeLine/\Q (.str (i++j)) H)\/rCatT K x y H Q\/rCat0 K x y H Q\/rCatL K x y H Q
theorem op_addA (hK:X.K=K:=by rfl):OpR X (dM .Add) (rAddA K):=op_add.or (op_add_str.or ((op_catTK hK).or ((op_cat0 hK).or (op_catL hK))))
theorem od_add {b:Bool}:OpD K (rAddA K) (addD b):=by
 intro F S H d e x y Q QD r hd he h c;have lists:(∃ xs ys,lsIs S d xs/\lsIs S e ys/\xs.length + ys.length<=sizeLine/\newL b (xs++ys) S QD)->rAddA K x y H Q:=by
  rintro⟨xs,ys,l1,l2,hz,q⟩;obtain⟨a,us,rfl,s1,p1⟩:=lsIs.sl r hd l1;obtain⟨a2,us2,rfl,s2,p2⟩:=lsIs.sl r he l2;exact .inr (.inr (.inr (.inr ⟨a,a2,us,us2,rfl,rfl,s1,s2,by rw[p1.length,p2.length];exact hz,fun p hp=>c.new r hp (p1.app p2) q⟩)))
 cases d with
 | int i =>
  cases e with
  | int j=>rw[rint hd,rint he];exact .inl ⟨i,j,rfl,rfl,c.int r h⟩
  | _=>exact lists h
 | str i =>
  cases e with
  | str j=>rw[rstr hd,rstr he];exact .inr (.inl ⟨i,j,rfl,rfl,h.1,c.str r h.2⟩)
  | _=>exact lists h
 | tup xs =>
  cases e with
  | tup ys =>
   obtain⟨a,us,rfl,s1,p1⟩:=tup.st hd;obtain⟨a2,us2,rfl,s2,p2⟩:=tup.st he
   by_cases hx:xs=[]
   ·subst hx;unfold RepL at p1;subst p1;exact .inr (.inr (.inr (.inl ⟨a,a2,us2,rfl,rfl,s1,s2,c.here r he (by simpa using h.2)⟩)))
   ·refine .inr (.inr (.inl ⟨a,a2,us,us2,rfl,rfl,s1,s2,fun z=>hx ?_,by rw[p1.length,p2.length];exact h.1,fun z=>?_,fun _ p hp=>c.tup r hp (p1.app p2) h.2⟩))
    ·have:=p1.length;rw[z] at this;exact bz this.symm
    ·have h0:ys=[]:=by have:=p2.length;rw[z] at this;exact bz this.symm
     subst h0;exact c.here r hd (by simpa using h.2)
  | _=>exact lists h
 | _=>exact lists h
def iiD (C:Int->Int->Prop) (g:Int->Int->D):R2D:=fun d e S Q=>match d,e with
 | .int i,.int j=>C i j/\Q (g i j) S
 | _,_=>False
theorem od_I {C:Int->Int->Prop} {g:Int->Int->Int}:OpD K (rI C fun i j=>.int (g i j)) (iiD C fun i j=>.int (g i j)):=by
 intro F S H d e x y Q QD r hd he h c;cases d with
 | int i =>
  cases e with
  | int j=>rw[rint hd,rint he];exact⟨i,j,rfl,rfl,h.1,c.int r h.2⟩
  | _=>exact h.elim
 | _=>exact h.elim
def iiD0 (g:Int->Int->D):R2D:=fun d e S Q=>match d,e with
 | .int i,.int j=>Q (g i j) S
 | _,_=>False
theorem od_I0 {g:Int->Int->Int}:OpD K (rI0 fun i j=>.int (g i j)) (iiD0 fun i j=>.int (g i j)):=by
 intro F S H d e x y Q QD r hd he h c;cases d with
 | int i =>
  cases e with
  | int j=>rw[rint hd,rint he];exact⟨i,j,rfl,rfl,c.int r h⟩
  | _=>exact h.elim
 | _=>exact h.elim
theorem od_B0 {g:Int->Int->Bool}:OpD K (rI0 fun i j=>.bl (g i j)) (iiD0 fun i j=>.bl (g i j)):=by
 intro F S H d e x y Q QD r hd he h c;cases d with
 | int i =>
  cases e with
  | int j=>rw[rint hd,rint he];exact⟨i,j,rfl,rfl,c.bl r h⟩
  | _=>exact h.elim
 | _=>exact h.elim
section
variable {a b:Expr} {ta tb:ED} {pos:Pos}
theorem e_add {k:Bool} (ha:PD K X a ta) (hb:PD K X b tb) (hK:X.K=K:=by rfl):PD K X (.BinOp a .Add b pos) (dOp (addD k) ta tb):=e_op (op_addA hK) od_add ha hb
theorem e_sub (ha:PD K X a ta) (hb:PD K X b tb):PD K X (.BinOp a .Sub b pos) (dOp (iiD0 fun i j=>.int (i - j)) ta tb):=e_op op_sub od_I0 ha hb
theorem e_mul (ha:PD K X a ta) (hb:PD K X b tb):PD K X (.BinOp a .Mult b pos) (dOp (iiD CMul fun i j=>.int (i * j)) ta tb):=e_op op_mul od_I ha hb
theorem e_mod (ha:PD K X a ta) (hb:PD K X b tb):PD K X (.BinOp a .Mod b pos) (dOp (iiD (fun _ j=>0 < j) fun i j=>.int (i % j)) ta tb):=e_op op_mod od_I ha hb
theorem e_fdiv (ha:PD K X a ta) (hb:PD K X b tb):PD K X (.BinOp a .FloorDiv b pos) (dOp (iiD CDiv fun i j=>.int (i / j)) ta tb):=e_op op_fdiv od_I ha hb
theorem e_pow (ha:PD K X a ta) (hb:PD K X b tb):PD K X (.BinOp a .Pow b pos) (dOp (iiD CPow fun i j=>.int (i ^ j.toNat)) ta tb):=e_op op_pow od_I ha hb
end
def unD (g:Int->D):D->Sto->DK->Prop:=fun d S Q=>match d with
 | .int i=>Q (g i) S
 | _=>False
def dUn (rd:D->Sto->DK->Prop) (ta:ED):ED:=fun Γ S Q=>ta Γ S fun x S1=>rd x S1 Q
theorem e_neg {a:Expr} {ta:ED} {pos:Pos} (ha:PD K X a ta):PD K X (.UnaryOp .USub a pos) (dUn (unD fun i=>.int (-i)) ta):=.of (pe_un un_neg ha.o) fun σ H Q z0=>z0.el fun F S Γ QD r g q c =>
 ⟨F,S,Γ,_,r,g,q,fun v d H1 S1 x1 r1 v1 q1=>by
  cases d with
  | int i=>rw[rint v1];exact⟨i,rfl,Cn.int (fun v z H3 S3 x3=>c v z H3 S3 (x1.trans x3)) r1 q1⟩
  | _=>exact q1.elim⟩
def dNil:AD:=fun _ S Q=>Q [] S
def dCons (ta:ED) (tr:AD):AD:=fun Γ S Q=>ta Γ S fun x S1=>tr Γ S1 fun xs S2=>Q (x::xs) S2
theorem da_nil:PAD K X [] dNil:=.of pa_nil fun σ H Q z0=>z0.el fun F S Γ QD r g q c=>c [] [] H S (Ext.refl _ _) r RepL.nil q
theorem da_cons {e:Expr} {es:List Expr} {te:ED} {t:AD} (ha:PD K X e te) (hr:PAD K X es t) (hs:am (e::es) X.env=(false,eval e X.env)::am es X.env:=by rfl):PAD K X (e::es) (dCons te t) :=
 .of (pa_cons ha.o hr.o hs) fun σ H Q z0=>z0.el fun F S Γ QD r g q c=>⟨F,S,Γ,_,r,g,q,fun v d H1 S1 x1 r1 v1 q1=>⟨F,S1,Γ,_,r1,g.ext x1,q1,fun vs ds H2 S2 x2 r2 v2 q2=>c (v::vs) (d::ds) H2 S2 (x1.trans x2) r2 (RepL.cons (v1.ext x2) v2) q2⟩⟩
def dTup (t:AD):ED:=fun Γ S Q=>t Γ S fun ds S1=>ds.length<=sizeLine/\Q (.tup ds) S1
def dLst (b:Bool) (t:AD):ED:=fun Γ S Q=>t Γ S fun ds S1=>ds.length<=sizeLine/\newL b ds S1 Q
theorem Cn.shift {F:Am} {S S1:Sto} {H H1:Hp} {QD:DK} {Q:VK} (c:∀ v d H' S',Ext S H S' H'->Rp K F S' H'->RepV K (mt S' F) H' d v->QD d S'->Q v H') (x:Ext S H S1 H1):Cn K F S1 H1 QD Q:=fun v z H3 S3 x3=>c v z H3 S3 (x.trans x3)
theorem e_tup {es:List Expr} {t:AD} {x1 pos} (h:PAD K X es t):PD K X (.Tuple es x1 pos) (dTup t):=.of (pe_tup h.o) fun σ H Q z0=>z0.el fun F S Γ QD r g q c =>
 ⟨F,S,Γ,_,r,g,q,fun vs ds H1 S1 x1 r1 v1 q1=>⟨by rw[v1.length];exact q1.1,fun p hp=>(Cn.shift c x1).tup r1 hp v1 q1.2⟩⟩
theorem e_lst {b:Bool} {es:List Expr} {t:AD} {pos} (h:PAD K X es t):PD K X (.List es pos) (dLst b t):=.of (pe_lst h.o) fun σ H Q z0=>z0.el fun F S Γ QD r g q c =>
 ⟨F,S,Γ,_,r,g,q,fun vs ds H1 S1 x1 r1 v1 q1=>⟨by rw[v1.length];exact q1.1,fun p hp=>(Cn.shift c x1).new r1 hp v1 q1.2⟩⟩
abbrev RCD:=List D->Sto->DK->Prop
def CallD (K:Fg) (r:List V->Hp->VK->Prop) (rd:RCD):Prop:=∀ F S H ds vs Q QD,Rp K F S H->RepL K (mt S F) H ds vs->rd ds S QD->Cn K F S H QD Q->r vs H Q
def dCB (rd:RCD) (t:AD):ED:=fun Γ S Q=>t Γ S fun ds S1=>rd ds S1 Q
theorem up_cb {r:List V->Hp->VK->Prop} {rd:RCD} {t:AD} (h:CallD K r rd):∀ σ H Q,upE K (dCB rd t) σ H Q->tCB r (upA K t) σ H Q:=fun σ H Q z0=>z0.el fun F S Γ QD r g q c =>
 ⟨F,S,Γ,_,r,g,q,fun vs ds H1 S1 x1 r1 v1 q1=>h F S1 H1 ds vs Q QD r1 v1 q1 (Cn.shift c x1)⟩
theorem e_callB {id:String} {r:List V->Hp->VK->Prop} {rd:RCD} {x:Str} {p pos:Pos} {e:Expr} {es:List Expr} {t:AD} (hc:CallR X (.builtin id) r) (h:CallD K r rd) (hg:Gl X x) (hm:X.mg x=none) (hv:cu x=some (.builtin id)) (ha:PAD K X (e::es) t) (hn:x ≠ "__name__":=by decide) (hdb:(x == ("__debug__" : Str))=false:=by decide)
  (he:am (e::es) X.env=(false,eval e X.env)::am es X.env:=by rfl) (hpl:(cy pos (am es X.env)).any (·.1)=false:=by rfl):PD K X (.Call (.Name x p) (e::es) [] pos) (dCB rd t):=.of (pe_callB hc hg hm hv ha.o hn hdb he hpl) (up_cb h)
theorem e_callTy {T:String} {r:List V->Hp->VK->Prop} {rd:RCD} {x:Str} {p pos:Pos} {e:Expr} {es:List Expr} {t:AD} (hc:CallR X (.type T) r) (h:CallD K r rd) (hg:Gl X x) (hm:X.mg x=none) (hv:cu x=some (.type T)) (ha:PAD K X (e::es) t) (hn:x ≠ "__name__":=by decide) (hdb:(x == ("__debug__" : Str))=false:=by decide)
  (he:am (e::es) X.env=(false,eval e X.env)::am es X.env:=by rfl) (hpl:(cy pos (am es X.env)).any (·.1)=false:=by rfl):PD K X (.Call (.Name x p) (e::es) [] pos) (dCB rd t):=.of (pe_callTy hc hg hm hv ha.o hn hdb he hpl) (up_cb h)
end
mutual
def beqD:D->D->Bool
 | .non,.non=>true
 | .bl a,.bl b=>a == b
 | .int a,.int b=>decide (a=b)
 | .str a,.str b=>decide (a=b)
 | .ty a,.ty b=>decide (a=b)
 | .ref a,.ref b=>decide (a=b)
 | .tup a,.tup b=>beqDs a b
 | .lst a,.lst b=>beqDs a b
 | _,_=>false
def beqDs:List D->List D->Bool
 | [],[]=>true
 | a::as,b::bs=>beqD a b && beqDs as bs
 | _,_=>false
end
theorem bqE {α:Type} [BEq α] [LawfulBEq α] {c:α->D} (inj:∀ x y,c x=c y->x=y) (x y:α):(x == y)=true↔c x=c y:=⟨fun h=>congrArg c (beq_iff_eq.mp h),fun h=>beq_iff_eq.mpr (inj x y h)⟩
theorem bdE {α:Type} {c:α->D} (inj:∀ x y,c x=c y->x=y) (x y:α) {d:Decidable (x=y)}:@decide (x=y) d=true↔c x=c y:=⟨fun h=>congrArg c (of_decide_eq_true h),fun h=>decide_eq_true (inj x y h)⟩
theorem bnE {p:Prop} (h:¬ p):false=true↔p:=⟨fun z=>absurd z bR,fun z=>absurd z h⟩
mutual
theorem beqD_eq:∀ {a b:D},beqD a b=true↔a=b
 | .non,b=>by
  cases b with
  | non=>exact⟨fun _=>rfl,fun _=>rfl⟩
  | _=>exact bnE (fun h=>by cases h)
 | .bl x,b=>by
  cases b with
  | bl y=>exact bqE (fun _ _ h=>by injection h) x y
  | _=>exact bnE (fun h=>by cases h)
 | .int x,b=>by
  cases b with
  | int y=>exact bdE (fun _ _ h=>by injection h) x y
  | _=>exact bnE (fun h=>by cases h)
 | .str x,b=>by
  cases b with
  | str y=>exact bdE (fun _ _ h=>by injection h) x y
  | _=>exact bnE (fun h=>by cases h)
 | .ty x,b=>by
  cases b with
  | ty y=>exact bdE (fun _ _ h=>by injection h) x y
  | _=>exact bnE (fun h=>by cases h)
 | .ref x,b=>by
  cases b with
  | ref y=>exact bdE (fun _ _ h=>by injection h) x y
  | _=>exact bnE (fun h=>by cases h)
 | .tup as,b=>by
  cases b with
  | tup bs=>exact beqDs_eq.trans ⟨fun h=>congrArg D.tup h,fun h=>by injection h⟩
  | _=>exact bnE (fun h=>by cases h)
 | .lst as,b=>by
  cases b with
  | lst bs=>exact beqDs_eq.trans ⟨fun h=>congrArg D.lst h,fun h=>by injection h⟩
  | _=>exact bnE (fun h=>by cases h)
theorem beqDs_eq:∀ {a b:List D},beqDs a b=true↔a=b
 | [],b=>by cases b <;> simp[beqDs]
 | a::as,[]=>by simp[beqDs]
 | a::as,b::bs=>by
  simp only[beqDs,aK,List.cons.injEq];rw[beqD_eq,beqDs_eq]
end
instance:DecidableEq D:=fun a b=>decidable_of_iff _ (beqD_eq (a:=a) (b:=b))
def okE:Nat->D->D->Bool
 | _,.int _,.int _=>true
 | _,.str _,.str _=>true
 | _,.bl _,.bl _=>true
 | _,.non,.non=>true
 | _,.non,.int _=>true
 | _,.int _,.non=>true
 | _,.non,.str _=>true
 | _,.str _,.non=>true
 | n + 1,.non,.tup _=>true
 | n + 1,.tup _,.non=>true
 | n + 1,.tup xs,.tup ys=>(xs.zip ys).all fun p=>okE n p.1 p.2
 | n + 1,.lst xs,.lst ys=>(xs.zip ys).all fun p=>okE n p.1 p.2
 | _,_,_=>false
abbrev okEs (n:Nat) (xs ys:List D):Bool:=(xs.zip ys).all fun p=>okE n p.1 p.2
section
variable {X:Cx} {pins:List (Addr × Obj)} {σ:St} {H:Hp} {s:ah} {M:Am}
structure Eq3 (A:aO) (s:ah) (u v:ad) (b:Bool):Prop where
 eq:cG A s u v b
 rc:SeqAt.RcAt A s u v b
 ne:cE A s u v (!b)
theorem dec_tup {xs ys:List D}:decide (D.tup xs=D.tup ys)=decide (xs=ys):=by simp
theorem dec_lst {xs ys:List D}:decide (D.lst xs=D.lst ys)=decide (xs=ys):=by simp
theorem zip_get {xs ys:List D} {j:Nat} {a b:D} (h1:xs[j]?=some a) (h2:ys[j]?=some b):(a,b)∈xs.zip ys:=by
 have h1':j < xs.length:=by
  rcases bP j xs.length with z | z
  ·exact z
  ·rw[bE z] at h1;cases h1
 have h2':j < ys.length:=by
  rcases bP j ys.length with z | z
  ·exact z
  ·rw[bE z] at h2;cases h2
 have e1:xs[j]=a:=by rw[ai h1'] at h1;exact aL h1
 have e2:ys[j]=b:=by rw[ai h2'] at h2;exact aL h2
 have hz:j < (xs.zip ys).length:=by rw[fw];lia
 have:(xs.zip ys)[j]=(a,b):=by rw[List.getElem_zip,e1,e2]
 rw[<- this];exact cf hz
theorem itemsE {n:Nat} {xs ys:List V} {us vs:List ad} {ds es:List D} {A:aO} (p:RepL X.K M H ds xs) (p':RepL X.K M H es ys) (r:Vals xs us) (r':Vals ys vs) (hz:okEs n ds es=true)
  (ih:∀ {d e:D} {x y:V} {u v:ad},RepV X.K M H d x->RepV X.K M H e y->RelV x u->RelV y v->okE n d e=true->Eq3 A s u v (decide (d=e))) :
  ∀ j (h1:j < us.toArray.size) (h2:j < vs.toArray.size),cG A s us.toArray[j] vs.toArray[j] (decide (ds[j]?=es[j]?)):=by
 intro j h1 h2;simp only[ak] at h1 h2;have hx:j < xs.length:=by have:=r.length;lia
 have hy:j < ys.length:=by have:=r'.length;lia
 obtain⟨d,ed,rd⟩:=p.get' (ai hx);obtain⟨e,ee,re⟩:=p'.get' (ai hy);obtain⟨u,eu,ru⟩:=r.get (ai hx);obtain⟨v,ev,rv⟩:=r'.get (ai hy);have eu':us[j]=u:=by rw[ai h1] at eu;exact aL eu
 have ev':vs[j]=v:=by rw[ai h2] at ev;exact aL ev
 have:decide (ds[j]?=es[j]?)=decide (d=e):=by rw[ed,ee];simp
 rw[this];simp only[List.getElem_toArray];rw[eu',ev'];exact(ih rd re ru rv (bq.mp hz _ (zip_get ed ee))).eq
theorem listsE {n:Nat} {a b:Addr} {xs ys:List V} {ds es:List D} {A:aO} (I:Inv X pins σ H s) (q:SqL X.K H a xs) (q':SqL X.K H b ys) (p:RepL X.K M H ds xs) (p':RepL X.K M H es ys) (hz:okEs n ds es=true) (hu:A.units + (n + 1) < bS)
  (ih:∀ {d e:D} {x y:V} {u v:ad},RepV X.K M H d x->RepV X.K M H e y->RelV x u->RelV y v->okE n d e=true->Eq3 A.in1 s u v (decide (d=e))) :
  SeqAt.RcAt A s (.ref a) (.ref b) (decide (ds=es))/\cE A s (.ref a) (.ref b) (!decide (ds=es)):=by
 obtain⟨us,ru,pl,_⟩:=I.list q;obtain⟨vs,rv,pl',_⟩:=I.list q';have l1:=p.length;have l2:=p'.length;have l3:=ru.length;have l4:=rv.length;have it:=itemsE (A:=A.in1) p p' ru rv hz ih
 by_cases hl:ds.length=es.length
 ·have hs:us.toArray.size=vs.toArray.size:=by rw[ak,ak];lia
  have ans:((aD (us.toArray.size)).all fun j=>decide (ds[j]?=es[j]?))=decide (ds=es):=by
   have:=seq_ans ds es us.toArray.size vs.toArray.size (by rw[ak];lia) (by rw[ak];lia)
   rw[hs,Nat.min_self] at this;rw[hs,<- this];simp
  have h1:=SeqAt.RcAt.lists (e:=fun j=>decide (ds[j]?=es[j]?)) pl.isList pl'.isList hs (show A.units < bS by lia) fun j h1 h2=>it j h1 h2
  have h2:=cE.lists (e:=fun j=>decide (ds[j]?=es[j]?)) pl.isList pl'.isList hs (show A.units < bS by lia) fun j h1 h2=>it j h1 h2
  rw[ans] at h1 h2;exact⟨h1,h2⟩
 ·have hs:(us.toArray.size != vs.toArray.size)=true:=by rw[ak,ak];simp;lia
  have hne:ds≠es:=fun e=>hl (by rw[e])
  rw[decide_eq_false hne];exact⟨SeqAt.RcAt.lists_lengths pl.isList pl'.isList hs (by lia),cE.lists_lengths pl.isList pl'.isList hs (by lia)⟩
theorem uniqL {n:Nat} (ih:∀ {d e:D} {v:V},RepV X.K M H d v->RepV X.K M H e v->okE n d e=true->d=e):∀ {ds es:List D} {xs:List V},RepL X.K M H ds xs->RepL X.K M H es xs->okEs n ds es=true->ds=es
 | [],[],_,_,_,_=>rfl
 | [],e::es,xs,p,p',_=>by have h1:=p.length;have h2:=p'.length;rw[h1] at h2;simp at h2
 | d::ds,[],xs,p,p',_=>by have h1:=p.length;have h2:=p'.length;rw[h1] at h2;simp at h2
 | d::ds,e::es,xs,p,p',h=>by
  unfold RepL at p p';obtain⟨v,vs,rfl,r,l⟩:=p;obtain⟨v',vs',e1,r',l'⟩:=p';cases e1;simp only[okEs,cD,jz,aK] at h;rw[ih r r' h.1,uniqL ih l l' h.2]
theorem uniq (I:Inv X pins σ H s):∀ (n:Nat) {d e:D} {v:V},RepV X.K M H d v->RepV X.K M H e v->okE n d e=true->d=e:=by
 intro n
 induction n with
 | zero =>
  intro d e v h h' o;cases d <;> cases e <;> first | rfl | (cases o;done) | (unfold RepV at h h';rw[h] at h';cases h';done) | (unfold RepV at h h';rw[h] at h';cases h';rfl)
 | succ n ih =>
  intro d e v h h' o;cases d <;> cases e <;> first | rfl | (cases o;done) | (unfold RepV at h h';rw[h] at h';cases h';done) | (unfold RepV at h h';rw[h] at h';cases h';rfl) | skip
  ·unfold RepV at h h';obtain⟨a,xs,e1,_⟩:=h';rw[h] at e1;cases e1
  ·unfold RepV at h h';obtain⟨a,xs,e1,_⟩:=h;rw[h'] at e1;cases e1
  ·unfold RepV at h h';obtain⟨a,xs,rfl,t,l⟩:=h;obtain⟨b,ys,e1,t',l'⟩:=h';cases e1
   have:=I.tuple_inj t.sq t'.sq
   subst this;rw[uniqL ih l l' o]
  ·unfold RepV at h h';obtain⟨a,xs,rfl,t,l⟩:=h;obtain⟨b,ys,e1,t',l'⟩:=h';cases e1
   have:=I.list_inj t.sq t'.sq
   subst this;rw[uniqL ih l l' o]
theorem eq3 (I:Inv X pins σ H s):∀ (n:Nat) {A:aO} {d e:D} {x y:V} {u v:ad},A.units + n < bS->RepV X.K M H d x->RepV X.K M H e y->RelV x u->RelV y v->okE n d e=true->Eq3 A s u v (decide (d=e)):=by
 intro n
 induction n with
 | zero =>
  intro A d e x y u v hu h h' r r' o;cases d <;> cases e <;> first | (cases o;done) | skip
  all_goals unfold RepV at h h';subst h;subst h'
  ·cases r;cases r';exact⟨kf _,SeqAt.RcAt.none_none,cE.none_none⟩
  ·cases r;obtain⟨t,rfl⟩:=r';exact⟨cG.none_int _ _,SeqAt.RcAt.none_int _ _,cE.none_int _ _⟩
  ·cases r;obtain⟨t,rfl⟩:=r';exact⟨cG.none_str _ _,SeqAt.RcAt.none_str _ _,cE.none_str _ _⟩
  ·cases r;cases r';rw[show ∀ a b:Bool,decide (D.bl a=D.bl b)=(a == b) from by intro a b;cases a <;> cases b <;> rfl];exact⟨cG.bool_bool _ _,SeqAt.RcAt.bool_bool _ _,cE.bool_bool _ _⟩
  ·obtain⟨t,rfl⟩:=r;cases r';exact⟨cG.int_none _ _,SeqAt.RcAt.int_none _ _,cE.int_none _ _⟩
  ·obtain⟨t,rfl⟩:=r;obtain⟨t',rfl⟩:=r';rw[show ∀ a b:Int,decide (D.int a=D.int b)=(a == b) from by intro a b;rw[beq_dec];simp];exact⟨cG.int_int _ _ _ _,SeqAt.RcAt.int_int _ _ _ _,cE.int_int _ _ _ _⟩
  ·obtain⟨t,rfl⟩:=r;cases r';exact⟨cG.str_none _ _,SeqAt.RcAt.str_none _ _,cE.str_none _ _⟩
  ·obtain⟨t,rfl⟩:=r;obtain⟨t',rfl⟩:=r';rw[show ∀ a b:Str,decide (D.str a=D.str b)=(a == b) from by intro a b;rw[beq_dec];simp];exact⟨jb _ _ _ _,SeqAt.RcAt.str_str _ _ _ _,cE.str_str _ _ _ _⟩
 | succ n ih =>
  intro A d e x y u v hu h h' r r' o;cases d <;> cases e <;> first | (cases o;done) | skip
  ·exact ih (by lia) h h' r r' (by cases n <;> rfl)
  ·exact ih (by lia) h h' r r' (by cases n <;> rfl)
  ·exact ih (by lia) h h' r r' (by cases n <;> rfl)
  ·unfold RepV at h;subst h;cases r;obtain⟨a,xs,rfl,t,l⟩:=(show RepV X.K M H (.tup _) y from h')
   cases r';obtain⟨us,ru,pl,_⟩:=I.tuple t.sq;exact⟨cG.none_tuple pl (by lia),SeqAt.RcAt.none_tuple pl (by lia),cE.none_tuple pl (by lia)⟩
  ·exact ih (by lia) h h' r r' (by cases n <;> rfl)
  ·exact ih (by lia) h h' r r' (by cases n <;> rfl)
  ·exact ih (by lia) h h' r r' (by cases n <;> rfl)
  ·exact ih (by lia) h h' r r' (by cases n <;> rfl)
  ·exact ih (by lia) h h' r r' (by cases n <;> rfl)
  ·unfold RepV at h';subst h';cases r';obtain⟨a,xs,rfl,t,l⟩:=(show RepV X.K M H (.tup _) x from h)
   cases r;obtain⟨us,ru,pl,_⟩:=I.tuple t.sq;exact⟨cG.tuple_none pl (by lia),SeqAt.RcAt.tuple_none pl (by lia),cE.tuple_none pl (by lia)⟩
  ·rename_i ds es;have un:=fun {e:D}=>uniq (e:=e) I (n + 1) h;have h0:=h;have h0':=h';unfold RepV at h h';obtain⟨a,xs,rfl,t,l⟩:=h;obtain⟨b,ys,rfl,t',l'⟩:=h';cases r;cases r';obtain⟨us,ru,pl,_⟩:=I.tuple t.sq;obtain⟨vs,rv,pl',_⟩:=I.tuple t'.sq;have l1:=l.length;have l2:=l'.length;have l3:=ru.length;have l4:=rv.length;have it:=itemsE (A:=A.in1) l l' ru rv o fun q q' z z' o=>ih (show A.units + 1 + n < bS by lia) q q' z z' o
   have ans:=seq_ans ds es us.toArray.size vs.toArray.size (by rw[ak];lia) (by rw[ak];lia)
   have h1:=SeqAt.RcAt.tuples pl pl' (show A.units < bS by lia) it
   have h2:=cE.tuples pl pl' (show A.units < bS by lia) it
   rw[ans] at h1 h2;rw[dec_tup];refine⟨?_,h1,h2⟩
   by_cases hab:a=b
   ·subst hab;have e1:=un h0' o;cases e1;rw[decide_eq_true rfl];exact kf _
   ·exact kK hab h1
  ·have un:=fun {e:D}=>uniq (e:=e) I (n + 1) h;have h0':=h';unfold RepV at h h';obtain⟨a,xs,rfl,t,l⟩:=h;obtain⟨b,ys,rfl,t',l'⟩:=h';cases r;cases r';obtain⟨h1,h2⟩:=listsE (A:=A) (n:=n) I t.sq t'.sq l l' o hu fun q q' z z' o=>ih (show A.units + 1 + n < bS by lia) q q' z z' o
   rw[dec_lst];refine⟨?_,h1,h2⟩
   by_cases hab:a=b
   ·subst hab;have e1:=un h0' o;cases e1;rw[decide_eq_true rfl];exact kf _
   ·exact kK hab h1
def eqD (neg:Bool):R2D:=fun d e S Q=>match d,e with
 | .ref a,e=>∃ xs ys,S a=some (.lst xs)/\lsIs S e ys/\okEs 8 xs ys=true/\Q (.bl (if neg then !decide (xs=ys) else decide (xs=ys))) S
 | .lst xs,.ref a=>∃ ys,S a=some (.lst ys)/\okEs 8 xs ys=true/\Q (.bl (if neg then !decide (xs=ys) else decide (xs=ys))) S
 | d,e=>okE 9 d e=true/\Q (.bl (if neg then !decide (d=e) else decide (d=e))) S
def rEqA (K:Fg) (neg:Bool):R2:=fun x y H Q=>∃ b,(∀ {X:Cx} {pins:List (Addr × Obj)} {σ:St} {s:ah},Inv X pins σ H s->X.K=K->∀ {u v:ad},RelV x u->RelV y v->∀ A:aO,A.units + 9 < bS->SeqAt.RcAt A s u v b/\cE A s u v (!b))/\Q (.bl (if neg then !b else b)) H
theorem op_eqA {K:Fg} (hu:X.A.units + 9 < bS) (hK:X.K=K:=by rfl):OpR X (b6 .Eq) (rEqA K false):=by
 intro pins s σ H x y v u Q I rx ry ⟨b,h,q⟩;exact(h I hK rx ry X.A hu).1 _ _ _ _ ⟨.bl b,H,I,rfl,q⟩
theorem op_neA {K:Fg} (hu:X.A.units + 9 < bS) (hK:X.K=K:=by rfl):OpR X (b6 .NotEq) (rEqA K true):=by
 intro pins s σ H x y v u Q I rx ry ⟨b,h,q⟩;exact(h I hK rx ry X.A hu).2 _ _ _ _ ⟨.bl (!b),H,I,rfl,q⟩
theorem od_eq {K:Fg} {neg:Bool}:OpD K (rEqA K neg) (eqD neg):=by
 intro F S H d e x y Q QD r hd he h c;have lists:∀ {xs ys:List D},lsIs S d xs->lsIs S e ys->okEs 8 xs ys=true->QD (.bl (if neg then !decide (xs=ys) else decide (xs=ys))) S->rEqA K neg x y H Q:=by
  intro xs ys l1 l2 o q;obtain⟨a,us,rfl,s1,p1⟩:=lsIs.sl r hd l1;obtain⟨a2,us2,rfl,s2,p2⟩:=lsIs.sl r he l2;refine⟨_,fun {X pins σ s} I hK u v ru rv A hA=>?_,c.bl r q⟩;subst hK;cases ru;cases rv;exact listsE I s1 s2 p1 p2 o hA fun q q' z z' o=>eq3 I 8 (show A.units + 1 + 8 < bS by lia) q q' z z' o
 have plain:okE 9 d e=true->QD (.bl (if neg then !decide (d=e) else decide (d=e))) S->rEqA K neg x y H Q:=by
  intro o q;refine⟨_,fun {X pins σ s} I hK u v ru rv A hA=>?_,c.bl r q⟩;subst hK
  have:=eq3 I 9 hA hd he ru rv o
  exact⟨this.rc,this.ne⟩
 cases d with
 | ref a=>obtain⟨xs,ys,h1,h2,h3,h4⟩:=h;exact lists h1 h2 h3 h4
 | lst xs =>
  cases e with
  | ref a=>obtain⟨ys,h2,h3,h4⟩:=h;exact lists rfl h2 h3 h4
  | _=>exact plain h.1 h.2
 | _=>exact plain h.1 h.2
mutual
def plain:D->Bool
 | .non=>true
 | .bl _=>true
 | .int _=>true
 | .str _=>true
 | .tup xs=>plains xs
 | _=>false
def plains:List D->Bool
 | []=>true
 | x::xs=>plain x && plains xs
end
mutual
theorem plain_fn (I:Inv X pins σ H s):∀ {d e:D} {v:V},plain d=true->plain e=true->RepV X.K M H d v->RepV X.K M H e v->d=e
 | .tup ds,e,v,p,p',h,h'=>by
  cases e with
  | tup es =>
   unfold RepV at h h';obtain⟨a,xs,rfl,t,l⟩:=h;obtain⟨b,ys,e1,t',l'⟩:=h';cases e1
   have:=I.tuple_inj t.sq t'.sq
   subst this;unfold plain at p p';rw[plains_fn I p p' l l']
  | lst _=>cases p'
  | ref _=>cases p'
  | ty _=>cases p'
  | _ =>
   unfold RepV at h h';obtain⟨a,xs,e1,_⟩:=h;rw[h'] at e1;cases e1
 | .non,e,v,p,p',h,h'=>by
  cases e <;> first | rfl | (cases p';done) | (unfold RepV at h h';rw[h] at h';cases h';done) | (unfold RepV at h h';obtain⟨a,xs,e1,_⟩:=h';rw[h] at e1;cases e1)
 | .bl _,e,v,p,p',h,h'=>by
  cases e <;> first | (cases p';done) | (unfold RepV at h h';rw[h] at h';cases h';done) | (unfold RepV at h h';rw[h] at h';cases h';rfl) | (unfold RepV at h h';obtain⟨a,xs,e1,_⟩:=h';rw[h] at e1;cases e1)
 | .int _,e,v,p,p',h,h'=>by
  cases e <;> first | (cases p';done) | (unfold RepV at h h';rw[h] at h';cases h';done) | (unfold RepV at h h';rw[h] at h';cases h';rfl) | (unfold RepV at h h';obtain⟨a,xs,e1,_⟩:=h';rw[h] at e1;cases e1)
 | .str _,e,v,p,p',h,h'=>by
  cases e <;> first | (cases p';done) | (unfold RepV at h h';rw[h] at h';cases h';done) | (unfold RepV at h h';rw[h] at h';cases h';rfl) | (unfold RepV at h h';obtain⟨a,xs,e1,_⟩:=h';rw[h] at e1;cases e1)
 | .ty _,e,v,p,p',h,h'=>by cases p
 | .ref _,e,v,p,p',h,h'=>by cases p
 | .lst _,e,v,p,p',h,h'=>by cases p
theorem plains_fn (I:Inv X pins σ H s):∀ {ds es:List D} {vs:List V},plains ds=true->plains es=true->RepL X.K M H ds vs->RepL X.K M H es vs->ds=es
 | [],es,vs,p,p',l,l'=>by
  have h1:=l.length;have h2:=l'.length;rw[h1] at h2;exact(bz h2.symm).symm
 | d::ds,[],vs,p,p',l,l'=>by have h1:=l.length;have h2:=l'.length;rw[h1] at h2;simp at h2
 | d::ds,e::es,vs,p,p',l,l'=>by
  unfold RepL at l l';obtain⟨v,vs,rfl,r,l⟩:=l;obtain⟨v',vs',e1,r',l'⟩:=l';cases e1;simp only[plains,aK] at p p';rw[plain_fn I p.1 p'.1 r r',plains_fn I p.2 p'.2 l l']
end
theorem plains_mem:∀ {ds:List D},plains ds=true->∀ d∈ds,plain d=true
 | [],_,d,h=>by cases h
 | x::ds,p,d,h=>by
  simp only[plains,aK] at p;rcases ax.mp h with rfl | h
  ·exact p.1
  ·exact plains_mem p.2 d h
def rInA (K:Fg) (neg:Bool):R2:=fun x y H Q=>∃ p xs b,y=.ref p/\(SqL K H p xs\/SqT K H p xs) /\
 (∀ {X:Cx} {pins:List (Addr × Obj)} {σ:St} {s:ah},Inv X pins σ H s->X.K=K->∀ {v:ad} {us:List ad},RelV x v->Vals xs us->∀ A:aO,A.units + 9 < bS->∃ f:ad->Bool,(∀ u∈us,cG A s u v (f u))/\us.any f=b)/\Q (.bl (if neg then !b else b)) H
theorem op_inA {K:Fg} (hu:X.A.units + 10 < bS) (hK:X.K=K:=by rfl):OpR X (b6 .In) (rInA K false):=by
 intro pins s σ H x y v u Q I rx ry h;obtain⟨p,xs,b,rfl,hq,hf,q⟩:=h;cases ry;rw[<- hK] at hq;rcases hq with hq | hq
 ·obtain⟨its,r,pl,hz⟩:=I.list hq;obtain⟨f,f1,f2⟩:=hf I hK rx r X.A.in1 (show X.A.units + 1 + 9 < bS by lia)
  refine SeqAt.in_listAt f pl.isList (fun w hw=>f1 w (by simpa using hw)) ⟨.bl _,H,I,rfl,?_⟩
  rw[show its.toArray.any f=its.any f by simp,f2]
  exact q
 ·obtain⟨its,r,pl,hz⟩:=I.tuple hq;obtain⟨f,f1,f2⟩:=hf I hK rx r X.A.in1 (show X.A.units + 1 + 9 < bS by lia)
  refine SeqAt.in_tupleAt f pl (fun w hw=>f1 w (by simpa using hw)) ⟨.bl _,H,I,rfl,?_⟩
  rw[show its.toArray.any f=its.any f by simp,f2]
  exact q
theorem op_ninA {K:Fg} (hu:X.A.units + 10 < bS) (hK:X.K=K:=by rfl):OpR X (b6 .NotIn) (rInA K true):=by
 intro pins s σ H x y v u Q I rx ry h;obtain⟨p,xs,b,rfl,hq,hf,q⟩:=h;cases ry;rw[<- hK] at hq;rcases hq with hq | hq
 ·obtain⟨its,r,pl,hz⟩:=I.list hq;obtain⟨f,f1,f2⟩:=hf I hK rx r X.A.in1 (show X.A.units + 1 + 9 < bS by lia)
  refine SeqAt.notIn_listAt f pl.isList (fun w hw=>f1 w (by simpa using hw)) ⟨.bl _,H,I,rfl,?_⟩
  rw[show its.toArray.any f=its.any f by simp,f2]
  exact q
 ·obtain⟨its,r,pl,hz⟩:=I.tuple hq;obtain⟨f,f1,f2⟩:=hf I hK rx r X.A.in1 (show X.A.units + 1 + 9 < bS by lia)
  refine SeqAt.notIn_tupleAt f pl (fun w hw=>f1 w (by simpa using hw)) ⟨.bl _,H,I,rfl,?_⟩
  rw[show its.toArray.any f=its.any f by simp,f2]
  exact q
def inD (neg:Bool):R2D:=fun d e S Q=>∃ xs,sqIs S e xs/\plains xs=true/\(xs.all fun y=>okE 8 y d)=true/\Q (.bl (if neg then !decide (d∈xs) else decide (d∈xs))) S
theorem any_in (I:Inv X pins σ H s) {d:D} {x:V} {v:ad} (rx:RelV x v) (hd:RepV X.K M H d x) {A:aO} (hA:A.units + 9 < bS):∀ {xs:List V} {us:List ad} {ds:List D},RepL X.K M H ds xs->Vals xs us->plains ds=true->(ds.all fun y=>okE 8 y d)=true ->
  ∃ f:ad->Bool,(∀ u∈us,cG A s u v (f u))/\us.any f=decide (d∈ds):=by
 classical
 intro xs us ds l r p o;have key:∀ {y:V} {u:ad} {e:D},e∈ds->RepV X.K M H e y->RelV y u->decide (∃ y e,e∈ds/\RepV X.K M H e y/\RelV y u/\e=d)=decide (e=d):=by
  intro y u e hm he ru
  congr 1
  refine propext ⟨fun⟨y',e',m',h1,h2,h3⟩=>?_,fun h=>⟨y,e,hm,he,ru,h⟩⟩
  have:=h2.inj ru
  subst this;rw[<- h3];exact plain_fn I (plains_mem p e hm) (plains_mem p e' m') he h1
 refine⟨fun u=>decide (∃ y e,e∈ds/\RepV X.K M H e y/\RelV y u/\e=d),?_,?_⟩
 ·intro u hu;obtain⟨i,hi,rfl⟩:=aY hu;have h1:=r.length;have h2:=l.length;obtain⟨e,ee,re⟩:=l.get' (ai (show i < xs.length by lia))
  obtain⟨u',eu,ru⟩:=r.get (ai (show i < xs.length by lia))
  rw[ai hi] at eu;cases eu;have hm:e∈ds:=bL ee;show cG A s us[i] v (decide (∃ y e,e∈ds/\RepV X.K M H e y/\RelV y us[i]/\e=d));rw[key hm re ru];exact(eq3 I 8 (by lia) re hd ru rx (bq.mp o e hm)).eq
 ·have gen:∀ {zs:List V} {ws:List ad} {es:List D},RepL X.K M H es zs->Vals zs ws->(∀ e∈es,e∈ds)->ws.any (fun u=>decide (∃ y e,e∈ds/\RepV X.K M H e y/\RelV y u/\e=d))=decide (d∈es):=by
   intro zs ws es
   induction es generalizing zs ws with
   | nil =>
    intro l r _;unfold RepL at l;subst l;cases r;simp
   | cons e es ih =>
    intro l r hm;unfold RepL at l;obtain⟨z,zs,rfl,r1,l1⟩:=l;cases r with
    | cons q t =>
     rw[List.any_cons,key (hm e ar) r1 q,ih l1 t fun e he=>hm e (au _ he)]
     by_cases h:e=d
     ·simp[h]
     ·have h':¬ d=e:=fun z=>h z.symm;simp[h,h']
  exact gen l r fun _ h=>h
theorem od_in {K:Fg} {neg:Bool}:OpD K (rInA K neg) (inD neg):=by
 intro F S H d e x y Q QD r hd he ⟨ds,hs,p,o,q⟩ c;obtain⟨a,xs,rfl,sq,l⟩:=hs.sq r he;refine⟨a,xs,decide (d∈ds),rfl,sq,fun {X pins σ s} I hK {v us} rx rv A hA=>?_,c.bl r q⟩;subst hK;exact any_in I rx hd hA l rv p o
variable {K:Fg} {a b:Expr} {ta tb:ED} {pos:Pos} {k:Nat}
theorem lt10 {n:Nat} {A:aO} (r:Room k A) (h:n<=64:=by decide):A.units + n < bS:=by have:=r.units;lia
theorem e_eq (hr:Room k X.A) (ha:PD K X a ta) (hb:PD K X b tb) (hK:X.K=K:=by rfl):PD K X (.Compare a [.Eq] [b] pos) (dOp (eqD false) ta tb):=e_cmp (op_eqA (lt10 hr) hK) od_eq ha hb (nomark _)
theorem e_ne (hr:Room k X.A) (ha:PD K X a ta) (hb:PD K X b tb) (hK:X.K=K:=by rfl):PD K X (.Compare a [.NotEq] [b] pos) (dOp (eqD true) ta tb):=e_cmp (op_neA (lt10 hr) hK) od_eq ha hb (nomark _)
theorem dt_eq (hr:Room k X.A) (ha:PD K X a ta) (hb:PD K X b tb) (hK:X.K=K:=by rfl):PTD K X (.Compare a [.Eq] [b] pos) (dTest (dOp (eqD false) ta tb)):=dt_cmp (op_eqA (lt10 hr) hK) od_eq ha hb (nomark _)
theorem dt_ne (hr:Room k X.A) (ha:PD K X a ta) (hb:PD K X b tb) (hK:X.K=K:=by rfl):PTD K X (.Compare a [.NotEq] [b] pos) (dTest (dOp (eqD true) ta tb)):=dt_cmp (op_neA (lt10 hr) hK) od_eq ha hb (nomark _)
theorem e_in (hr:Room k X.A) (ha:PD K X a ta) (hb:PD K X b tb) (hm:d8 .In b=false:=by rfl) (hK:X.K=K:=by rfl):PD K X (.Compare a [.In] [b] pos) (dOp (inD false) ta tb):=e_cmp (op_inA (lt10 hr) hK) od_in ha hb hm
theorem dt_in (hr:Room k X.A) (ha:PD K X a ta) (hb:PD K X b tb) (hm:d8 .In b=false:=by rfl) (hK:X.K=K:=by rfl):PTD K X (.Compare a [.In] [b] pos) (dTest (dOp (inD false) ta tb)):=dt_cmp (op_inA (lt10 hr) hK) od_in ha hb hm
theorem dt_nin (hr:Room k X.A) (ha:PD K X a ta) (hb:PD K X b tb) (hm:d8 .NotIn b=false:=by rfl) (hK:X.K=K:=by rfl):PTD K X (.Compare a [.NotIn] [b] pos) (dTest (dOp (inD true) ta tb)):=dt_cmp (op_ninA (lt10 hr) hK) od_in ha hb hm
end
end L2
namespace HT
open PySem PySem.Spec PyProof.Rows
section
variable {prog:aB} {w:aN} {A:aO} {E:ad->ah->Prop} {s:ah}
theorem tup_slice {t sl : Addr} {items : Array ad} {Q : ad -> ah -> Prop} (ht : iW s.heap t items) (hTs : s.TypeIs (.ref sl) "slice")
    (h : ∀ A, aw (aA prog w) A (fJ (.ref sl) (pure (items.size : Int))) (fun r s' => s' = s /\
      ((r.1 = 0 /\ r.2.1 = 1 /\ r.2.2 = items.size /\ Q (.ref t) s) \/
       (¬ (r.1 == 0 && r.2.1 == 1 && r.2.2 == items.size) = true /\ sizeOk (.seq ((aD r.2.2).filterMap fun(k : Nat) => items[(r.1 + (k : Int) * r.2.1).toNat]?).toArray) /\ Q (.ref s.heap.objs.size) { s with heap := s.heap.push { cls := .type "tuple", data := .seq ((aD r.2.2).filterMap fun(k : Nat) => items[(r.1 + (k : Int) * r.2.1).toNat]?).toArray } }))) E s) :
    aw (aA prog w) A (ik (.ref t) (.ref sl)) Q E s := by
  unfold ik
  try with_reducible refine aW ?_
  first | refine aa (ae ?_) | skip
  refine aa (wpAny_sequenceKey ht.typeIs (by decide) ?_)
  refine aa (b7 (name := aJ "__getitem__") ht.typeIs cr
    (b4 cr ht.typeIs entry_tuple_getitem ?_ (args_tuple_getitem _ _)))
  show aw _ _ (iY (.ref t) >>= _) _ _ s;refine aa (tupleItemsOf_ ht (aa (eQ hTs ?_)));rw [if_pos (by decide)]
  refine aa (cH (h _) (fun r s' ⟨e, q⟩ => ?_) fun _ _ x => x);subst e;obtain⟨lo, st, n⟩ := r;show aw _ _ (if (lo == 0 && st == 1 && n == items.size) = true then _ else _) _ _ _
  rcases q with⟨h1, h2, h3, q⟩ | ⟨hno, hz, q⟩
  · have e1 : lo = 0 := h1
    have e2 : st = 1 := h2;have e3 : n = items.size := h3;rw [if_pos (by rw [e1, e2, e3]; simp)]
    unfold bC.Tuple.tupleIsExact;refine aa (aa (eQ ht.typeIs (ae ?_)));rw [if_pos (by decide)]
    refine aa (dH ?_)
    first
      | exact ae ⟨_, rfl, ae q⟩
      | exact aa (ae ⟨_, rfl, ae q⟩)
      | exact aa (ae (ae ⟨_, rfl, ae q⟩))
  · rw [if_neg hno]
    first
      | exact aa (m := ci _) (bj (ae ⟨_, rfl, ae q⟩) hz)
      | exact aa (m := ci _) (bj (aa (ae (ae ⟨_, rfl, ae q⟩))) hz)
      | exact aa (aa (m := ci _) (bj (ae (ae ⟨_, rfl, ae q⟩)) hz))
      | exact aa (aa (m := ci _) (bj (ae ⟨_, rfl, ae q⟩) hz))
end
end HT
namespace L2
open PySem PySem.Spec PyProof.Rows
section
variable {X:Cx} {K:Fg}
def rSlW (K:Fg):V->Option Int->Option Int->Hp->VK->Prop:=fun x lo hi H Q=>∃ a xs,x=.ref a/\SqT K H a xs/\HT.sIx xs.length 0 lo=0/\HT.sIx xs.length xs.length hi=xs.length/\Q (.ref a) H
theorem sl_tupW (hK:X.K=K:=by rfl):SlR X (rSlW K):=by
 subst hK;intro pins s σ H x v vl vu lo hi sl Q I rx hs pl pu h;obtain⟨a,xs,rfl,hx,h0,hn,q⟩:=h;cases rx;obtain⟨its,r,ht,hz⟩:=I.tuple hx;have hlen:its.toArray.size=xs.length:=by rw[ak];exact r.length.symm
 obtain⟨os,hos,hcs,hds⟩:=id hs;refine⟨"tuple",_,cr.lookup,ht.typeIs,HT.tup_slice ht ⟨os,hos,hcs⟩ fun A=>HT.sliceApplied_gen hs pl pu ⟨rfl,.inl ⟨?_,rfl,?_,.ref a,H,I,rfl,q⟩⟩⟩
 ·show((HT.sIx its.toArray.size 0 lo:Nat):Int)=0;rw[hlen,h0];rfl
 ·show HT.sIx its.toArray.size its.toArray.size hi - HT.sIx its.toArray.size 0 lo=its.toArray.size;rw[hlen,h0,hn];rfl
end
end L2
set_option maxHeartbeats 1000000
namespace L2
open PySem PySem.Spec PyProof.Rows
section
variable {X:Cx} {K:Fg} {a b:Expr} {ta tb:ED} {pos:Pos} {k:Nat}
def ltD:R2D:=fun d e S Q=>match d,e with
 | .int i,.int j=>Q (.bl (decide (i < j))) S
 | .str x,.str y=>Q (.bl (HT.ltS x y)) S
 | .tup xs,.tup ys=>∃ as bs,xs=as.map D.str/\ys=bs.map D.str/\Q (.bl (HT.lexS as bs)) S
 | _,_=>False
def rLtA (K:Fg):R2:=fun x y H Q=>rI0 (fun i j=>.bl (decide (i < j))) x y H Q\/(∃ i j,x=.str i/\y=.str j/\Q (.bl (decide (i.cps.toList < j.cps.toList))) H)\/rLtS K x y H Q
theorem op_ltA (hu:X.A.units < bS) (hK:X.K=K:=by rfl):OpR X (b6 .Lt) (rLtA K):=op_lt.or (op_lt_str.or (op_ltSK hu hK))
theorem repStrs {M:Am} {H:Hp}:∀ {as:List Str} {xs:List V},RepL K M H (as.map D.str) xs->bb (dS H) xs as
 | [],xs,h=>by rw[fq] at h;unfold RepL at h;subst h;exact .nil
 | a::as,xs,h=>by
  rw[bm] at h;unfold RepL at h;obtain⟨v,vs,rfl,r,l⟩:=h;unfold RepV at r;exact .cons r (repStrs l)
theorem strsRep {M:Am} {H:Hp}:∀ {as:List Str} {xs:List V},bb (dS H) xs as->RepL K M H (as.map D.str) xs
 | _,_,.nil=>RepL.nil
 | _,_,.cons r l=>RepL.cons (by unfold RepV;exact r) (strsRep l)
theorem repTupS {S:Sto} {F:Am} {H:Hp} {as:List Str} {v:V} (h:RepV K (mt S F) H (.tup (as.map D.str)) v):dT K dS H v as:=by
 obtain⟨a,xs,rfl,t,l⟩:=tup.st h;exact⟨a,xs,rfl,t,repStrs l⟩
theorem od_lt:OpD K (rLtA K) ltD:=by
 intro F S H d e x y Q QD r hd he h c;cases d with
 | int i =>
  cases e with
  | int j=>rw[rint hd,rint he];exact .inl ⟨i,j,rfl,rfl,c.bl r h⟩
  | _=>exact h.elim
 | str i =>
  cases e with
  | str j=>rw[rstr hd,rstr he];exact .inr (.inl ⟨i,j,rfl,rfl,c.bl r h⟩)
  | _=>exact h.elim
 | tup xs =>
  cases e with
  | tup ys =>
   obtain⟨as,bs,rfl,rfl,q⟩:=h;exact .inr (.inr ⟨as,bs,repTupS hd,repTupS he,c.bl r q⟩)
  | _=>exact h.elim
 | _=>exact h.elim
theorem dt_lt (hr:Room k X.A) (ha:PD K X a ta) (hb:PD K X b tb) (hK:X.K=K:=by rfl):PTD K X (.Compare a [.Lt] [b] pos) (dTest (dOp ltD ta tb)):=dt_cmp (op_ltA hr.units0 hK) od_lt ha hb (nomark _)
abbrev gtD:R2D:=iiD0 fun i j=>.bl (decide (j < i))
abbrev geD:R2D:=iiD0 fun i j=>.bl (decide (j<=i))
theorem dt_gt (hr:Room k X.A) (ha:PD K X a ta) (hb:PD K X b tb):PTD K X (.Compare a [.Gt] [b] pos) (dTest (dOp gtD ta tb)):=dt_cmp op_gt od_B0 ha hb (nomark _)
theorem e_ge (hr:Room k X.A) (ha:PD K X a ta) (hb:PD K X b tb):PD K X (.Compare a [.GtE] [b] pos) (dOp geD ta tb):=e_cmp op_ge od_B0 ha hb (nomark _)
theorem dt_ge (hr:Room k X.A) (ha:PD K X a ta) (hb:PD K X b tb):PTD K X (.Compare a [.GtE] [b] pos) (dTest (dOp geD ta tb)):=dt_cmp op_ge od_B0 ha hb (nomark _)
def isNon:D->Bool
 | .non=>true
 | _=>false
def isD (neg:Bool):R2D:=fun d e S Q=>match d,e with
 | .bl x,.bl y=>Q (.bl (if neg then x != y else x == y)) S
 | d,.non=>Q (.bl (if neg then !isNon d else isNon d)) S
 | _,_=>False
def rIsA (neg:Bool):R2:=fun x y H Q=>(∃ i j,x=.bl i/\y=.bl j/\Q (.bl (if neg then i != j else i == j)) H)\/(y=.non/\Q (.bl (if neg then !decide (x=.non) else decide (x=.non))) H)
theorem op_isntA:OpR X (b6 .IsNot) (rIsA true):=OpR.or (by
 intro pins s σ H x y v u Q I rx ry h;obtain⟨i,j,rfl,rfl,q⟩:=h;cases rx;cases ry;exact isnot_bool ⟨.bl _,H,I,rfl,q⟩) op_notN
theorem isNon_of {M:Am} {H:Hp} {d:D} {x:V} (h:RepV K M H d x):decide (x=.non)=isNon d:=by
 cases d <;> unfold RepV at h <;> first | (rw[h];rfl) | (obtain⟨a,xs,rfl,_⟩:=h;rfl) | skip
theorem od_is {neg:Bool}:OpD K (rIsA neg) (isD neg):=by
 intro F S H d e x y Q QD r hd he h c;have non:e=.non->QD (.bl (if neg then !isNon d else isNon d)) S->rIsA neg x y H Q:=by
  rintro rfl q;rw[rnon he];refine .inr ⟨rfl,?_⟩;rw[isNon_of hd];exact c.bl r q
 cases e with
 | non=>exact non rfl (by cases d <;> exact h)
 | bl j =>
  cases d with
  | bl i=>rw[rbl hd,rbl he];exact .inl ⟨i,j,rfl,rfl,c.bl r h⟩
  | _=>exact h.elim
 | _=>cases d <;> exact h.elim
theorem dt_isnt (hr:Room k X.A) (ha:PD K X a ta) (hb:PD K X b tb):PTD K X (.Compare a [.IsNot] [b] pos) (dTest (dOp (isD true) ta tb)):=dt_cmp op_isntA od_is ha hb (nomark _)
def dAndV (ta tb:ED):ED:=fun Γ S Q=>ta Γ S fun x S1=>∃ c,x=.bl c/\if c=true then tb Γ S1 Q else Q (.bl false) S1
theorem e_one {op} (h:PD K X a ta):PD K X (.BoolOp op [a] pos) ta:=⟨pe_one h.o⟩
theorem e_and {rest:List Expr} (ha:PD K X a ta) (hb:PD K X (.BoolOp .And (b::rest) pos) tb):PD K X (.BoolOp .And (a::b::rest) pos) (dAndV ta tb):=.of (pe_and ha.o hb.o) fun σ H Q z0=>z0.el fun F S Γ QD r g q c =>
 ⟨F,S,Γ,_,r,g,q,fun v d H1 S1 x1 r1 v1 z1=>by
  obtain⟨z,e,q1⟩:=z1;subst e;refine⟨z,rbl v1,?_⟩;cases z with
  | true=>exact⟨F,S1,Γ,QD,r1,g.ext x1,q1,fun v z H3 S3 x3=>c v z H3 S3 (x1.trans x3)⟩
  | false=>exact(Cn.shift c x1).bl r1 q1⟩
structure PWD (K:Fg) (X:Cx) (e:Expr) (t:TD):Prop where
 o:PW X e (upT K t)
def dAnd (t u:TD):TD:=fun Γ S Q=>t Γ S fun c S1=>if c=true then u Γ S1 Q else Q false S1
def dOr (t u:TD):TD:=fun Γ S Q=>t Γ S fun c S1=>if c=true then Q true S1 else u Γ S1 Q
def dNot (t:TD):TD:=fun Γ S Q=>t Γ S fun c S1=>Q (!c) S1
section
variable {tA tB':TD} {rest:List Expr}
theorem PWD.pt {e:Expr} {t:TD} (h:PWD K X e t):PTD K X e t:=⟨PW.pt h.o⟩
theorem PWD.of {e:Expr} {te:TT} {t:TD} (h:PW X e te) (i:∀ σ H Q,upT K t σ H Q->te σ H Q):PWD K X e t:=⟨fun wh pins s σ H Q I q=>h wh pins s σ H Q I (i σ H Q q)⟩
theorem dw_and1 (ha:PTD K X a tA):PWD K X (.BoolOp .And [a] pos) tA:=⟨pw_and1 ha.o⟩
theorem dw_or1 (ha:PTD K X a tA):PWD K X (.BoolOp .Or [a] pos) tA:=⟨pw_or1 ha.o⟩
theorem dw_and (ha:PTD K X a tA) (hb:PWD K X (.BoolOp .And (b::rest) pos) tB'):PWD K X (.BoolOp .And (a::b::rest) pos) (dAnd tA tB'):=.of (pw_and ha.o hb.o) fun σ H Q z0=>z0.el fun F S Γ QD r g q c =>
 ⟨F,S,Γ,_,r,g,q,fun z H1 S1 x1 r1 q1=>by
  cases z with
  | true=>exact⟨F,S1,Γ,QD,r1,g.ext x1,q1,fun z H3 S3 x3=>c z H3 S3 (x1.trans x3)⟩
  | false=>exact c _ _ _ x1 r1 q1⟩
theorem dw_or (ha:PTD K X a tA) (hb:PWD K X (.BoolOp .Or (b::rest) pos) tB'):PWD K X (.BoolOp .Or (a::b::rest) pos) (dOr tA tB'):=.of (pw_or ha.o hb.o) fun σ H Q z0=>z0.el fun F S Γ QD r g q c =>
 ⟨F,S,Γ,_,r,g,q,fun z H1 S1 x1 r1 q1=>by
  cases z with
  | false=>exact⟨F,S1,Γ,QD,r1,g.ext x1,q1,fun z H3 S3 x3=>c z H3 S3 (x1.trans x3)⟩
  | true=>exact c _ _ _ x1 r1 q1⟩
theorem dt_not (ha:PTD K X a tA):PTD K X (.UnaryOp .Not a pos) (dNot tA):=.of (pt_not ha.o) fun σ H Q z0=>z0.el fun F S Γ QD r g q c=>⟨F,S,Γ,_,r,g,q,fun z H1 S1 x1 r1 q1=>c _ _ _ x1 r1 q1⟩
end
def truD (S:Sto) (d:D) (k:Bool->Prop):Prop:=match d with
 | .non=>k false
 | .bl b=>k b
 | .int i=>k (i != 0)
 | .str x=>x.length<=sizeLine/\k ((x.length:Int) != 0)
 | .tup xs=>k (!xs.isEmpty)
 | .lst xs=>k (!xs.isEmpty)
 | .ref a=>∃ xs,S a=some (.lst xs)/\k (!xs.isEmpty)
 | .ty _=>False
def dTru (ta:ED):TD:=fun Γ S Q=>ta Γ S fun d S1=>truD S1 d fun b=>Q b S1
theorem emp_of {M:Am} {H:Hp} {ds:List D} {xs:List V} (l:RepL K M H ds xs):(!xs.isEmpty)=!ds.isEmpty:=by
 have:=l.length
 cases ds <;> cases xs <;> first | rfl | simp at this
theorem dt_tru (ha:PD K X a ta) (he:∀ whole,isTrue a X.env whole=(do let v <- whole;standAt a.pos;gH [v] (truthy v)):=by intro _;rfl) (hK:X.K=K:=by rfl):PTD K X a (dTru ta):=.of (pt_truthK (K:=K) ha.o he hK) fun σ H Q z0=>z0.el fun F S Γ QD r g q c =>
 ⟨F,S,Γ,_,r,g,q,fun v d H1 S1 x1 r1 v1 q1=>by
  cases d with
  | non=>rw[rnon v1];exact⟨false,rfl,c _ _ _ x1 r1 q1⟩
  | bl b=>rw[rbl v1];exact⟨b,rfl,c _ _ _ x1 r1 q1⟩
  | int b=>rw[rint v1];exact⟨_,rfl,c _ _ _ x1 r1 q1⟩
  | str b=>rw[rstr v1];exact⟨_,⟨q1.1,rfl⟩,c _ _ _ x1 r1 q1.2⟩
  | ty b=>exact q1.elim
  | tup xs =>
   obtain⟨p,us,rfl,t,l⟩:=tup.st v1;exact⟨_,.inr (.inl ⟨us,t,rfl⟩),c _ _ _ x1 r1 (by rw[emp_of l];exact q1)⟩
  | lst xs =>
   obtain⟨p,us,rfl,t,l⟩:=lsIs.sl r1 v1 (show lsIs S1 (.lst xs) xs from rfl)
   exact⟨_,.inl ⟨us,t,rfl⟩,c _ _ _ x1 r1 (by rw[emp_of l];exact q1)⟩
  | ref p =>
   obtain⟨xs,e,q1⟩:=q1;obtain⟨p,us,rfl,t,l⟩:=lsIs.sl r1 v1 (show lsIs S1 (.ref p) xs from e)
   exact⟨_,.inl ⟨us,t,rfl⟩,c _ _ _ x1 r1 (by rw[emp_of l];exact q1)⟩⟩
section
variable {e:Expr} {t:AD} {p:Pos}
def lenD:RCD:=fun ds S Q=>match ds with
 | [.str x]=>x.length<=sizeLine/\Q (.int x.length) S
 | [d]=>∃ xs,sqIs S d xs/\Q (.int xs.length) S
 | _=>False
theorem call_lenA (hK:X.K=K:=by rfl):CallR X (.builtin "len") (fun xs H Q=>∃ x n,xs=[x]/\LenV K x H n/\Q (.int n) H):=hK ▸ call_len
theorem cd_len:CallD K (fun xs H Q=>∃ x n,xs=[x]/\LenV K x H n/\Q (.int n) H) lenD:=by
 intro F S H ds vs Q QD r l h c
 match ds,h with
 | [d],h =>
  obtain⟨v,rfl,rv⟩:=l.one;have seq:(∃ xs,sqIs S d xs/\QD (.int xs.length) S)->∃ x n,[v]=[x]/\LenV K x H n/\Q (.int n) H:=by
   rintro⟨xs,h1,q⟩;obtain⟨a,us,rfl,sq,l⟩:=h1.sq r rv;refine⟨_,xs.length,rfl,?_,c.int r q⟩;rcases sq with sq | sq
   ·exact .inl ⟨us,sq,l.length.symm⟩
   ·exact .inr ⟨us,sq,l.length.symm⟩
  cases d with
  | str x=>rw[rstr rv];exact⟨_,x.length,rfl,⟨h.1,rfl⟩,c.int r h.2⟩
  | _=>exact seq h
 | [],h=>exact h.elim
 | d::_::_,h=>cases d <;> exact h.elim
theorem e_len (hg:Gl X "len") (hm:X.mg "len" = none) (ha:PAD K X [e] t) (hK:X.K=K:=by rfl) (he:am [e] X.env=(false,eval e X.env)::am [] X.env:=by rfl) (hpl:(cy pos (am [] X.env)).any (·.1)=false:=by rfl):PD K X (.Call (.Name "len" p) [e] [] pos) (dCB lenD t):=e_callB (call_lenA hK) cd_len hg hm bt_len ha (by decide) (by decide) he hpl
def tupD:RCD:=fun ds S Q=>match ds with
 | [d]=>∃ xs,sqIs S d xs/\Q (.tup xs) S
 | _=>False
theorem cd_tup:CallD K (fun xs H Q=>∃ p ys,xs=[.ref p]/\((SqL K H p ys/\∀ l,H l=none->Q (.ref l) (upd H l (.tup ys)))\/(SqT K H p ys/\Q (.ref p) H))) tupD:=by
 intro F S H ds vs Q QD r l h c
 match ds,h with
 | [d],⟨xs,h1,q⟩ =>
  obtain⟨v,rfl,rv⟩:=l.one;cases d with
  | tup ys =>
   cases h1;obtain⟨a,us,rfl,sq,l⟩:=tup.st rv;exact⟨a,us,rfl,.inr ⟨sq,c.here r rv q⟩⟩
  | lst ys =>
   obtain⟨a,us,rfl,sq,l⟩:=lsIs.sl r rv (show lsIs S (.lst ys) xs from h1)
   exact⟨a,us,rfl,.inl ⟨sq,fun p hp=>c.tup r hp l q⟩⟩
  | ref y =>
   obtain⟨a,us,rfl,sq,l⟩:=lsIs.sl r rv (show lsIs S (.ref y) xs from h1)
   exact⟨a,us,rfl,.inl ⟨sq,fun p hp=>c.tup r hp l q⟩⟩
  | _=>exact h1.elim
theorem e_tuple (hg:Gl X "tuple") (hm:X.mg "tuple" = none) (ha:PAD K X [e] t) (hK:X.K=K:=by rfl) (he:am [e] X.env=(false,eval e X.env)::am [] X.env:=by rfl) (hpl:(cy pos (am [] X.env)).any (·.1)=false:=by rfl):PD K X (.Call (.Name "tuple" p) [e] [] pos) (dCB tupD t):=e_callTy (call_tupleK hK) cd_tup hg hm bt_tuple ha (by decide) (by decide) he hpl
def lstD (b:Bool):RCD:=fun ds S Q=>match ds with
 | [d]=>∃ xs,sqIs S d xs/\newL b xs S Q
 | _=>False
theorem cd_lst {b:Bool}:CallD K (fun xs H Q=>∃ p ys,xs=[.ref p]/\(SqL K H p ys\/SqT K H p ys)/\∀ l,H l=none->Q (.ref l) (upd H l (.lst ys))) (lstD b):=by
 intro F S H ds vs Q QD r l h c
 match ds,h with
 | [d],⟨xs,h1,q⟩ =>
  obtain⟨v,rfl,rv⟩:=l.one;obtain⟨a,us,rfl,sq,l⟩:=h1.sq r rv;exact⟨a,us,rfl,sq,fun p hp=>c.new r hp l q⟩
theorem e_list {b:Bool} (hg:Gl X "list") (hm:X.mg "list" = none) (ha:PAD K X [e] t) (hK:X.K=K:=by rfl) (he:am [e] X.env=(false,eval e X.env)::am [] X.env:=by rfl) (hpl:(cy pos (am [] X.env)).any (·.1)=false:=by rfl):PD K X (.Call (.Name "list" p) [e] [] pos) (dCB (lstD b) t):=e_callTy (call_listK hK) cd_lst hg hm bt_list ha (by decide) (by decide) he hpl
def i2D (g:Int->Int->Int):RCD:=fun ds S Q=>match ds with
 | [.int i,.int j]=>Q (.int (g i j)) S
 | _=>False
theorem cd_i2 {g:Int->Int->Int}:CallD K (fun xs H Q=>∃ i j,xs=[.int i,.int j]/\Q (.int (g i j)) H) (i2D g):=by
 intro F S H ds vs Q QD r l h c
 match ds,h with
 | [.int i,.int j],h =>
  obtain⟨v,w,rfl,rv,rw'⟩:=l.two;rw[rint rv,rint rw'];exact⟨i,j,rfl,c.int r h⟩
theorem e_max {e2:Expr} (hg:Gl X "max") (hm:X.mg "max" = none) (ha:PAD K X [e,e2] t) (hc:X.calm=true:=by rfl) (he:am [e,e2] X.env=(false,eval e X.env)::am [e2] X.env:=by rfl) (hpl:(cy pos (am [e2] X.env)).any (·.1)=false:=by rfl):PD K X (.Call (.Name "max" p) [e,e2] [] pos) (dCB (i2D fun i j=>if j > i then j else i) t):=e_callB (call_max2 hc) cd_i2 hg hm bt_max ha (by decide) (by decide) he hpl
def intD:RCD:=fun ds S Q=>match ds with
 | [.int i]=>Q (.int i) S
 | [.bl k]=>Q (.int (if k then 1 else 0)) S
 | _=>False
theorem e_int1 (hg:Gl X "int") (hm:X.mg "int" = none) (ha:PAD K X [e] t) (he:am [e] X.env=(false,eval e X.env)::am [] X.env:=by rfl) (hpl:(cy pos (am [] X.env)).any (·.1)=false:=by rfl):PD K X (.Call (.Name "int" p) [e] [] pos) (dCB intD t):=e_callTy call_int1 (by
 intro F S H ds vs Q QD r l h c
 match ds,h with
 | [.int i],h=>obtain⟨v,rfl,rv⟩:=l.one;rw[rint rv];exact .inl ⟨i,rfl,c.int r h⟩
 | [.bl i],h=>obtain⟨v,rfl,rv⟩:=l.one;rw[rbl rv];exact .inr ⟨i,rfl,c.int r h⟩) hg hm bt_int ha (by decide) (by decide) he hpl
theorem bools_of {M:Am} {H:Hp}:∀ {bs:List Bool} {xs:List V},RepL K M H (bs.map D.bl) xs->bb (dB H) xs bs
 | [],xs,h=>by rw[fq] at h;unfold RepL at h;subst h;exact .nil
 | a::as,xs,h=>by
  rw[bm] at h;unfold RepL at h;obtain⟨v,vs,rfl,r,l⟩:=h;unfold RepV at r;exact .cons r (bools_of l)
def quD (g:List Bool->Bool):RCD:=fun ds S Q=>match ds with
 | [d]=>∃ bs,lsIs S d (bs.map D.bl)/\Q (.bl (g bs)) S
 | _=>False
theorem cd_qu {g:List Bool->Bool}:CallD K (fun xs H Q=>∃ x bs,xs=[x]/\dL K dB H x bs/\Q (.bl (g bs)) H) (quD g):=by
 intro F S H ds vs Q QD r l h c
 match ds,h with
 | [d],⟨bs,h1,q⟩ =>
  obtain⟨v,rfl,rv⟩:=l.one;obtain⟨a,us,rfl,sq,l⟩:=lsIs.sl r rv h1;exact⟨_,bs,rfl,⟨a,us,rfl,sq,bools_of l⟩,c.bl r q⟩
theorem e_all (hg:Gl X "all") (hm:X.mg "all" = none) (ha:PAD K X [e] t) (hK:X.K=K:=by rfl) (hc:X.calm=true:=by rfl) (he:am [e] X.env=(false,eval e X.env)::am [] X.env:=by rfl) (hpl:(cy pos (am [] X.env)).any (·.1)=false:=by rfl):PD K X (.Call (.Name "all" p) [e] [] pos) (dCB (quD fun bs=>bs.all id) t):=e_callB (call_allK hK hc) cd_qu hg hm bt_all ha (by decide) (by decide) he hpl
theorem e_any (hg:Gl X "any") (hm:X.mg "any" = none) (ha:PAD K X [e] t) (hK:X.K=K:=by rfl) (hc:X.calm=true:=by rfl) (he:am [e] X.env=(false,eval e X.env)::am [] X.env:=by rfl) (hpl:(cy pos (am [] X.env)).any (·.1)=false:=by rfl):PD K X (.Call (.Name "any" p) [e] [] pos) (dCB (quD fun bs=>bs.any id) t):=e_callB (call_anyK hK hc) cd_qu hg hm bt_any ha (by decide) (by decide) he hpl
end
def ixD:R2D:=fun d e S Q=>match d,e with
 | .str z,.int i=>z.length<=sizeLine/\∃ c,atI z.cps.toList i=some c/\Q (.str ⟨#[c]⟩) S
 | d,.int i=>∃ xs v,sqIs S d xs/\atI xs i=some v/\Q v S
 | _,_=>False
theorem repAt {M:Am} {H:Hp} {ds:List D} {xs:List V} (l:RepL K M H ds xs) {i:Int} {d:D} (h:atI ds i=some d):∃ v,atI xs i=some v/\RepV K M H d v:=by
 unfold atI at h ⊢;rw[l.length];cases hi:ixN ds.length i with
 | none=>rw[hi] at h;cases h
 | some j=>rw[hi] at h;exact l.get h
theorem od_ix:OpD K (rIx K) ixD:=by
 intro F S H d e x y Q QD r hd he h c;have seq:∀ i,e=.int i->(∃ xs v,sqIs S d xs/\atI xs i=some v/\QD v S)->rIx K x y H Q:=by
  rintro i rfl ⟨xs,v,h1,h2,q⟩;obtain⟨a,us,rfl,sq,l⟩:=h1.sq r hd;obtain⟨u,e1,ru⟩:=repAt l h2;rw[rint he];rcases sq with sq | sq
  ·exact .inl ⟨a,us,i,u,rfl,rfl,sq,e1,c.here r ru q⟩
  ·exact .inr (.inl ⟨a,us,i,u,rfl,rfl,sq,e1,c.here r ru q⟩)
 cases e with
 | int i =>
  cases d with
  | str z =>
   obtain⟨h1,w,h2,q⟩:=h;rw[rstr hd,rint he];exact .inr (.inr ⟨z,i,w,rfl,rfl,h1,h2,c.str r q⟩)
  | _=>exact seq i rfl h
 | _=>cases d <;> exact h.elim
theorem ix_seqK (hK:X.K=K:=by rfl):IxR X (rIx K):=hK ▸ ix_seq
theorem e_ix (ha:PD K X a ta) (hb:PD K X b tb) (hs:PlainIx b:=by exact fun _ _=>rfl) (hK:X.K=K:=by rfl):PD K X (.Subscript a b pos) (dOp ixD ta tb):=.of (pe_ix (ix_seqK hK) ha.o hb.o hs) (up_op od_ix)
abbrev OD:=Gm->Sto->(Option Int->Sto->Prop)->Prop
def upO (K:Fg) (t:OD):TO:=fun σ H Q=>∃ F S Γ QD,Rp K F S H/\RepG K (mt S F) H Γ σ/\t Γ S QD/\∀ o H' S',Ext S H S' H'->Rp K F S' H'->QD o S'->Q o H'
theorem upO.el {K:Fg} {t:OD} {σ:St} {H:Hp} {Q:Option Int->Hp->Prop} {p:Prop} (h:upO K t σ H Q) (k:∀ F S Γ QD,Rp K F S H->RepG K (mt S F) H Γ σ->t Γ S QD->(∀ o H' S',Ext S H S' H'->Rp K F S' H'->QD o S'->Q o H')->p):p:=by
 obtain⟨F,S,Γ,QD,h0,h1,h2,h3⟩:=h;exact k F S Γ QD h0 h1 h2 h3
structure POD (K:Fg) (X:Cx) (e:Option Expr) (t:OD):Prop where
 o:PO X e (upO K t)
def dNoPart:OD:=fun _ S Q=>Q none S
def dPart (t:ED):OD:=fun Γ S Q=>t Γ S fun d S1=>∃ i,d=.int i/\Q (some i) S1
theorem do_none:POD K X none dNoPart:=⟨fun pins s σ H Q I z0=>z0.el fun F S Γ QD r g q c=>po_none pins s σ H Q I (c none H S (Ext.refl _ _) r q)⟩
theorem do_some (h:PD K X a ta):POD K X (some a) (dPart ta):=⟨fun pins s σ H Q I z0=>z0.el fun F S Γ QD r g q c=>po_some h.o pins s σ H Q I ⟨F,S,Γ,_,r,g,q,fun v d H1 S1 x1 r1 v1 z1=>by
 obtain⟨i,e,q1⟩:=z1;subst e;exact⟨i,rint v1,c _ _ _ x1 r1 q1⟩⟩⟩
def cutD (xs:List D) (lo hi:Option Int):List D:=(xs.drop (HT.sIx xs.length 0 lo)).take (HT.sIx xs.length xs.length hi - HT.sIx xs.length 0 lo)
def slD (b:Bool) (d:D) (lo hi:Option Int) (S:Sto) (Q:DK):Prop:=match d with
 | .str z=>z.length<=1000000/\Q (.str (cutS z lo hi)) S
 | .tup xs=>Q (.tup (cutD xs lo hi)) S
 | d=>∃ xs,lsIs S d xs/\newL b (cutD xs lo hi) S Q
def rSlA (K:Fg):V->Option Int->Option Int->Hp->VK->Prop:=fun x lo hi H Q=>rSlS x lo hi H Q\/rSlT K x lo hi H Q\/rSlW K x lo hi H Q\/rSlL K x lo hi H Q
theorem sl_A (hK:X.K=K:=by rfl):SlR X (rSlA K):=sl_str.or ((sl_tupK hK).or ((sl_tupW hK).or (sl_listK hK)))
theorem cutD_all (xs:List D) {lo hi:Option Int} (h0:HT.sIx xs.length 0 lo=0) (h1:HT.sIx xs.length xs.length hi=xs.length):cutD xs lo hi=xs:=by unfold cutD;rw[h0,h1];simp
theorem repCut {M:Am} {H:Hp} {ds:List D} {xs:List V} (l:RepL K M H ds xs) (lo hi:Option Int):RepL K M H (cutD ds lo hi) (cutV xs lo hi):=by
 unfold cutD cutV;rw[l.length];exact(l.drop _).take _
theorem sd_A {b:Bool}:∀ F S H d x lo hi Q QD,Rp K F S H->RepV K (mt S F) H d x->slD b d lo hi S QD->Cn K F S H QD Q->rSlA K x lo hi H Q:=by
 intro F S H d x lo hi Q QD r hd h c;have lists:(∃ xs,lsIs S d xs/\newL b (cutD xs lo hi) S QD)->rSlA K x lo hi H Q:=by
  rintro⟨xs,l1,q⟩;obtain⟨a,us,rfl,s1,p1⟩:=lsIs.sl r hd l1;exact .inr (.inr (.inr ⟨a,us,rfl,s1,fun p hp=>c.new r hp (repCut p1 lo hi) q⟩))
 cases d with
 | str z=>rw[rstr hd];exact .inl ⟨z,rfl,h.1,c.str r h.2⟩
 | tup xs =>
  obtain⟨a,us,rfl,s1,p1⟩:=tup.st hd
  by_cases hw:HT.sIx us.length 0 lo=0/\HT.sIx us.length us.length hi=us.length
  ·refine .inr (.inr (.inl ⟨a,us,rfl,s1,hw.1,hw.2,c.here r hd ?_⟩));rw[p1.length] at hw;have h':QD (.tup (cutD xs lo hi)) S:=h;rwa [cutD_all xs hw.1 hw.2] at h'
  ·exact .inr (.inl ⟨a,us,rfl,s1,hw,fun p hp=>c.tup r hp (repCut p1 lo hi) h⟩)
 | _=>exact lists h
def dSl (b:Bool) (te:ED) (tl th:OD):ED:=fun Γ S Q=>te Γ S fun d S1=>tl Γ S1 fun lo S2=>th Γ S2 fun hi S3=>slD b d lo hi S3 Q
theorem e_sl {b:Bool} {e:Expr} {te:ED} {lo hi:Option Expr} {tl th:OD} {p2 pos:Pos} (he:PD K X e te) (hl:POD K X lo tl) (hu:POD K X hi th) (hK:X.K=K:=by rfl):PD K X (.Subscript e (.Slice lo hi none p2) pos) (dSl b te tl th):=.of (pe_slice (sl_A hK) he.o hl.o hu.o) fun σ H Q z0=>z0.el fun F S Γ QD r g q c =>
 ⟨F,S,Γ,_,r,g,q,fun v d H1 S1 x1 r1 v1 q1=>⟨F,S1,Γ,_,r1,g.ext x1,q1,fun l H2 S2 x2 r2 q2=>⟨F,S2,Γ,_,r2,g.ext (x1.trans x2),q2,fun u H3 S3 x3 r3 q3=>sd_A F S3 H3 d v l u Q QD r3 (v1.ext (x2.trans x3)) q3 (Cn.shift c (x1.trans (x2.trans x3)))⟩⟩⟩
end
end L2
set_option maxHeartbeats 4000000
namespace L2
open PySem PySem.Spec PyProof.Rows
section
variable {X:Cx} {K:Fg} {a b:Expr} {ta tb:ED} {pos:Pos} {k:Nat}
abbrev GD:=D->Gm->Sto->(Gm->Sto->Prop)->Prop
abbrev GsD:=List D->Gm->Sto->(Gm->Sto->Prop)->Prop
def upG (K:Fg) (t:GD):TG:=fun v σ H Q=>∃ F S Γ d QD,Rp K F S H/\RepG K (mt S F) H Γ σ/\RepV K (mt S F) H d v/\t d Γ S QD/\∀ Γ' S' σ' H',Ext S H S' H'->Rp K F S' H'->RepG K (mt S' F) H' Γ' σ'->QD Γ' S'->Q σ' H'
theorem upG.el {K:Fg} {t:GD} {v:V} {σ:St} {H:Hp} {Q:St->Hp->Prop} {p:Prop} (h:upG K t v σ H Q) (k:∀ F S Γ d QD,Rp K F S H->RepG K (mt S F) H Γ σ->RepV K (mt S F) H d v->t d Γ S QD->(∀ Γ' S' σ' H',Ext S H S' H'->Rp K F S' H'->RepG K (mt S' F) H' Γ' σ'->QD Γ' S'->Q σ' H')->p):p:=by
 obtain⟨F,S,Γ,d,QD,h0,h1,h2,h3,h4⟩:=h;exact k F S Γ d QD h0 h1 h2 h3 h4
def upGs (K:Fg) (t:GsD):TGs:=fun vs σ H Q=>∃ F S Γ ds QD,Rp K F S H/\RepG K (mt S F) H Γ σ/\RepL K (mt S F) H ds vs/\t ds Γ S QD/\∀ Γ' S' σ' H',Ext S H S' H'->Rp K F S' H'->RepG K (mt S' F) H' Γ' σ'->QD Γ' S'->Q σ' H'
theorem upGs.el {K:Fg} {t:GsD} {vs:List V} {σ:St} {H:Hp} {Q:St->Hp->Prop} {p:Prop} (h:upGs K t vs σ H Q) (k:∀ F S Γ ds QD,Rp K F S H->RepG K (mt S F) H Γ σ->RepL K (mt S F) H ds vs->t ds Γ S QD->(∀ Γ' S' σ' H',Ext S H S' H'->Rp K F S' H'->RepG K (mt S' F) H' Γ' σ'->QD Γ' S'->Q σ' H')->p):p:=by
 obtain⟨F,S,Γ,ds,QD,h0,h1,h2,h3,h4⟩:=h;exact k F S Γ ds QD h0 h1 h2 h3 h4
structure PGD (K:Fg) (X:Cx) (e:Expr) (t:GD):Prop where
 o:PG X e (upG K t)
structure PGsD (K:Fg) (X:Cx) (es:List Expr) (t:GsD):Prop where
 o:PGs X es (upGs K t)
theorem PGD.of {e:Expr} {te:TG} {t:GD} (h:PG X e te) (i:∀ v σ H Q,upG K t v σ H Q->te v σ H Q):PGD K X e t:=⟨fun pins s σ H v u Q I r q=>h pins s σ H v u Q I r (i v σ H Q q)⟩
theorem PGsD.of {e:List Expr} {te:TGs} {t:GsD} (h:PGs X e te) (i:∀ v σ H Q,upGs K t v σ H Q->te v σ H Q):PGsD K X e t:=⟨fun pins s σ H v u Q I r q=>h pins s σ H v u Q I r (i v σ H Q q)⟩
def gdName (i:Nat):GD:=fun d Γ S Q=>Q (Γ.set i (some d)) S
theorem dg_name {i:Nat} {x:Str} (hN:X.N.Nodup) (hi:X.N[i]?=some x) (hx:Loc X.env.scope x) (hf:X.fn x=true\/X.env.scope.names.lookup x=some .local:=by first | exact .inl rfl | exact .inr rfl | assumption):PGD K X (.Name x pos) (gdName i) :=
 .of (pg_name hN hi hx hf) fun v σ H Q z0=>z0.el fun F S Γ d QD r g rv q c=>c _ S _ H (Ext.refl _ _) r (g.set rv i) q
def gdNil:GsD:=fun ds Γ S Q=>ds=[]/\Q Γ S
def gdCons (t:GD) (u:GsD):GsD:=fun ds Γ S Q=>match ds with
 | []=>False
 | d::r=>t d Γ S fun Γ' S'=>u r Γ' S' Q
def gdTup (n:Nat) (t:GsD):GD:=fun d Γ S Q=>match d with
 | .tup ds=>ds.length=n/\t ds Γ S Q
 | _=>False
theorem dgs_nil:PGsD K X [] gdNil:=.of pgs_nil fun v σ H Q z1=>by
 obtain⟨F,S,Γ,ds,QD,r,g,l,⟨e,q⟩,c⟩:=z1;subst e;unfold RepL at l;exact⟨l,c _ S _ H (Ext.refl _ _) r g q⟩
theorem dgs_cons {e:Expr} {es:List Expr} {t:GD} {u:GsD} (h1:PGD K X e t) (h2:PGsD K X es u) (ha:(eU (e::es) X.env).map (·.2)=assign e X.env::(eU es X.env).map (·.2):=by rfl):PGsD K X (e::es) (gdCons t u) :=
 .of (pgs_cons h1.o h2.o ha) fun vs σ H Q z0=>z0.el fun F S Γ ds QD r g l q c=>by
  cases ds with
  | nil=>exact q.elim
  | cons d ds =>
   unfold RepL at l;obtain⟨v,vs,rfl,rv,l⟩:=l;exact⟨v,vs,rfl,F,S,Γ,d,_,r,g,rv,q,fun Γ1 S1 σ1 H1 x1 r1 g1 q1=>⟨F,S1,Γ1,ds,_,r1,g1,l.ext x1,q1,fun Γ2 S2 σ2 H2 x2=>c Γ2 S2 σ2 H2 (x1.trans x2)⟩⟩
theorem dg_tup {es:List Expr} {kk:Nat} {t:GsD} {n:Nat} (hc:X.calm=true) (h:PGsD K X es t) (hK:X.K=K:=by rfl)
  (hn:(eU es X.env).length=n:=by rfl) (hst:(eU es X.env).findIdx? (·.1)=none:=by rfl):PGD K X (.Tuple es kk pos) (gdTup n t) :=
 .of (pg_tup hc h.o hn hst) fun v σ H Q z0=>z0.el fun F S Γ d QD r g rv q c=>by
  cases d with
  | tup ds =>
   obtain⟨p,us,rfl,sq,l⟩:=tup.st rv;exact⟨p,us,rfl,by rw[hK];exact sq,by rw[l.length];exact q.1,F,S,Γ,ds,_,r,g,l,q.2,c⟩
  | _=>exact q.elim
def setD (o i v:D) (S:Sto) (Q:Sto->Prop):Prop:=match o,i with
 | .ref p,.int k=>∃ xs j,S p=some (.lst xs)/\ixN xs.length k=some j/\Q (supd S p (.lst (xs.set j v)))
 | _,_=>False
def gdSub (to ti:ED):GD:=fun v Γ S Q=>to Γ S fun o S1=>ti Γ S1 fun i S2=>setD o i v S2 fun S3=>Q Γ S3
theorem dg_sub {o i:Expr} {to ti:ED} (ho:PD K X o to) (hi:PD K X i ti)
  (ha:∀ v,assign (.Subscript o i pos) X.env v=(do
   let ov <- gH [v] (eval o X.env)
   let iv <- gH [v,ov] (eval i X.env)
   standAt pos
   gH [v,ov,iv] (setItem ov iv v)
   release [v,ov,iv] []):=by intro _;rfl):PGD K X (.Subscript o i pos) (gdSub to ti) :=
 .of (pg_sub ho.o hi.o set_list ha) fun v σ H Q z0=>z0.el fun F S Γ d QD r g rv q c =>
  ⟨F,S,Γ,_,r,g,q,fun ov od H1 S1 x1 r1 v1 q1=>⟨F,S1,Γ,_,r1,g.ext x1,q1,fun iv id H2 S2 x2 r2 v2 q2=>by
   have v1':=v1.ext x2;cases od with
   | ref p =>
    cases id with
    | int kk =>
     obtain⟨xs,j,hS,hj,q3⟩:=q2;obtain⟨us,hH,l⟩:=r2.obj p _ hS;rw[rref v1',rint v2];have hS':S2 p≠none:=by rw[hS];exact fun z=>by cases z
     have x3:Ext S2 H2 (supd S2 p (.lst (xs.set j d))) (upd H2 p (.lst (us.set j v))):=Ext.write hS';refine⟨p,us,kk,j,rfl,rfl,hH,by rw[l.length];exact hj,?_⟩
     refine c Γ _ σ _ (x1.trans (x2.trans x3)) (r2.write hS' ⟨_,upd_same,?_⟩) (g.ext (x1.trans (x2.trans x3))) q3;exact RepL.set (rv.ext (x1.trans (x2.trans x3))) j (l.ext x3)
    | _=>exact q2.elim
   | _=>exact q2.elim⟩⟩
def dNext:SD:=fun E Γ S=>E.nx Γ S
def dSeq (t u:SD):SD:=fun E Γ S=>t { E with nx:=u E } Γ S
def dAsg (te:ED) (g:GD):SD:=fun E Γ S=>te Γ S fun d S1=>g d Γ S1 E.nx
def dDrop (te:ED):SD:=fun E Γ S=>te Γ S fun _ S1=>E.nx Γ S1
def dRet (te:ED):SD:=fun E Γ S=>te Γ S E.rt
def dIfS (c:TD) (t u:SD):SD:=fun E Γ S=>c Γ S fun b S1=>if b=true then t E Γ S1 else u E Γ S1
section
variable {st:Stmt} {rest:List Stmt} {t u:SD}
theorem dss_nil:PSsD K X [] dNext:=.of pss_nil fun D' σ H z0=>z0.el fun F S Γ E r g q c=>c.nx Γ S σ H (Ext.refl _ _) r g q
theorem dss_cons (h1:PSD K X st t) (h2:PSsD K X rest u):PSsD K X (st::rest) (dSeq t u):=.of (pss_cons h1.o h2.o) fun D' σ H z0=>z0.el fun F S Γ E r g q c =>
 ⟨F,S,Γ,{ E with nx:=u E },r,g,q,fun Γ1 S1 σ1 H1 x1 r1 g1 q1=>⟨F,S1,Γ1,E,r1,g1,q1,c.ext x1⟩,c.rt,c.bk,c.ct⟩
theorem dss_one (h1:PSD K X st t):PSsD K X [st] t:=⟨pss_one h1.o⟩
theorem ds_asg {tg e:Expr} {te:ED} {g:GD} (he:PD K X e te) (hg:PGD K X tg g) (hs:swapsWithSole [tg] e pos.line X.env=pure false:=by rfl) (hw:swappedStores [tg] e X.env=pure none:=by rfl)
  (h1:(eU [tg] X.env).map (·.2)=[assign tg X.env]:=by rfl):PSD K X (.Assign [tg] e pos) (dAsg te g):=.of (ps_asg he.o hg.o hs hw h1) fun D' σ H z0=>z0.el fun F S Γ E r g q c =>
 ⟨F,S,Γ,_,r,g,q,fun v d H1 S1 x1 r1 v1 q1=>⟨F,S1,Γ,d,_,r1,g.ext x1,v1,q1,fun Γ2 S2 σ2 H2 x2=>c.nx Γ2 S2 σ2 H2 (x1.trans x2)⟩⟩
theorem up_set {te:ED} {i:Nat}:∀ D' σ H,upS K (dAsg te (gdName i)) D' σ H->tAsg (upE K te) (gName i) D' σ H:=fun D' σ H z0=>z0.el fun F S Γ E r g q c =>
 ⟨F,S,Γ,_,r,g,q,fun v d H1 S1 x1 r1 v1 q1=>c.nx _ S1 _ H1 x1 r1 ((g.ext x1).set v1 i) q1⟩
theorem ds_set {i:Nat} {x:Str} {e:Expr} {te:ED} {pos':Pos} (hN:X.N.Nodup) (hi:X.N[i]?=some x) (hx:Loc X.env.scope x) (he:PD K X e te) (hs:jC e (some (.Name x pos')) pos.line X.env=pure false:=by rfl) (hf:X.fn x=true\/X.env.scope.names.lookup x=some .local:=by first | exact .inl rfl | exact .inr rfl | assumption) :
  PSD K X (.Assign [.Name x pos'] e pos) (dAsg te (gdName i)):=.of (ps_set hN hi hx he.o hs hf) up_set
theorem ds_expr {e:Expr} {te:ED} (he:PD K X e te) (hs:jC e none pos.line X.env=pure false:=by rfl):PSD K X (.Expr e pos) (dDrop te):=.of (ps_expr he.o hs) fun D' σ H z0=>z0.el fun F S Γ E r g q c =>
 ⟨F,S,Γ,_,r,g,q,fun v d H1 S1 x1 r1 v1 q1=>c.nx Γ S1 σ H1 x1 r1 (g.ext x1) q1⟩
theorem ds_ret {e:Expr} {te:ED} (he:PD K X e te):PSD K X (.Return (some e) pos) (dRet te):=.of (ps_ret he.o) fun D' σ H z0=>z0.el fun F S Γ E r g q c =>
 ⟨F,S,Γ,_,r,g,q,fun v d H1 S1 x1 r1 v1 q1=>c.rt v d H1 S1 x1 r1 v1 q1⟩
theorem ds_if {c:Expr} {sa sb:List Stmt} {tc:TD} (hc:PTD K X c tc) (ha:PSsD K X sa t) (hb:PSsD K X sb u):PSD K X (.If c sa sb pos) (dIfS tc t u):=.of (ps_if hc.o ha.o hb.o) fun D' σ H z0=>z0.el fun F S Γ E r g q c =>
 ⟨F,S,Γ,_,r,g,q,fun z H1 S1 x1 r1 q1=>by
  cases z with
  | true=>exact⟨F,S1,Γ,E,r1,g.ext x1,q1,c.ext x1⟩
  | false=>exact⟨F,S1,Γ,E,r1,g.ext x1,q1,c.ext x1⟩⟩
end
def FE (F:Am) (H:Hp) (F2:Am):Prop:=∀ a,F2 a->F a\/H a=none
theorem FE.refl (F:Am) (H:Hp):FE F H F:=fun _ h=>.inl h
structure ExtW (F:Am) (S:Sto) (H:Hp) (S':Sto) (H':Hp):Prop where
 keep:∀ a o,¬ mt S F a->H a=some o->H' a=some o
 new:∀ a,S' a≠none->S a≠none\/H a=none
theorem Ext.w {F:Am} {S S':Sto} {H H':Hp} (x:Ext S H S' H'):ExtW F S H S' H':=⟨fun a o h e=>x.keep a o (bc fun n=>h (.inl n)) e,x.new⟩
theorem ExtW.kpF {F F2:Am} {S S':Sto} {H H':Hp} (x:ExtW F S H S' H') (f:FE F H F2):Keep (mt S F) H (mt S' F2) H':=⟨x.keep,fun a h e=>fun z=>by
 rcases z with z | z
 ·rcases x.new a z with y | y
  ·exact h (.inl y)
  ·exact e y
 ·rcases f a z with y | y
  ·exact h (.inr y)
  ·exact e y⟩
structure ItOk (K:Fg) (F:Am) (S:Sto) (H:Hp) (J:It) (xs:List D) (G:Sto->Prop):Prop where
 go:∀ F2,FE F H F2->∀ S2 H2,ExtW F S H S2 H2->Rp K F2 S2 H2->G S2->∀ i d,xs[i]?=some d->J.go i H2/\∀ x H3,J.yld i H2 x H3->Ext S2 H2 S2 H3/\Rp K F2 S2 H3/\RepV K (mt S2 F2) H3 d x
 stop:∀ F2,FE F H F2->∀ S2 H2,ExtW F S H S2 H2->Rp K F2 S2 H2->G S2->J.stop xs.length H2
abbrev IDk:=List D->(Sto->Prop)->Sto->Prop
abbrev ID:=Gm->Sto->IDk->Prop
def upI (K:Fg) (t:ID):TI:=fun σ H R=>∃ F S Γ QD,Rp K F S H/\RepG K (mt S F) H Γ σ/\t Γ S QD/\∀ J xs G H' S',Ext S H S' H'->Rp K F S' H'->ItOk K F S' H' J xs G->QD xs G S'->R J H'
theorem upI.el {K:Fg} {t:ID} {σ:St} {H:Hp} {R:It->Hp->Prop} {p:Prop} (h:upI K t σ H R) (k:∀ F S Γ QD,Rp K F S H->RepG K (mt S F) H Γ σ->t Γ S QD->(∀ J xs G H' S',Ext S H S' H'->Rp K F S' H'->ItOk K F S' H' J xs G->QD xs G S'->R J H')->p):p:=by
 obtain⟨F,S,Γ,QD,h0,h1,h2,h3⟩:=h;exact k F S Γ QD h0 h1 h2 h3
structure PID (K:Fg) (X:Cx) (tg e:Expr) (t:ID):Prop where
 o:PI X tg e (upI K t)
theorem PID.of {tg e:Expr} {te:TI} {t:ID} (h:PI X tg e te) (i:∀ σ H Q,upI K t σ H Q->te σ H Q):PID K X tg e t:=⟨fun pins s σ H Q I q=>h pins s σ H Q I (i σ H Q q)⟩
def iSq (K:Fg) (tl:TE):TI:=fun σ H R=>tl σ H fun x H1=>(∃ a,x=.ref a/\(∃ xs,SqL K H1 a xs)/\R (Itl K a) H1)\/∃ a,x=.ref a/\(∃ xs,SqT K H1 a xs)/\R (Itt K a) H1
theorem pi_sq {tg l:Expr} {tl:TE} (hl:PE X l tl) (hK:X.K=K:=by rfl):PI X tg l (iSq K tl):=by
 subst hK;intro pins s σ H R I h;refine thn (hl pins s σ H _ I h) fun v s1 ⟨x,H1,I1,r1,q1⟩=>?_;have fp:∀ b∈[s1.heap.objs.size],FpOk X pins H1 b:=fun b hb=>by
  have e:b=s1.heap.objs.size:=by simpa using hb
  subst e;exact I1.fpOk (aj _) (I1.hok.fresh (aj _))
 rcases q1 with⟨a,e,⟨xs,hq⟩,q⟩ | ⟨a,e,⟨xs,hq⟩,q⟩
 ·subst e;cases r1;obtain⟨its,rv,p,hz⟩:=I1.list hq;exact gQ p.isList ⟨s1.heap.objs.size,[s1.heap.objs.size],_,_,H1,rfl,I1.kept (t':=s1.toks) fun b o e=>af _ e,turn_list a _,⟨_,ao _ rfl,rfl,rfl⟩,fp,q⟩
 ·subst e;cases r1;obtain⟨its,rv,p,hz⟩:=I1.tuple hq;exact eE (show s1.heap.IsTuple a its.toArray from p) ⟨s1.heap.objs.size,[s1.heap.objs.size],_,_,H1,rfl,I1.kept (t':=s1.toks) fun b o e=>af _ e,turn_tuple a _,⟨_,ao _ rfl,rfl,rfl⟩,fp,q⟩
def guard (d:D) (xs:List D):Sto->Prop:=match d with
 | .ref a=>fun S=>S a=some (.lst xs)
 | _=>fun _=>True
def dSq (te:ED):ID:=fun Γ S Q=>te Γ S fun d S1=>∃ xs,sqIs S1 d xs/\Q xs (guard d xs) S1
theorem itk_tup {F:Am} {S:Sto} {H:Hp} {p:Addr} {xs:List D} {us:List V} {G:Sto->Prop} (t:TupAt K (mt S F) H p us) (l:RepL K (mt S F) H xs us):ItOk K F S H (Itt K p) xs G where
 go:=fun F2 f S2 H2 x r2 _ i d hd=>by
  have t2:=(t.keep (x.kpF f)).sq;obtain⟨v,e1,rv⟩:=l.get hd;refine⟨⟨us,v,t2,e1⟩,fun y H3 ⟨e2,y1⟩=>?_⟩;subst e2
  have:=y1 us t2
  rw[e1] at this;cases this;exact⟨Ext.refl _ _,r2,rv.keep (x.kpF f)⟩
 stop:=fun F2 f S2 H2 x r2 _=>⟨us,(t.keep (x.kpF f)).sq,by rw[l.length];exact aj _⟩
theorem itk_lst {F:Am} {S:Sto} {H:Hp} {p:Addr} {xs:List D} {us:List V} {G:Sto->Prop} (t:LstAt K (mt S F) H p us) (l:RepL K (mt S F) H xs us):ItOk K F S H (Itl K p) xs G where
 go:=fun F2 f S2 H2 x r2 _ i d hd=>by
  obtain⟨v,e1,rv⟩:=l.get hd;have t2:SqL K H2 p us:=(t.keep (x.kpF f)).sq;refine⟨⟨us,v,t2,e1⟩,fun y H3 ⟨e2,y1⟩=>?_⟩;subst e2
  have:=y1 us t2
  rw[e1] at this;cases this;exact⟨Ext.refl _ _,r2,rv.keep (x.kpF f)⟩
 stop:=fun F2 f S2 H2 x r2 _=>⟨us,(t.keep (x.kpF f)).sq,by rw[l.length];exact aj _⟩
theorem itk_ref {F:Am} {S:Sto} {H:Hp} {p:Addr} {xs:List D}:ItOk K F S H (Itl K p) xs (guard (.ref p) xs) where
 go:=fun F2 f S2 H2 x r2 hg i d hd=>by
  obtain⟨us,hu,l⟩:=r2.obj p _ hg;obtain⟨v,e1,rv⟩:=l.get hd;refine⟨⟨us,v,SqL.of hu,e1⟩,fun y H3 ⟨e2,y1⟩=>?_⟩;subst e2
  have:=y1 us (SqL.of hu)
  rw[e1] at this;cases this;exact⟨Ext.refl _ _,r2,rv⟩
 stop:=fun F2 f S2 H2 x r2 hg=>by
  obtain⟨us,hu,l⟩:=r2.obj p _ hg;exact⟨us,SqL.of hu,by rw[l.length];exact aj _⟩
theorem di_sq {tg l:Expr} {tl:ED} (hl:PD K X l tl) (hK:X.K=K:=by rfl):PID K X tg l (dSq tl):=.of (pi_sq hl.o hK) fun σ H Q z0=>z0.el fun F S Γ QD r g q c =>
 ⟨F,S,Γ,_,r,g,q,fun v d H1 S1 x1 r1 v1 z1=>by
  obtain⟨xs,hs,q1⟩:=z1;cases d with
  | tup ys =>
   cases hs;unfold RepV at v1;obtain⟨p,us,rfl,t,l⟩:=v1;exact .inr ⟨p,rfl,⟨us,t.sq⟩,c _ _ _ _ _ x1 r1 (itk_tup t l) q1⟩
  | lst ys =>
   cases hs;unfold RepV at v1;obtain⟨p,us,rfl,t,l⟩:=v1;exact .inl ⟨p,rfl,⟨us,t.sq⟩,c _ _ _ _ _ x1 r1 (itk_lst t l) q1⟩
  | ref p =>
   rw[rref v1];obtain⟨us,hu,l⟩:=r1.obj p _ hs;exact .inl ⟨p,rfl,⟨us,SqL.of hu⟩,c _ _ _ _ _ x1 r1 itk_ref q1⟩
  | _=>exact hs.elim⟩
def rngD (lo:Int):Nat->List D
 | 0=>[]
 | n + 1=>.int lo::rngD (lo + 1) n
theorem rngD_len:∀ (n:Nat) (lo:Int),(rngD lo n).length=n
 | 0,_=>rfl
 | n + 1,lo=>by simp[rngD,rngD_len n]
theorem rngD_get:∀ (n:Nat) (lo:Int) (i:Nat) (d:D),(rngD lo n)[i]?=some d->i < n/\d=.int (lo + i)
 | 0,lo,i,d,h=>by simp[rngD] at h
 | n + 1,lo,0,d,h=>by simp[rngD] at h;exact⟨by lia,by rw[<- h];simp⟩
 | n + 1,lo,i + 1,d,h=>by
  have h':(rngD (lo + 1) n)[i]?=some d:=by simpa [rngD] using h
  obtain⟨h1,h2⟩:=rngD_get n (lo + 1) i d h';refine⟨by lia,?_⟩
  rw[h2]
  congr 1
  rw[gx];lia
theorem itk_rng {F:Am} {S:Sto} {H:Hp} {lo:Int} {n:Nat} {G:Sto->Prop}:ItOk K F S H (Itr lo n) (rngD lo n) G where
 go:=fun F2 f S2 H2 x r2 _ i d hd=>by
  obtain⟨h1,rfl⟩:=rngD_get n lo i d hd;exact⟨h1,fun y H3 ⟨e2,y1⟩=>by subst e2;subst y1;exact⟨Ext.refl _ _,r2,by unfold RepV;rfl⟩⟩
 stop:=fun F2 f S2 H2 x r2 _=>by rw[rngD_len];exact aj n
def dRng1 (ta:AD):ID:=fun Γ S Q=>ta Γ S fun ds S1=>match ds with
 | [.int j]=>(-(2 ^ 62)<=j/\j < 2 ^ 62)/\Q (rngD 0 j.toNat) (fun _=>True) S1
 | _=>False
theorem di_range1 {tg:Expr} {p:Pos} {ta:AD} (hg:Gl X "range") (hm:X.mg "range" = none) (ha:PAD K X [a] ta) (hs:am [a] X.env=[(false,eval a X.env)]:=by rfl):PID K X tg (.Call (.Name "range" p) [a] [] pos) (dRng1 ta):=.of (pi_range1 hg hm ha.o hs) fun σ H Q z0=>z0.el fun F S Γ QD r g q c =>
 ⟨F,S,Γ,_,r,g,q,fun vs ds H1 S1 x1 r1 v1 q1=>by
  match ds,q1 with
  | [.int j],q1 =>
   obtain⟨v,rfl,rv⟩:=v1.one;rw[rint rv];exact⟨j,rfl,q1.1.1,q1.1.2,c _ _ _ _ _ x1 r1 itk_rng q1.2⟩⟩
def pairs (lo:Int):List D->List D
 | []=>[]
 | d::ds=>.tup [.int lo,d]::pairs (lo + 1) ds
theorem pairs_len:∀ (ds:List D) (lo:Int),(pairs lo ds).length=ds.length
 | [],_=>rfl
 | d::ds,lo=>by simp[pairs,pairs_len ds]
theorem pairs_get:∀ (ds:List D) (lo:Int) (i:Nat) (d:D),(pairs lo ds)[i]?=some d->∃ e,ds[i]?=some e/\d=.tup [.int (lo + i),e]
 | [],lo,i,d,h=>by simp[pairs] at h
 | e::ds,lo,0,d,h=>by simp[pairs] at h;exact⟨e,rfl,by rw[<- h];simp⟩
 | e::ds,lo,i + 1,d,h=>by
  have h':(pairs (lo + 1) ds)[i]?=some d:=by simpa [pairs] using h
  obtain⟨f,h1,h2⟩:=pairs_get ds (lo + 1) i d h';refine⟨f,by simpa using h1,?_⟩
  rw[h2]
  have:lo + 1 + (i:Int)=lo + ((i + 1:Nat):Int):=by rw[gx];lia
  rw[this]
theorem pairRep {F:Am} {S:Sto} {H:Hp} {p:Addr} {i:Nat} {y:V} {d:D} (r:Rp K F S H) (hp:H p=none) (rv:RepV K (mt S F) H d y):Ext S H S (upd H p (.tup [.int i,y]))/\Rp K F S (upd H p (.tup [.int i,y]))/\RepV K (mt S F) (upd H p (.tup [.int i,y])) (.tup [.int (0 + i),d]) (.ref p):=by
 have x:Ext S H S (upd H p (.tup [.int i,y])):=Ext.same (same_upd hp);refine⟨x,r.same (same_upd hp),?_⟩;unfold RepV;exact⟨p,_,rfl,.inl ⟨r.nmt hp,.inl upd_same⟩,RepL.cons (by unfold RepV;rw[gW]) (RepL.cons (rv.ext x) RepL.nil)⟩
theorem itk_enT {F:Am} {S:Sto} {H:Hp} {p:Addr} {xs:List D} {us:List V} {G:Sto->Prop} (t:TupAt K (mt S F) H p us) (l:RepL K (mt S F) H xs us):ItOk K F S H (Ite K p) (pairs 0 xs) G where
 go:=fun F2 f S2 H2 x r2 _ i d hd=>by
  obtain⟨e,he,rfl⟩:=pairs_get xs 0 i d hd;obtain⟨v,e1,rv⟩:=l.get he;have t2:=(t.keep (x.kpF f)).sq;refine⟨⟨us,v,t2,e1⟩,fun z H3 ⟨q,y,hq,ez,eH,y1⟩=>?_⟩;subst ez;subst eH
  have:=y1 us t2
  rw[e1] at this;cases this;exact pairRep r2 hq (rv.keep (x.kpF f))
 stop:=fun F2 f S2 H2 x r2 _=>⟨us,(t.keep (x.kpF f)).sq,by rw[pairs_len,l.length];exact aj _⟩
theorem itk_enL {F:Am} {S:Sto} {H:Hp} {p:Addr} {xs:List D} {us:List V} {G:Sto->Prop} (t:LstAt K (mt S F) H p us) (l:RepL K (mt S F) H xs us):ItOk K F S H (Itel K p) (pairs 0 xs) G where
 go:=fun F2 f S2 H2 x r2 _ i d hd=>by
  obtain⟨e,he,rfl⟩:=pairs_get xs 0 i d hd;obtain⟨v,e1,rv⟩:=l.get he;have t2:SqL K H2 p us:=(t.keep (x.kpF f)).sq;refine⟨⟨us,v,t2,e1⟩,fun z H3 ⟨q,y,hq,ez,eH,y1⟩=>?_⟩;subst ez;subst eH
  have:=y1 us t2
  rw[e1] at this;cases this;exact pairRep r2 hq (rv.keep (x.kpF f))
 stop:=fun F2 f S2 H2 x r2 _=>⟨us,(t.keep (x.kpF f)).sq,by rw[pairs_len,l.length];exact aj _⟩
def dEnT (ta:AD):ID:=fun Γ S Q=>ta Γ S fun ds S1=>match ds with
 | [.tup xs]=>Q (pairs 0 xs) (fun _=>True) S1
 | _=>False
def dEnL (ta:AD):ID:=fun Γ S Q=>ta Γ S fun ds S1=>match ds with
 | [.lst xs]=>Q (pairs 0 xs) (fun _=>True) S1
 | _=>False
theorem di_enT {e:Expr} {ta:AD} {p:Pos} {elts:List Expr} {x1:Nat} {tpos:Pos} (hg:Gl X "enumerate") (hm:X.mg "enumerate" = none) (ha:PAD K X [e] ta) (hs:am [e] X.env=[(false,eval e X.env)]:=by rfl) (hK:X.K=K:=by rfl) :
  PID K X (.Tuple elts x1 tpos) (.Call (.Name "enumerate" p) [e] [] pos) (dEnT ta):=.of (pi_enK hg hm ha.o hs hK) fun σ H Q z0=>z0.el fun F S Γ QD r g q c =>
 ⟨F,S,Γ,_,r,g,q,fun vs ds H1 S1 x1 r1 v1 q1=>by
  match ds,q1 with
  | [.tup xs],q1 =>
   obtain⟨v,rfl,rv⟩:=v1.one;unfold RepV at rv;obtain⟨p,us,rfl,t,l⟩:=rv;exact⟨p,rfl,⟨us,t.sq⟩,c _ _ _ _ _ x1 r1 (itk_enT t l) q1⟩⟩
theorem di_enL {e:Expr} {ta:AD} {p:Pos} {elts:List Expr} {x1:Nat} {tpos:Pos} (hg:Gl X "enumerate") (hm:X.mg "enumerate" = none) (ha:PAD K X [e] ta) (hs:am [e] X.env=[(false,eval e X.env)]:=by rfl) (hK:X.K=K:=by rfl) :
  PID K X (.Tuple elts x1 tpos) (.Call (.Name "enumerate" p) [e] [] pos) (dEnL ta):=.of (pi_enLK hg hm ha.o hs hK) fun σ H Q z0=>z0.el fun F S Γ QD r g q c =>
 ⟨F,S,Γ,_,r,g,q,fun vs ds H1 S1 x1 r1 v1 q1=>by
  match ds,q1 with
  | [.lst xs],q1 =>
   obtain⟨v,rfl,rv⟩:=v1.one;unfold RepV at rv;obtain⟨p,us,rfl,t,l⟩:=rv;exact⟨p,rfl,⟨us,t.sq⟩,c _ _ _ _ _ x1 r1 (itk_enL t l) q1⟩⟩
def signD (x:Str):List D:=x.cps.toList.map fun c=>.str ⟨#[c]⟩
def forD (g:GD) (tb:SD) (G:Sto->Prop) (E:EndsD):List D->Gm->Sto->Prop
 | [],Γ,S=>G S/\E.nx Γ S
 | x::xs,Γ,S=>G S/\g x Γ S fun Γ2 S2=>tb { E with nx:=forD g tb G E xs,ct:=forD g tb G E xs,bk:=E.nx } Γ2 S2
def dFor (wi:ID) (g:GD) (tb:SD):SD:=fun E Γ S=>wi Γ S fun xs G S1=>forD g tb G E xs Γ S1
theorem drop_cons {α:Type} {xs:List α} {i:Nat} (h:i < xs.length):xs.drop i=xs[i]::xs.drop (i + 1):=cU h
theorem ds_for {tg iter:Expr} {body:List Stmt} {wi:ID} {g:GD} {tb:SD} (hp:PassesOwn (aA X.prog X.w) X.A X.env X.xe) (hc:X.calm=true) (hi:PID K X tg iter wi) (hg:PGD K X tg g) (hb:PSsD K X body tb) (hs:∀ x,dQ iter X.env x=pure x:=by intro _;rfl):PSD K X (.For tg iter body [] pos) (dFor wi g tb):=.of (ps_for hp hc hi.o hg.o hb.o hs) fun D' σ H z0=>z0.el fun F S Γ E r gm q c =>
 ⟨F,S,Γ,_,r,gm,q,fun J xs G H1 S1 x1 r1 it q1=>by
  refine⟨fun i m σ' H'=>m=xs.length - i/\i<=xs.length/\∃ S' Γ',Ext S1 H1 S' H'/\Rp K F S' H'/\RepG K (mt S' F) H' Γ' σ'/\forD g tb G E (xs.drop i) Γ' S',⟨xs.length,by simp,bG _,S1,Γ,Ext.refl _ _,r1,gm.ext x1,by simpa using q1⟩,?_⟩
  rintro i m σ' H' ⟨rfl,hi.o,S',Γ',x2,r2,g2,f2⟩
  by_cases hlt:i < xs.length
  ·rw[drop_cons hlt] at f2;obtain⟨hG,f2⟩:=f2;obtain⟨hgo,hy⟩:=it.go F (FE.refl F H1) S' H' x2.w r2 hG i xs[i] (ai hlt);refine .inr ⟨hgo,fun σ'' H''=>∃ S'' Γ'',Ext S1 H1 S'' H''/\Rp K F S'' H''/\RepG K (mt S'' F) H'' Γ'' σ''/\forD g tb G E (xs.drop (i + 1)) Γ'' S'',fun σ'' H'' z=>⟨xs.length - (i + 1),by lia,rfl,hlt,z⟩,fun x H3 y3=>?_⟩
   obtain⟨x3,r3,v3⟩:=hy x H3 y3;refine⟨F,S',Γ',xs[i],_,r3,g2.ext x3,v3,f2,fun Γ4 S4 σ4 H4 x4 r4 g4 q4=>⟨F,S4,Γ4,_,r4,g4,q4,?_⟩⟩;have x04:=x2.trans (x3.trans x4);exact⟨fun Γ5 S5 σ5 H5 x5 r5 g5 q5=>⟨S5,Γ5,x04.trans x5,r5,g5,q5⟩,fun v d H5 S5 x5=>c.rt v d H5 S5 (x1.trans (x04.trans x5)),fun Γ5 S5 σ5 H5 x5=>c.nx Γ5 S5 σ5 H5 (x1.trans (x04.trans x5)),fun Γ5 S5 σ5 H5 x5 r5 g5 q5=>⟨S5,Γ5,x04.trans x5,r5,g5,q5⟩⟩
  ·have e:i=xs.length:=by lia
   subst e;rw[fS] at f2;exact .inl ⟨it.stop F (FE.refl F H1) S' H' x2.w r2 f2.1,c.nx Γ' S' σ' H' (x1.trans x2) r2 g2 f2.2⟩⟩
end
end L2
set_option maxHeartbeats 1000000
namespace L2
open PySem PySem.Spec PyProof.Rows
section
variable {X:Cx} {K:Fg} {pos:Pos} {k:Nat}
structure ExtX (D':Addr) (S:Sto) (H:Hp) (S':Sto) (H':Hp):Prop where
 keep:∀ a o,a≠D'->S a=none->H a=some o->H' a=some o
 live:∀ a,H a≠none->H' a≠none
 new:∀ a,S' a≠none->S a≠none\/H a=none
theorem Ext.x {D':Addr} {S S':Sto} {H H':Hp} (x:Ext S H S' H'):ExtX D' S H S' H':=⟨fun a o _=>x.keep a o,x.live,x.new⟩
theorem ExtX.trans {D' : Addr} {S S1 S2 : Sto} {H H1 H2 : Hp} (x : ExtX D' S H S1 H1) (y : ExtX D' S1 H1 S2 H2) : ExtX D' S H S2 H2 :=
  ⟨fun a o n h h' => y.keep a o n (by
      cases e : S1 a with
      | none => rfl
      | some z => rcases x.new a (by rw [e]; exact fun z => by cases z) with z | z
                  · exact absurd h z
                  · rw [h'] at z; cases z) (x.keep a o n h h'), fun a h => y.live a (x.live a h), fun a h => by
    rcases y.new a h with z | z
    · exact x.new a z
    · exact .inr (bc fun n => x.live a n z)⟩
theorem ExtX.kp {D':Addr} {F:Am} {S S':Sto} {H H':Hp} (x:ExtX D' S H S' H') (hF:F D'):Keep (mt S F) H (mt S' F) H':=⟨fun a o h e=>x.keep a o (by rintro rfl;exact h (.inr hF)) (bc fun n=>h (.inl n)) e,fun a h e=>fun z=>by
 rcases z with z | z
 ·rcases x.new a z with y | y
  ·exact h (.inl y)
  ·exact e y
 ·exact h (.inr z)⟩
def Free (L:List Nat) (σ:St):Prop:=∀ i∈L,σ[i]?=some none
abbrev BD:=Gm->Sto->List D->(List D->Sto->Prop)->Prop
def BodyOk (K:Fg) (L:List Nat) (tv:Addr->TB) (td:BD):Prop:=∀ D' F S H Γ σ acc zs N QD,Free L σ->F D'->Rp K F S H->RepG K (mt S F) H Γ σ->H D'=some (.lst zs)->RepL K (mt S F) H acc zs->td Γ S acc QD ->
 (∀ acc' S' H' zs',ExtX D' S H S' H'->Rp K F S' H'->H' D'=some (.lst zs')->RepL K (mt S' F) H' acc' zs'->QD acc' S'->N H')->tv D' σ H N
def emitD (te:ED):BD:=fun Γ S acc Q=>te Γ S fun y S1=>acc.length < sizeLine/\Q (acc++[y]) S1
theorem bo_emit {L:List Nat} {te:ED}:BodyOk K L (fun D'=>tEmit D' (upE K te)) (emitD te):=by
 intro D' F S H Γ σ acc zs N QD _ hF r g hH l q c;refine⟨F,S,Γ,_,r,g,q,fun v d H1 S1 x1 r1 v1 ⟨hz,q1⟩=>?_⟩;have hS:S D'=none:=(r.frm D' hF).2;have hS1:S1 D'=none:=(r1.frm D' hF).2;have h1:H1 D'=some (.lst zs):=x1.keep _ _ hS hH;have y:ExtX D' S1 H1 S1 (upd H1 D' (.lst (zs++[v]))):=⟨fun a o n _ e=>by rw[upd_ne n];exact e,fun a h=>by
  by_cases e:a=D'
  ·subst e;rw[upd_same];exact fun z=>by cases z
  ·rw[upd_ne e];exact h,fun a h=>.inl h⟩
 refine⟨zs,h1,by rw[l.length];exact hz,c _ S1 _ (zs++[v]) (x1.x.trans y) ?_ upd_same ?_ q1⟩
 ·exact⟨fun a o e=>(r1.obj a o e).keep (y.kp hF) (upd_ne (by rintro rfl;rw[hS1] at e;cases e)),fun a h=>by
   obtain⟨⟨ys,e,ct⟩,h2⟩:=r1.frm a h
   by_cases z:a=D'
   ·subst z;exact⟨⟨_,upd_same,trivial⟩,h2⟩
   ·exact⟨⟨ys,by rw[upd_ne z];exact e,ct⟩,h2⟩⟩
 ·exact RepL.app ((l.ext x1).keep (y.kp hF)) (RepL.cons (v1.keep (y.kp hF)) RepL.nil)
def CG (K:Fg) (L L':List Nat) (g:TG) (gd:GD):Prop:=∀ F S H Γ σ d v Q QD,Free L σ->Rp K F S H->RepG K (mt S F) H Γ σ->RepV K (mt S F) H d v->gd d Γ S QD->(∀ Γ' S' σ' H',Ext S H S' H'->Rp K F S' H'->RepG K (mt S' F) H' Γ' σ'->Wk σ σ'->Free L' σ'->QD Γ' S'->Q σ' H')->g v σ H Q
theorem Free.set {L:List Nat} {σ:St} {i:Nat} {v:V} (h:Free (i::L) σ) (hi:i∉L):Free L (σ.set i (some v)):=fun j hj=>by
 rw[fH (by rintro rfl;exact hi hj)]
 exact h j (au _ hj)
theorem cg_name {L:List Nat} {i:Nat} (hi:i∉L:=by decide):CG K (i::L) L (gName i) (gdName i):=fun F S H Γ σ d v Q QD f r g rv q c=>c _ S _ H (Ext.refl _ _) r (g.set rv i) (wk_of (f i ar)) (f.set hi) q
theorem cg_pair {L:List Nat} {i j:Nat} (hi:i∉j::L:=by decide) (hj:j∉L:=by decide):CG K (i::j::L) L (gTup K 2 (gCons (gName i) (gCons (gName j) gNil))) (gdTup 2 (gdCons (gdName i) (gdCons (gdName j) gdNil))):=fun F S H Γ σ d v Q QD f r g rv q c=>by
 cases d with
 | tup ds =>
  obtain⟨p,us,rfl,sq,l⟩:=tup.st rv;obtain⟨hl,q⟩:=q
  match ds,hl,q with
  | [d1,d2],_,q =>
   obtain⟨v1,v2,rfl,r1,r2⟩:=l.two;have f1:Free (j::L) (σ.set i (some v1)):=f.set hi;exact⟨p,_,rfl,sq,rfl,v1,_,rfl,v2,_,rfl,rfl,c _ S _ H (Ext.refl _ _) r ((g.set r1 i).set r2 j) ((wk_of (f i ar)).trans (wk_of (f1 j ar))) (f1.set hj) q.2⟩
 | _=>exact q.elim
def loopD (g:GD) (tt:TD) (tb:BD) (G:Sto->Prop) (Γ0:Gm):List D->List D->Sto->(List D->Sto->Prop)->Prop
 | [],acc,S,Q=>G S/\Q acc S
 | x::xs,acc,S,Q=>G S/\g x Γ0 S fun Γ2 S2=>tt Γ2 S2 fun b S3=>if b=true then tb Γ2 S3 acc fun acc' S4=>loopD g tt tb G Γ0 xs acc' S4 Q else loopD g tt tb G Γ0 xs acc S3 Q
theorem loop_ok {L L':List Nat} {g:TG} {gd:GD} {tt:TD} {tv:Addr->TB} {tb:BD} (hg:CG K L L' g gd) (hb:BodyOk K L' tv tb) {D':Addr} {F:Am} {S:Sto} {H:Hp} {Γ:Gm} {σ:St} {acc:List D} {zs:List V} {N:Hp->Prop} {QD:List D->Sto->Prop} {J:It} {xs:List D} {G:Sto->Prop}
  (f:Free L σ) (hF:F D') (r:Rp K F S H) (gm:RepG K (mt S F) H Γ σ) (hH:H D'=some (.lst zs)) (l:RepL K (mt S F) H acc zs) (it:∀ S2 H2,ExtX D' S H S2 H2->Rp K F S2 H2->G S2->(∀ i d,xs[i]?=some d->J.go i H2/\∀ x H3,J.yld i H2 x H3->Ext S2 H2 S2 H3/\Rp K F S2 H3/\RepV K (mt S2 F) H3 d x)/\J.stop xs.length H2)
  (q:loopD gd tt tb G Γ xs acc S QD) (c:∀ acc' S' H' zs',ExtX D' S H S' H'->Rp K F S' H'->H' D'=some (.lst zs')->RepL K (mt S' F) H' acc' zs'->QD acc' S'->N H'):LoopW J σ g (upT K tt) (tv D') N H:=by
 refine⟨fun i m H'=>m=xs.length - i/\i<=xs.length/\∃ S' acc' zs',ExtX D' S H S' H'/\Rp K F S' H'/\H' D'=some (.lst zs')/\RepL K (mt S' F) H' acc' zs'/\loopD gd tt tb G Γ (xs.drop i) acc' S' QD,⟨xs.length,by simp,bG _,S,acc,zs,(Ext.refl _ _).x,r,hH,l,by simpa using q⟩,?_⟩
 rintro i m H' ⟨rfl,hi,S',acc',zs',x2,r2,h2,l2,f2⟩;have g2:=gm.keep (x2.kp hF)
 by_cases hlt:i < xs.length
 ·rw[drop_cons hlt] at f2;obtain⟨hG,f2⟩:=f2;obtain⟨hgo,hy⟩:=(it S' H' x2 r2 hG).1 i xs[i] (ai hlt);refine .inr ⟨hgo,fun H''=>∃ S'' acc'' zs'',ExtX D' S H S'' H''/\Rp K F S'' H''/\H'' D'=some (.lst zs'')/\RepL K (mt S'' F) H'' acc'' zs''/\loopD gd tt tb G Γ (xs.drop (i + 1)) acc'' S'' QD,fun H'' z=>⟨xs.length - (i + 1),by omega,rfl,hlt,z⟩,fun x H3 y3=>?_⟩
  obtain⟨x3,r3,v3⟩:=hy x H3 y3;refine hg F S' H3 Γ σ xs[i] x _ _ f r3 (g2.ext x3) v3 f2 fun Γ4 S4 σ4 H4 x4 r4 g4 wk fr4 q4=>⟨wk,F,S4,Γ4,_,r4,g4,q4,fun z H5 S5 x5 r5 q5=>?_⟩;have x35:=x3.trans (x4.trans x5);have h5:H5 D'=some (.lst zs'):=x35.keep _ _ (r2.frm D' hF).2 h2;have l5:=l2.ext x35;have x05:ExtX D' S H S5 H5:=x2.trans x35.x;cases z with
  | false=>exact⟨S5,acc',zs',x05,r5,h5,l5,q5⟩
  | true=>exact hb D' F S5 H5 Γ4 σ4 acc' zs' _ _ fr4 hF r5 (g4.ext x5) h5 l5 q5 fun acc6 S6 H6 zs6 x6 r6 h6 l6 q6=>⟨S6,acc6,zs6,x05.trans x6,r6,h6,l6,q6⟩
 ·have e:i=xs.length:=by omega
  subst e;rw[fS] at f2;exact .inl ⟨(it S' H' x2 r2 f2.1).2,c acc' S' H' zs' x2 r2 h2 l2 f2.2⟩
def captD (is:List (Option Nat)) (Γ:Gm):Gm:=is.map fun o=>o.bind fun i=>(Γ[i]?).join
theorem RepG.at {M:Am} {H:Hp}:∀ {g:Gm} {σ:St} {i:Nat} {d:D},RepG K M H g σ->g[i]?=some (some d)->∃ v,σ[i]?=some (some v)/\RepV K M H d v
 | [],_,_,_,_,e=>by simp at e
 | none::g,_,0,_,_,e=>by simp at e
 | some d::g,_,0,e,⟨v,τ,rfl,q,r⟩,h=>by simp at h;subst h;exact⟨v,rfl,q⟩
 | none::g,_,i + 1,d,⟨v,τ,rfl,r⟩,h=>by
  obtain⟨u,e1,h1⟩:=RepG.at (i:=i) r (by simpa using h)
  exact⟨u,by simpa using e1,h1⟩
 | some _::g,_,i + 1,d,⟨v,τ,rfl,q,r⟩,h=>by
  obtain⟨u,e1,h1⟩:=RepG.at (i:=i) r (by simpa using h)
  exact⟨u,by simpa using e1,h1⟩
theorem RepG.capt {M:Am} {H:Hp} {g:Gm} {σ:St} (h:RepG K M H g σ):∀ is:List (Option Nat),RepG K M H (captD is g) (capt is σ)
 | []=>rfl
 | o::is=>by
  have ih:=RepG.capt h is;cases o with
  | none=>exact⟨_,_,rfl,ih⟩
  | some i =>
   show RepG K M H ((g[i]?).join::captD is g) ((σ[i]?).join::L2.capt is σ);cases e:g[i]? with
   | none=>exact⟨_,_,rfl,ih⟩
   | some z =>
    cases z with
    | none=>exact⟨_,_,rfl,ih⟩
    | some d =>
     obtain⟨v,e1,r⟩:=h.at e;rw[e1];exact⟨v,_,rfl,r,ih⟩
def compD (b:Bool) (is:List (Option Nat)) (wi:ID) (g:GD) (tt:TD) (tb:BD):ED:=fun Γ S Q=>wi Γ S fun xs G S1=>loopD g tt tb G (captD is Γ) xs [] S1 fun acc S2=>newL b acc S2 Q
theorem up_comp {b:Bool} {L L':List Nat} {is:List (Option Nat)} {wi:ID} {g:TG} {gd:GD} {tt:TD} {tv:Addr->TB} {tb:BD} (hL:∀ σ,Free L (capt is σ)) (hg:CG K L L' g gd) (hb:BodyOk K L' tv tb):∀ σ H Q,upE K (compD b is wi gd tt tb) σ H Q->tComp2 is (upI K wi) g (upT K tt) tv σ H Q:=fun σ H Q z0=>z0.el fun F S Γ QD r gm q c =>
 ⟨F,S,Γ,_,r,gm,q,fun J xs G H1 S1 x1 r1 it q1 D' hD=>by
  have hS1:S1 D'=none:=r1.sn hD;have fe:FE F H1 (fun a=>F a\/a=D'):=fun a h=>h.elim .inl fun e=>.inr (by rw[e];exact hD)
  have nF:¬ F D':=fun h=>by
   obtain⟨⟨ys,e,_⟩,_⟩:=r1.frm D' h;rw[hD] at e;cases e
  have xe:Ext S1 H1 S1 (upd H1 D' (.lst [])):=Ext.same (same_upd hD);have kp:Keep (mt S1 F) H1 (mt S1 fun a=>F a\/a=D') (upd H1 D' (.lst [])):=xe.w.kpF fe;have r2:Rp K (fun a=>F a\/a=D') S1 (upd H1 D' (.lst [])):=⟨fun a o e=>(r1.obj a o e).keep kp (upd_ne (by rintro rfl;rw[hS1] at e;cases e)),fun a h=>by
   rcases h with h | h
   ·obtain⟨⟨ys,e,ct⟩,h2⟩:=r1.frm a h;exact⟨⟨ys,by rw[upd_ne (by rintro rfl;rw[hD] at e;cases e)];exact e,ct⟩,h2⟩
   ·subst h;exact⟨⟨_,upd_same,trivial⟩,hS1⟩⟩
  have old:∀ {S2 H2},ExtX D' S1 (upd H1 D' (.lst [])) S2 H2->Ext S1 H1 S2 H2:=fun {S2 H2} y=>⟨fun a o h e=>y.keep a o (by rintro rfl;rw[hD] at e;cases e) h (by rw[upd_ne (by rintro rfl;rw[hD] at e;cases e)];exact e),fun a h=>y.live a (xe.live a h),fun a h=>by
   rcases y.new a h with z | z
   ·exact .inl z
   ·by_cases e:a=D'
    ·subst e;exact .inr hD
    ·rw[upd_ne e] at z;exact .inr z⟩
  refine loop_ok hg hb (hL σ) (F:=fun a=>F a\/a=D') (.inr rfl) r2 ((gm.ext x1).keep kp |>.capt is) upd_same RepL.nil (fun S2 H2 y r2 hG=>⟨it.go _ fe S2 H2 (old y).w r2 hG,it.stop _ fe S2 H2 (old y).w r2 hG⟩) q1 fun acc' S' H' zs' y r3 h3 l3 q3=>?_
  have less:Keep (mt S' fun a=>F a\/a=D') H' (mt S' F) H':=⟨fun _ _ _ e=>e,fun a h _=>fun z=>h (z.elim .inl fun w=>.inr (.inl w))⟩;have x3:=old y;have hS':S' D'=none:=(r3.frm D' (.inr rfl)).2;have r4:Rp K F S' H':=⟨fun a o e=>(r3.obj a o e).keep less rfl,fun a h=>r3.frm a (.inl h)⟩;have nm:¬ mt S' F D':=fun z=>z.elim (fun w=>w hS') nF;cases b with
  | false =>
   refine c (.ref D') (.lst acc') H' S' (x1.trans x3) r4 ?_ q3;unfold RepV;exact⟨D',zs',rfl,.inl ⟨nm,.inl h3⟩,l3.keep less⟩
  | true =>
   have x5:Ext S1 H1 (supd S' D' (.lst acc')) H':=⟨x3.keep,x3.live,fun a h=>by
    by_cases e:a=D'
    ·subst e;exact .inr hD
    ·rw[supd_ne e] at h;exact x3.new a h⟩
   have k6:Keep (mt S' fun a=>F a\/a=D') H' (mt (supd S' D' (.lst acc')) F) H':=⟨fun _ _ _ e=>e,fun a h _=>fun z=>by
    rcases z with z | z
    ·by_cases e:a=D'
     ·exact h (.inr (.inr e))
     ·rw[supd_ne e] at z;exact h (.inl z)
    ·exact h (.inr (.inl z))⟩
   refine c (.ref D') (.ref D') H' (supd S' D' (.lst acc')) (x1.trans x5) ⟨fun a o e=>?_,fun a h=>⟨(r4.frm a h).1,?_⟩⟩ (by unfold RepV;rfl) (q3 D' hS')
   ·by_cases e1:a=D'
    ·subst e1;rw[supd_same] at e;cases e;exact⟨zs',h3,l3.keep k6⟩
    ·rw[supd_ne e1] at e;exact(r3.obj a o e).keep k6 rfl
   ·rw[supd_ne (by rintro rfl;exact nF h)];exact(r4.frm a h).2⟩
def dYes:TD:=fun _ S Q=>Q true S
theorem dts_nil:PTs X [] (upT K dYes):=fun pins s σ H Q I z0=>z0.el fun F S Γ QD r g q c=>pts_nil pins s σ H Q I (c true H S (Ext.refl _ _) r q)
theorem free_of {L:List Nat} {is:List (Option Nat)} (h:(L.all fun i=>decide (is[i]?=some none))=true):∀ σ,Free L (capt is σ):=fun σ i hi=>by
 have:=of_decide_eq_true (bq.mp h i hi)
 unfold capt;rw[a6,this]
 rfl
theorem dts_one {c:Expr} {t:TD} (h:PTD K X c t):PTs X [c] (upT K t):=pts_one h.o
end
end L2
set_option maxHeartbeats 4000000
namespace L2
open PySem PySem.Spec PyProof.Rows
section
variable {prog:aB} {w:aN} {s:ah}
def Col (prog:aB) (w:aN) (s:ah) (v:ad) (Pv:List ad->Prop):Prop:=∀ (A:aO) (E:ad->ah->Prop) (R:List ad->ah->Prop),A.handled=none ->
 (∀ vals h' d tk,Pv vals->(∀ b o,s.heap.get? b=some o->h'.get? b=some o)->R vals { s with heap:=h',drawn:=d,toks:=tk })->aw (aA prog w) A (collect v) R E s
theorem col_seq {a:Addr} {T:String} {o:Obj} {its:List ad} {n:Nat} (hT:T = "list"\/T = "tuple") (ho:s.heap.get? a=some o) (hc:o.cls=.type T) (hd:o.data=.seq its.toArray n) (hz:its.length<=sizeLine):Col prog w s (.ref a) (· = its):=fun A E R _ h =>
 wpAny_collect_seq a hT ho hc hd (fun h' k=>by
  have:=h its h' s.drawn s.toks rfl k
  simpa using this) (by simpa using hz)
theorem col_dict {a:Addr} {vs:List (Key × ad)} (lo:(a == gy)=false) (hd:s.heap.DictOf (mixKind prog w) a vs) (hz:vs.length<=sizeLine):Col prog w s (.ref a) (fun vals=>vals.length=vs.length/\∀ (j:Nat) (v:ad),vals[j]?=some v->∃ (k:Key) (x:ad),vs[j]?=some (k,x)/\keyIs k v=true):=fun A E R hh h=>by
 obtain⟨ep,hat⟩:=hd.dictAt;refine PySem.W.kdu_collect (PySem.W.kdl_dict (knd:=mixKind prog w) (kvs:=vs) (ep:=ep) lo) hh hat hz fun h' tk acc hk hacc=>?_;exact h acc.toList h' s.drawn tk ⟨by rw[aR];exact hacc.1,fun j v e=>hacc.2 j v (by rw[<- bu];exact e)⟩ hk
theorem sorted_gen {A:aO} {E:ad->ah->Prop} {v:ad} {Pv:List ad->Prop} {Q:ad->ah->Prop} (hh:A.handled=none) (col:Col prog w s v Pv) (hz:∀ vals,Pv vals->vals.length<=sizeLine)
  (srt:∀ (vals:List ad) (h1:aS) (d:Drawn) (tk:Nat),Pv vals->(∀ b o,s.heap.get? b=some o->h1.get? b=some o)->aw (aA prog w) A.in1.in1 (bC.«list.sort» ⟨[.ref h1.objs.size],[]⟩) (fun fin s'=>fin=.done (.ret .none)/\Q (.ref h1.objs.size) s') E { s with heap:=h1.push (bM "list" vals.toArray 0),drawn:=d,toks:=tk }) :
  aw (aA prog w) A (call (.builtin "sorted") [v]) Q E s:=by
 refine eM kind_sorted j7 j8 (j9 _) ?_;unfold bC.«sorted»;refine aa (m:=checkCount "sorted" 1 1 _) (ae ?_);refine aa (col A.in1 _ _ (by simp[hh]) fun vals h1 d tk pv kp=>?_)
 refine aa (gc ?_ (hz vals pv));have hoL:(h1.push (bM "list" vals.toArray 0)).get? h1.objs.size=some (bM "list" vals.toArray 0):=ao _ rfl;refine aa (aW (b4 jf ⟨_,hoL,rfl⟩ iG ?body (jg _)))
 case body =>
  refine cH (srt vals h1 d tk pv kp) (fun fin s' ⟨e,q⟩=>?_) fun _ _ e=>e;subst e;exact⟨_,rfl,ae ⟨_,rfl,q⟩⟩
theorem sorted_keep {h:aS} {a:Addr} {vs:List ad} {n:Nat} {out:Array ad} (ho:h.get? a=some (bM "list" vs.toArray n)):(∃ c,(jh h a vs out).get? a=some (bM "list" out c))/\∀ b o,b≠a->h.get? b=some o->(jh h a vs out).get? b=some o:=by
 unfold jh;obtain⟨e1,ho1⟩:∃ e1,(h.update a (aV fun _=>(#[]:Array ad))).get? a=some (bM "list" #[] e1):=⟨_,gw ho fun _=>#[]⟩;have sb:=be h a (aV fun _=>(#[]:Array ad));have k2:∀ b o,(h.update a (aV fun _=>(#[]:Array ad))).get? b=some o->(((h.update a (aV fun _=>(#[]:Array ad))).push (bM "tuple" vs.toArray 0)).push (bM "list" #[] 0)).get? b=some o:=fun b o e=>af _ (af _ e);refine⟨⟨_,gw (k2 _ _ ho1) fun _=>out⟩,fun b o hb e=>?_⟩;have s2:=be (((h.update a (aV fun _=>(#[]:Array ad))).push (bM "tuple" vs.toArray 0)).push (bM "list" #[] 0)) a (aV fun _=>out);exact(s2.2 b hb).trans (k2 b o ((sb.2 b hb).trans e))
theorem sort_strs {A:aO} {E:ad->ah->Prop} {a:Addr} {vs:List ad} {ss:List Str} {n:Nat} {P:PySem.Fin->ah->Prop} (ho:s.heap.get? a=some (bM "list" vs.toArray n)) (hS:j6 vs ss) (h64:vs.length < 64)
  (h:∀ (out:List ad) (ss':List Str) (h':aS) (c:Nat),j6 out ss'->ss'.Perm ss->sortedS ss'=true->h'.get? a=some (bM "list" out.toArray c)->(∀ b o,b≠a->s.heap.get? b=some o->h'.get? b=some o)->P (.done (.ret .none)) { s with heap:=h' }) :
  aw (aA prog w) A (bC.«list.sort» ⟨[.ref a],[]⟩) P E s:=by
 refine list_sort_treeK strKind_oneLt ho hS.keysOf (fun v₁ v₂ rest e=>keyKind_strs (by rw[<- e];exact hS)) h64 fun st' hp hs=>?_
 obtain⟨ss',h1,h2,h3⟩:=sorted_out_str hS hp hs;obtain⟨⟨c,hc⟩,hk⟩:=sorted_keep (out:=(a8 st').map (·.2)) ho;exact h _ ss' _ c h1 h2 h3 (by rw[hc]) hk
theorem sort_ints {A:aO} {E:ad->ah->Prop} {a:Addr} {vs:List ad} {ns:List Int} {n:Nat} {P:PySem.Fin->ah->Prop} (ho:s.heap.get? a=some (bM "list" vs.toArray n)) (hI:jY vs ns) (h64:vs.length < 64)
  (h:∀ (out:List ad) (ns':List Int) (h':aS) (c:Nat),jY out ns'->ns'.Perm ns->ns'.Pairwise (·<=·)->h'.get? a=some (bM "list" out.toArray c)->(∀ b o,b≠a->s.heap.get? b=some o->h'.get? b=some o)->P (.done (.ret .none)) { s with heap:=h' }) :
  aw (aA prog w) A (bC.«list.sort» ⟨[.ref a],[]⟩) P E s:=by
 refine list_sort_tree ho hI h64 fun out ns' h1 h2 h3=>?_;obtain⟨⟨c,hc⟩,hk⟩:=sorted_keep (out:=out) ho;exact h _ ns' _ c h1 h2 h3 (by rw[hc]) hk
end
section
variable {X:Cx} {K:Fg}
def Src (K:Fg) (H:Hp) (x:V) (us:List V):Prop:=∃ a,x=.ref a/\(SqL K H a us\/SqT K H a us\/∃ kvs:List (Key × V),H a=some (.dK kvs)/\us=kvs.map fun p=>kV p.1)
theorem keys_vals:∀ {kvs:List (Key × V)} {vs:List (Key × ad)} {vals:List ad},KV kvs vs->vals.length=vs.length->(∀ (j:Nat) (v:ad),vals[j]?=some v->∃ (k:Key) (x:ad),vs[j]?=some (k,x)/\keyIs k v=true)->Vals (kvs.map fun p=>kV p.1) vals
 | [],_,vals,.nil,hl,_=>by cases vals with
  | nil=>exact .nil
  | cons _ _=>simp at hl
 | p::kvs,_,vals,.cons (b:=q) hp hr,hl,h=>by
  cases vals with
  | nil=>simp at hl
  | cons v vals =>
   refine .cons ?_ (keys_vals hr (by simpa using hl) fun j v e=>by simpa using h (j + 1) v (by simpa using e))
   obtain⟨k,x,e,hk⟩:=h 0 v rfl;have e':q=(k,x):=by simpa using e
   have hk':p.1=k:=by rw[hp.1,e']
   show RelV (kV p.1) v;rw[hk'];rcases keyIs_shape hk with⟨i,t,rfl,rfl⟩ | ⟨y,t,rfl,rfl⟩
   ·exact⟨t,rfl⟩
   ·exact⟨t,rfl⟩
theorem Inv.toks {pins:List (Addr × Obj)} {σ:St} {H:Hp} {s:ah} (I:Inv X pins σ H s) {h':aS} (k:∀ b o,s.heap.get? b=some o->h'.get? b=some o) (d:Drawn) (tk:Nat):Inv X pins σ H { s with heap:=h',drawn:=d,toks:=tk }:=(I.kept (t':=tk) k).drawn d
theorem Inv.src {pins:List (Addr × Obj)} {σ:St} {H:Hp} {s:ah} (I:Inv X pins σ H s) (hK:X.K=K) {x:V} {u:ad} {us:List V} (h:Src K H x us) (r:RelV x u):Col X.prog X.w s u (fun vals=>Vals us vals)/\us.length<=sizeLine:=by
 subst hK;obtain⟨a,rfl,h⟩:=h;cases r;rcases h with h | h | ⟨kvs,h,rfl⟩
 ·obtain⟨its,rv,⟨o,n,ho,hc,_,hd⟩,hz⟩:=I.list h;have hl:=rv.length;exact⟨fun A E R hh q=>col_seq (.inl rfl) ho hc hd (by lia) A E R hh fun vals h' d tk e k=>q vals h' d tk (by rw[e];exact rv) k,hz⟩
 ·obtain⟨its,rv,⟨o,ho,hc,n,hd⟩,hz⟩:=I.tuple h;have hl:=rv.length;exact⟨fun A E R hh q=>col_seq (.inr rfl) ho hc hd (by lia) A E R hh fun vals h' d tk e k=>q vals h' d tk (by rw[e];exact rv) k,hz⟩
 ·obtain⟨hz,lo,vs,hv,hd⟩:=I.hok a _ h;have hl:kvs.length=vs.length:=cz hv;exact⟨fun A E R hh q=>col_dict lo hd (by lia) A E R hh fun vals h' d tk e k=>q vals h' d tk (keys_vals hv e.1 e.2) k,by rw[ag];exact hz⟩
def rSrtS (K:Fg):List V->Hp->VK->Prop:=fun xs H Q=>∃ (x:V) (ss:List Str),xs=[x]/\Src K H x (ss.map V.str)/\ss.length < 64/\∀ (p:Addr) (out:List Str),H p=none->out.Perm ss->out.Pairwise (fun a b=>HT.ltS b a=false)->Q (.ref p) (upd H p (.lst (out.map V.str)))
theorem sortedS_pw:∀ {l:List Str},sortedS l=true->l.Pairwise fun a b=>HT.ltS b a=false
 | [],_=>.nil
 | [x],_=>cL _ _
 | x::y::l,h=>by
  have h':(!ltCps y.cps.toList x.cps.toList && risingS y l)=true:=h;rw[aK] at h';have ih:=sortedS_pw (l:=y::l) h'.2;have hxy:HT.ltS y x=false:=by
   have:=h'.1
   rw[c4,ltCps_eq] at this;exact this
  refine bA.mpr ⟨fun z hz=>?_,ih⟩;rcases ax.mp hz with rfl | hz
  ·exact hxy
  ·have hzy:=(bA.mp ih).1 z hz;cases e:HT.ltS z x with
   | false=>rfl
   | true =>
    by_cases hyx:y=x
    ·subst hyx;rw[hzy] at e;cases e
    ·have:=HT.ltS_tot hxy hyx
     have:=HT.ltS_tr e this
     rw[hzy] at this;cases this
theorem call_srtS (hK:X.K=K:=by rfl) (hc:X.calm=true:=by rfl):CallR X (.builtin "sorted") (rSrtS K):=by
 intro pins s σ H xs us Q I r h;obtain⟨x,ss,rfl,hs,h64,q⟩:=h;obtain⟨u,rfl,rx⟩:=vals1 r;obtain⟨col,hz⟩:=I.src hK hs rx;have len:∀ {vals:List ad},Vals (ss.map V.str) vals->vals.length=ss.length:=fun v=>by have:=v.length;simpa using this.symm
 refine sorted_gen (I.ok.hd hc) col (fun vals v=>by rw[len v];simpa using hz) fun vals h1 d tk pv kp=>?_
 have hfr:H h1.objs.size=none:=(I.toks kp d tk).hok.fresh (aj _);refine sort_strs (s:={ s with heap:=h1.push (bM "list" vals.toArray 0),drawn:=d,toks:=tk }) (ao _ rfl) (strs_of (H:=H) (ds:=ss) (xs:=ss.map V.str) (by
  clear hz h64 q hs col rx pv len
  induction ss with
  | nil=>exact .nil
  | cons a ss ih=>exact .cons rfl ih) pv) (by rw[len pv];exact h64) fun out ss' h' c a1 a2 a3 a4 a5=>⟨rfl,?_⟩
 have I1:=I.toks kp d tk;obtain⟨v1,v2⟩:=of_strs (H:=H) a1;refine⟨.ref h1.objs.size,_,I1.laid (a:=h1.objs.size) (o:=.lst (ss'.map V.str)) (t':=tk) (fun b o e=>a5 b o (aC (aq e)) (af _ e)) (aj _) ⟨?_,out,c,v1,a4⟩,rfl,q _ _ hfr a2 (sortedS_pw a3)⟩
 have:=a2.length_eq
 rw[ag,this];simpa using hz
def rSrtI (K:Fg):List V->Hp->VK->Prop:=fun xs H Q=>∃ (x:V) (ns:List Int),xs=[x]/\Src K H x (ns.map V.int)/\ns.length < 64/\∀ (p:Addr) (out:List Int),H p=none->out.Perm ns->out.Pairwise (·<=·)->Q (.ref p) (upd H p (.lst (out.map V.int)))
theorem call_srtI (hK:X.K=K:=by rfl) (hc:X.calm=true:=by rfl):CallR X (.builtin "sorted") (rSrtI K):=by
 intro pins s σ H xs us Q I r h;obtain⟨x,ss,rfl,hs,h64,q⟩:=h;obtain⟨u,rfl,rx⟩:=vals1 r;obtain⟨col,hz⟩:=I.src hK hs rx;have len:∀ {vals:List ad},Vals (ss.map V.int) vals->vals.length=ss.length:=fun v=>by have:=v.length;simpa using this.symm
 refine sorted_gen (I.ok.hd hc) col (fun vals v=>by rw[len v];simpa using hz) fun vals h1 d tk pv kp=>?_
 have hfr:H h1.objs.size=none:=(I.toks kp d tk).hok.fresh (aj _);refine sort_ints (s:={ s with heap:=h1.push (bM "list" vals.toArray 0),drawn:=d,toks:=tk }) (ao _ rfl) (intsAre_of pv) (by rw[len pv];exact h64) fun out ss' h' c a1 a2 a3 a4 a5=>⟨rfl,?_⟩
 have I1:=I.toks kp d tk;refine⟨.ref h1.objs.size,_,I1.laid (a:=h1.objs.size) (o:=.lst (ss'.map V.int)) (t':=tk) (fun b o e=>a5 b o (aC (aq e)) (af _ e)) (aj _) ⟨?_,out,c,vals_ints a1,a4⟩,rfl,q _ _ hfr a2 a3⟩
 have:=a2.length_eq
 rw[ag,this];simpa using hz
def rSrtT (K:Fg):List V->Hp->VK->Prop:=fun xs H Q=>∃ (x:V) (us:List V) (ds:List (List Str)),xs=[x]/\Src K H x us/\bb (dT K dS H) us ds/\ds.Nodup/\ds.length < 64/\∀ (p:Addr) (idx:List Nat),H p=none->idx.Perm (aD us.length)->(idx.map fun i=>ds.getD i []).Pairwise (fun a b=>HT.lexS a b=true)->(idx.map fun i=>ds.getD i []).Perm ds->Q (.ref p) (upd H p (.lst (idx.map fun i=>us.getD i V.non)))
theorem tsOf {pins:List (Addr × Obj)} {σ:St} {H:Hp} {s:ah} (I:Inv X pins σ H s) (hK:X.K=K) {h':aS} (k:∀ b o,s.heap.get? b=some o->h'.get? b=some o):∀ {us:List V} {vs:List ad} {ds:List (List Str)},Vals us vs->bb (dT K dS H) us ds->bb (KS.TS h') vs ds
 | _,_,_,.nil,.nil=>.nil
 | _,_,_,.cons r q,.cons d p=>by
  refine .cons ?_ (tsOf I hK k q p);obtain⟨b,xs,e,hq,pp⟩:=d;rw[e] at r;cases r;rw[<- hK] at hq;obtain⟨its,ri,⟨o,ho,z⟩,_⟩:=I.tuple hq;exact⟨b,its.toArray,rfl,⟨o,k b o ho,z⟩,sare_of pp ri⟩
theorem vals_idx {us:List V} {vs:List ad} (p:Vals us vs):∀ (idx:List Nat),(∀ i∈idx,i < us.length)->Vals (idx.map fun i=>us.getD i V.non) (idx.map fun i=>vs.getD i bg)
 | [],_=>.nil
 | i::idx,h=>by
  refine .cons ?_ (vals_idx p idx fun j hj=>h j (au _ hj));have hi:=h i ar;obtain⟨u,e,r⟩:=p.get (ai hi);show RelV (us.getD i V.non) (vs.getD i bg);rw[ay,ay,e,ai hi];exact r
theorem call_srtT (hu:X.A.units + 8 < bS) (hK:X.K=K:=by rfl) (hc:X.calm=true:=by rfl):CallR X (.builtin "sorted") (rSrtT K):=by
 intro pins s σ H xs us Q I r h;obtain⟨x,ys,ds,rfl,hs,hp,nd,h64,q⟩:=h;obtain⟨u,rfl,rx⟩:=vals1 r;obtain⟨col,hz⟩:=I.src hK hs rx;have hl:ys.length=ds.length:=cz hp;refine sorted_gen (I.ok.hd hc) col (fun vals v=>by rw[<- v.length];exact hz) fun vals h1 d tk pv kp=>?_
 have hvl:=pv.length;have I1:=I.toks kp d tk;have hfr:H h1.objs.size=none:=I1.hok.fresh (aj _);refine KS.sort_tups (s:={ s with heap:=h1.push (bM "list" vals.toArray 0),drawn:=d,toks:=tk }) (ds:=ds) (by show X.A.units + 1 + 1 < _;lia) (ao _ rfl) (tsOf I1 hK (fun b o e=>af _ e) pv hp) nd (by lia) fun idx h' c i1 i2 i3 g kk=>⟨rfl,?_⟩
 have hin:∀ i∈idx,i < ys.length:=fun i hi=>by have:=aM.mp (i1.mem_iff.mp hi);lia
 have il:idx.length=vals.length:=by have:=i1.length_eq;simpa using this
 refine⟨.ref h1.objs.size,_,I1.laid (a:=h1.objs.size) (o:=.lst (idx.map fun i=>ys.getD i V.non)) (t':=tk) (fun b o e=>kk b o (aC (aq e)) (af _ e)) (aj _) ⟨?_,_,c,vals_idx pv idx hin,g⟩,rfl,q _ idx hfr (by rw[hvl];exact i1) i2 i3⟩
 rw[ag];lia
end
section
variable {κ:Type} [DecidableEq κ]
def valV (kvs:List (κ × V)) (k:κ):Option V:=(kvs.find? fun kv=>decide (kv.1=k)).map (·.2)
theorem valV_pos {p:κ × V} {r:List (κ × V)} {k:κ} (e:p.1=k):valV (p::r) k=some p.2:=by simp[valV,cR,e]
theorem valV_neg {p:κ × V} {r:List (κ × V)} {k:κ} (e:¬ p.1=k):valV (p::r) k=valV r k:=by simp[valV,cR,e]
theorem KV.val {kvs:List (κ × V)} {vs:List (κ × ad)} (r:KV kvs vs) (k:κ):RelO (valV kvs k) (valueAt vs k):=by
 unfold KV at r
 induction r with
 | nil=>exact True.intro
 | @cons p q ps qs h t ih =>
  obtain⟨h1,h2⟩:=h
  by_cases e:p.1=k
  ·have e':q.1=k:=h1.symm.trans e;have b:valueAt (q::qs) k=some q.2:=by simp[valueAt,cR,e']
   rw[valV_pos e,b];exact h2
  ·have e':¬ q.1=k:=fun z=>e (h1.trans z);have b:valueAt (q::qs) k=valueAt qs k:=by simp[valueAt,cR,e']
   rw[valV_neg e,b];exact ih
end
theorem kV_is {P:aB} {w:aN} {k:Key} {u:ad} (r:RelV (kV k) u):(mixKind P w).is k u=true:=by
 cases k with
 | inl i=>obtain⟨t,e⟩:=(show ∃ t,u=kw i t from r);subst e;exact mixKind_int P w i t
 | inr x=>obtain⟨t,e⟩:=(show ∃ t,u=iT x t from r);subst e;exact mixKind_str P w x t
theorem items_are {P:aB} {w:aN}:∀ {ks:List Key} {us:List ad},Vals (ks.map kV) us->ItemsAre (mixKind P w) ks us
 | [],_,r=>by rw[fq] at r;cases r;exact .nil
 | k::ks,_,r=>by
  rw[bm] at r;cases r with
  | cons h t=>exact .cons (kV_is h) (items_are t)
abbrev KT (H:Hp):List (List Key × V)->List (List Key × Addr × ad)->Prop:=bb fun p q=>p.1=q.1/\H q.2.1=some (.tup (p.1.map kV))/\RelV p.2 q.2.2
theorem KT.val {H:Hp} {kvs:List (List Key × V)} {xs:List (List Key × Addr × ad)} (r:KT H kvs xs) (k:List Key):RelO (valV kvs k) ((atKey xs k).map (·.2)):=by
 induction r with
 | nil=>exact True.intro
 | @cons p q ps qs h t ih =>
  obtain⟨h1,_,h2⟩:=h
  by_cases e:p.1=k
  ·have e':q.1=k:=h1.symm.trans e;have b:atKey (q::qs) k=some q.2:=by simp[atKey,cR,e']
   rw[valV_pos e,b];exact h2
  ·have e':¬ q.1=k:=fun z=>e (h1.trans z);have b:atKey (q::qs) k=atKey qs k:=by simp[atKey,cR,e']
   rw[valV_neg e,b];exact ih
section
variable {P:aB} {w:aN} {H:Hp} {h:aS} {a:Addr}
theorem rd_of {u:HO} (ok:HOk P w H h) (e:Rd H a u):ObjOk P w H h a u:=e.ok ok
theorem dk_rd {kvs:List (Key × V)} (ok:HOk P w H h) (e:Rd H a (.dK kvs)):kvs.length<=sizeLine/\(a == gy)=false/\∃ vs,KV kvs vs/\h.DictOf (mixKind P w) a vs :=
 show ObjOk P w H h a (.dK kvs) from rd_of ok e
theorem key_of {ks:List Key} (ok:HOk P w H h) (e:H a=some (.tup (ks.map kV))):(tupleKind (mixKind P w)).is h ks a:=by
 obtain⟨_,its,r,⟨o,h1,h2,n,h3⟩,_⟩:=(show ObjOk P w H h a (.tup (ks.map kV)) from ok a _ e)
 exact⟨o,its.toArray,n,h1,h2,h3,by simpa using items_are r⟩
theorem dt_rd {kvs:List (List Key × V)} (ok:HOk P w H h) (e:Rd H a (.dT kvs)):kvs.length<=sizeLine/\(a == gy)=false /\
  ∃ xs,KT H kvs xs/\h.DictOfH (tupleKind (mixKind P w)) a xs:=by
 obtain⟨z,y,xs,r,o,es,ep,h1,h2,h3,h4,h5⟩:=(show ObjOk P w H h a (.dT kvs) from rd_of ok e)
 refine⟨z,y,xs,r,o,es,ep,h1,h2,h3,h4,fun x hx=>?_,h5⟩;have all:∀ {l:List (List Key × V)} {m:List (List Key × Addr × ad)},KT H l m->∀ x∈m,(tupleKind (mixKind P w)).is h x.1 x.2.1:=by
  intro l m q
  induction q with
  | nil=>intro x hx;exact nomatch hx
  | @cons p q ps qs hq t ih =>
   intro x hx;rcases ax.mp hx with e | hx
   ·subst e;exact key_of ok (by rw[<- hq.1];exact hq.2.1)
   ·exact ih x hx
 exact all r x hx
end
def DGet (H:Hp) (a:Addr) (y:V) (r:Option V):Prop :=
 (∃ kvs k,Rd H a (.dK kvs)/\y=kV k/\r=valV kvs k)\/∃ kvs k b,Rd H a (.dT kvs)/\y=.ref b/\H b=some (.tup (k.map kV))/\r=valV kvs k
section
variable {X:Cx} {pins:List (Addr × Obj)} {σ:St} {H:Hp} {s:ah} {a:Addr} {y v:V} {u r:ad} {o:Option V} {A:aO} {E:ad->ah->Prop}
theorem Inv.big (I:Inv X pins σ H s):gy < s.heap.objs.size:=by
 have h:aX < s.heap.objs.size:=(I.mod.glob.keeps I.bk).lt;exact dZ (by decide) h
theorem d_getItem {Q:ad->ah->Prop} (hu:A.units + 1 < bS) (I:Inv X pins σ H s) (g:DGet H a y (some v)) (ry:RelV y u) (h:∀ w' s',Inv X pins σ H s'->RelV v w'->Q w' s') :
  aw (aA X.prog X.w) A (ik (.ref a) u) Q E s:=by
 rcases g with⟨kvs,k,e,ey,l⟩ | ⟨kvs,k,b,e,ey,eb,l⟩
 ·subst ey;obtain⟨z,hd,vs,rel,dd⟩:=dk_rd I.hok e;obtain⟨w',hw,rw'⟩:=RelO.some_of (v:=v) (o:=valueAt vs k) (by rw[l];exact rel.val k)
  exact wpAny_getItem_of (kV_is ry) dd.mapOf hw (h w' _ (I.tok _) rw')
 ·subst ey;cases (show u=cA b from ry)
  obtain⟨z,hd,xs,rel,dd⟩:=dt_rd I.hok e;obtain⟨w',hw,rw'⟩:=RelO.some_of (v:=v) (o:=(atKey xs k).map (·.2)) (by rw[l];exact rel.val k)
  obtain⟨p,hp,hp2⟩:=bK.mp hw;refine wpAny_getItem_heap (tupleKind_room_in1 hu) (key_of I.hok eb) dd hp ?_;rw[hp2];exact h w' _ (I.tok _) rw'
theorem dk_new {P:aB} {w:aN} {H':Hp} {h':aS} {kvs:List (Key × V)} {vs:List (Key × ad)} (z:kvs.length<=sizeLine) (hd:(a == gy)=false) (rel:KV kvs vs) (dd:h'.DictOf (mixKind P w) a vs) :
  ObjOk P w H' h' a (.dK kvs):=⟨z,hd,vs,rel,dd⟩
end
def NoSl (i:Expr):Prop:=∀ ov iv,subscripted i false ov iv=operate [ov,iv] (ik ov iv)
theorem subD_of {prog:aB} {w:aN} {A:aO} {E:ad->ah->Prop} {s:ah} {env:Env} {value slice:Expr} {pos:Pos} {T id:String} {Q:ad->ah->Prop}
  (hl:hX (.type T) "__getitem__" = pure (some (.builtin id))) (hs:NoSl slice)
  (h:aw (aA prog w) A (eval value env) (fun o s₁=>aw (aA prog w) A (eval slice env) (fun i s₂=>s₂.TypeIs o T/\aw (aA prog w) A (ik o i) Q E s₂) E s₁) E s) :
  aw (aA prog w) A (eval (.Subscript value slice pos) env) Q E s:=by
 refine Subscript_ (cH h (fun o s₁ h₁=>cH h₁ (fun i s₂ h₂=>?_) fun _ _ x=>x) fun _ _ x=>x);obtain⟨hT,h₂⟩:=h₂;unfold subscriptTail;refine aa ?_;rw[getitemInPython_of_ne hT.not_modules];refine aa (gv hT hl ?_);have fin:aw (aA prog w) A (subscripted slice false o i) (fun r s₃=>aw (aA prog w) A (letTemporaryGo value o r >>= fun _=>pure r) Q E s₃) E s₂:=by
  rw[hs o i];exact wpAny_operating (cH h₂ (fun r s₃ h₃=>aa (wpAny_letTemporaryGo (ae h₃))) fun _ _ x=>x)
 first
  | exact ae (aa fin)
  | exact aa (ae (aa fin))
  | exact aa fin
theorem dict_typeIs {X:Cx} {pins:List (Addr × Obj)} {σ:St} {H:Hp} {s:ah} {a:Addr} {y:V} {o:Option V} (I:Inv X pins σ H s) (g:DGet H a y o):s.TypeIs (.ref a) "dict":=by
 rcases g with⟨kvs,k,e,_,_⟩ | ⟨kvs,k,b,e,_,_,_⟩
 ·obtain⟨_,_,vs,_,dd⟩:=dk_rd I.hok e;exact dd.typeIs
 ·obtain⟨_,_,xs,_,dd⟩:=dt_rd I.hok e;exact dd.typeIs
def tDGet (td ty:TE):TE:=fun σ H Q=>td σ H fun x H1=>ty σ H1 fun y H2=>∃ a v,x=.ref a/\DGet H2 a y (some v)/\Q v H2
section
variable {X:Cx} {o i e value:Expr} {pos pos' tpos:Pos} {td ty tv:TE}
theorem pe_dget (hu:X.A.units + 1 < bS) (ho:PE X o td) (hi:PE X i ty) (hs:NoSl i):PE X (.Subscript o i pos) (tDGet td ty):=by
 intro pins s σ H Q I h;refine subD_of PySem.F.slot_dict_getitem.lookup hs (thn (ho pins s σ H _ I h) fun u s1 ⟨x,H1,I1,rx,q1⟩=>thn (hi pins s1 σ H1 _ I1 q1) fun iv s2 ⟨y,H2,I2,ry,a,v,ex,g,q2⟩=>?_);subst ex;obtain rfl:u=cA a:=rx;exact⟨dict_typeIs I2 g,d_getItem hu I2 g ry fun w' s3 I3 rw'=>⟨v,H2,I3,rw',q2⟩⟩
end
section
variable {X:Cx} {K:Fg} {pos:Pos} {k:Nat}
section
variable {elt target iter:Expr} {ifs:List Expr} {gs:List jw} {scope:Scope} {N':List Str} {is:List (Option Nat)} {wi:ID} {g:TG} {gd:GD} {tt:TD} {tv:Addr->TB} {tb:BD} {oc:Option Str} {m:ad->Env->Sem Unit} {b:Bool}
theorem e_comp (L L':List Nat) (hcalm:X.calm=true) (hN:X.N.Nodup)
  (hturn:∀ it acc env,i4 (.ListComp elt (⟨target,iter,ifs,0⟩::gs) scope pos) 0 it acc env=turnOf target ifs iter.pos (m acc env) (.compLoop (.ListComp elt (⟨target,iter,ifs,0⟩::gs) scope pos) 0 it acc env) it env)
  (cp:Cap X.N scope N' is) (hL:∀ σ,Free L (capt is σ)) (hi:PID K X target iter wi) (hgd:CG K L L' g gd)
  (hg:∀ cl C fp s H,PG (cxComp2 X N' scope cl C fp s H oc) target g) (ht:∀ cl C fp s H,PTs (cxComp2 X N' scope cl C fp s H oc) ifs (upT K tt)) (hbd:BodyOk K L' tv tb) (hb:∀ cl C fp s H D,PB (cxComp2 X N' scope cl C fp s H oc) (m (.ref D) (km scope cl C X.env)) (tv D))
  (hcf:∀ n acc,gC n scope.names acc=ocl oc n acc:=by intro _ _;rfl) (hpc:∀ h,jF h scope.names=ohp oc h:=by intro _;rfl)
  (hkind:scope.kind=.function:=by rfl) (hcell:∀ y∈scope.names,y.2=.cell->oc=some y.1:=by decide +kernel)
  (hu:∀ y∈scope.names,scope.names.lookup y.1=some y.2:=by decide +kernel) (hoc:∀ x,oc=some x->scope.names.lookup x=some .cell:=by intro x h;cases h <;> rfl)
  (hVb:okV scope.names X.env.scope.names=true:=by first | rfl | kernel_rfl)
  (hs:∀ x,dQ iter X.env x=pure x:=by intro _;rfl) :
  PD K X (.ListComp elt (⟨target,iter,ifs,0⟩::gs) scope pos) (compD b is wi gd tt tb):=.of (pe_compG hcalm hN hturn cp hi.o hg ht hb hcf hpc hkind hcell hu hoc hVb hs) (up_comp hL hgd hbd)
theorem ds_setC {x:Str} {i:Nat} {pos' spos:Pos} (hix:X.N[i]?=some x) (hx:Loc X.env.scope x) (L L':List Nat) (hcalm:X.calm=true) (hN:X.N.Nodup)
  (hturn:∀ it acc env,i4 (.ListComp elt (⟨target,iter,ifs,0⟩::gs) scope pos) 0 it acc env=turnOf target ifs iter.pos (m acc env) (.compLoop (.ListComp elt (⟨target,iter,ifs,0⟩::gs) scope pos) 0 it acc env) it env)
  (cp:Cap X.N scope N' is) (hL:∀ σ,Free L (capt is σ)) (hi:PID K X target iter wi) (hgd:CG K L L' g gd)
  (hg:∀ cl C fp s H,PG (cxComp2 X N' scope cl C fp s H oc) target g) (ht:∀ cl C fp s H,PTs (cxComp2 X N' scope cl C fp s H oc) ifs (upT K tt)) (hbd:BodyOk K L' tv tb) (hb:∀ cl C fp s H D,PB (cxComp2 X N' scope cl C fp s H oc) (m (.ref D) (km scope cl C X.env)) (tv D))
  (hcf:∀ n acc,gC n scope.names acc=ocl oc n acc:=by intro _ _;rfl) (hpc:∀ h,jF h scope.names=ohp oc h:=by intro _;rfl)
  (hkind:scope.kind=.function:=by rfl) (hcell:∀ y∈scope.names,y.2=.cell->oc=some y.1:=by decide +kernel)
  (hu:∀ y∈scope.names,scope.names.lookup y.1=some y.2:=by decide +kernel) (hoc:∀ x,oc=some x->scope.names.lookup x=some .cell:=by intro x h;cases h <;> rfl)
  (hVb:okV scope.names X.env.scope.names=true:=by first | rfl | kernel_rfl)
  (hs:∀ x,dQ iter X.env x=pure x:=by intro _;rfl)
  (hsw:jC (.ListComp elt (⟨target,iter,ifs,0⟩::gs) scope pos) (some (.Name x pos')) spos.line X.env=pure true:=by first | rfl | kernel_rfl) (hf:X.fn x=true\/X.env.scope.names.lookup x=some .local:=by first | exact .inl rfl | exact .inr rfl | assumption) :
  PSD K X (.Assign [.Name x pos'] (.ListComp elt (⟨target,iter,ifs,0⟩::gs) scope pos) spos) (dAsg (compD b is wi gd tt tb) (gdName i)):=.of (ps_setC hix hx hcalm hN hturn cp hi.o hg ht hb hcf hpc hkind hcell hu hoc hVb hs hsw hf) fun D' σ H z0=>z0.el fun F S Γ E r gm q c=>by
 refine up_comp (tt:=tt) (b:=b) hL hgd hbd σ H _ ⟨F,S,Γ,_,r,gm,q,fun v d H1 S1 x1 r1 v1 q1=>?_⟩;exact c.nx _ S1 _ H1 x1 r1 ((gm.ext x1).set v1 i) q1
end
def dCut (t u:SD):SD:=fun E Γ S=>∃ M:Gm->Sto->Prop,t { E with nx:=M } Γ S/\∀ Γ' S',M Γ' S'->u E Γ' S'
theorem dss_cut {st:Stmt} {rest:List Stmt} {t u:SD} (h1:PSD K X st t) (h2:PSsD K X rest u):PSsD K X (st::rest) (dCut t u):=.of (pss_cons h1.o h2.o) fun D' σ H ⟨F,S,Γ,E,r,g,⟨M,q,hM⟩,c⟩ =>
 ⟨F,S,Γ,{ E with nx:=M },r,g,q,fun Γ1 S1 σ1 H1 x1 r1 g1 q1=>⟨F,S1,Γ1,E,r1,g1,hM Γ1 S1 q1,c.ext x1⟩,c.rt,c.bk,c.ct⟩
abbrev SpD:=List D->Sto->DK->Prop
def spU (K:Fg) (sp:SpD):Sp:=fun vs H Q _=>∃ F S ds QD,Rp K F S H/\RepL K (mt S F) H ds vs/\sp ds S QD/\Cn K F S H QD Q
theorem e_callD {x:Str} {ps:List Str} {sp:SpD} {p:Pos} {e:Expr} {es:List Expr} {t:AD} (Df':Df X.prog X.w X.K X.mg X.base k x ps (spU K sp)) (hr:Room k X.A) (hg:Gl X x) (ha:PAD K X (e::es) t)
  (hdb:(x == ("__debug__" : Str))=false:=by decide) (he:am (e::es) X.env=(false,eval e X.env)::am es X.env:=by rfl) (hpl:(cy pos (am es X.env)).any (·.1)=false:=by rfl) :
  PD K X (.Call (.Name x p) (e::es) [] pos) (dCB sp t):=.of (pe_callD Df' hr hg ha.o hdb he hpl) fun σ H Q z0=>z0.el fun F S Γ QD r g q c =>
 ⟨F,S,Γ,_,r,g,q,fun vs ds H1 S1 x1 r1 v1 q1=>by
  show spU K sp (vs++[]) H1 Q E0;rw[eN];exact⟨F,S1,ds,QD,r1,v1,q1,Cn.shift c x1⟩⟩
inductive Frz (S S':Sto):D->D->Prop where
 | same (d:D):Frz S S' d d
 | ref {a:Addr} {xs ys:List D} (h:S a=some (.lst xs)) (h':S' a=none) (l:Frz S S' (.tup xs) (.tup ys)):Frz S S' (.ref a) (.lst ys)
 | nil:Frz S S' (.tup []) (.tup [])
 | cons {d e:D} {ds es:List D} (h:Frz S S' d e) (l:Frz S S' (.tup ds) (.tup es)):Frz S S' (.tup (d::ds)) (.tup (e::es))
theorem frz_ok {F:Am} {S S':Sto} {H:Hp} (r:Rp K F S H) (hs:∀ a o,S' a=some o->S a=some o):∀ {d e:D},Frz S S' d e->(∀ v,RepV K (mt S F) H d v->RepV K (mt S' F) H e v)/\(∀ ds es,d=.tup ds->e=.tup es->∀ vs,RepL K (mt S F) H ds vs->RepL K (mt S' F) H es vs):=by
 intro d e h;have kp:Keep (mt S F) H (mt S' F) H:=(Ext.less (H:=H) hs).kp
 induction h with
 | same d=>exact⟨fun v h=>h.keep kp,fun ds es e1 e2 vs l=>by cases e1;cases e2;exact l.keep kp⟩
 | @ref a xs ys h h' l ih =>
  refine⟨fun v hv=>?_,fun ds es e1=>by cases e1⟩
  rw[rref hv];obtain⟨us,hu,lu⟩:=r.obj a _ h;unfold RepV;refine⟨a,us,rfl,.inl ⟨fun z=>?_,.inl hu⟩,ih.2 xs ys rfl rfl us lu⟩;rcases z with z | z
  ·exact z h'
  ·rw[(r.frm a z).2] at h;cases h
 | nil=>exact⟨fun v h=>h.keep kp,fun ds es e1 e2 vs l=>by cases e1;cases e2;exact l.keep kp⟩
 | @cons d e ds es h l ih1 ih2 =>
  have ls:∀ vs,RepL K (mt S F) H (d::ds) vs->RepL K (mt S' F) H (e::es) vs:=fun vs l=>by
   unfold RepL at l ⊢;obtain⟨v,vs,rfl,r1,l1⟩:=l;exact⟨v,vs,rfl,ih1.1 v r1,ih2.2 ds es rfl rfl vs l1⟩
  refine⟨fun v hv=>?_,fun ds' es' e1 e2 vs l=>by cases e1;cases e2;exact ls vs l⟩
  unfold RepV at hv ⊢;obtain⟨a,us,rfl,t,l⟩:=hv;exact⟨a,us,rfl,t.keep kp,ls us l⟩
def rtD (Q:DK):DK:=fun d S=>∃ d' S',(∀ a o,S' a=some o->S a=some o)/\Frz S S' d d'/\Q d' S'
theorem rt_same {Q:DK} {d:D} {S:Sto} (h:Q d S):rtD Q d S:=⟨d,S,fun _ _ e=>e,.same d,h⟩
theorem rt_drop {Q:DK} {d:D} {S S':Sto} (hs:∀ a o,S' a=some o->S a=some o) (h:Q d S'):rtD Q d S:=⟨d,S',hs,.same d,h⟩
theorem rt_frz {Q:DK} {a:Addr} {xs:List D} {S S':Sto} (h:S a=some (.lst xs)) (hs:∀ a o,S' a=some o->S a=some o) (h':S' a=none) (q:Q (.lst xs) S'):rtD Q (.ref a) S:=⟨.lst xs,S',hs,.ref h h' (.same _),q⟩
def endsD (Q:DK):EndsD:={ nx:=fun _ S=>rtD Q .non S,rt:=rtD Q }
def startD (N:List Str) (ds:List D):Gm:=ds.map some++aQ (N.length - ds.length) none
theorem repStart {M:Am} {H:Hp} {N:List Str} {ds:List D} {vs:List V} (l:RepL K M H ds vs):RepG K M H (startD N ds) (start N vs):=by
 have reps:∀ n,RepG K M H (aQ n none) (aQ n none):=fun n=>by
  induction n with
  | zero=>exact rfl
  | succ n ih=>exact⟨none,_,rfl,ih⟩
 have gen:∀ {ds:List D} {vs:List V} {g:Gm} {σ:St},RepL K M H ds vs->RepG K M H g σ->RepG K M H (ds.map some++g) (vs.map some++σ):=by
  intro ds
  induction ds with
  | nil=>intro vs g σ l h;unfold RepL at l;subst l;exact h
  | cons d ds ih =>
   intro vs g σ l h;unfold RepL at l;obtain⟨v,vs,rfl,r,l⟩:=l;exact⟨v,_,rfl,r,ih l h⟩
 unfold startD start;rw[l.length];exact gen l (reps _)
theorem e_def {P:aB} {w:aN} {mg:Str->Option ad} {base:aS} {x:Str} {st:Stmt} {N ps:List Str} {sp:SpD} (T:Tx K mg x st) (S:FnScope N ps (defScope st))
  (b:∀ {f:Addr} {fd:dN},Fun K x x st f fd->Binds K fd ps []) (len:∀ ds S Q,sp ds S Q->ds.length=ps.length)
  (h:∀ (f:Addr) (cdv:ad) (A:aO) (outer:List Env) (s:ah) (H:Hp) (E:XK),Room k (A.deeper (ju x (defScope st) s.heap.objs.size f cdv)) ->
   ∃ t,PSsD K (cxOf CX0 P w K mg base N x (defScope st) f cdv A outer s H E).nox (defBody st) t/\∀ ds S Q,sp ds S Q->t (endsD Q) (startD N ds) S):Df P w K mg base (k + 1) x ps (spU K sp):=by
 refine T.df b fun {f fd} Fn=>Fn.ok S (fun vs H Q E z1=>by obtain⟨F,S,ds,QD,r,l,hsp,c⟩:=z1;rw[l.length];exact len ds S QD hsp) (fun cdv A outer s H vs Q E' hr z1=>?_)
 obtain⟨F,S,ds,QD,r,l,hsp,c⟩:=z1;obtain⟨t,h1,h2⟩:=h f cdv A outer s H E' hr;have fin:∀ v d H' S',Ext S H S' H'->Rp K F S' H'->RepV K (mt S' F) H' d v->rtD QD d S'->Q v H':=fun v d H' S' x1 r1 v1 z2=>by
  obtain⟨d',S2,hs,fz,q⟩:=z2;exact c v d' H' S2 (x1.trans (Ext.less hs)) (r1.less hs) ((frz_ok r1 hs fz).1 v v1) q
 exact⟨_,h1.o,F,S,startD N ds,endsD QD,r,repStart l,h2 ds S QD hsp,fun Γ' S' σ' H' x1 r1 g1 q=>fin .non .non H' S' x1 r1 (by unfold RepV;rfl) q,fin,fun _ _ _ _ _ _ _ q=>q.elim,fun _ _ _ _ _ _ _ q=>q.elim⟩
theorem intsD {M:Am} {H:Hp}:∀ {as:List Int},RepL K M H (as.map D.int) (as.map V.int)
 | []=>RepL.nil
 | a::as=>RepL.cons (by unfold RepV;rfl) intsD
def dMt (rd:D->List D->Sto->DK->Prop) (ck:D->Sto->Prop) (to:ED) (t:AD):ED:=fun Γ S Q=>to Γ S fun o S1=>ck o S1/\t Γ S1 fun ds S2=>rd o ds S2 Q
def MtD (K:Fg) (T:String) (r:V->List V->Hp->VK->Prop) (rd:D->List D->Sto->DK->Prop) (ck:D->Sto->Prop):Prop :=
 (∀ F S H d x,Rp K F S H->RepV K (mt S F) H d x->ck d S->tyV K T x H)/\∀ F S H d ds x vs Q QD,Rp K F S H->RepV K (mt S F) H d x->RepL K (mt S F) H ds vs->rd d ds S QD->Cn K F S H QD Q->r x vs H Q
theorem e_bm {T id:String} {name:Str} {r:V->List V->Hp->VK->Prop} {rd:D->List D->Sto->DK->Prop} {ck:D->Sto->Prop} {o e:Expr} {es:List Expr} {to:ED} {t:AD} {apos cpos:Pos} (M:MtD K T r rd ck)
  (pa:PlainAttrs T) (slot:Slot T name id) (hty:typeOf (.builtin id)=pure (.type "method_descriptor")) (hm:MtR X id r) (ho:PD K X o to) (ha:PAD K X (e::es) t) (hK:X.K=K:=by rfl)
  (hbase:fZ o name X.env (eval o X.env)=eval o X.env:=by rfl)
  (hfew:((cy cpos (am (e::es) X.env)).all (fun x=>!x.1) && (kl cpos (iu [] X.env)).all (fun x=>x.1.isSome)
   && decide ((e::es).length + ([]:List gK).length + (if ([]:List gK).isEmpty then 0 else 1) < 30))=true:=by rfl)
  (hline:(apos.endLine == cpos.line)=true:=by rfl) (hs:am (e::es) X.env=(false,eval e X.env)::am es X.env:=by rfl) (hplain:(cy cpos (am es X.env)).any (·.1)=false:=by rfl) :
  PD K X (.Call (.Attribute o name apos) (e::es) [] cpos) (dMt rd ck to t):=by
 subst hK;exact .of (pe_bm pa slot hty hm ho.o ha.o hbase hfew hline hs hplain) fun σ H Q z0=>z0.el fun F S Γ QD r g q c =>
  ⟨F,S,Γ,_,r,g,q,fun v d H1 S1 x1 r1 v1 ⟨k1,q1⟩=>⟨M.1 F S1 H1 d v r1 v1 k1,F,S1,Γ,_,r1,g.ext x1,q1,fun vs ds H2 S2 x2 r2 v2 q2=>M.2 F S2 H2 d ds v vs Q QD r2 (v1.ext x2) v2 q2 (Cn.shift c (x1.trans x2))⟩⟩
def ckL (d:D) (S:Sto):Prop:=match d with
 | .ref a=>∃ xs,S a=some (.lst xs)
 | _=>False
theorem ty_L {F:Am} {S:Sto} {H:Hp} {d:D} {x:V} (r:Rp K F S H) (h:RepV K (mt S F) H d x) (c:ckL d S):tyV K "list" x H:=by
 cases d with
 | ref a =>
  obtain⟨xs,hx⟩:=c;rw[rref h];obtain⟨us,hu,_⟩:=r.obj a _ hx;exact .inl ⟨rfl,us,SqL.of hu⟩
 | _=>exact c.elim
theorem Cn.write {F:Am} {S:Sto} {H:Hp} {QD:DK} {Q:VK} (c:Cn K F S H QD Q) (r:Rp K F S H) {a:Addr} {xs ys:List D} {us ws:List V} (hS:S a=some (.lst xs)) (l:RepL K (mt S F) H ys ws) {d:D} {v:V} (hv:RepV K (mt S F) H d v) (q:QD d (supd S a (.lst ys))):Q v (upd H a (.lst ws)):=by
 have hS':S a≠none:=by rw[hS];exact fun z=>by cases z
 have x:Ext S H (supd S a (.lst ys)) (upd H a (.lst ws)):=Ext.write hS';exact c v d _ _ x (r.write hS' ⟨ws,upd_same,l.ext x⟩) (hv.ext x) q
def appD:D->List D->Sto->DK->Prop:=fun o ds S Q=>match o,ds with
 | .ref a,[y]=>∃ xs,S a=some (.lst xs)/\xs.length < sizeLine/\Q .non (supd S a (.lst (xs++[y])))
 | _,_=>False
theorem md_app:MtD K "list" rAppend appD ckL:=⟨fun F S H d x r h c=>ty_L r h c,fun F S H d ds x vs Q QD r h l q c=>by
 match d,ds,q with
 | .ref a,[y],⟨xs,hS,hz,q⟩ =>
  obtain⟨v,rfl,rv⟩:=l.one;obtain⟨us,hu,lu⟩:=r.obj a _ hS;rw[rref h];exact⟨a,us,v,rfl,rfl,hu,by rw[lu.length];exact hz,c.write r (us:=us) hS (lu.app (RepL.cons rv RepL.nil)) (by unfold RepV;rfl) q⟩⟩
def popAtD:D->List D->Sto->DK->Prop:=fun o ds S Q=>match o,ds with
 | .ref a,[.int i]=>∃ xs j y,S a=some (.lst xs)/\i=(j:Nat)/\(j:Nat) < 2 ^ 63/\xs[(j:Nat)]?=some y/\Q y (supd S a (.lst (xs.eraseIdx j)))
 | _,_=>False
theorem md_popAt:MtD K "list" rPopAt popAtD ckL:=⟨fun F S H d x r h c=>ty_L r h c,fun F S H d ds x vs Q QD r h l q c=>by
 match d,ds,q with
 | .ref a,[.int i],⟨xs,j,y,hS,hi,hj,hy,q⟩ =>
  obtain⟨v,rfl,rv⟩:=l.one;obtain⟨us,hu,lu⟩:=r.obj a _ hS;obtain⟨z,e1,rz⟩:=lu.get hy;rw[rref h,rint rv];have hjl:j < us.length:=by
   rcases bP j us.length with z | z
   ·exact z
   ·rw[bE z] at e1;cases e1
  have e2:seqIndex? i us.length=some j:=by
   subst hi
   have:ixN us.length (j:Int)=some j:=by unfold ixN;rw[if_pos (by lia),if_pos (by lia),bF]
   exact(ixN_seq this).1
  exact⟨a,us,i,j,z,rfl,rfl,hu,by lia,by subst hi;exact_mod_cast hj,e2,e1,c.write r (us:=us) hS (lu.erase j) rz q⟩⟩
theorem e_append {o e:Expr} {to:ED} {t:AD} {apos cpos:Pos} (ho:PD K X o to) (ha:PAD K X [e] t) (hK:X.K=K:=by rfl)
  (hbase:fZ o "append" X.env (eval o X.env)=eval o X.env:=by rfl)
  (hfew:((cy cpos (am [e] X.env)).all (fun x=>!x.1) && (kl cpos (iu [] X.env)).all (fun x=>x.1.isSome)
   && decide (([e]:List Expr).length + ([]:List gK).length + (if ([]:List gK).isEmpty then 0 else 1) < 30))=true:=by rfl)
  (hline:(apos.endLine == cpos.line)=true:=by rfl) (hs:am [e] X.env=(false,eval e X.env)::am [] X.env:=by rfl) (hplain:(cy cpos (am [] X.env)).any (·.1)=false:=by rfl) :
  PD K X (.Call (.Attribute o "append" apos) [e] [] cpos) (dMt appD ckL to t):=e_bm md_app gF PySem.F.slot_list_append PySem.F.type_list_append mt_append ho ha hK hbase hfew hline hs hplain
theorem e_popAt {o e:Expr} {to:ED} {t:AD} {apos cpos:Pos} (ho:PD K X o to) (ha:PAD K X [e] t) (hK:X.K=K:=by rfl)
  (hbase:fZ o "pop" X.env (eval o X.env)=eval o X.env:=by rfl)
  (hfew:((cy cpos (am [e] X.env)).all (fun x=>!x.1) && (kl cpos (iu [] X.env)).all (fun x=>x.1.isSome)
   && decide (([e]:List Expr).length + ([]:List gK).length + (if ([]:List gK).isEmpty then 0 else 1) < 30))=true:=by rfl)
  (hline:(apos.endLine == cpos.line)=true:=by rfl) (hs:am [e] X.env=(false,eval e X.env)::am [] X.env:=by rfl) (hplain:(cy cpos (am [] X.env)).any (·.1)=false:=by rfl) :
  PD K X (.Call (.Attribute o "pop" apos) [e] [] cpos) (dMt popAtD ckL to t):=e_bm md_popAt gF PySem.F.slot_list_pop PySem.F.type_list_pop mt_popAt ho ha hK hbase hfew hline hs hplain
def ckS (d:D) (S:Sto):Prop:=match d with
 | .str _=>True
 | _=>False
def rJoin (K:Fg):V->List V->Hp->VK->Prop:=fun x vs H Q=>∃ z y us ss,x=.str z/\vs=[y]/\(∃ a,y=.ref a/\SqL K H a us)/\bb (dS H) us ss/\(ss.map (·.length)).sum + ss.length * z.length<=16777216/\Q (.str (Txt.join z ss)) H
theorem mt_join (hK:X.K=K:=by rfl):MtR X "str.join" (rJoin K):=by
 subst hK;intro pins s σ H x xs v us Q I rx rs h;obtain⟨z,y,ws,ss,rfl,rfl,⟨a,rfl,sq⟩,p,hz,q⟩:=h;obtain⟨t,rfl⟩:=rx;obtain⟨u,rfl,ru⟩:=rs.one;cases ru;obtain⟨its,r,pl,_⟩:=I.list sq;exact join_list pl.isList (strs_of p r) hz fun t' k=>⟨.str _,H,I.tok k,⟨t',rfl⟩,q⟩
def joinD:D->List D->Sto->DK->Prop:=fun o ds S Q=>match o,ds with
 | .str z,[d]=>∃ ss,lsIs S d (ss.map D.str)/\(ss.map (·.length)).sum + ss.length * z.length<=16777216/\Q (.str (Txt.join z ss)) S
 | _,_=>False
theorem md_join:MtD K "str" (rJoin K) joinD ckS:=⟨fun F S H d x r h c=>by
 cases d with
 | str z=>rw[rstr h];exact rfl
 | _=>exact c.elim,fun F S H d ds x vs Q QD r h l q c=>by
 match d,ds,q with
 | .str z,[d],⟨ss,h1,hz,q⟩ =>
  obtain⟨v,rfl,rv⟩:=l.one;obtain⟨a,us,rfl,sq,lu⟩:=lsIs.sl r rv h1;rw[rstr h];exact⟨z,_,us,ss,rfl,rfl,⟨a,rfl,sq⟩,repStrs lu,hz,c.str r q⟩⟩
theorem e_join {o e:Expr} {to:ED} {t:AD} {apos cpos:Pos} (ho:PD K X o to) (ha:PAD K X [e] t) (hK:X.K=K:=by rfl)
  (hbase:fZ o "join" X.env (eval o X.env)=eval o X.env:=by rfl)
  (hfew:((cy cpos (am [e] X.env)).all (fun x=>!x.1) && (kl cpos (iu [] X.env)).all (fun x=>x.1.isSome)
   && decide (([e]:List Expr).length + ([]:List gK).length + (if ([]:List gK).isEmpty then 0 else 1) < 30))=true:=by rfl)
  (hline:(apos.endLine == cpos.line)=true:=by rfl) (hs:am [e] X.env=(false,eval e X.env)::am [] X.env:=by rfl) (hplain:(cy cpos (am [] X.env)).any (·.1)=false:=by rfl) :
  PD K X (.Call (.Attribute o "join" apos) [e] [] cpos) (dMt joinD ckS to t):=e_bm md_join PySem.F.plainAttrs_str PySem.F.slot_str_join PySem.F.type_str_join (mt_join hK) ho ha hK hbase hfew hline hs hplain
end
def leS (a b:Str):Bool:=!HT.ltS b a
def leT (a b:List Str):Bool:=!HT.lexS b a
theorem lexS_irr:∀ a:List Str,HT.lexS a a=false
 | []=>rfl
 | x::xs=>by rw[HT.lexS_cons,if_pos rfl,lexS_irr xs]
theorem leS_tr (a b c:Str) (h:leS a b=true) (h':leS b c=true):leS a c=true:=by
 unfold leS at *
 rw[c4] at *
 cases e:HT.ltS c a with
 | false=>rfl
 | true =>
  by_cases hab:b=a
  ·subst hab;rw[h'] at e;cases e
  ·have:=HT.ltS_tr e (HT.ltS_tot h hab)
   rw[h'] at this;cases this
theorem leS_tot (a b:Str):(leS a b || leS b a)=true:=by
 unfold leS;cases e:HT.ltS b a with
 | false=>rfl
 | true=>rw[HT.ltS_as e];rfl
theorem leS_anti {a b:Str} (h:leS a b=true) (h':leS b a=true):a=b:=by
 unfold leS at *
 rw[c4] at *
 exact bc fun n=>by
  have:=HT.ltS_tot h (fun z=>n z.symm)
  rw[h'] at this;cases this
theorem leT_tr (a b c:List Str) (h:leT a b=true) (h':leT b c=true):leT a c=true:=by
 unfold leT at *
 rw[c4] at *
 cases e:HT.lexS c a with
 | false=>rfl
 | true =>
  by_cases hab:b=a
  ·subst hab;rw[h'] at e;cases e
  ·have:=HT.lexS_tr e (HT.lexS_tot h hab)
   rw[h'] at this;cases this
theorem leT_tot (a b:List Str):(leT a b || leT b a)=true:=by
 unfold leT;cases e:HT.lexS b a with
 | false=>rfl
 | true=>rw[HT.lexS_as e];rfl
theorem leT_anti {a b:List Str} (h:leT a b=true) (h':leT b a=true):a=b:=by
 unfold leT at *
 rw[c4] at *
 exact bc fun n=>by
  have:=HT.lexS_tot h (fun z=>n z.symm)
  rw[h'] at this;cases this
def srS (l:List Str):List Str:=l.mergeSort leS
def srT (l:List (List Str)):List (List Str):=l.mergeSort leT
def srI (l:List Int):List Int:=l.mergeSort fun a b=>decide (a<=b)
theorem srS_perm (l:List Str):(srS l).Perm l:=iK _ _
theorem srT_perm (l:List (List Str)):(srT l).Perm l:=iK _ _
theorem srI_perm (l:List Int):(srI l).Perm l:=iK _ _
theorem srS_pw (l:List Str):(srS l).Pairwise fun a b=>leS a b=true:=gG leS_tr leS_tot l
theorem srT_pw (l:List (List Str)):(srT l).Pairwise fun a b=>leT a b=true:=gG leT_tr leT_tot l
theorem srI_pw (l:List Int):(srI l).Pairwise fun a b=>decide (a<=b)=true:=gG (le:=fun a b=>decide (a<=b)) (fun a b c h h'=>decide_eq_true (Int.le_trans (of_decide_eq_true h) (of_decide_eq_true h'))) (fun a b=>by
 rcases Int.le_total a b with h | h
 ·rw[decide_eq_true h];rfl
 ·rw[decide_eq_true h,Bool.or_true]) l
theorem srS_eq {l out:List Str} (p:out.Perm l) (h:out.Pairwise fun a b=>HT.ltS b a=false):out=srS l :=
 (p.trans (srS_perm l).symm).eq_of_pairwise (fun _ _ _ _ h h'=>leS_anti h h') (h.imp fun h=>by unfold leS;rw[h];rfl) (srS_pw l)
theorem srT_eq {l out:List (List Str)} (p:out.Perm l) (h:out.Pairwise fun a b=>HT.lexS a b=true):out=srT l :=
 (p.trans (srT_perm l).symm).eq_of_pairwise (fun _ _ _ _ h h'=>leT_anti h h') (h.imp fun h=>by unfold leT;rw[HT.lexS_as h];rfl) (srT_pw l)
theorem srI_eq {l out:List Int} (p:out.Perm l) (h:out.Pairwise (·<=·)):out=srI l :=
 (p.trans (srI_perm l).symm).eq_of_pairwise (fun _ _ _ _ h h'=>Int.le_antisymm (of_decide_eq_true h) (of_decide_eq_true h')) (h.imp fun h=>decide_eq_true h) (srI_pw l)
section
variable {X:Cx} {K:Fg} {pos:Pos} {k:Nat} {e:Expr} {t:AD} {p:Pos}
theorem repInts {M:Am} {H:Hp}:∀ {as:List Int} {xs:List V},RepL K M H (as.map D.int) xs->xs=as.map V.int
 | [],xs,h=>by rw[fq] at h;unfold RepL at h;exact h
 | a::as,xs,h=>by
  rw[bm] at h;unfold RepL at h;obtain⟨v,vs,rfl,r,l⟩:=h;unfold RepV at r;rw[r,repInts l];rfl
theorem intsRep {M:Am} {H:Hp}:∀ {as:List Int},RepL K M H (as.map D.int) (as.map V.int)
 | []=>RepL.nil
 | a::as=>RepL.cons (by unfold RepV;rfl) intsRep
theorem repStr' {M:Am} {H:Hp}:∀ {as:List Str} {xs:List V},RepL K M H (as.map D.str) xs->xs=as.map V.str
 | [],xs,h=>by rw[fq] at h;unfold RepL at h;exact h
 | a::as,xs,h=>by
  rw[bm] at h;unfold RepL at h;obtain⟨v,vs,rfl,r,l⟩:=h;unfold RepV at r;rw[r,repStr' l];rfl
theorem strRep' {M:Am} {H:Hp}:∀ {as:List Str},RepL K M H (as.map D.str) (as.map V.str)
 | []=>RepL.nil
 | a::as=>RepL.cons (by unfold RepV;rfl) strRep'
def keyD:Key->D
 | .inl i=>.int i
 | .inr x=>.str x
def srcIs (S:Sto) (d:D) (xs:List D):Prop:=match d with
 | .tup ys=>xs=ys
 | .lst ys=>xs=ys
 | .ref a=>S a=some (.lst xs)\/∃ kvs,S a=some (.dk kvs)/\xs=kvs.map fun p=>keyD p.1
 | _=>False
theorem keysRep {M:Am} {H:Hp}:∀ {ks:List (Key × V)} {kvs:List (Key × D)},bb (fun(p:Key × V) (q:Key × D)=>p.1=q.1/\RepV K M H q.2 p.2) ks kvs->RepL K M H (kvs.map fun p=>keyD p.1) (ks.map fun p=>kV p.1)
 | _,_,.nil=>RepL.nil
 | _,_,.cons (a:=a) (b:=b) h l=>by
  refine RepL.cons ?_ (keysRep l);show RepV K M H (keyD b.1) (kV a.1);rw[h.1];cases b.1 <;> (unfold keyD kV RepV;rfl)
theorem srcIs.src {F:Am} {S:Sto} {H:Hp} (r:Rp K F S H) {d:D} {v:V} {xs:List D} (h:RepV K (mt S F) H d v) (l:srcIs S d xs):∃ us,Src K H v us/\RepL K (mt S F) H xs us:=by
 cases d with
 | tup ys=>cases l;obtain⟨a,us,rfl,sq,l⟩:=tup.st h;exact⟨us,⟨a,rfl,.inr (.inl sq)⟩,l⟩
 | lst ys=>cases l;obtain⟨a,us,rfl,sq,l⟩:=lsIs.sl r h (show lsIs S (.lst xs) xs from rfl);exact⟨us,⟨a,rfl,.inl sq⟩,l⟩
 | ref a =>
  rw[rref h];rcases l with l | ⟨kvs,l,rfl⟩
  ·obtain⟨us,hu,lu⟩:=r.obj a _ l;exact⟨us,⟨a,rfl,.inl (SqL.of hu)⟩,lu⟩
  ·obtain⟨ks,hu,lu⟩:=r.obj a _ l;exact⟨_,⟨a,rfl,.inr (.inr ⟨ks,hu,rfl⟩)⟩,keysRep lu⟩
 | _=>exact l.elim
def tupS (t:List Str):D:=.tup (t.map D.str)
def srtD (b:Bool):RCD:=fun ds S Q=>match ds with
 | [d]=>(∃ ss:List Str,srcIs S d (ss.map D.str)/\ss.length < 64/\newL b ((srS ss).map D.str) S Q)\/(∃ ns:List Int,srcIs S d (ns.map D.int)/\ns.length < 64/\newL b ((srI ns).map D.int) S Q) \/
  ∃ ts:List (List Str),srcIs S d (ts.map tupS)/\ts.Nodup/\ts.length < 64/\newL b ((srT ts).map tupS) S Q
 | _=>False
def rSrtA (K:Fg):List V->Hp->VK->Prop:=fun xs H Q=>rSrtS K xs H Q\/rSrtI K xs H Q\/rSrtT K xs H Q
theorem repTups {S:Sto} {F:Am} {H:Hp}:∀ {ts:List (List Str)} {us:List V},RepL K (mt S F) H (ts.map tupS) us->bb (dT K dS H) us ts
 | [],us,h=>by rw[fq] at h;unfold RepL at h;subst h;exact .nil
 | a::as,xs,h=>by
  rw[bm] at h;unfold RepL at h;obtain⟨v,vs,rfl,r,l⟩:=h;exact .cons (repTupS r) (repTups l)
theorem repIdx {M:Am} {H:Hp} {ds:List D} {us:List V} (l:RepL K M H ds us):∀ (idx:List Nat),(∀ i∈idx,i < us.length)->RepL K M H (idx.map fun i=>ds.getD i .non) (idx.map fun i=>us.getD i .non)
 | [],_=>RepL.nil
 | i::idx,h=>by
  have hi:=h i ar;refine RepL.cons ?_ (repIdx l idx fun j hj=>h j (au _ hj));obtain⟨d,ed,rd⟩:=l.get' (ai hi);show RepV K M H (ds.getD i .non) (us.getD i .non);rw[ay,ay,ed,ai hi];exact rd
theorem cd_srt {b:Bool}:CallD K (rSrtA K) (srtD b):=by
 intro F S H ds vs Q QD r l h c
 match ds,h with
 | [d],h =>
  obtain⟨v,rfl,rv⟩:=l.one;rcases h with⟨ss,h1,h64,q⟩ | ⟨ss,h1,h64,q⟩ | ⟨ts,h1,nd,h64,q⟩
  ·obtain⟨us,hs,lu⟩:=h1.src r rv;rw[repStr' lu] at hs;exact .inl ⟨v,ss,rfl,hs,h64,fun p out hp o1 o2=>by
    rw[srS_eq o1 o2];exact c.new r hp strRep' q⟩
  ·obtain⟨us,hs,lu⟩:=h1.src r rv;rw[repInts lu] at hs;exact .inr (.inl ⟨v,ss,rfl,hs,h64,fun p out hp o1 o2=>by
    rw[srI_eq o1 o2];exact c.new r hp intsRep q⟩)
  ·obtain⟨us,hs,lu⟩:=h1.src r rv;refine .inr (.inr ⟨v,us,ts,rfl,hs,repTups lu,nd,h64,fun p idx hp i1 i2 i3=>c.new r hp ?_ q⟩);have hl:=lu.length;rw[ag] at hl;have hin:∀ i∈idx,i < us.length:=fun i hi=>aM.mp (i1.mem_iff.mp hi)
   have:=repIdx lu idx hin
   rw[<- srT_eq i3 i2,b5];have e:(idx.map fun i=>(ts.map tupS).getD i .non)=idx.map (tupS ∘ fun i=>ts.getD i []):=iL fun i hi=>by
    have hi':i < ts.length:=by have:=hin i hi;lia
    show(ts.map tupS).getD i .non=tupS (ts.getD i []);rw[ay,ay,a6,ai hi']
    rfl
   rw[<- e];exact this
theorem e_sorted {b:Bool} (hr:Room k X.A) (hg:Gl X "sorted") (hm:X.mg "sorted" = none) (ha:PAD K X [e] t) (hK:X.K=K:=by rfl) (hc:X.calm=true:=by rfl) (he:am [e] X.env=(false,eval e X.env)::am [] X.env:=by rfl) (hpl:(cy pos (am [] X.env)).any (·.1)=false:=by rfl):PD K X (.Call (.Name "sorted" p) [e] [] pos) (dCB (srtD b) t):=e_callB ((call_srtS hK hc).or ((call_srtI hK hc).or (call_srtT (lt10 hr) hK hc))) cd_srt hg hm bt_sorted ha (by decide) (by decide) he hpl
def dkey:D->Option Key
 | .int i=>some (.inl i)
 | .str x=>some (.inr x)
 | _=>none
theorem dkey_rep {M:Am} {H:Hp} {d:D} {v:V} {key:Key} (h:RepV K M H d v) (e:dkey d=some key):v=kV key:=by
 cases d <;> first | (cases e;unfold RepV at h;exact h) | cases e
end
theorem loop_ind {g:GD} {tt:TD} {tb:BD} {G:Sto->Prop} {Γ0:Gm} {xs acc:List D} {S:Sto} {Q:List D->Sto->Prop} (I:Nat->List D->Sto->Prop) (h0:I 0 acc S)
  (hs:∀ i x acc S (N:List D->Sto->Prop),xs[i]?=some x->I i acc S->(∀ acc' S',I (i + 1) acc' S'->N acc' S')->G S/\g x Γ0 S fun Γ2 S2=>tt Γ2 S2 fun b S3=>if b=true then tb Γ2 S3 acc N else N acc S3)
  (hd:∀ acc S,I xs.length acc S->G S/\Q acc S):loopD g tt tb G Γ0 xs acc S Q:=by
 have gen:∀ n i acc S,i + n=xs.length->I i acc S->loopD g tt tb G Γ0 (xs.drop i) acc S Q:=by
  intro n
  induction n with
  | zero =>
   intro i acc S hi h;have e:i=xs.length:=by lia
   subst e;rw[fS];exact hd acc S h
  | succ n ih =>
   intro i acc S hi h;have hlt:i < xs.length:=by lia
   rw[drop_cons hlt];exact hs i xs[i] acc S (fun acc' S4=>loopD g tt tb G Γ0 (xs.drop (i + 1)) acc' S4 Q) (ai hlt) h fun acc' S' h'=>ih (i + 1) acc' S' (by lia) h'
 simpa using gen xs.length 0 acc S (by lia) h0
theorem for_ind {g:GD} {tb:SD} {G:Sto->Prop} {E:EndsD} {xs:List D} {Γ:Gm} {S:Sto} (I:Nat->Gm->Sto->Prop) (h0:I 0 Γ S)
  (hs:∀ i x Γ S (N:Gm->Sto->Prop),xs[i]?=some x->I i Γ S->(∀ Γ' S',I (i + 1) Γ' S'->N Γ' S')->G S/\g x Γ S fun Γ2 S2=>tb { E with nx:=N,ct:=N,bk:=E.nx } Γ2 S2)
  (hd:∀ Γ S,I xs.length Γ S->G S/\E.nx Γ S):forD g tb G E xs Γ S:=by
 have gen:∀ n i Γ S,i + n=xs.length->I i Γ S->forD g tb G E (xs.drop i) Γ S:=by
  intro n
  induction n with
  | zero =>
   intro i Γ S hi h;have e:i=xs.length:=by lia
   subst e;rw[fS];exact hd Γ S h
  | succ n ih =>
   intro i Γ S hi h;have hlt:i < xs.length:=by lia
   rw[drop_cons hlt];exact hs i xs[i] Γ S (forD g tb G E (xs.drop (i + 1))) (ai hlt) h fun Γ' S' h'=>ih (i + 1) Γ' S' (by lia) h'
 simpa using gen xs.length 0 Γ S (by lia) h0
theorem loop_map {α:Type} {i:Nat} {te:ED} {Γ0:Gm} {S:Sto} {Q:List D->Sto->Prop} {enc:α->D} {f:α->D} {xs:List α} {acc:List D} (h:∀ x∈xs,∀ Q:DK,Q (f x) S->te (Γ0.set i (some (enc x))) S Q) (hn:acc.length + xs.length<=sizeLine)
  (q:Q (acc++xs.map f) S):loopD (gdName i) dYes (emitD te) (fun _=>True) Γ0 (xs.map enc) acc S Q:=by
 induction xs generalizing acc with
 | nil=>exact⟨trivial,by simpa using q⟩
 | cons x xs ih =>
  refine⟨trivial,?_⟩;show emitD te (Γ0.set i (some (enc x))) S acc (fun acc' S4=>loopD (gdName i) dYes (emitD te) (fun _=>True) Γ0 (xs.map enc) acc' S4 Q);refine h x ar _ ⟨by simp at hn;lia,ih (fun y hy=>h y (au _ hy)) (by simp at hn ⊢;lia) (by simpa using q)⟩
theorem loop_filt {α:Type} {i:Nat} {tt:TD} {te:ED} {Γ0:Gm} {S:Sto} {Q:List D->Sto->Prop} {enc:α->D} {p:α->Bool} {f:α->D} {xs:List α} {acc:List D} (ht:∀ x∈xs,∀ Q:Bool->Sto->Prop,Q (p x) S->tt (Γ0.set i (some (enc x))) S Q) (h:∀ x∈xs,p x=true->∀ Q:DK,Q (f x) S->te (Γ0.set i (some (enc x))) S Q) (hn:acc.length + xs.length<=sizeLine)
  (q:Q (acc++(xs.filter p).map f) S):loopD (gdName i) tt (emitD te) (fun _=>True) Γ0 (xs.map enc) acc S Q:=by
 induction xs generalizing acc with
 | nil=>exact⟨trivial,by simpa using q⟩
 | cons x xs ih =>
  refine⟨trivial,?_⟩;show tt (Γ0.set i (some (enc x))) S _;refine ht x ar _ ?_;cases hp:p x with
  | true =>
   rw[if_pos rfl];refine h x ar hp _ ⟨by simp at hn;lia,ih (fun y hy=>ht y (au _ hy)) (fun y hy=>h y (au _ hy)) (by simp at hn ⊢;lia) ?_⟩
   rw[List.filter_cons,hp] at q;simpa using q
  | false =>
   rw[if_neg (by simp)]
   refine ih (fun y hy=>ht y (au _ hy)) (fun y hy=>h y (au _ hy)) (by simp at hn ⊢;lia) ?_
   rw[List.filter_cons,hp] at q;simpa using q
def sg (c:Nat):Str:=⟨#[c]⟩
theorem sg_len (c:Nat):(sg c).length=1:=rfl
theorem app_mk (a b:List Nat):((⟨a.toArray⟩:Str)++(⟨b.toArray⟩:Str))=⟨(a++b).toArray⟩:=by
 show Str.mk (a.toArray++b.toArray)=_;simp
theorem empty_mk:(aJ "" : Str)=⟨#[]⟩:=by decide
theorem join_sg:∀ cs:List Nat,Txt.join (aJ "") (cs.map sg)=⟨cs.toArray⟩:=fun cs=>by
 show bC.Str.glued _ _=_;rw[StrLaws.glued_eq_join]
 induction cs with
 | nil=>rfl
 | cons c cs ih =>
  cases cs with
  | nil=>rfl
  | cons d cs =>
   rw[bm] at ih;show sg c++aJ ""++Str.join (aJ "") (sg d::cs.map sg)=_;rw[ih,empty_mk];show((⟨[c].toArray⟩:Str)++(⟨([]:List Nat).toArray⟩:Str))++(⟨(d::cs).toArray⟩:Str)=_;rw[app_mk,app_mk]
   rfl
theorem cutD_map {α:Type} (f:α->D) (xs:List α) (lo hi:Option Int):cutD (xs.map f) lo hi=((xs.drop (HT.sIx xs.length 0 lo)).take (HT.sIx xs.length xs.length hi - HT.sIx xs.length 0 lo)).map f:=by
 unfold cutD;rw[ag,List.map_take,List.map_drop]
theorem atI_map {α β:Type} (f:α->β) (xs:List α) (i:Int):atI (xs.map f) i=(atI xs i).map f:=by
 unfold atI;rw[ag];cases ixN xs.length i with
 | none=>rfl
 | some j=>simp
theorem atI_in {α:Type} {xs:List α} {i:Int} (h0:0<=i) (h1:i < xs.length):∃ (h:i.toNat < xs.length),atI xs i=some xs[i.toNat]:=by
 have h:i.toNat < xs.length:=by lia
 refine⟨h,?_⟩
 have:=atI_nat (ai h)
 rwa [show((i.toNat:Nat):Int)=i by lia] at this
theorem rng_at {n i:Nat} {x:D} (h:(rngD 0 n)[i]?=some x):i < n/\x=.int (i:Nat):=by
 obtain⟨h1,h2⟩:=rngD_get n 0 i x h;exact⟨h1,by rw[h2,gW]⟩
def Off (a:Addr) (S S':Sto):Prop:=∀ b,b≠a->S' b=S b
theorem Off.trans {a:Addr} {S S1 S2:Sto} (h:Off a S S1) (h':Off a S1 S2):Off a S S2:=fun b hb=>(h' b hb).trans (h b hb)
section
variable {X:Cx} {K:Fg} {pos:Pos} {k:Nat} {e:Expr} {te:ED}
def repS (z:Str) (n:Int):Str:=if n=1 then z else ⟨(aQ n.toNat z.cps).foldl (·++·) #[]⟩
theorem rep_size (a:Array Nat):∀ (n:Nat) (acc:Array Nat),((aQ n a).foldl (·++·) acc).size=acc.size + n * a.size
 | 0,acc=>by simp
 | n + 1,acc=>by
  rw[cW,kd,rep_size a n,fE,Nat.succ_mul];lia
theorem repS_len {z:Str} {n:Int} (hz:z.length=1) (n1:1<=n):(repS z n).length=n.toNat:=by
 unfold repS
 split
 ·rename_i h;rw[hz,h];rfl
 ·show Array.size _=_;have hz':z.cps.size=1:=hz;rw[rep_size,hz'];simp
def rRepS:R2:=fun x y H Q=>∃ z n,x=.str z/\y=.int n/\z.length=1/\1<=n/\n<=100/\Q (.str (repS z n)) H
theorem op_repS:OpR X (dM .Mult) rRepS:=by
 intro pins s σ H x y v u Q I rx ry h;obtain⟨z,n,rfl,rfl,hz,n1,n2,q⟩:=h;obtain⟨t,rfl⟩:=rx;obtain⟨t',rfl⟩:=ry;refine P.mul_str ?_ (fun _ _=>?_) (fun _ _=>?_) ?_
 ·rw[decide_eq_false (by lia),decide_eq_false (by lia)];rfl
 ·rw[hz]
  have:=(Int.le_ediv_iff_mul_le (a:=1) (b:=2 ^ 63 - 1) (c:=n) (by lia)).mpr (by lia)
  lia
 ·rw[hz];exact decide_eq_false (by rw[bn];lia)
 ·rw[if_neg (by lia)]
  unfold repS at q
  by_cases h1:n=1
  ·rw[if_pos (by rw[h1];rfl)]
   rw[if_pos h1] at q;exact⟨.str z,H,I,⟨_,rfl⟩,q⟩
  ·rw[if_neg (by rw[hz];simp[h1])]
   have hl:=repS_len hz n1;unfold repS at hl;rw[if_neg h1] at q hl;exact⟨by rw[hl,bn];lia,.str _,H,I.tok _,⟨_,rfl⟩,q⟩
def repD:R2D:=fun d e S Q=>match d,e with
 | .str z,.int n=>z.length=1/\1<=n/\n<=100/\Q (.str (repS z n)) S
 | _,_=>False
theorem od_repS:OpD K rRepS repD:=by
 intro F S H d e x y Q QD r hd he h c
 match d,e,h with
 | .str z,.int n,⟨hz,n1,n2,q⟩ =>
  rw[rstr hd,rint he];exact⟨z,n,rfl,rfl,hz,n1,n2,c _ _ _ S (Ext.refl _ _) r (by unfold RepV;rfl) q⟩
theorem e_rep {a b:Expr} {ta tb:ED} (ha:PD K X a ta) (hb:PD K X b tb):PD K X (.BinOp a .Mult b pos) (dOp repD ta tb):=e_op op_repS od_repS ha hb
end
end L2
set_option maxHeartbeats 1000000
namespace L2
open PySem PySem.Spec PyProof.Rows
section
variable {X:Cx} {K:Fg} {pos:Pos} {k:Nat}
def exrD:D->List D->Sto->DK->Prop:=fun o ds S Q=>match o,ds with
 | .ref a,[.ref b]=>∃ xs ys,S a=some (.lst xs)/\S b=some (.lst ys)/\xs.length + ys.length<=sizeLine/\Q .non (supd S a (.lst (xs++ys)))
 | _,_=>False
theorem md_exr:MtD K "list" rExtend exrD ckL:=⟨fun F S H d x r h c=>ty_L r h c,fun F S H d ds x vs Q QD r h l q c=>by
 match d,ds,q with
 | .ref a,[.ref b],⟨xs,ys,hS,hS2,hz,q⟩ =>
  obtain⟨v,rfl,rv⟩:=l.one;obtain⟨us,hu,lu⟩:=r.obj a _ hS;obtain⟨ws,hw,lw⟩:=r.obj b _ hS2;rw[rref h,rref rv];exact⟨a,b,us,ws,rfl,rfl,hu,hw,by rw[lu.length,lw.length];exact hz,c.write r (us:=us) hS (lu.app lw) (by unfold RepV;rfl) q⟩⟩
theorem e_extend {o e:Expr} {to:ED} {t:AD} {apos cpos:Pos} (ho:PD K X o to) (ha:PAD K X [e] t) (hK:X.K=K:=by rfl)
  (hbase:fZ o "extend" X.env (eval o X.env)=eval o X.env:=by rfl)
  (hfew:((cy cpos (am [e] X.env)).all (fun x=>!x.1) && (kl cpos (iu [] X.env)).all (fun x=>x.1.isSome)
   && decide (([e]:List Expr).length + ([]:List gK).length + (if ([]:List gK).isEmpty then 0 else 1) < 30))=true:=by rfl)
  (hline:(apos.endLine == cpos.line)=true:=by rfl) (hs:am [e] X.env=(false,eval e X.env)::am [] X.env:=by rfl) (hplain:(cy cpos (am [] X.env)).any (·.1)=false:=by rfl) :
  PD K X (.Call (.Attribute o "extend" apos) [e] [] cpos) (dMt exrD ckL to t):=e_bm md_exr gF PySem.F.slot_list_extend PySem.F.type_list_extend mt_extend ho ha hK hbase hfew hline hs hplain
def dChain (r r':R2D) (ta tb tc:ED):ED:=fun Γ S Q=>ta Γ S fun x S1=>tb Γ S1 fun y S2=>r x y S2 fun z S3=>∃ k,z=.bl k/\(if k=true then tc Γ S3 fun w S4=>r' y w S4 Q else Q (.bl false) S3)
theorem up_chain {r r':R2} {rd rd':R2D} {ta tb tc:ED} (h:OpD K r rd) (h':OpD K r' rd'):∀ σ H Q,upE K (dChain rd rd' ta tb tc) σ H Q->tChain r r' (upE K ta) (upE K tb) (upE K tc) σ H Q:=fun σ H Q z0=>z0.el fun F S Γ QD r g q c =>
 ⟨F,S,Γ,_,r,g,q,fun x d H1 S1 x1 r1 v1 q1=>⟨F,S1,Γ,_,r1,g.ext x1,q1,fun y e H2 S2 x2 r2 v2 q2=>h F S2 H2 d e x y _ _ r2 (v1.ext x2) v2 q2 fun v z H3 S3 x3 r3 v3 ⟨kk,e3,q3⟩=>by
  subst e3;refine⟨kk,rbl v3,?_⟩;cases kk with
  | true=>exact⟨F,S3,Γ,_,r3,g.ext (x1.trans (x2.trans x3)),q3,fun w f H4 S4 x4 r4 v4 q4=>h' F S4 H4 e f y w Q QD r4 (v2.ext (x3.trans x4)) v4 q4 fun v z H5 S5 x5=>c v z H5 S5 (x1.trans (x2.trans (x3.trans (x4.trans x5))))⟩
  | false=>exact c _ _ _ S3 (x1.trans (x2.trans x3)) r3 (rbl v3 ▸ v3) q3⟩⟩
theorem dt_chain {op op':CmpOp} {r r':R2} {rd rd':R2D} {a b c:Expr} {ta tb tc:ED} (ho:OpR X (b6 op) r) (ho':OpR X (b6 op') r') (h:OpD K r rd) (h':OpD K r' rd') (ha:PD K X a ta) (hb:PD K X b tb) (hc:PD K X c tc)
  (hm:lastMarks [op,op'] [b,c]=false:=by with_unfolding_all rfl):PTD K X (.Compare a [op,op'] [b,c] pos) (dTest (dChain rd rd' ta tb tc)):=.of (pt_chain ho ho' ha.o hb.o hc.o hm) fun σ H Q q=>up_chain h h' σ H _ (by
 obtain⟨F,S,Γ,QD,r,g,q,c⟩:=q;refine⟨F,S,Γ,_,r,g,q,fun v d H1 S1 x1 r1 v1 ⟨b,e,q1⟩=>?_⟩;subst e;exact⟨b,rbl v1,c b H1 S1 x1 r1 q1⟩)
theorem dt_ltle {a b c:Expr} {ta tb tc:ED} (ha:PD K X a ta) (hb:PD K X b tb) (hc:PD K X c tc) (hm:lastMarks [.Lt,.LtE] [b,c]=false:=by with_unfolding_all rfl) :
  PTD K X (.Compare a [.Lt,.LtE] [b,c] pos) (dTest (dChain (iiD0 fun i j=>.bl (decide (i < j))) (iiD0 fun i j=>.bl (decide (i<=j))) ta tb tc)):=dt_chain op_lt op_le od_B0 od_B0 ha hb hc hm
end
end L2
set_option maxHeartbeats 4000000
namespace L2
open PySem PySem.Spec PyProof.Rows
end L2
set_option maxHeartbeats 1000000
namespace L2
open PySem PySem.Spec PyProof.Rows
def Its (x:Str):It:=⟨fun i _=>i < x.cps.size,fun i H v H'=>H'=H/\∃ c,x.cps[i]?=some c/\v=.str ⟨#[c]⟩,fun i _=>i=x.cps.size⟩
theorem turn_str {P:aB} {w:aN} {K:Fg} {tg:Expr} (x:Str) (t:Tok) (ty:String) (it:Addr) (hty:["enumerate", "zip", "dict_itemiterator", "dict_reverseitemiterator", "odict_iterator", "itertools.zip_longest", "itertools.pairwise"].contains ty=false)
  (W:∀ A:aO,A.handled=none->Walks P w A it [it] [it] x.cps.size (SignAt x) (fun i h=>h.IsStrIter it ty x t i)) (hs:∀ (A:aO) (i:Nat) (s:ah) (Q:ad->ah->Prop) (E:ad->ah->Prop),s.heap.IsStrIter it ty x t i->Q (.ref it) s->aw (aA P w) A (pyIter (.ref it)) Q E s) :
  Turn P w K tg (Its x) [it] it (fun i h=>h.IsStrIter it ty x t i) where
 mem:=by simp
 obj:=fun i h st b hb=>by
  have e:b=it:=by simpa using hb
  subst e;obtain⟨o,g,c,d⟩:=st;exact⟨o,g,fun v z=>by rw[d] at z;cases z⟩
 keep:=fun i h h' st k=>by
  obtain⟨o,g,r⟩:=st;exact⟨o,k it (by simp) o g,r⟩
 item:=by
  intro X hP hw hK hc i pins s σ H E I hf st hg;subst hP hw hK;obtain⟨f0,f1,f2,f3,f4,f5⟩:=hf it (by simp)
  refine(W X.A (I.ok.hd hc)).item i s _ E hg st fun v h' tk hv st' hk=>?_;obtain⟨c,u,hcu,rfl⟩:=hv;have I1:Inv X pins σ H { s with heap:=h',toks:=tk }:=I.turned (t':=tk) (fun b o hb e=>hk b o (by simpa using hb) e) f0 f1 f3 f4 f5
  obtain⟨o,e,cl,d⟩:=id st';exact⟨_,rfl,go_of (s:={ s with heap:=h',toks:=tk }) e cl d hty ⟨.str ⟨#[c]⟩,H,I1,⟨u,rfl⟩,⟨rfl,c,hcu,rfl⟩,st',fun b hb=>(hf b hb).1⟩⟩
 done:=by
  intro X hP hw hK hc i pins s σ H E I hf st hg;subst hP hw hK;obtain⟨f0,f1,f2,f3,f4,f5⟩:=hf it (by simp)
  have e:i=x.cps.size:=hg;subst e;exact(W X.A (I.ok.hd hc)).done s _ E st fun h' tk hk=>⟨rfl,I.turned (t':=tk) (fun b o hb e=>hk b o (by simpa using hb) e) f0 f1 f3 f4 f5⟩
 self:=fun A i s Q E st h=>hs A i s Q E st h
section
variable {X:Cx} {tg:Expr}
def iStr (tl:TE):TI:=fun σ H R=>tl σ H fun v H1=>∃ x,v=.str x/\R (Its x) H1
theorem pi_str {l:Expr} {tl:TE} (hl:PE X l tl):PI X tg l (iStr tl):=by
 intro pins s σ H R I h;refine thn (hl pins s σ H _ I h) fun v s1 ⟨y,H1,I1,r1,x,e,q⟩=>?_;subst e;obtain⟨t,rfl⟩:=r1;refine wpAny_pyIter_strU ?_;have fp:∀ b∈[s1.heap.objs.size],FpOk X pins H1 b:=fun b hb=>by
  have e:b=s1.heap.objs.size:=by simpa using hb
  subst e;exact I1.fpOk (aj _) (I1.hok.fresh (aj _))
 refine⟨s1.heap.objs.size,[s1.heap.objs.size],(fun i h=>h.IsStrIter s1.heap.objs.size (strIterType x) x t i),_,H1,rfl,I1.kept (t':=s1.toks) fun b o e=>af _ e,?_,⟨_,ao _ rfl,rfl,rfl⟩,fp,q⟩;unfold strIterType
 split
 ·exact turn_str x t _ _ (by decide) (fun A hh=>Walks.strAscii hh _ x t) fun A i s Q E st h=>wpAny_pyIter_striter_ascii st h
 ·exact turn_str x t _ _ (by decide) (fun A hh=>Walks.strWide hh _ x t) fun A i s Q E st h=>wpAny_pyIter_striter_wide st h
end
section
variable {X:Cx} {K:Fg} {pos:Pos}
theorem itk_str {F:Am} {S:Sto} {H:Hp} {x:Str} {G:Sto->Prop}:ItOk K F S H (Its x) (signD x) G where
 go:=fun F2 f S2 H2 y r2 _ i d hd=>by
  unfold signD at hd;rw[a6,bK] at hd;obtain⟨c,hc,rfl⟩:=hd;rw[bu] at hc;have hi:i < x.cps.size:=by
   rcases bP i x.cps.size with z | z
   ·exact z
   ·rw[Array.getElem?_eq_none z] at hc;cases hc
  refine⟨hi,fun z H3 ⟨eH,c',hc',ez⟩=>?_⟩;subst ez;subst eH;rw[hc] at hc';cases hc';exact⟨Ext.refl _ _,r2,by unfold RepV;rfl⟩
 stop:=fun F2 f S2 H2 y r2 _=>by unfold signD;rw[ag];exact aR
def dStrI (te:ED):ID:=fun Γ S Q=>te Γ S fun d S1=>match d with
 | .str x=>Q (signD x) (fun _=>True) S1
 | _=>False
theorem di_str {tg l:Expr} {tl:ED} (hl:PD K X l tl):PID K X tg l (dStrI tl):=.of (pi_str hl.o) fun σ H Q z0=>z0.el fun F S Γ QD r g q c =>
 ⟨F,S,Γ,_,r,g,q,fun v d H1 S1 x1 r1 v1 q1=>by
  match d,q1 with
  | .str x,q1=>exact⟨x,rstr v1,c _ _ _ _ _ x1 r1 itk_str q1⟩⟩
end
end L2
set_option maxHeartbeats 4000000
namespace L2
open PySem PySem.Spec PyProof.Rows
section
variable {X:Cx}
def rSortStN (w:aN) (K:Fg):List V->Hp->VK->Prop:=fun xs H Q=>∃ x ms,xs=[x]/\dSt w K H x ms/\ms.Nodup/\ms.length < 64/\∀ l ys out,H l=none->out.Perm ms->out.Pairwise (fun a b=>HT.lexS a b=true)->bb (dT K dS H) ys out->Q (.ref l) (upd H l (.lst ys))
theorem call_sortedStN {K:Fg} {w:aN} (hu:X.A.units + 8 < bS) (hK:X.K=K:=by rfl) (hw:X.w=w:=by rfl) (hc:X.calm=true:=by rfl):CallR X (.builtin "sorted") (rSortStN w K):=by
 subst hw;intro pins s σ H xs us Q I r h;obtain⟨x,ms,rfl,⟨p,es,ep,t,ps,rfl,hH,hf,hled,hpl,pp,rfl⟩,nd,h64,q⟩:=h;obtain⟨u,rfl,rx⟩:=vals1 r;cases rx;obtain⟨hg,_⟩:=I.hok p _ hH;have hl:es.size=ps.length:=by have:=cz pp;simpa using this
 have hpl':ps.length < 64:=by simpa using h64
 have hh:=I.ok.hd hc;refine eM kind_sorted j7 j8 (j9 _) ?_;unfold bC.«sorted»;refine aa (m:=checkCount "sorted" 1 1 _) (ae ?_);refine aa (ST.collectT (by simp[hh]) hg hf hled hpl (by lia) fun vals h1 d hperm kp=>?_)
 obtain⟨ps',hps',pv'⟩:=ST.paired_perm hperm pp;have hvl:vals.length=ps'.length:=cz pv';have hpl2:ps'.length=ps.length:=hps'.length_eq;have I1:Inv X pins σ H { s with heap:=h1,drawn:=d }:=(I.kept (t':=s.toks) kp).drawn d
 refine aa (gc ?_ (by rw[bn];lia))
 have hoL:(h1.push (bM "list" vals.toArray 0)).get? h1.objs.size=some (bM "list" vals.toArray 0):=ao _ rfl;refine aa (aW (b4 jf ⟨_,hoL,rfl⟩ iG ?body (jg _)))
 case body =>
  refine KS.sort_tups (s:={ s with heap:=h1.push (bM "list" vals.toArray 0),drawn:=d }) (ds:=ps'.map (·.2)) (by show X.A.units + 1 + 1 < _;lia) hoL (ts_of I1 hK (fun b o e=>af _ e) pv') ((hps'.map (·.2)).nodup_iff.mpr nd) (by lia) fun idx h' c i1 i2 i3 g kk=>⟨_,rfl,ae ⟨_,rfl,?_⟩⟩
  have hin:∀ i∈idx,i < vals.length:=fun i hi=>aM.mp (i1.mem_iff.mp hi);have zv:=KS.paired_idx pv' bg (V.non,[]) idx hin;obtain⟨z1,z2⟩:=pv_split zv;have eo:(idx.map fun i=>(ps'.map (·.2)).getD i [])=(idx.map fun i=>ps'.getD i (V.non,[])).map (·.2):=by
   rw[b5];exact iL fun i _=>getD_snd ps' i
  rw[eo] at i2 i3;have hfr:H h1.objs.size=none:=I1.hok.fresh (aj _);have sm:Same H (upd H h1.objs.size (.lst ((idx.map fun i=>ps'.getD i (V.non,[])).map (·.1)))):=same_upd hfr;have il:idx.length=vals.length:=by have:=i1.length_eq;simpa using this
  have I2:Inv X pins σ (upd H h1.objs.size (.lst ((idx.map fun i=>ps'.getD i (V.non,[])).map (·.1)))) { s with heap:=h',drawn:=d }:=I1.laid (t':=s.toks) (fun b o e=>kk b o (aC (aq e)) (af _ e)) (aj _)
   ⟨by simp only[ag];rw[bn];lia,_,c,z1,g⟩
  exact⟨.ref h1.objs.size,_,I2,rfl,q _ _ _ hfr (i3.trans (hps'.map (·.2))) i2 z2⟩
end
section
variable {X:Cx} {K:Fg} {pos:Pos} {k:Nat} {F:Am} {S:Sto} {H:Hp}
theorem Rp.ntup (r:Rp K F S H) {a:Addr} {xs:List V} (h:Rd H a (.tup xs)):¬ mt S F a:=fun z=>by
 have no:∀ u,H a=some u->(∀ ys,u≠.tup ys)->(∀ o ys,u≠.frz o (.tup ys))->False:=fun u e n1 n2=>by
  rcases h with h | ⟨o,h⟩
  ·rw[e] at h;exact n1 _ (aL h)
  ·rw[e] at h;exact n2 _ _ (aL h)
 rcases z with z | z
 ·cases e:S a with
  | none=>exact z e
  | some o =>
   have q:=r.obj a o e;cases o with
   | lst ds=>obtain⟨us,hu,_⟩:=q;exact no _ hu (fun _ z=>by cases z) fun _ _ z=>by cases z
   | dk kvs=>obtain⟨us,hu,_⟩:=q;exact no _ hu (fun _ z=>by cases z) fun _ _ z=>by cases z
   | dt kvs=>obtain⟨us,hu,_⟩:=q;exact no _ hu (fun _ z=>by cases z) fun _ _ z=>by cases z
   | tb ps ql=>obtain⟨us,hu,_⟩:=q;exact no _ hu (fun _ z=>by cases z) fun _ _ z=>by cases z
   | ex f hk hl=>obtain⟨us,hu⟩:=hl _ _ _ q;exact no _ hu (fun _ z=>by cases z) fun _ _ z=>by cases z
 ·obtain⟨⟨zs,e,ct⟩,_⟩:=r.frm a z;exact no _ e (fun _ z=>by subst z;exact ct) fun _ _ z=>by subst z;exact ct
theorem tups_rep (r:Rp K F S H):∀ {xs:List V} {ts:List (List Str)},bb (dT K dS H) xs ts->RepL K (mt S F) H (ts.map tupS) xs
 | _,_,.nil=>RepL.nil
 | _,_,.cons ⟨a,us,e,sq,p⟩ q=>by
  refine RepL.cons ?_ (tups_rep r q);subst e;unfold tupS RepV;refine⟨a,us,rfl,?_,strsRep p⟩;rcases sq with h | h
  ·exact .inl ⟨r.ntup h,h⟩
  ·exact .inr (.inr h)
def dSrtSet (b:Bool) (te:ED):ED:=fun Γ S Q=>te Γ S fun d S1=>∃ ts:List (List Str),lsIs S1 d (ts.map tupS)/\ts.length < 64/\∀ out:List (List Str),out.Nodup->(∀ t,t∈out↔t∈ts)->out.Pairwise (fun a b=>HT.lexS a b=true)->newL b (out.map tupS) S1 Q
theorem e_sortedSet {b:Bool} {e:Expr} {te:ED} {p p' pos':Pos} (hr:Room k X.A) (hg:Gl X "sorted") (hm:X.mg "sorted" = none) (hg':Gl X "set") (hm':X.mg "set" = none) (he:PD K X e te) (hK:X.K=K:=by rfl) (hc:X.calm=true:=by rfl)
  (h1:am [e] X.env=(false,eval e X.env)::am [] X.env:=by rfl) (h2:am [jN (.Name "set" p') [e] [] pos'] X.env=(false,eval (jN (.Name "set" p') [e] [] pos') X.env)::am [] X.env:=by rfl) (h3:(cy pos (am [] X.env)).any (·.1)=false:=by rfl) (h4:(cy pos' (am [] X.env)).any (·.1)=false:=by rfl) :
  PD K X (.Call (.Name "sorted" p) [.Call (.Name "set" p') [e] [] pos'] [] pos) (dSrtSet b te) :=
 .of (pe_callB (call_sortedStN (lt64 hr) hK rfl hc) hg hm bt_sorted (pa_cons (pe_callTy (call_setLT (lt64 hr) hK rfl hc) hg' hm' bt_set (pa_cons he.o pa_nil h1) (by decide) (by decide) h1 h4) pa_nil h2) (by decide) (by decide) h2 h3) fun σ H Q z0=>z0.el fun F S Γ QD r g q c =>
 ⟨F,S,Γ,_,r,g,q,fun v d H1 S1 x1 r1 v1 ⟨ts,hl,h64,q1⟩=>by
  obtain⟨a,us,rfl,sq,lu⟩:=lsIs.sl r1 v1 hl;refine⟨_,ts,rfl,⟨a,us,rfl,sq,repTups lu⟩,by lia,fun p ms H2 s2 nd mem st=>⟨_,ms,rfl,st,nd,?_,fun l ys out hfr pm pw pp=>?_⟩⟩
  ·exact eC (szOk_of nd mem).1 h64
  ·have r2:Rp K F S1 H2:=r1.same s2;have x2:Ext S1 H1 S1 H2:=Ext.same s2;exact Cn.new (Cn.shift c (x1.trans x2)) r2 hfr (tups_rep r2 pp) (q1 out (pm.nodup_iff.mpr nd) (fun t=>(pm.mem_iff).trans (mem t)) pw)⟩
end
end L2
set_option maxHeartbeats 1000000
namespace L2
open PySem PySem.Spec PyProof.Rows
section
variable {X:Cx}
def dSs (w:aN):Dn (List Str):=fun H v ms=>∃ p es ep t,v=.ref p/\H p=some (stO p es ep t)/\t.fits es.size=true/\t.led=ST.ledOf w/\(t.plain=true->es.size<=1)/\j6 (es.toList.map (·.2)) ms
theorem strsAre_of {P:aB} {w:aN} {h:aS}:∀ {es:List (Int × ad)} {ms:List Str},bb (fun(e:Int × ad) k=>(ST.strKd P w).is h k e.2) es ms->j6 (es.map (·.2)) ms
 | _,_,.nil=>.nil
 | (a,v)::es,m::ms,.cons p q=>by
  have hv:∃ t,v=.str m t:=by
   have p:(d9 P w).is m v=true:=p;simp only[d9] at p;cases v <;> simp[fX] at p;subst p;exact⟨_,rfl⟩
  obtain⟨t,rfl⟩:=hv;exact .cons m t (strsAre_of q)
def rSetLSs (w:aN) (K:Fg):List V->Hp->VK->Prop:=fun xs H Q=>∃ x ds,xs=[x]/\dL K dS H x ds/\ds.length + 1<=300/\∀ p ms H',Same H H'->ms.Nodup->(∀ k,k∈ms↔k∈ds)->dSs w H' (.ref p) ms->Q (.ref p) H'
theorem call_setLSs {K:Fg} {w:aN} (hu:X.A.units + 8 < bS) (hK:X.K=K:=by rfl) (hw:X.w=w:=by rfl) (hc:X.calm=true:=by rfl):CallR X (.type "set") (rSetLSs w K):=by
 subst hK hw;intro pins s σ H xs us Q I r h;obtain⟨x,ds,rfl,⟨a,ys,rfl,hq,p⟩,hn,q⟩:=h;obtain⟨u,rfl,rx⟩:=vals1 r;cases rx;obtain⟨its,ri,pl,_⟩:=I.list hq;refine ST.call_setK (ST.strKd X.prog X.w) (I.ok.hd hc) hu pl.isList (texted p ri) (by rw[ak,<- ri.length,p.length];exact hn) fun h' tk ms M _ hk=>?_
 obtain⟨es,ep,t,hI,hled,hp⟩:=M.ex;have hfr:H s.heap.objs.size=none:=I.hok.fresh (aj _);have sm:Same H (upd H s.heap.objs.size (stO s.heap.objs.size es ep t)):=same_upd hfr;refine⟨.ref s.heap.objs.size,_,I.laid (t':=tk) (o:=stO s.heap.objs.size es ep t) (fun b o e=>hk b o (aq e) e) (aj _) ?_,rfl,q _ _ _ sm M.nd M.mem ⟨_,es,ep,t,rfl,upd_same,(ST.strKd X.prog X.w).fits hI,hled,fun z=>(ST.strKd X.prog X.w).few rfl hI hp M.nd z,strsAre_of hp⟩⟩;exact⟨(ST.strKd X.prog X.w).obj hI,⟨_,(ST.strKd X.prog X.w).obj hI⟩,fun g1 g2 g k=>k _ g⟩
theorem strsAre_perm {l l':List ad} (p:l'.Perm l):∀ {m:List Str},j6 l m->∃ m',m'.Perm m/\j6 l' m':=by
 induction p with
 | nil=>intro m h;exact⟨m,.refl _,h⟩
 | cons x p ih =>
  intro m h;cases h with
  | cons y t r =>
   obtain⟨m',p',h'⟩:=ih r;exact⟨_::m',p'.cons _,.cons _ _ h'⟩
 | swap x y l =>
  intro m h;cases h with
  | cons y t r =>
   cases r with
   | cons z u r=>exact⟨_,.swap _ _ _,.cons _ _ (.cons _ _ r)⟩
 | trans p q ih1 ih2 =>
  intro m h;obtain⟨m1,q1,h1⟩:=ih2 h;obtain⟨m2,q2,h2⟩:=ih1 h1;exact⟨m2,q2.trans q1,h2⟩
def rSortSs (w:aN):List V->Hp->VK->Prop:=fun xs H Q=>∃ x ms,xs=[x]/\dSs w H x ms/\ms.Nodup/\ms.length < 64/\∀ (l:Addr) (out:List Str),H l=none->out.Perm ms->out.Pairwise (fun a b=>HT.ltS a b=true)->Q (.ref l) (upd H l (.lst (out.map V.str)))
theorem call_sortedSs {w:aN} (hw:X.w=w:=by rfl) (hc:X.calm=true:=by rfl):CallR X (.builtin "sorted") (rSortSs w):=by
 subst hw;intro pins s σ H xs us Q I r h;obtain⟨x,ms,rfl,⟨p,es,ep,t,rfl,hH,hf,hled,hpl,pp⟩,nd,h64,q⟩:=h;obtain⟨u,rfl,rx⟩:=vals1 r;cases rx;obtain⟨hg,_⟩:=I.hok p _ hH;have hl:es.size=ms.length:=by have:=pp.length;simpa using this
 have hh:=I.ok.hd hc;refine eM kind_sorted j7 j8 (j9 _) ?_;unfold bC.«sorted»;refine aa (m:=checkCount "sorted" 1 1 _) (ae ?_);refine aa (ST.collectT (by simp[hh]) hg hf hled hpl (by omega) fun vals h1 d hperm kp=>?_)
 obtain⟨ms',hms',pv'⟩:=strsAre_perm hperm pp;have hvl:vals.length=ms'.length:=pv'.length;have hml:ms'.length=ms.length:=hms'.length_eq;have I1:Inv X pins σ H { s with heap:=h1,drawn:=d }:=(I.kept (t':=s.toks) kp).drawn d
 refine aa (gc ?_ (by rw[bn];omega))
 have hoL:(h1.push (bM "list" vals.toArray 0)).get? h1.objs.size=some (bM "list" vals.toArray 0):=ao _ rfl;refine aa (aW (b4 jf ⟨_,hoL,rfl⟩ iG (list_sort_treeK strKind_oneLt (s:={ s with heap:=h1.push (bM "list" vals.toArray 0),drawn:=d }) hoL pv'.keysOf (fun v₁ v₂ rest e=>keyKind_strs (by rw[<- e];exact pv')) (by omega) fun st' a1 a2=>⟨_,rfl,?_⟩) (jg _)))
 refine ae ⟨_,rfl,?_⟩;obtain⟨out,o1,o2,o3⟩:=sorted_out_str pv' a1 a2;obtain⟨v1,_⟩:=of_strs (H:=H) o1;have hfr:H h1.objs.size=none:=I1.hok.fresh (aj _);obtain⟨e,he⟩:=sortedHeap_at (out:=(a8 st').map (·.2)) hoL;have hol:=o2.length_eq;have I2:Inv X pins σ (upd H h1.objs.size (.lst (out.map V.str))) { s with heap:=jh (h1.push (bM "list" vals.toArray 0)) h1.objs.size vals ((a8 st').map (·.2)),drawn:=d }:=I1.laid (t':=s.toks) (fun b o g=>(sortedHeap_old (aC (aq g)) (dZ (aq g) (aq hoL))).trans (af _ g)) (aj _)
  ⟨by rw[ag,bn];omega,((a8 st').map (·.2)).toList,e,v1,by rw[Array.toArray_toList];exact he⟩
 exact⟨.ref h1.objs.size,_,I2,rfl,q _ _ hfr (o2.trans hms') (srt_pw o3 ((o2.trans hms').nodup_iff.mpr nd))⟩
end
section
variable {X:Cx} {K:Fg} {pos:Pos} {k:Nat}
theorem strsV {M:Am} {H:Hp}:∀ ss:List Str,RepL K M H (ss.map D.str) (ss.map V.str)
 | []=>RepL.nil
 | s::ss=>RepL.cons (by unfold RepV;rfl) (strsV ss)
def dSrtSetS (b:Bool) (te:ED):ED:=fun Γ S Q=>te Γ S fun d S1=>∃ ss:List Str,lsIs S1 d (ss.map D.str)/\ss.length < 300/\(∀ out:List Str,out.Nodup->(∀ t,t∈out↔t∈ss)->out.length < 64)/\∀ out:List Str,out.Nodup->(∀ t,t∈out↔t∈ss)->out.Pairwise (fun a b=>HT.ltS a b=true)->newL b (out.map D.str) S1 Q
theorem e_sortedSetS {b:Bool} {e:Expr} {te:ED} {p p' pos':Pos} (hr:Room k X.A) (hg:Gl X "sorted") (hm:X.mg "sorted" = none) (hg':Gl X "set") (hm':X.mg "set" = none) (he:PD K X e te) (hK:X.K=K:=by rfl) (hc:X.calm=true:=by rfl)
  (h1:am [e] X.env=(false,eval e X.env)::am [] X.env:=by rfl) (h2:am [jN (.Name "set" p') [e] [] pos'] X.env=(false,eval (jN (.Name "set" p') [e] [] pos') X.env)::am [] X.env:=by rfl) (h3:(cy pos (am [] X.env)).any (·.1)=false:=by rfl) (h4:(cy pos' (am [] X.env)).any (·.1)=false:=by rfl) :
  PD K X (.Call (.Name "sorted" p) [.Call (.Name "set" p') [e] [] pos'] [] pos) (dSrtSetS b te) :=
 .of (pe_callB (call_sortedSs rfl hc) hg hm bt_sorted (pa_cons (pe_callTy (call_setLSs (lt64 hr) hK rfl hc) hg' hm' bt_set (pa_cons he.o pa_nil h1) (by decide) (by decide) h1 h4) pa_nil h2) (by decide) (by decide) h2 h3) fun σ H Q z0=>z0.el fun F S Γ QD r g q c =>
 ⟨F,S,Γ,_,r,g,q,fun v d H1 S1 x1 r1 v1 ⟨ss,hl,h300,h64,q1⟩=>by
  obtain⟨a,us,rfl,sq,lu⟩:=lsIs.sl r1 v1 hl;refine⟨_,ss,rfl,⟨a,us,rfl,sq,repStrs lu⟩,by omega,fun p ms H2 s2 nd mem st=>⟨_,ms,rfl,st,nd,h64 ms nd mem,fun l out hfr pm pw=>?_⟩⟩
  have r2:Rp K F S1 H2:=r1.same s2;have x2:Ext S1 H1 S1 H2:=Ext.same s2;exact Cn.new (Cn.shift c (x1.trans x2)) r2 hfr (strsV out) (q1 out (pm.nodup_iff.mpr nd) (fun t=>(pm.mem_iff).trans (mem t)) pw)⟩
end
end L2
set_option maxHeartbeats 4000000
namespace L2
open PySem PySem.Spec PyProof.Rows
end L2
set_option maxHeartbeats 1000000
namespace L2
open PySem PySem.Spec PyProof.Rows
section
variable {X:Cx} {K:Fg} {pos:Pos}
theorem bt_abs:cu "abs" = some (.builtin "abs"):=by decide +kernel
def absD:RCD:=fun ds S Q=>match ds with
 | [.int i]=>Q (.int (if i < 0 then -i else i)) S
 | _=>False
theorem e_abs {e:Expr} {t:AD} {p:Pos} (hg:Gl X "abs") (hm:X.mg "abs" = none) (ha:PAD K X [e] t) (he:am [e] X.env=(false,eval e X.env)::am [] X.env:=by rfl) (hpl:(cy pos (am [] X.env)).any (·.1)=false:=by rfl):PD K X (.Call (.Name "abs" p) [e] [] pos) (dCB absD t):=e_callB call_abs (by
 intro F S H ds vs Q QD r l h c
 match ds,h with
 | [.int i],q =>
  obtain⟨v,rfl,rv⟩:=l.one;rw[rint rv];exact⟨i,rfl,c _ _ _ S (Ext.refl _ _) r (by unfold RepV;rfl) q⟩) hg hm bt_abs ha (by decide) (by decide) he hpl
end
end L2
namespace ST
open PySem PySem.SetTable PySem.Spec PyProof.Rows
end ST
namespace L2
open PySem PySem.Spec PyProof.Rows
section
variable {X:Cx} {K:Fg} {pos:Pos} {k:Nat} {κ:Type}
theorem map_inj {α β:Type} {f:α->β} (hf:∀ x y,f x=f y->x=y):∀ {l m:List α},l.map f=m.map f->l=m
 | [],[],_=>rfl
 | [],_::_,h=>by cases h
 | _::_,[],h=>by cases h
 | x::l,y::m,h=>by
  rw[bm,bm] at h;injection h with h1 h2
  rw[hf _ _ h1,map_inj hf h2]
end
end L2
set_option maxHeartbeats 4000000
namespace HT
open PySem PyProof.Rows
def LtAt (A:aO) (s:ah) (u v:ad) (b:Bool):Prop:=∀ (prog:aB) (w:aN) (E:ad->ah->Prop) (Q:ad->ah->Prop),Q (.bool b) s->aw (aA prog w) A (richCompare .Lt u v) Q E s
inductive LexAt (A:aO) (s:ah):List ad->List ad->Bool->Prop
 | nn:LexAt A s [] [] false
 | nc {v vs}:LexAt A s [] (v::vs) true
 | cn {u us}:LexAt A s (u::us) [] false
 | eq {u v us vs b}:cG A s u v true->LexAt A s us vs b->LexAt A s (u::us) (v::vs) b
 | ne {u v us vs b}:cG A s u v false->LtAt A s u v b->LexAt A s (u::us) (v::vs) b
section
open PySem.SeqAt
open PySem.AutoSeq1 (wpAny_loadPart')
open PySem.MeetsSeq PySem.MeetsSeq2 PySem.MeetsSeq3
theorem lex_size {A:aO} {s:ah}:∀ {us vs:List ad} {o:Bool},LexAt A s us vs o->us.zip vs=[]->o=decide (us.length < vs.length)
 | _,_,_,.nn,_=>by simp
 | _,_,_,.nc,_=>by simp
 | _,_,_,.cn,_=>by simp
 | _,_,_,.eq _ _,h=>by rw[cD] at h;cases h
 | _,_,_,.ne _ _,h=>by rw[cD] at h;cases h
theorem tuple_lt_gen (l b:Addr) (items items2:Array ad) (n n2:Nat) (dd dd2:Option Addr) (sl sl2:Array (Option ad)) (o:Bool) :
  Meets (bC.«tuple.__lt__» ⟨[.ref l,.ref b],[]⟩)
   (fun A R s=>s.heap.get? l=some { cls:=.type "tuple",dict:=dd,data:=.seq items n,slots:=sl }/\s.heap.get? b=some { cls:=.type "tuple",dict:=dd2,data:=.seq items2 n2,slots:=sl2 } /\
    LexAt A.in1 s items.toList items2.toList o/\R (.ok (.ret (.bool o))) s) :=
 .of_wp fun prog w A R s h=>by
  obtain⟨hp,g,d,tk,os⟩:=s;obtain⟨hl,hb,hx,h⟩:=h;have f2:=jy;have z1:items.size=items.toList.length:=by simp
  have z2:items2.size=items2.toList.length:=by simp
  wp_walk using bw hl,bw hb,ia _ (fun rest b s'=>b.1=none/\s'=⟨hp,g,d,tk,os⟩/\∃ (vs ws:List ad),rest=vs.zip ws /\
   LexAt A.in1 ⟨hp,g,d,tk,os⟩ vs ws o/\vs.length + items2.size=ws.length + items.size) _
  case turn =>
   rintro⟨y,x⟩ rest b s' ⟨hb',rfl,vs,ws,hz,hx,hlen⟩;cases hx with
   | nn=>rw[cK] at hz;cases hz
   | nc=>rw[cK] at hz;cases hz
   | cn=>rw[cN] at hz;cases hz
   | eq he hx =>
    rw[cD] at hz;injection hz with hyx hrest
    injection hyx with hy hx'
    subst hy hx';simp only[bH] at hlen;refine aa (he prog w _ _ ?_)
    wp_walk
    exact⟨rfl,rfl,_,_,hrest,hx,by lia⟩
   | ne he hlt =>
    rw[cD] at hz;injection hz with hyx hrest
    injection hyx with hy hx'
    subst hy hx';refine aa (he prog w _ _ ?_);have hri:=fun Q E h=>hlt prog w E Q h
    wp_walk using hri
    exact⟨_,rfl,by simpa using h⟩
  case fin =>
   rintro⟨b1,b2⟩ s' ⟨hb',rfl,vs,ws,hz,hx,hlen⟩;simp only at hb';subst hb';have hv:o=decide (items.size < items2.size):=by
    rw[lex_size hx hz.symm]
    congr 1
    apply propext;lia
   rw[hv] at h
   wp_walk
   exact⟨_,rfl,by simpa [g8] using h⟩
  case h =>
   exact⟨rfl,rfl,items.toList,items2.toList,rfl,hx,by lia⟩
theorem lst_lt_loop (l b:Addr) (us vs:Array ad) (n n2:Nat) (dd dd2:Option Addr) (sl sl2:Array (Option ad)) (o:Bool) (k:Nat):∀ i:Nat,us.size - i=k->i<=us.size->i<=vs.size ->
  Meets (bC.«list.__eq__.loop» ⟨[.ref l,.ref b,dz i,dz 0],[]⟩) (fun A R s=>(s.heap.get? l=some { cls:=.type "list",dict:=dd,data:=.seq us n,slots:=sl }/\s.heap.get? b=some { cls:=.type "list",dict:=dd2,data:=.seq vs n2,slots:=sl2 }) /\
   LexAt A.in1 s (us.toList.drop i) (vs.toList.drop i) o/\R (.ok (.ret (.bool o))) s):=by
 have dn:∀ (xs:Array ad) (i:Nat),xs.size<=i->xs.toList.drop i=[]:=fun xs i h=>d7 (by simpa using h)
 have dc:∀ (xs:Array ad) (i:Nat) (h:i < xs.size),xs.toList.drop i=xs[i]::xs.toList.drop (i + 1):=fun xs i h=>by rw[cU (by simpa using h)];simp
 have an:∀ (xs:Array ad) (i:Nat),xs.size<=i->xs[((i:Nat):Int).toNat]?=none:=fun xs i h=>by simp;exact h
 have ac:∀ (xs:Array ad) (i:Nat) (h:i < xs.size),xs[((i:Nat):Int).toNat]?=some xs[i]:=fun xs i h=>by simp[h]
 have tail:∀ {A:aO} {s:ah} {o:Bool} {i:Nat},i<=us.size->i<=vs.size->us.size<=i\/vs.size<=i->LexAt A s (us.toList.drop i) (vs.toList.drop i) o->o=decide (us.size < vs.size):=fun {A s o i} h1 h2 h hx=>by
  have hz:(us.toList.drop i).zip (vs.toList.drop i)=[]:=by rcases h with h | h <;> rw[dn _ _ h] <;> simp
  rw[lex_size hx hz]
  congr 1
  apply propext;simp;lia
 induction k with
 | zero =>
  intro i hk hi hi2 prog w A R s h;obtain⟨hp,g,d,tk,os⟩:=s;obtain⟨⟨gl,gb⟩,hx,h⟩:=h
  wp_walk using bw gl,bw gb
  rw[an us i (by lia)]
  wp_walk using bw gl,bw gb
  rw[tail hi hi2 (.inl (by lia)) hx] at h
  exact h
 | succ k ih =>
  intro i hk hi hi2 prog w A R s h;obtain⟨hp,g,d,tk,os⟩:=s;obtain⟨⟨gl,gb⟩,hx,h⟩:=h
  wp_walk using bw gl,bw gb
  rw[ac us i (by lia)]
  rcases bP i vs.size with hv | hv
  ·rw[ac vs i hv];have hc:((i:Int) + 1)=((i + 1:Nat):Int):=by push_cast;rfl
   rw[dc us i (by lia),dc vs i hv] at hx
   cases hx with
   | eq he hx =>
    refine aa (he prog w _ _ ?_)
    wp_walk
    rw[hc];exact⟨cQ plain_eq_loop _,bv entry_eq_loop (by
     rw[aZ plain_eq_loop _];exact ih (i + 1) (by lia) (by lia) (by lia) prog w A R _ ⟨⟨gl,gb⟩,hx,h⟩)⟩
   | ne he hlt =>
    refine aa (he prog w _ _ ?_)
    wp_walk using bw gl,bw gb
    rw[ac us i (by lia),ac vs i hv]
    have hri:=fun Q E h=>hlt prog w E Q h
    wp_walk using hri
    exact h
  ·rw[an vs i hv]
   wp_walk using bw gl,bw gb
   rw[tail hi hi2 (.inr hv) hx] at h;exact h
theorem lst_lt (l b:Addr) (us vs:Array ad) (n n2:Nat) (dd dd2:Option Addr) (sl sl2:Array (Option ad)) (o:Bool) :
  Meets (bC.«list.__lt__» ⟨[.ref l,.ref b],[]⟩) (fun A R s=>(s.heap.get? l=some { cls:=.type "list",dict:=dd,data:=.seq us n,slots:=sl }/\s.heap.get? b=some { cls:=.type "list",dict:=dd2,data:=.seq vs n2,slots:=sl2 }) /\
   LexAt A.in1 s us.toList vs.toList o/\R (.ok (.ret (.bool o))) s):=by
 intro prog w A R s h;obtain⟨hp,g,d,tk,os⟩:=s;obtain⟨⟨gl,gb⟩,hx,h⟩:=h;have _sub:=AutoSeq1.sub_list_list
 wp_walk using bw gl,bw gb
 exact⟨cQ plain_eq_loop _,bv entry_eq_loop (by
  rw[aZ plain_eq_loop _];exact lst_lt_loop l b us vs n n2 dd dd2 sl sl2 o _ 0 rfl (bG _) (bG _) prog w A R _ ⟨⟨gl,gb⟩,hx,h⟩)⟩
end
theorem ltAt_lst {A:aO} {s:ah} {l b:Addr} {us vs:Array ad} {o:Bool} (hl:s.heap.IsList l us) (hb:s.heap.IsList b vs) (hx:LexAt A.in1 s us.toList vs.toList o) (hu:A.units < bS):LtAt A s (.ref l) (.ref b) o:=by
 intro prog w E Q h;obtain⟨⟨cls,dd,data,sl⟩,ho,hc,n,hd⟩:=id hl;obtain⟨⟨cls2,dd2,data2,sl2⟩,ho2,hc2,n2,hd2⟩:=id hb;simp only at hc hd hc2 hd2;subst hc hd hc2 hd2;exact gU (op:=.Lt) ⟨_,ho,rfl⟩ ⟨_,ho2,rfl⟩ PySem.F.slot_list_lt PySem.F.entry_list_lt (PySem.F.args_list_lt_2 _ _) (lst_lt l b us vs n n2 dd dd2 sl sl2 o) ⟨⟨ho,ho2⟩,hx,show fG o≠iy/\Q (.bool o) s from⟨(fun x=>nomatch x),h⟩⟩ hu
theorem ltAt_tup {A:aO} {s:ah} {l b:Addr} {items items2:Array ad} {o:Bool} (hl:iW s.heap l items) (hb:iW s.heap b items2) (hx:LexAt A.in1 s items.toList items2.toList o) (hu:A.units < bS):LtAt A s (.ref l) (.ref b) o:=by
 intro prog w E Q h;obtain⟨⟨cls,dd,data,sl⟩,ho,hc,n,hd⟩:=id hl;obtain⟨⟨cls2,dd2,data2,sl2⟩,ho2,hc2,n2,hd2⟩:=id hb;simp only at hc hd hc2 hd2;subst hc hd hc2 hd2;exact gU (op:=.Lt) ⟨_,ho,rfl⟩ ⟨_,ho2,rfl⟩ dE fr (ff _ _) (tuple_lt_gen l b items items2 n n2 dd dd2 sl sl2 o)
  ⟨ho,ho2,hx,show fG o≠iy/\Q (.bool o) s from⟨(fun x=>nomatch x),h⟩⟩ hu
end HT
namespace L2
open PySem PySem.Spec PyProof.Rows
def lexN (lt:D->D->Bool):List D->List D->Bool
 | [],[]=>false
 | [],_::_=>true
 | _::_,[]=>false
 | x::xs,y::ys=>if x=y then lexN lt xs ys else lt x y
def ltN:Nat->D->D->Bool
 | _,.int i,.int j=>decide (i < j)
 | _,.str x,.str y=>HT.ltS x y
 | n + 1,.tup xs,.tup ys=>lexN (ltN n) xs ys
 | n + 1,.lst xs,.lst ys=>lexN (ltN n) xs ys
 | _,_,_=>false
def okLs (ok:D->D->Bool) (n:Nat):List D->List D->Bool
 | x::xs,y::ys=>okE n x y && (if x=y then okLs ok n xs ys else ok x y)
 | _,_=>true
def okL:Nat->D->D->Bool
 | _,.int _,.int _=>true
 | _,.str _,.str _=>true
 | n + 1,.tup xs,.tup ys=>okLs (okL n) n xs ys
 | n + 1,.lst xs,.lst ys=>okLs (okL n) n xs ys
 | _,_,_=>false
section
variable {X:Cx} {pins:List (Addr × Obj)} {σ:St} {H:Hp} {s:ah} {M:Am}
theorem lex_at {n:Nat} {A:aO} (heq:∀ {d e:D} {x y:V} {u v:ad},RepV X.K M H d x->RepV X.K M H e y->RelV x u->RelV y v->okE n d e=true->cG A s u v (decide (d=e)))
  (hlt:∀ {d e:D} {x y:V} {u v:ad},RepV X.K M H d x->RepV X.K M H e y->RelV x u->RelV y v->okL n d e=true->HT.LtAt A s u v (ltN n d e)) :
  ∀ {ds es:List D} {xs ys:List V} {us vs:List ad},RepL X.K M H ds xs->RepL X.K M H es ys->Vals xs us->Vals ys vs->okLs (okL n) n ds es=true->HT.LexAt A s us vs (lexN (ltN n) ds es)
 | [],[],_,_,_,_,p,q,r,t,_=>by
  unfold RepL at p q;subst p;subst q;cases r;cases t;exact .nn
 | [],e::es,_,_,_,_,p,q,r,t,_=>by
  unfold RepL at p q;subst p;obtain⟨v,vs,rfl,_,_⟩:=q;cases r;cases t;exact .nc
 | d::ds,[],_,_,_,_,p,q,r,t,_=>by
  unfold RepL at p q;subst q;obtain⟨v,vs,rfl,_,_⟩:=p;cases r;cases t;exact .cn
 | d::ds,e::es,_,_,_,_,p,q,r,t,o=>by
  unfold RepL at p q;obtain⟨x,xs,rfl,p1,p2⟩:=p;obtain⟨y,ys,rfl,q1,q2⟩:=q;cases r with
  | cons r1 r2 =>
   cases t with
   | cons t1 t2 =>
    unfold okLs at o;rw[aK] at o;have h1:=heq p1 q1 r1 t1 o.1;unfold lexN
    by_cases hde:d=e
    ·rw[if_pos hde];rw[if_pos hde] at o;rw[decide_eq_true hde] at h1;exact .eq h1 (lex_at heq hlt p2 q2 r2 t2 o.2)
    ·rw[if_neg hde];rw[if_neg hde] at o;rw[decide_eq_false hde] at h1;exact .ne h1 (hlt p1 q1 r1 t1 o.2)
theorem lt_at (I:Inv X pins σ H s):∀ (n:Nat) {A:aO} {d e:D} {x y:V} {u v:ad},A.units + n < bS->RepV X.K M H d x->RepV X.K M H e y->RelV x u->RelV y v->okL n d e=true->HT.LtAt A s u v (ltN n d e):=by
 intro n
 induction n with
 | zero =>
  intro A d e x y u v hu h h' r r' o;cases d <;> cases e <;> first | (cases o;done) | skip
  all_goals unfold RepV at h h';subst h;subst h';obtain⟨t,rfl⟩:=r;obtain⟨t',rfl⟩:=r'
  ·intro prog w E Q q;exact(kz q:aw (aA prog w) A (b6 .Lt _ _) Q E s)
  ·intro prog w E Q q;exact HT.rcLt_st A s _ _ _ _ prog w E Q q
 | succ n ih =>
  intro A d e x y u v hu h h' r r' o;cases d <;> cases e <;> first | (cases o;done) | skip
  ·unfold RepV at h h';subst h;subst h';obtain⟨t,rfl⟩:=r;obtain⟨t',rfl⟩:=r';intro prog w E Q q;exact(kz q:aw (aA prog w) A (b6 .Lt _ _) Q E s)
  ·unfold RepV at h h';subst h;subst h';obtain⟨t,rfl⟩:=r;obtain⟨t',rfl⟩:=r';intro prog w E Q q;exact HT.rcLt_st A s _ _ _ _ prog w E Q q
  ·rename_i ds es;unfold RepV at h h';obtain⟨a,xs,rfl,t,l⟩:=h;obtain⟨b,ys,rfl,t',l'⟩:=h';cases r;cases r';obtain⟨us,ru,pl,_⟩:=I.tuple t.sq;obtain⟨vs,rv,pl',_⟩:=I.tuple t'.sq;refine HT.ltAt_tup pl pl' ?_ (by lia)
   exact lex_at (fun p q r r' o=>(eq3 I n (show A.units + 1 + n < bS by lia) p q r r' o).eq) (fun p q r r' o=>ih (show A.units + 1 + n < bS by lia) p q r r' o) l l' ru rv o
  ·rename_i ds es;unfold RepV at h h';obtain⟨a,xs,rfl,t,l⟩:=h;obtain⟨b,ys,rfl,t',l'⟩:=h';cases r;cases r';obtain⟨us,ru,pl,_⟩:=I.list t.sq;obtain⟨vs,rv,pl',_⟩:=I.list t'.sq;refine HT.ltAt_lst pl.isList pl'.isList ?_ (by lia)
   exact lex_at (fun p q r r' o=>(eq3 I n (show A.units + 1 + n < bS by lia) p q r r' o).eq) (fun p q r r' o=>ih (show A.units + 1 + n < bS by lia) p q r r' o) l l' ru rv o
end
end L2
set_option maxHeartbeats 1000000
namespace L2
open PySem PySem.Spec PyProof.Rows
end L2
set_option maxHeartbeats 4000000
namespace L2
open PySem PySem.Spec PyProof.Rows
section
variable {X:Cx} {K:Fg} {pos:Pos} {k:Nat}
def ltnD:R2D:=fun d e S Q=>okL 8 d e=true/\Q (.bl (ltN 8 d e)) S
def rLtN (K:Fg):R2:=fun x y H Q=>∃ b,(∀ {X:Cx} {pins:List (Addr × Obj)} {σ:St} {s:ah},Inv X pins σ H s->X.K=K->∀ {u v:ad},RelV x u->RelV y v->∀ A:aO,A.units + 9 < bS->HT.LtAt A s u v b)/\Q (.bl b) H
theorem op_ltN (hu:X.A.units + 9 < bS) (hK:X.K=K:=by rfl):OpR X (b6 .Lt) (rLtN K):=by
 intro pins s σ H x y v u Q I rx ry ⟨b,h,q⟩;exact h I hK rx ry X.A hu _ _ _ _ ⟨.bl b,H,I,rfl,q⟩
theorem od_ltN:OpD K (rLtN K) ltnD:=by
 intro F S H d e x y Q QD r hd he ⟨ok,q⟩ c;refine⟨_,fun {X pins σ s} I hK u v ru rv A hA=>?_,c.bl r q⟩;subst hK;exact lt_at I 8 (by lia) hd he ru rv ok
section
variable {a b:Expr} {ta tb:ED}
theorem dt_ltN (hr:Room k X.A) (ha:PD K X a ta) (hb:PD K X b tb) (hK:X.K=K:=by rfl):PTD K X (.Compare a [.Lt] [b] pos) (dTest (dOp ltnD ta tb)):=dt_cmp (op_ltN (lt64 hr) hK) od_ltN ha hb (nomark _)
end
end
end L2
set_option maxHeartbeats 1000000
namespace L2
open PySem PySem.Spec PyProof.Rows
end L2
namespace L2
open PySem PyProof.Rows
section
variable {K:av} {k:Nat}
theorem e_fn {P:aB} {w:aN} {mg:Str->Option ad} {base:aS} {x:Str} {st:Stmt} {N ps:List Str} {sp:SpD} {f:Addr} {fd:dN} (Fn:Fun K x x st f fd) (S:FnScope N ps (defScope st))
  (len:∀ ds S Q,sp ds S Q->ds.length=ps.length)
  (h:∀ (cdv:ad) (A:aO) (outer:List Env) (s:ah) (H:Hp) (E:XK),Room k (A.deeper (ju x (defScope st) s.heap.objs.size f cdv)) ->
   ∃ t,PSsD K (cxOf CX0 P w K mg base N x (defScope st) f cdv A outer s H E).nox (defBody st) t/\∀ ds S Q,sp ds S Q->t (endsD Q) (startD N ds) S):FnOk P w K mg base CX0 (k + 1) f fd ps (spU K sp):=by
 refine Fn.ok S (fun vs H Q E z1=>by obtain⟨F,S,ds,QD,r,l,hsp,c⟩:=z1;rw[l.length];exact len ds S QD hsp) (fun cdv A outer s H vs Q E' hr z1=>?_)
 obtain⟨F,S,ds,QD,r,l,hsp,c⟩:=z1;obtain⟨t,h1,h2⟩:=h cdv A outer s H E' hr;have fin:∀ v d H' S',Ext S H S' H'->Rp K F S' H'->RepV K (mt S' F) H' d v->rtD QD d S'->Q v H':=fun v d H' S' x1 r1 v1 z2=>by
  obtain⟨d',S2,hs,fz,q⟩:=z2;exact c v d' H' S2 (x1.trans (Ext.less hs)) (r1.less hs) ((frz_ok r1 hs fz).1 v v1) q
 exact⟨_,h1.o,F,S,startD N ds,endsD QD,r,repStart l,h2 ds S QD hsp,fun Γ' S' σ' H' x1 r1 g1 q=>fin .non .non H' S' x1 r1 (by unfold RepV;rfl) q,fin,fun _ _ _ _ _ _ _ q=>q.elim,fun _ _ _ _ _ _ _ q=>q.elim⟩
end
theorem us1 {p:List ad->Prop} (h:∀ a,p [a]) (us:List ad) (ee:us.length=1):p us:=by
 cases us with
 | nil=>cases ee
 | cons a us =>
  cases us with
  | nil=>exact h a
  | cons z us=>exact absurd (gX ee) (jO _)
theorem us2 {p:List ad->Prop} (h:∀ a b,p [a,b]) (us:List ad) (ee:us.length=2):p us:=by
 cases us with
 | nil=>cases ee
 | cons a us =>
  cases us with
  | nil=>cases ee
  | cons b us =>
   cases us with
   | nil=>exact h a b
   | cons z us=>exact absurd (gX (gX ee)) (jO _)
theorem us3 {p:List ad->Prop} (h:∀ a b c,p [a,b,c]) (us:List ad) (ee:us.length=3):p us:=by
 cases us with
 | nil=>cases ee
 | cons a us =>
  cases us with
  | nil=>cases ee
  | cons b us =>
   cases us with
   | nil=>cases ee
   | cons c us =>
    cases us with
    | nil=>exact h a b c
    | cons z us=>exact absurd (gX (gX (gX ee))) (jO _)
theorem fsc {N ps:List Str} {sc:Scope} (a:sc.kind=.function:=by rfl) (b:sc.isCoroutine=false:=by rfl) (c:sc.isGenerator=false:=by rfl) (d:N.Nodup:=by decide +kernel) (e:N.take ps.length=ps:=by rfl) (f:∀ x∈ps,sc.names.lookup x=some .local\/sc.names.lookup x=some .cell:=by decide +kernel) (g:∀ y∈sc.names,y.2≠.free:=by decide +kernel):FnScope N ps sc:=⟨a,b,c,d,e,f,g⟩
end L2
namespace Att
open PySem PySem.Spec PySem.Calls PyProof.Rows PySem.W
theorem attach_callW {l:OpenLaw} {n:Nat} {q:aB} {loose:List Str} {XP:(Str->Option ad)->aS->Prop} {YP:aN->aS->Prop} {d:DefRec}
  (hn:l.most=some n) (hdf:d.params.defaults=[])
  (call:∀ (w:aN) (s₀ s₁:ah) (mg mb:Str->Option ad) (fa:Addr) (o:Obj) (pm cd doc:ad) (a:Addr) (vs:List ad) (ns:List Int),
   Ground q loose [] XP w s₀ mg mb s₁.heap->YP w s₁.heap ->
   s₁.heap.get? fa=some o->o.data=.func (docDef d.name d.params d.body d.scope pm cd doc)->s₁.heap.CodeRec cd d.name->mg d.name=some (.ref fa) ->
   s₁.heap.get? a=some { cls:=.type "list",data:=.seq vs.toArray }->jY vs ns->ns.length<=n->s₁.gens=#[]->(∀ x∈ns,x.natAbs < 2 ^ 1048576) ->
   ij (aA l.prog w) callerA (.call (.ref fa) ⟨[.ref a],[]⟩) (fun r s'=>r=.ok (.ret (.bool true))/\OldK s₁.heap s'.heap/\s'.os=s₁.os/\jo s'.gens) s₁) :
  WalkO q loose XP YP l.row.toRowW d [] (fun f vs=>PySem.call f vs):=by
 intro w s₀ s₁ mg mb G Y fa o pm cd doc dV kV ho hd hcd hD hmg hg args vals as hpre hlay hrd hwl hlo;obtain rfl:dV=.none:=Dflts.none hD hdf;obtain rfl:kV=.none:=Dflts.noKw hD;obtain⟨a,vs,ns,rfl,rfl,hobj,hints,hlen⟩:=script_of hn hpre hwl;have hw:∀ x∈ns,x.natAbs < 2 ^ 1048576:=fun x hx=>by
  have h1:=layableW_item (layableW_arg hlay _ (List.mem_singleton_self _)) _ (List.mem_map_of_mem (f:=WData.int) hx);have h2:=(layableW_iff.mp h1).2.2;have h3:x≠0->x.natAbs.log2 + 1<=2 ^ 20:=fun h0=>by
   have:(WData.int x).weight=if x == 0 then 0 else x.natAbs.log2 + 1:=by first | rfl | (unfold WData.weight;rfl)
   rw[this,if_neg (by simpa using h0)] at h2
   exact h2
  by_cases h0:x=0
  ·rw[h0];exact kg _
  ·exact(Nat.log2_lt (by omega)).mp (h3 h0)
 refine enter_call (fO (call w s₀ s₁ mg mb fa o pm cd doc a vs ns G Y ho (fd_plain hd) hcd hmg hobj hints hlen hg hw) fun r s' hq=>?_);obtain⟨rfl,h2,h3,h4⟩:=hq;exact⟨.inl ⟨.bool true,.bool true,[],rfl,fun _=>rfl,.bool true,post_true l _,fun _=>⟨gY,fun _ hm=>(nomatch hm)⟩⟩,h2,h3,h4⟩
end Att
namespace L2
open PySem PySem.Spec PyProof.Rows
def spLawW (n:Nat):SpD:=fun ds S Q=>∃ ns:List Int,ds=[.lst (ns.map D.int)]/\ns.length<=n/\(∀ x∈ns,x.natAbs < 2 ^ 1048576)/\(∀ a,S a=none)/\∀ S',Q (.bl true) S'
theorem law_spW {K:Fg} {n:Nat} {H:Hp} {a:Addr} {ns:List Int} (hl:ns.length<=n) (hw:∀ x∈ns,x.natAbs < 2 ^ 1048576) (hS:SqL K H a (ns.map V.int)):spU K (spLawW n) [.ref a] H (fun v _=>v=.bl true) fun _ _ _=>False:=by
 refine⟨fun _=>False,fun _=>none,[.lst (ns.map D.int)],fun d _=>d=.bl true,⟨fun a o e=>(by cases e),fun _ (h:False)=>h.elim⟩,RepL.cons ?_ RepL.nil,⟨ns,rfl,hl,hw,fun _=>rfl,fun _=>rfl⟩,fun v d H' S' _ _ h e=>by subst e;exact rbl h⟩
 unfold RepV;refine⟨a,_,rfl,?_,intsD⟩;rcases hS with r | z
 ·exact .inl ⟨fun z=>z.elim (fun w=>w rfl) id,r⟩
 ·exact .inr (.inr z)
theorem walkW {l:PySem.W.OpenLaw} {q:aB} {loose:List Str} {XP:(Str->Option ad)->aS->Prop} {YP:aN->aS->Prop} {d:DefRec} {K:Params->av} (hn:l.most=some 63) (hdf:d.params.defaults=[])
  (hY:∀ (w:aN) (h:aS),YP w h->(K w.params).In h)
  (F:∀ (w:aN) (mg:Str->Option ad) (fa:Addr) (h:aS),(K w.params).In h->h.Ns aX mg->mg d.name=some (.ref fa) ->
   ∃ fd:dN,(∀ (s:ah) (u:ad),BindsTo s fd ⟨[u],[]⟩ [("script",u)])/\∀ base:aS,(K w.params).In base->base.Ns aX mg->FnOk l.prog w (K w.params) mg base CX0 50 fa fd ["script"] (spU (K w.params) (spLawW 63))) :
  PySem.W.WalkO q loose XP YP l.row.toRowW d [] (fun f vs=>PySem.call f vs):=by
 refine Att.attach_callW hn hdf fun w s₀ s₁ mg mb fa o pm cd doc a vs ns G Y ho hd hcd hmg hobj hints hlen hg hw=>?_;have KX:=hY w _ Y;obtain⟨fd,hb,hF⟩:=F w mg fa _ KX G.T.g hmg;exact law_call KX G.T.g G.T.b G.T.builtins G.T.nolimit hg hobj hints (bN hlen (by decide)) ⟨rfl,by decide,by decide⟩ hF hb (fun H hO hS=>law_spW hlen hw hS) fun _ _ _ z=>z
end L2
namespace Toy
open PySem L2
def top (i:Nat):Stmt:=PySem.Challenge.pw_corepetals_k68_whole_longest_across.main.body.getD i (.Pass ⟨0,0,0,0⟩)
end Toy
set_option maxHeartbeats 4000000
namespace L2
open PySem PySem.Spec PyProof.Rows
theorem pick_take {α:Type} (l:List α) (i:Nat):∀ m,(aD m).filterMap (fun k=>l[i + k]?)=(l.drop i).take m
 | 0=>rfl
 | m + 1=>by
  rw[gq,hU,pick_take l i m,dU]
  congr 1
  rw[List.getElem?_drop];simp only[cv,List.filterMap_nil];cases l[i + m]? <;> rfl
theorem idx_eq (lo hi:Option Int) (n:Nat):bZ lo hi 1 n=(aD (HT.sIx n n hi - HT.sIx n 0 lo)).map fun k=>HT.sIx n 0 lo + k:=by
 have e:bZ lo hi 1 n=sliceRange (fk lo hi none n).1 (fk lo hi none n).2.1 1:=rfl;obtain⟨h1,h2,_⟩:=slice_bounds lo hi n;rw[e,h1,h2];unfold sliceRange;have hc:(if (1:Int) > 0 then (if ((HT.sIx n 0 lo:Nat):Int) < ((HT.sIx n n hi:Nat):Int) then (((HT.sIx n n hi:Nat):Int) - ((HT.sIx n 0 lo:Nat):Int) + 1 - 1) / 1 else 0) else (if ((HT.sIx n 0 lo:Nat):Int) > ((HT.sIx n n hi:Nat):Int) then (((HT.sIx n 0 lo:Nat):Int) - ((HT.sIx n n hi:Nat):Int) - 1 - 1) / (-1) else 0)).toNat=HT.sIx n n hi - HT.sIx n 0 lo:=by
  rw[if_pos (by decide),Int.ediv_one]
  split <;> lia
 show(aD _).map _=_;rw[hc];apply iL;intro k _;lia
theorem cutS_eq (z:Str) (lo hi:Option Int):cutS z lo hi=⟨((z.cps.toList.drop (HT.sIx z.length 0 lo)).take (HT.sIx z.length z.length hi - HT.sIx z.length 0 lo)).toArray⟩:=by
 unfold cutS;rw[idx_eq,ag,cJ];have hj:HT.sIx z.length z.length hi<=z.length:=HT.sIx_le _ _ (aj _) hi;have hzl:z.cps.toList.length=z.length:=aR
 by_cases h:(HT.sIx z.length z.length hi - HT.sIx z.length 0 lo == z.length)=true
 ·rw[if_pos h];have h':=gE h
  by_cases h0:z.length=0
  ·have:z.cps=#[]:=ig h0
   cases z;simp only at this;subst this;simp
  ·have hi0:HT.sIx z.length 0 lo=0:=by lia
   rw[h',hi0,i6,bJ (by lia)]
 ·rw[if_neg h,List.filterMap_map]
  congr 1
  have:=pick_take z.cps.toList (HT.sIx z.length 0 lo) (HT.sIx z.length z.length hi - HT.sIx z.length 0 lo)
  rw[<- this]
  congr 2
  funext k;show z.cps[HT.sIx z.length 0 lo + k]?=_;rw[bu]
end L2
set_option maxHeartbeats 1000000
namespace L2
open PySem
def lettersZ:Str:=aJ "abcdefghijklmnopqrstuvwxyz"
theorem letter_at {i:Nat} (h:i < 26):atI lettersZ.cps.toList (i:Int)=some (97 + i):=by
 have:∀ j:Fin 26,lettersZ.cps.toList[j.val]?=some (97 + j.val):=by decide +kernel
 exact atI_nat (this ⟨i,h⟩)
end L2
set_option maxHeartbeats 4000000
namespace L2
open PySem
theorem z9999 {n:Nat} (h:n<=9999):n<=sizeLine:=by rw[bn];lia
theorem erase_perm' {α:Type}:∀ (l:List α) (j:Nat) (h:j < l.length),(l[j]::l.eraseIdx j).Perm l
 | a::l,0,_=>.refl _
 | a::l,j + 1,h=>by
  have ih:=erase_perm' l j (by simpa using h)
  show(l[j]'(by simpa using h)::a::l.eraseIdx j).Perm (a::l)
  exact(kx.swap _ _ _).trans (ih.cons a)
theorem perm_back {α β:Type} {f:α->β} (g:β->α) (hg:∀ x,g (f x)=x) {vs us:List β} {xs:List α} (h:(vs++us).Perm (xs.map f)):∃ as bs:List α,vs=as.map f/\us=bs.map f/\(as++bs).Perm xs:=by
 have mem:∀ y∈vs++us,f (g y)=y:=fun y hy=>by
  obtain⟨x,_,rfl⟩:=br.mp (h.mem_iff.mp hy);rw[hg]
 have lift:∀ l:List β,(∀ y∈l,f (g y)=y)->l=(l.map g).map f:=fun l hl=>by
  rw[b5];apply fh (by simp)
  intro i h1 h2;rw[eA];exact(hl _ (cf h1)).symm
 refine⟨vs.map g,us.map g,lift vs fun y hy=>mem y (da _ hy),lift us fun y hy=>mem y (bt _ hy),?_⟩;have p:=h.map g;rw[a9,b5] at p;have e:xs.map (g ∘ f)=xs:=by
  apply fh (by simp)
  intro i h1 h2;rw[eA];exact hg _
 rwa [e] at p
def dStr':D->Str
 | .str s=>s
 | _=>⟨#[]⟩
end L2
namespace Toy
open PySem L2
end Toy
namespace Toy
variable {α:Type}
def ch:List α->Nat->List (List α)
 | _,0=>[[]]
 | [],_ + 1=>[]
 | x::xs,n + 1=>(ch xs n).map (x::·)++ch xs (n + 1)
theorem ch_zero (xs:List α):ch xs 0=[[]]:=by cases xs <;> rfl
theorem ch_nil (n:Nat):ch ([]:List α) (n + 1)=[]:=rfl
theorem ch_cons (x:α) (xs:List α) (n:Nat):ch (x::xs) (n + 1)=(ch xs n).map (x::·)++ch xs (n + 1):=rfl
theorem ch_big:∀ (xs:List α) (n:Nat),xs.length < n->ch xs n=[]
 | [],0,h=>by simp at h
 | [],n + 1,_=>rfl
 | x::xs,0,h=>by simp at h
 | x::xs,n + 1,h=>by
  simp only[bH] at h;rw[ch_cons,ch_big xs n (by lia),ch_big xs (n + 1) (by lia)]
  rfl
theorem ch_len:∀ (xs:List α) (n:Nat),(ch xs n).length<=2 ^ xs.length
 | [],0=>by simp[ch]
 | [],n + 1=>by simp[ch]
 | x::xs,0=>by
  rw[ch_zero];exact Nat.one_le_two_pow
 | x::xs,n + 1=>by
  rw[ch_cons,az,ag,bH,Nat.pow_succ]
  have:=ch_len xs n
  have:=ch_len xs (n + 1)
  lia
theorem ch_mem:∀ {xs:List α} {n:Nat} {s:List α},s∈ch xs n->s.length=n/\s.Sublist xs
 | [],0,s,h=>by
  have:s=[]:=by simpa [ch] using h
  subst this;exact⟨rfl,.slnil⟩
 | [],n + 1,s,h=>by simp[ch] at h
 | x::xs,0,s,h=>by
  have:s=[]:=by simpa [ch] using h
  subst this;exact⟨rfl,jP _⟩
 | x::xs,n + 1,s,h=>by
  rw[ch_cons,bB,br] at h;rcases h with⟨r,hr,rfl⟩ | h
  ·obtain⟨a,b⟩:=ch_mem hr;exact⟨by simp[a],b.cons_cons x⟩
  ·obtain⟨a,b⟩:=ch_mem h;exact⟨a,b.cons x⟩
theorem ch_drop (xs:List α) (i n:Nat) (h:i < xs.length):ch (xs.drop i) (n + 1)=(ch (xs.drop (i + 1)) n).map (xs[i]::·)++ch (xs.drop (i + 1)) (n + 1):=by
 rw[cU h]
 rfl
theorem mem_ch:∀ {xs:List α} {s:List α},s.Sublist xs->s∈ch xs s.length
 | [],s,h=>by
  have:s=[]:=List.sublist_nil.mp h
  subst this;simp[ch]
 | x::xs,[],h=>by simp[ch]
 | x::xs,y::s,h=>by
  rw[bH,ch_cons,bB,br];cases h with
  | cons _ h=>right;exact mem_ch (s:=y::s) h
  | cons_cons _ h=>left;exact⟨s,mem_ch h,rfl⟩
end Toy
namespace Toy
variable {α:Type}
end Toy
namespace Toy
variable {β:Type} [DecidableEq β]
theorem sorted_eq {lt:β->β->Prop} (irr:∀ a,¬ lt a a) (asy:∀ a b,lt a b->¬ lt b a):∀ {l m:List β},l.Pairwise lt->m.Pairwise lt->(∀ n,n∈l↔n∈m)->l=m
 | [],[],_,_,_=>rfl
 | [],b::m,_,_,h=>by have:=(h b).mpr ar;simp at this
 | a::l,[],_,_,h=>by have:=(h a).mp ar;simp at this
 | a::l,b::m,hl,hm,h=>by
  obtain⟨la,hl'⟩:=bA.mp hl;obtain⟨mb,hm'⟩:=bA.mp hm;have e:a=b:=by
   rcases ax.mp ((h a).mp ar) with z | z
   ·exact z
   ·rcases ax.mp ((h b).mpr ar) with y | y
    ·exact y.symm
    ·exact absurd (mb a z) (asy _ _ (la b y))
  subst e
  congr 1
  refine sorted_eq irr asy hl' hm' fun n=>⟨fun hn=>?_,fun hn=>?_⟩
  ·rcases ax.mp ((h n).mp (au _ hn)) with z | z
   ·subst z;exact absurd (la n hn) (irr n)
   ·exact z
  ·rcases ax.mp ((h n).mpr (au _ hn)) with z | z
   ·subst z;exact absurd (mb n hn) (irr n)
   ·exact z
def meG (a b:List β):List β:=a.filter fun n=>decide (n∈b)
end Toy
namespace Toy
variable {α β:Type}
theorem ch_map (f:α->β):∀ (l:List α) (k:Nat),ch (l.map f) k=(ch l k).map fun s=>s.map f
 | [],0=>rfl
 | [],k + 1=>rfl
 | x::l,0=>by rw[ch_zero,ch_zero];rfl
 | x::l,k + 1=>by
  rw[bm,ch_cons,ch_cons,ch_map f l k,ch_map f l (k + 1),a9,b5,b5]
  rfl
end Toy
set_option maxHeartbeats 1000000
namespace L2
open PySem
abbrev Srt (t:List Str):Prop:=t.Pairwise fun a b=>HT.ltS a b=true
abbrev SrtT (ts:List (List Str)):Prop:=ts.Pairwise fun a b=>HT.lexS a b=true
theorem Srt.ext {l m:List Str} (hl:Srt l) (hm:Srt m) (h:∀ n,n∈l↔n∈m):l=m :=
 Toy.sorted_eq (lt:=fun a b=>HT.ltS a b=true) (fun a=>by rw[HT.ltS_ir];simp) (fun a b h=>by rw[HT.ltS_as h];simp) hl hm h
theorem SrtT.ext {l m:List (List Str)} (hl:SrtT l) (hm:SrtT m) (h:∀ n,n∈l↔n∈m):l=m :=
 Toy.sorted_eq (lt:=fun a b=>HT.lexS a b=true) (fun a=>by rw[lexS_irr];simp) (fun a b h=>by rw[HT.lexS_as h];simp) hl hm h
theorem Srt.nodup {t:List Str} (h:Srt t):t.Nodup:=h.imp fun {a b} h e=>by subst e;rw[HT.ltS_ir] at h;cases h
theorem SrtT.nodup {t:List (List Str)} (h:SrtT t):t.Nodup:=h.imp fun {a b} h e=>by subst e;rw[lexS_irr] at h;cases h
theorem srt_of {t:List Str} (nd:t.Nodup) (h:t.Pairwise fun x y=>leS x y=true):Srt t:=by
 induction t with
 | nil=>exact .nil
 | cons a t ih =>
  rw[bA] at h;rw[cx] at nd;refine bA.mpr ⟨fun b hb=>?_,ih nd.2 h.2⟩
  have:=h.1 b hb
  unfold leS at this;rw[c4] at this;exact HT.ltS_tot this fun e=>nd.1 (by rw[<- e];exact hb)
theorem srtT_of {t:List (List Str)} (nd:t.Nodup) (h:t.Pairwise fun x y=>leT x y=true):SrtT t:=by
 induction t with
 | nil=>exact .nil
 | cons a t ih =>
  rw[bA] at h;rw[cx] at nd;refine bA.mpr ⟨fun b hb=>?_,ih nd.2 h.2⟩
  have:=h.1 b hb
  unfold leT at this;rw[c4] at this;exact HT.lexS_tot this fun e=>nd.1 (by rw[<- e];exact hb)
theorem srS_srt {l:List Str} (nd:l.Nodup):Srt (srS l):=srt_of ((srS_perm l).nodup_iff.mpr nd) (srS_pw l)
theorem srT_srt {l:List (List Str)} (nd:l.Nodup):SrtT (srT l):=srtT_of ((srT_perm l).nodup_iff.mpr nd) (srT_pw l)
theorem mem_srS {l:List Str} {x:Str}:x∈srS l↔x∈l:=(srS_perm l).mem_iff
theorem mem_srT {l:List (List Str)} {x:List Str}:x∈srT l↔x∈l:=(srT_perm l).mem_iff
theorem srT_of {l:List (List Str)} (h:SrtT l):srT l=l:=SrtT.ext (srT_srt h.nodup) h fun n=>mem_srT
def dd {α:Type} [DecidableEq α]:List α->List α
 | []=>[]
 | x::xs=>if x∈xs then dd xs else x::dd xs
theorem mem_dd {α:Type} [DecidableEq α] {x:α}:∀ {l:List α},x∈dd l↔x∈l
 | []=>Iff.rfl
 | y::l=>by
  unfold dd
  split
  ·next h =>
   rw[mem_dd,ax];exact⟨.inr,fun z=>z.elim (fun e=>by rw[e];exact h) id⟩
  ·rw[ax,ax,mem_dd]
theorem nodup_dd {α:Type} [DecidableEq α]:∀ l:List α,(dd l).Nodup
 | []=>gR
 | y::l=>by
  unfold dd
  split
  ·exact nodup_dd l
  ·next h=>exact cx.mpr ⟨fun z=>h (mem_dd.mp z),nodup_dd l⟩
def nms (ts:List (List Str)):List Str:=srS (dd ts.flatten)
theorem nms_srt (ts:List (List Str)):Srt (nms ts):=srS_srt (nodup_dd _)
theorem mem_nms {ts:List (List Str)} {x:Str}:x∈nms ts↔∃ t∈ts,x∈t:=by
 unfold nms;rw[mem_srS,mem_dd,List.mem_flatten]
def mts {α:Type} [DecidableEq α] (one row:List α):Bool:=row.any fun d=>decide (d∈one)
theorem mts_iff {α:Type} [DecidableEq α] {one row:List α}:mts one row=true↔∃ x∈row,x∈one:=by unfold mts;simp
end L2
set_option maxHeartbeats 4000000
namespace L2
open PySem
structure Enc (α:Type) where
 e:α->D
 inj:∀ {x y},e x=e y->x=y
 pl:∀ x,plain (e x)=true
 dep:Nat
 ok:∀ n x y,dep<=n->okE n (e x) (e y)=true
 lt:α->α->Bool
 okl:∀ n x y,dep<=n->okL n (e x) (e y)=true
 lte:∀ n x y,dep<=n->ltN n (e x) (e y)=lt x y
def lexG {α:Type} [DecidableEq α] (lt:α->α->Bool):List α->List α->Bool
 | [],[]=>false
 | [],_::_=>true
 | _::_,[]=>false
 | x::xs,y::ys=>if x=y then lexG lt xs ys else lt x y
def strE:Enc Str where
 e:=D.str
 inj:=fun h=>by injection h
 pl:=fun _=>rfl
 dep:=0
 ok:=fun n x y _=>by cases n <;> rfl
 lt:=HT.ltS
 okl:=fun n x y _=>by cases n <;> rfl
 lte:=fun n x y _=>by cases n <;> rfl
def tupE {α:Type} [DecidableEq α] (E:Enc α):Enc (List α) where
 e:=fun l=>.tup (l.map E.e)
 inj:=fun {x y} h=>by
  injection h with h
  exact map_inj (fun a b e=>E.inj e) h
 pl:=fun l=>by
  show plains (l.map E.e)=true
  induction l with
  | nil=>rfl
  | cons x l ih=>show(plain (E.e x) && plains (l.map E.e))=true;rw[E.pl,ih];rfl
 dep:=E.dep + 1
 ok:=fun n x y h=>by
  obtain⟨m,rfl⟩:∃ m,n=m + 1:=⟨n - 1,by lia⟩
  show((x.map E.e).zip (y.map E.e)).all (fun p=>okE m p.1 p.2)=true;rw[List.zip_map,fR,bq];exact fun p _=>E.ok m p.1 p.2 (by lia)
 lt:=lexG E.lt
 okl:=fun n x y h=>by
  obtain⟨m,rfl⟩:∃ m,n=m + 1:=⟨n - 1,by lia⟩
  show okLs (okL m) m (x.map E.e) (y.map E.e)=true
  induction x generalizing y with
  | nil=>cases y <;> rfl
  | cons a x ih =>
   cases y with
   | nil=>rfl
   | cons b y =>
    show(okE m (E.e a) (E.e b) && (if E.e a=E.e b then okLs (okL m) m (x.map E.e) (y.map E.e) else okL m (E.e a) (E.e b)))=true
    rw[E.ok m a b (by lia),jA]
    split
    ·exact ih y
    ·exact E.okl m a b (by lia)
 lte:=fun n x y h=>by
  obtain⟨m,rfl⟩:∃ m,n=m + 1:=⟨n - 1,by lia⟩
  show lexN (ltN m) (x.map E.e) (y.map E.e)=lexG E.lt x y
  induction x generalizing y with
  | nil=>cases y <;> rfl
  | cons a x ih =>
   cases y with
   | nil=>rfl
   | cons b y =>
    show(if E.e a=E.e b then lexN (ltN m) (x.map E.e) (y.map E.e) else ltN m (E.e a) (E.e b))=if a=b then lexG E.lt x y else E.lt a b
    by_cases hab:a=b
    ·subst hab;rw[if_pos rfl,if_pos rfl];exact ih y
    ·rw[if_neg fun z=>hab (E.inj z),if_neg hab];exact E.lte m a b (by lia)
theorem lexG_S:lexG HT.ltS=HT.lexS:=by
 funext x y
 induction x generalizing y with
 | nil=>cases y <;> rfl
 | cons a x ih =>
  cases y with
  | nil=>rfl
  | cons b y =>
   show(if a=b then lexG HT.ltS x y else HT.ltS a b)=if a=b then HT.lexS x y else HT.ltS a b
   rw[ih]
abbrev setE:Enc (List Str):=tupE strE
abbrev flE:Enc (List (List Str)):=tupE setE
theorem setE_lt:setE.lt=HT.lexS:=lexG_S
section
variable {α:Type} [DecidableEq α] {E:Enc α}
theorem plains_e:∀ l:List α,plains (l.map E.e)=true
 | []=>rfl
 | x::l=>by show(plain (E.e x) && plains (l.map E.e))=true;rw[E.pl,plains_e l];rfl
theorem mem_e {x:α} {l:List α}:E.e x∈l.map E.e↔x∈l:=by
 rw[br];exact⟨fun⟨y,h,e⟩=>by rw[<- E.inj e];exact h,fun h=>⟨x,h,rfl⟩⟩
theorem in_e {neg:Bool} {x:α} {l:List α} [dm:Decidable (x∈l)] {d:D} {S:Sto} {Q:DK} (hE:E.dep<=8) (hd:sqIs S d (l.map E.e)) (q:Q (.bl (if neg then !decide (x∈l) else decide (x∈l))) S):inD neg (E.e x) d S Q:=by
 refine⟨l.map E.e,hd,plains_e l,by rw[fR,bq];exact fun y _=>E.ok 8 y x hE,?_⟩
 rw[decide_eq_decide.mpr (mem_e (E:=E) (x:=x) (l:=l))];exact q
theorem eq_e {neg:Bool} {x y:α} [dm:Decidable (x=y)] {S:Sto} {Q:DK} (hE:E.dep<=9) (q:Q (.bl (if neg then !decide (x=y) else decide (x=y))) S):eqD neg (E.e x) (E.e y) S Q:=by
 have key:okE 9 (E.e x) (E.e y)=true/\Q (.bl (if neg then !decide (E.e x=E.e y) else decide (E.e x=E.e y))) S:=by
  refine⟨E.ok 9 x y hE,?_⟩;rw[show decide (E.e x=E.e y)=decide (x=y) from decide_eq_decide.mpr ⟨fun e=>E.inj e,fun e=>by rw[e]⟩]
  exact q
 have px:=E.pl x;generalize E.e x=d at key px;generalize E.e y=e at key;unfold eqD;cases d <;> first | (cases px;done) | exact key
theorem in_t {neg:Bool} {x:α} {l:List α} [dm:Decidable (x∈l)] {d:D} {S:Sto} {Q:Bool->Sto->Prop} (hE:E.dep<=8) (hd:sqIs S d (l.map E.e)) (q:Q (if neg then !decide (x∈l) else decide (x∈l)) S):inD neg (E.e x) d S (fun d S1=>∃ b,d=.bl b/\Q b S1):=in_e hE hd ⟨_,rfl,q⟩
end
def fzIs (d:D) (xs:List D):Prop:=d=.tup xs\/d=.lst xs
theorem fzIs.sq {S:Sto} {d:D} {xs:List D} (h:fzIs d xs):sqIs S d xs:=by rcases h with rfl | rfl <;> rfl
end L2
namespace Toy
open PySem L2
def sp_meets:SpD:=fun ds S Q=>∃ (α:Type) (_:DecidableEq α) (E:Enc α) (one row:List α) (d1 d2:D),ds=[d1,d2]/\E.dep<=4/\fzIs d1 (one.map E.e)/\fzIs d2 (row.map E.e)/\row.length<=9999/\Q (.bl (mts one row)) S
end Toy
namespace L2
open PySem
def emptyS:Str:=aJ ""
theorem lt_empty {x:Str} (h:1<=x.length):HT.ltS emptyS x=true:=by
 unfold HT.ltS;refine decide_eq_true ?_;obtain⟨⟨l⟩⟩:=x;cases l with
 | nil=>exact absurd h (by decide)
 | cons c l =>
  show([]:List Nat) < c::l;exact List.nil_lt_cons _ _
end L2
namespace Toy
open PySem L2
structure CollB (most:Nat) (ts:List (List Str)):Prop where
 srt:SrtT ts
 each:∀ t∈ts,Srt t/\t.length<=6
 len:ts.length<=most
 nms:(nms ts).length<=12
 ne:∀ x∈L2.nms ts,HT.ltS emptyS x=true
end Toy
namespace L2
open PySem
end L2
set_option maxHeartbeats 1000000
namespace L2
open PySem PySem.Spec PyProof.Rows
end L2
set_option maxHeartbeats 4000000
namespace Toy
open PySem L2
theorem cutS_le (z:Str) (u v:Option Int) {n:Nat} (h:z.length=n):(cutS z u v).length<=n:=by
 rw[cutS_eq];show(eT _).size<=n;rw[ak,aP,bo]
 have:z.cps.toList.length=z.length:=by show _=z.cps.size;simp
 lia
theorem sg_sum:∀ cs:List Nat,((cs.map sg).map (·.length)).sum=cs.length
 | []=>rfl
 | x::cs=>by rw[bm,bm,List.sum_cons,sg_sum cs,sg_len,bH];lia
end Toy
set_option maxHeartbeats 1000000
namespace L2
open PySem PySem.Spec PyProof.Rows
section
variable {X:Cx} {K:Fg} {pos:Pos}
theorem log2_lt' {n k:Nat} (h:n < 2 ^ k) (hk:0 < k):n.log2 < k:=by
 by_cases h0:n=0
 ·subst h0;rw[Nat.log2_zero];exact hk
 ·exact(Nat.log2_lt h0).mpr h
def repLD (b:Bool):R2D:=fun d e S Q=>∃ (a:Addr) (xs:List D) (k:Nat),d=.ref a/\e=.int k/\S a=some (.lst xs)/\xs.length * k<=9999/\k<=9999/\newL b (aQ k xs).flatten S Q
theorem repRepl {M:Am} {H:Hp} {ds:List D} {xs:List V} (l:RepL K M H ds xs):∀ k:Nat,RepL K M H (aQ k ds).flatten (aQ k xs).flatten
 | 0=>RepL.nil
 | k + 1=>by
  rw[cW,cW,eR,eR];exact l.app (repRepl l k)
theorem od_repL {b:Bool}:OpD K rRep (repLD b):=by
 intro F S H d e x y Q QD r hd he h c;obtain⟨a,xs,k,rfl,rfl,hS,hz,hk,q⟩:=h;obtain⟨us,hu,lu⟩:=r.obj a _ hS;have hl:=lu.length;rw[rref hd,rint he];exact⟨a,_,us,rfl,rfl,hu,by omega,by omega,by rw[hl,bF,bn];omega,fun p hp=>by rw[bF];exact c.new r hp (repRepl lu k) q⟩
theorem e_repL {b:Bool} {a e:Expr} {ta tb:ED} (ha:PD K X a ta) (hb:PD K X e tb):PD K X (.BinOp a .Mult e pos) (dOp (repLD b) ta tb):=e_op op_rep od_repL ha hb
end
section
variable {X:Cx} {K:Fg} {pos:Pos}
def CShlB (i j:Int):Prop:=0<=j/\j<=1000/\i.natAbs < 2 ^ 4000000
theorem op_shlB:OpR X (dM .LShift) (rI CShlB fun i j=>.int (i * 2 ^ j.toNat)):=opI fun i j _ _ _ _ _ hc q=>lshift_int hc.1 (by
 have h1:(0:Int)<=j:=hc.1;have h2:j<=1000:=hc.2.1;have l1:=log2_lt' hc.2.2 (by decide)
 have b1:kA i<=4000000:=by unfold kA;split <;> omega
 omega) q
theorem e_shlB {a b:Expr} {ta tb:ED} (ha:PD K X a ta) (hb:PD K X b tb):PD K X (.BinOp a .LShift b pos) (dOp (iiD CShlB fun i j=>.int (i * 2 ^ j.toNat)) ta tb):=e_op op_shlB od_I ha hb
end
end L2
namespace L2
open PySem
def DkD (S:Sto) (a:Addr) (n:Nat):Prop:=∃ g m t:Int,S a=some (.lst [.int g,.int m,.int t])/\0<=g/\0<=m/\m < 2 ^ 31/\0<=t/\t<=n
theorem DkD.mono {S:Sto} {a:Addr} {n k:Nat} (h:DkD S a n) (hk:n<=k):DkD S a k:=by
 obtain⟨g,m,t,hS,g0,m0,m1,t0,t1⟩:=h;exact⟨g,m,t,hS,g0,m0,m1,t0,by omega⟩
theorem great_next {g c:Int} {k:Nat} (g0:0<=g) (hg:g.natAbs < 2 ^ (1048600 + 206 * k)) (hc:c.natAbs < 2 ^ 1048576) (hk:k<=63):0<=g * 2 ^ (205:Int).toNat + c.natAbs/\(g * 2 ^ (205:Int).toNat + c.natAbs).natAbs < 2 ^ (1048600 + 206 * (k + 1)):=by
 have e:g * 2 ^ (205:Int).toNat + c.natAbs=((g.natAbs * 2 ^ 205 + c.natAbs:Nat):Int):=by
  rw[gx,Int.natCast_mul,Int.natCast_pow,Int.natAbs_of_nonneg g0];rfl
 rw[e];refine⟨Int.natCast_nonneg _,?_⟩;rw[Int.natAbs_natCast];have h1:g.natAbs * 2 ^ 205 < 2 ^ (1048600 + 206 * k) * 2 ^ 205:=Nat.mul_lt_mul_of_pos_right hg (kg _);rw[<- Nat.pow_add] at h1;have h2:2 ^ 1048576<=2 ^ (1048600 + 206 * k + 205):=fL (by decide) (by omega)
 have h3:2 ^ (1048600 + 206 * (k + 1))=2 ^ (1048600 + 206 * k + 205) * 2:=by rw[<- Nat.pow_succ];congr 1
 rw[h3];generalize 2 ^ (1048600 + 206 * k + 205)=M at *
 generalize 2 ^ 1048576=N at *
 generalize g.natAbs * 2 ^ 205=G at *
 omega
def spd_deck:SpD:=fun ds S Q=>∃ ns:List Int,ds=[.lst (ns.map D.int)]/\ns.length<=63/\(∀ x∈ns,x.natAbs < 2 ^ 1048576)/\∀ a S',S a=none->Off a S S'->DkD S' a 0->Q (.ref a) S'
def spd_draw:SpD:=fun ds S Q=>∃ (a:Addr) (m:Int) (n:Nat),ds=[.ref a,.int m]/\DkD S a n/\n<=1000000/\1<=m/\m < 1000000/\∀ (r:Int) S',0<=r->r < m->Off a S S'->DkD S' a (n + 1)->Q (.int r) S'
def spd_names:SpD:=fun ds S Q=>∃ (a:Addr) (many n:Nat),ds=[.ref a,.int many]/\DkD S a n/\n<=900000/\many<=12/\∀ (ws:List Str) S',ws.Nodup->ws.length=many->(∀ x∈ws,1<=x.length/\x.length<=8)->Off a S S'->DkD S' a (n + 9 + many)->Q (.lst (ws.map D.str)) S'
end L2
namespace Toy
open PySem L2
abbrev s_law_deck:Stmt:=top 10
theorem sc_law_deck:FnScope ["script", "great", "mixed", "cell"] ["script"] (defScope s_law_deck):=fsc
section
variable {P:aB} {w:aN} {K:av} {mg:Str->Option ad} {base:aS} {pt cc:Addr}
theorem ok_law_deck (T:Tx K mg "_law_deck" s_law_deck) (B:Bs mg) (AB:mg "abs" = none):Df P w K mg base 1 "_law_deck" ["script"] (spU K spd_deck):=by
 refine e_def T sc_law_deck (fun F=>F.binds fun _ _ _ _ _ _=>us1 fun _=>rfl) ?_ fun f cdv A outer s H E hr=>⟨_,(dss_cons (ds_set (i:=1) sc_law_deck.nd rfl (a7 rfl) e_int)
  (dss_cons (ds_set (i:=2) sc_law_deck.nd rfl (a7 rfl) (e_add (k:=false) (e_mul e_int (e_len rfl B.len (da_cons (dv 0) da_nil))) e_int))
  (dss_cons (ds_for c8 rfl (di_sq (e_sl (b:=false) (dv 0) do_none (do_some e_int))) (dg_name (i:=3) sc_law_deck.nd rfl (a7 rfl)) (dss_one (ds_if (dt_ge hr (e_abs rfl AB (da_cons (dv 3) da_nil)) (e_pow e_int e_int)) (dss_one (ds_set (i:=1) sc_law_deck.nd rfl (a7 rfl) (e_add (k:=false) (e_shlB (dv 1) e_int) (e_abs rfl AB (da_cons (dv 3) da_nil))))) (dss_one (ds_set (i:=2) sc_law_deck.nd rfl (a7 rfl) (e_mod (e_add (k:=false) (e_mul (dv 2) e_int) (dv 3)) e_int))))))
  (dss_one (ds_ret (e_lst (b:=true) (da_cons (dv 1) (da_cons (dv 2) (da_cons e_int da_nil))))))))),?_⟩
 ·rintro ds S Q ⟨ns,rfl,_⟩;rfl
 ·rintro ds S Q ⟨ns,rfl,h63,hw,q⟩;have e:cutD (ns.map D.int) none (some 63)=ns.map D.int:=cutD_all _ rfl (by show HT.sIx _ _ (some ((63:Nat):Int))=_;rw[HT.sIx_nat];simp;omega)
  have z3:(3:Nat)<=sizeLine:=z9999 (by decide)
  refine⟨_,rfl,.inl ⟨by decide,by decide⟩,?_⟩
  refine⟨63,rfl,_,rfl,ns.map D.int,e,for_ind (fun i Γ S'=>S'=S/\∃ (g x:Int) (x3:Option D),Γ=[some (.lst (ns.map D.int)),some (.int g),some (.int x),x3]/\0<=g/\g.natAbs < 2 ^ (1048600 + 206 * i)/\0<=x/\x < 2 ^ 31) ⟨rfl,0,17 * ((ns.map D.int).length:Int) + 11,none,rfl,Int.le_refl _,kg _,by rw[ag];omega,by rw[ag];omega⟩ ?_ ?_⟩
  ·rintro i y Γ S1 N hx ⟨rfl,g,x,x3,rfl,g0,g1,x0,x1⟩ hN;rw[a6,bK] at hx;obtain⟨c,hc,rfl⟩:=hx;obtain⟨hi,_⟩:=aH.mp hc;have cw:=hw c (bL hc);have ea:(if c < 0 then -c else c)=(c.natAbs:Int):=by split <;> omega
   obtain⟨n0,n1⟩:=great_next (k:=i) g0 g1 cw (by omega)
   refine⟨trivial,⟨by decide,by decide,by decide⟩,_,rfl,ite2 (fun c0=>?_) fun c0=>?_⟩
   ·have hb:g.natAbs < 2 ^ 4000000:=aF g1 (fL (by decide) (by omega))
    refine⟨⟨by decide,by decide,hb⟩,hN _ _ ⟨rfl,_,x,_,rfl,?_,?_,x0,x1⟩⟩
    ·show 0<=g * 2 ^ (205:Int).toNat + (if c < 0 then -c else c)
     rw[ea];exact n0
    ·show(g * 2 ^ (205:Int).toNat + (if c < 0 then -c else c)).natAbs < _
     rw[ea];exact n1
   ·refine⟨.inl ⟨by omega,by omega⟩,by show(0:Int) < 1999999871;decide,hN _ _ ⟨rfl,g,_,_,rfl,g0,aF g1 (fL (by decide) (by omega)),iD _ (by decide),?_⟩⟩
    exact Int.lt_of_lt_of_le (gA _ (by decide)) (by decide)
  ·rintro Γ S1 ⟨rfl,g,x,x3,rfl,g0,g1,x0,x1⟩;exact⟨trivial,z3,fun p hp=>rt_same (q p _ hp (fun b hb=>supd_ne hb) ⟨g,x,0,supd_same,g0,x0,x1,Int.le_refl _,Int.le_refl _⟩)⟩
end
abbrev s_law_draw:Stmt:=top 11
theorem sc_law_draw:FnScope ["deck", "most", "found", "turn", "one"] ["deck", "most"] (defScope s_law_draw):=fsc
section
variable {P:aB} {w:aN} {K:av} {mg:Str->Option ad} {base:aS} {pt cc:Addr}
theorem ok_law_draw (T:Tx K mg "_law_draw" s_law_draw) (B:Bs mg):Df P w K mg base 1 "_law_draw" ["deck", "most"] (spU K spd_draw):=by
 refine e_def T sc_law_draw (fun F=>F.binds fun _ _ _ _ _ _=>us2 fun _ _=>rfl) ?_ fun f cdv A outer s H E hr=>⟨_,(dss_cons (ds_asg (e_add (k:=false) (e_ix (dv 0) e_int) e_int) (dg_sub (dv 0) e_int))
  (dss_cons (ds_if (dt_gt hr (e_ix (dv 0) e_int) e_int) (dss_cons (ds_set (i:=2) sc_law_draw.nd rfl (a7 rfl) (e_mod (e_ix (dv 0) e_int) (dv 1)))
  (dss_cons (ds_asg (e_fdiv (e_ix (dv 0) e_int) (dv 1)) (dg_sub (dv 0) e_int))
  (dss_one (ds_ret (dv 2))))) dss_nil)
  (dss_cons (ds_set (i:=3) sc_law_draw.nd rfl (a7 rfl) (e_ix (dv 0) e_int))
  (dss_cons (ds_set (i:=4) sc_law_draw.nd rfl (a7 rfl) (e_mod (e_add (k:=false) (e_add (k:=false) (e_ix (dv 0) e_int) (e_mul (e_mul e_int (dv 3)) (dv 3))) (e_mul e_int (dv 3))) e_int))
  (dss_cons (ds_set (i:=4) sc_law_draw.nd rfl (a7 rfl) (e_mod (e_mul (dv 4) (dv 4)) e_int))
  (dss_one (ds_ret (e_mod (e_fdiv (e_mod (e_add (k:=false) (e_mul (dv 4) e_int) (e_mul (dv 3) e_int)) e_int) e_int) (dv 1))))))))),?_⟩
 ·rintro ds S Q ⟨a,m,n,rfl,_⟩;rfl
 ·rintro ds S Q ⟨a,m,n,rfl,⟨g,x,t,hS,g0,x0,x1,t0,t1⟩,hn,m1,m2,q⟩;have hS1:supd S a (.lst [.int g,.int x,.int (t + 1)]) a=some (.lst [.int g,.int x,.int (t + 1)]):=supd_same;have md:∀ z:Int,0<=z % m/\z % m < m:=fun z=>⟨iD _ (by omega),gA _ (by omega)⟩
  have mb:∀ (z k:Int),0 < k->k < 2 ^ 32->-(2 ^ 64) < z % k/\z % k < 2 ^ 64:=fun z k h1 h2=>⟨by have:=iD z (show k≠0 by omega);omega,by have:=gA z h1;omega⟩
  refine⟨_,_,hS,rfl,_,_,hS,rfl,?_⟩;refine⟨_,_,hS1,rfl,_,rfl,ite2 (fun c0=>?_) fun c0=>?_⟩
  ·refine⟨_,_,hS1,rfl,by show(0:Int) < m;omega,_,_,hS1,rfl,⟨by omega,by omega⟩,_,_,hS1,rfl,rt_same (q _ _ (md g).1 (md g).2 (fun b hb=>by rw[supd_ne hb];exact supd_ne hb) ⟨g / m,x,t + 1,?_,Int.ediv_nonneg g0 (by omega),x0,x1,by omega,by omega⟩)⟩
   exact supd_same
  ·refine⟨_,_,hS1,rfl,_,_,hS1,rfl,.inl ⟨by decide,by decide⟩,.inr ⟨by omega,by omega⟩,.inl ⟨by decide,by decide⟩,by show(0:Int) < 2147483543;decide,.inl (mb _ _ (by decide) (by decide)),by show(0:Int) < 2147483497;decide,.inr ⟨by decide,by decide⟩,.inr ⟨by decide,by decide⟩,by show(0:Int) < 2147483477;decide,⟨by decide,by decide⟩,by show(0:Int) < m;omega,rt_same (q _ _ (md _).1 (md _).2 (fun b hb=>supd_ne hb) ⟨g,x,t + 1,hS1,g0,x0,x1,by omega,by omega⟩)⟩
end
end Toy
namespace L2
open PySem
theorem mid_inj {u v:Str} {c d:Nat} (h:u++(⟨#[c]⟩:Str)++v=u++(⟨#[d]⟩:Str)++v):c=d:=by
 have e:(u.cps++#[c]++v.cps).toList=(u.cps++#[d]++v.cps).toList:=congrArg (fun s:Str=>s.cps.toList) h;rw[e5,e5,e5,e5] at e;have e2:=List.append_cancel_right e;have e3:=List.append_cancel_left e2;exact(List.cons.inj e3).1
theorem nodup_mid (u v:Str) {cs:List Nat} (nd:cs.Nodup):(cs.map fun c=>u++(⟨#[c]⟩:Str)++v).Nodup:=by
 unfold List.Nodup;rw[bO];exact kH.imp (fun {a b} hne e=>hne (mid_inj e)) nd
theorem signs_nd (b:Nat):((aD 12).map fun k=>97 + (b + k) % 26).Nodup:=by
 unfold List.Nodup;rw[bO];refine dI ?_ (h9 (n:=12));intro i j hi hj hne e
 have:=aM.mp hi
 have:=aM.mp hj
 exact hne (by omega)
end L2
namespace Toy
open PySem L2
theorem draw_sgD {a:Addr} {ys:List D} {n:Nat} {S:Sto} (dk:DkD S a n) (hn:n + ys.length<=1000000) (h8:ys.length<=8) {Q:List D->Sto->Prop}
  (q:∀ (cs:List Nat) S',cs.length=ys.length->Off a S S'->DkD S' a (n + ys.length)->Q ((cs.map sg).map D.str) S') :
  loopD (gdName 0) dYes (emitD (dOp ixD (dVar 1) (dCB spd_draw (dCons (dVar 2) (dCons (dC (.int 26)) dNil))))) (fun _=>True) [none,some (.str lettersZ),some (.ref a)] ys [] S Q:=by
 refine loop_ind (fun i acc S'=>∃ cs:List Nat,acc=(cs.map sg).map D.str/\cs.length=i/\Off a S S'/\DkD S' a (n + i)) ⟨[],rfl,rfl,fun _ _=>rfl,dk⟩ ?_ ?_
 ·rintro i x acc Sx N hx ⟨cs,rfl,hcl,ox,dkx⟩ hN;have hi:=(aH.mp hx).1;refine⟨trivial,a,26,n + i,rfl,dkx,by lia,by decide,by decide,fun r3 S3 r30 r31 off4 dk4=>?_⟩
  obtain⟨k,rfl⟩:∃ k:Nat,r3=k:=⟨r3.toNat,by lia⟩
  exact⟨z9999 (by decide),_,letter_at (by lia:k < 26),z9999 (by rw[ag,ag];lia),hN _ _ ⟨cs++[97 + k],by rw[a9,a9];rfl,by rw[az,hcl];rfl,ox.trans off4,dk4⟩⟩
 ·rintro acc S3 ⟨cs,rfl,hcl,off4,dk4⟩;exact⟨trivial,q cs S3 hcl off4 dk4⟩
theorem pop_nD {a lp:Addr} {n:Nat} {S:Sto} {xs:List D} {m:Nat} (hal:a≠lp) (dk:DkD S a n) (hn:n + m<=1000000) (hS:S lp=some (.lst xs)) (hm:m<=xs.length) (hx:xs.length<=999) {Q:List D->Sto->Prop}
  (q:∀ vs us S',(vs++us).Perm xs->vs.length=m->S' lp=some (.lst us)->DkD S' a (n + m)->(∀ b,b≠lp->b≠a->S' b=S b)->Q vs S') :
  loopD (gdName 0) dYes (emitD (dMt popAtD ckL (dVar 1) (dCons (dCB spd_draw (dCons (dVar 2) (dCons (dCB lenD (dCons (dVar 1) dNil)) dNil))) dNil))) (fun _=>True) [none,some (.ref lp),some (.ref a)] (rngD 0 m) [] S Q:=by
 refine loop_ind (fun i acc S'=>∃ us:List D,acc.length=i/\S' lp=some (.lst us)/\(acc++us).Perm xs/\DkD S' a (n + i)/\∀ b,b≠lp->b≠a->S' b=S b) ⟨xs,rfl,hS,.refl _,dk,fun _ _ _=>rfl⟩ ?_ ?_
 ·rintro i x vs S' N hx' ⟨us,hvl,hl,pm,dk',off'⟩ hN;obtain⟨hi,rfl⟩:=rng_at hx';have hul:us.length + i=xs.length:=by have:=pm.length_eq;rw[az] at this;omega
  refine⟨trivial,⟨_,hl⟩,_,hl,a,(us.length:Int),n + i,rfl,dk',by omega,by omega,by omega,fun r S2 r0 r1 off2 dk2=>?_⟩
  obtain⟨j,rfl⟩:∃ j:Nat,r=j:=⟨r.toNat,by omega⟩
  have hj:j < us.length:=by omega
  have hl2:S2 lp=some (.lst us):=(off2 lp (bW hal)).trans hl;obtain⟨g,x,t,hSa,d1,d2,d3,d4,d5⟩:=dk2;refine⟨_,j,us[j],hl2,rfl,by omega,ai hj,by rw[bn];omega,hN _ _ ⟨us.eraseIdx j,?_,supd_same,?_,⟨g,x,t,(supd_ne hal).trans hSa,d1,d2,d3,d4,by omega⟩,fun b hb hb2=>(supd_ne hb).trans ((off2 b hb2).trans (off' b hb hb2))⟩⟩
  ·rw[az,hvl];rfl
  ·refine kx.trans ?_ pm;rw[dj];exact(List.perm_append_left_iff vs).mpr (erase_perm' us j hj)
 ·rintro vs S' ⟨us,hvl,hl,pm,dk',off'⟩;rw[rngD_len] at hvl dk';exact⟨trivial,q vs us S' pm hvl hl dk' off'⟩
end Toy
namespace L2
open PySem Toy
def wordsD:List Str:=[aJ "a",aJ "b",aJ "ab",aJ "ba",aJ "sets",aJ "put",aJ "take",aJ "core",aJ "way",aJ "row",aJ "none",aJ "near"]
def made0 (b k:Nat):Str:=sg (97 + (b + k) % 26)++repS (aJ "q") (1 + (k:Int) % 7)
theorem ok0:∀ b,b < 26->(wordsD++(aD 12).map (made0 b)).Nodup/\∀ x∈wordsD++(aD 12).map (made0 b),1<=x.length/\x.length<=8:=by decide +kernel
def made1 (u v:Str) (b k:Nat):Str:=u++sg (97 + (b + k) % 26)++v
theorem nd1 (u v:Str) (b:Nat):((aD 12).map (made1 u v b)).Nodup:=by
 have e:(aD 12).map (made1 u v b)=((aD 12).map fun k=>97 + (b + k) % 26).map fun c=>u++(⟨#[c]⟩:Str)++v:=by rw[b5];rfl
 rw[e];exact nodup_mid u v (signs_nd b)
theorem cut_two {z:Str} (hz:z.length=7) (p:Nat) (h:Option Int):(cutS z none (some (p:Int))).length + (cutS z (some (p:Int)) h).length<=7:=by
 have e7:z.cps.toList.length=7:=by rw[aR];exact hz
 have e1:(cutS z none (some (p:Int))).length<=min p 7:=by
  rw[cutS_eq];show(eT _).size<=_;rw[ak,aP,HT.sIx_nat,hz];omega
 have e2:(cutS z (some (p:Int)) h).length<=7 - min p 7:=by
  rw[cutS_eq];show(eT _).size<=_;rw[ak,aP,bo,HT.sIx_nat,hz,e7];omega
 omega
theorem DkD.eq {S S':Sto} {a:Addr} {n:Nat} (h:DkD S a n) (e:S' a=S a):DkD S' a n:=by
 obtain⟨g,m,t,hS,r⟩:=h;exact⟨g,m,t,e.trans hS,r⟩
theorem DkD.ne {S:Sto} {a p:Addr} {n:Nat} (h:DkD S a n) (hp:S p=none):p≠a:=by
 obtain⟨g,m,t,hS,_⟩:=h;rintro rfl;rw[hS] at hp;cases hp
def spd_sets:SpD:=fun ds S Q=>∃ (a:Addr) (most wide n:Nat),ds=[.ref a,.int most,.int wide]/\DkD S a n/\n<=800000/\most<=14/\1<=wide/\wide<=12/\∀ (ts:List (List Str)) S',CollB most ts->Off a S S'->DkD S' a (n + 500)->Q (.tup (ts.map tupS)) S'
end L2
namespace Toy
open PySem L2
theorem draw_sub {a:Addr} {tt:TD} {Γr:Gm} {ws:List Str} {n:Nat} {S:Sto} (dk:DkD S a n) (hn:n + ws.length<=1000000) (hw:ws.length<=9999)
  (h:∀ (x:Str) (S:Sto) (k:Nat),DkD S a k->k<=1000000->∀ Q:Bool->Sto->Prop,(∀ c S',Off a S S'->DkD S' a (k + 1)->Q c S')->tt (some (.str x)::Γr) S Q) {Q:List D->Sto->Prop}
  (q:∀ (os:List Str) S',os.Sublist ws->Off a S S'->DkD S' a (n + ws.length)->Q (os.map D.str) S') :
  loopD (gdName 0) tt (emitD (dVar 0)) (fun _=>True) (none::Γr) (ws.map D.str) [] S Q:=by
 refine loop_ind (fun i acc S'=>∃ os:List Str,acc=os.map D.str/\os.Sublist (ws.take i)/\Off a S S'/\DkD S' a (n + i)) ⟨[],rfl,jP _,fun _ _=>rfl,dk⟩ ?_ ?_
 ·rintro i x acc S' N hx ⟨os,rfl,hs,ho,dk'⟩ hN;rw[a6,bK] at hx;obtain⟨y,hy,rfl⟩:=hx;obtain⟨hi,_⟩:=aH.mp hy;have et:ws.take (i + 1)=ws.take i++[y]:=by rw[dU,hy];rfl
  refine⟨trivial,h y S' (n + i) dk' (by omega) _ fun c S2 off2 dk2=>?_⟩
  have ol:=hs.length_le;rw[aP] at ol;cases c with
  | true =>
   rw[if_pos rfl];refine⟨z9999 (by rw[ag];omega),hN _ _ ⟨os++[y],by rw[a9];rfl,?_,ho.trans off2,dk2⟩⟩
   rw[et];exact hs.append (kM _)
  | false =>
   rw[if_neg (by simp)]
   refine hN _ _ ⟨os,rfl,?_,ho.trans off2,dk2⟩;rw[et];exact hs.trans (jB _ _)
 ·rintro acc S' ⟨os,rfl,hs,ho,dk'⟩;rw[ag] at hs dk';rw[ii] at hs;exact⟨trivial,q os S' hs ho dk'⟩
end Toy
namespace L2
open PySem Toy
theorem pickI {P:Int->Prop} {l:List Int} {i:Int} (h0:0<=i) (h1:i < l.length) (hP:∀ x∈l,P x):∃ v,atI (l.map D.int) i=some (.int v)/\P v:=by
 obtain⟨h,e⟩:=atI_in h0 h1;exact⟨_,by rw[atI_map,e];rfl,hP _ (cf h)⟩
end L2
namespace Toy
open PySem L2
abbrev s_law_names:Stmt:=top 12
theorem sc_law_names:FnScope ["deck", "many", "letters", "spare", "begin", "near", "place", "alike", "k", "sign"] ["deck", "many"] (defScope s_law_names):=fsc
section
variable {P:aB} {w:aN} {K:av} {mg:Str->Option ad} {base:aS} {pt cc:Addr}
theorem ok_law_names (T:Tx K mg "_law_names" s_law_names) (B:Bs mg) (d_law_draw:Df P w K mg base 1 "_law_draw" ["deck", "most"] (spU K spd_draw)):Df P w K mg base 2 "_law_names" ["deck", "many"] (spU K spd_names):=by
 refine e_def T sc_law_names (fun F=>F.binds fun _ _ _ _ _ _=>us2 fun _ _=>rfl) ?_ fun f cdv A outer s H E hr=>⟨_,(dss_cons (ds_set (i:=2) sc_law_names.nd rfl (gV rfl) e_str)
  (dss_cons (ds_set (i:=3) sc_law_names.nd rfl (gV rfl) (e_lst (b:=true) (da_cons e_str (da_cons e_str (da_cons e_str (da_cons e_str (da_cons e_str (da_cons e_str (da_cons e_str (da_cons e_str (da_cons e_str (da_cons e_str (da_cons e_str (da_cons e_str da_nil))))))))))))))
  (dss_cons (ds_set (i:=4) sc_law_names.nd rfl (a7 rfl) (e_callD d_law_draw hr rfl (da_cons (dv 0) (da_cons e_int da_nil))))
  (dss_cons (ds_set (i:=5) sc_law_names.nd rfl (a7 rfl) (e_join e_str (da_cons (e_comp (N':=["k", "letters", "deck"]) (oc:=none) (b:=false) [0] [] rfl sc_law_names.nd (fun _ _ _=>turn_one _ _ _ _ _ _ _ _ _) (.own (.cap (i:=2) rfl (by decide +kernel) (.cap (i:=0) rfl (by decide +kernel) .nil))) (free_of rfl) (di_range1 rfl B.range (da_cons e_int da_nil)) (cg_name (i:=0)) (fun _ _ _ _ _=>pg_name (i:=0) (nd_ ["k", "letters", "deck"]) rfl (a7 rfl) (.inr rfl)) (fun _ _ _ _ _=>dts_nil) bo_emit (fun _ _ _ _ _ _=>pb_emit rfl (by exact PD.o (e_ix (dv 1) (e_callD d_law_draw hr rfl (da_cons (dv 2) (da_cons e_int da_nil))))))) da_nil)))
  (dss_cons (ds_set (i:=5) sc_law_names.nd rfl (a7 rfl) (e_add (k:=false) (dv 5) (e_ix (dv 2) (dv 4))))
  (dss_cons (ds_set (i:=6) sc_law_names.nd rfl (a7 rfl) (e_add (k:=false) (e_callD d_law_draw hr rfl (da_cons (dv 0) (da_cons e_int da_nil))) (e_mod (dv 4) e_int)))
  (dss_cons (ds_set (i:=7) sc_law_names.nd rfl (a7 rfl) (e_callD d_law_draw hr rfl (da_cons (dv 0) (da_cons e_int da_nil))))
  (dss_cons (ds_set (i:=3) sc_law_names.nd rfl (gV rfl) (e_sl (b:=true) (dv 3) (do_some (e_mul e_int (dv 7))) do_none))
  (dss_cons (ds_for c8 rfl (di_range1 rfl B.range (da_cons e_int da_nil)) (dg_name (i:=8) sc_law_names.nd rfl (a7 rfl)) (dss_cons (ds_set (i:=9) sc_law_names.nd rfl (a7 rfl) (e_ix (dv 2) (e_mod (e_add (k:=false) (dv 4) (dv 8)) e_int)))
  (dss_one (ds_expr (e_append (dv 3) (da_cons (e_ix (e_lst (b:=false) (da_cons (e_add (k:=false) (dv 9) (e_rep e_str (e_add (k:=false) e_int (e_mod (dv 8) e_int)))) (da_cons (e_add (k:=false) (e_add (k:=false) (e_sl (b:=false) (dv 5) do_none (do_some (dv 6))) (dv 9)) (e_sl (b:=false) (dv 5) (do_some (dv 6)) (do_some (e_mod (dv 4) e_int)))) da_nil))) (dv 7)) da_nil))))))
  (dss_one (ds_ret (e_comp (N':=["k", "spare", "deck"]) (oc:=none) (b:=false) [0] [] rfl sc_law_names.nd (fun _ _ _=>turn_one _ _ _ _ _ _ _ _ _) (.own (.cap (i:=3) rfl (by decide +kernel) (.cap (i:=0) rfl (by decide +kernel) .nil))) (free_of rfl) (di_range1 rfl B.range (da_cons (dv 1) da_nil)) (cg_name (i:=0)) (fun _ _ _ _ _=>pg_name (i:=0) (nd_ ["k", "spare", "deck"]) rfl (a7 rfl) (.inr rfl)) (fun _ _ _ _ _=>dts_nil) bo_emit (fun _ _ _ _ _ _=>pb_emit rfl (by exact PD.o (e_popAt (dv 1) (da_cons (e_callD d_law_draw hr rfl (da_cons (dv 2) (da_cons (e_len rfl B.len (da_cons (dv 1) da_nil)) da_nil))) da_nil)))))))))))))))),?_⟩
 ·rintro ds S Q ⟨a,many,n,rfl,_⟩;rfl
 ·rintro ds S Q ⟨a,many,n,rfl,dk,hn,hm,q⟩;refine⟨z9999 (by show 12<=9999;decide),fun p1 hp1=>?_⟩
  have h1a:=dk.ne hp1;refine⟨a,26,n,rfl,dk.eq (supd_ne (bW h1a)),by omega,by decide,by decide,fun b' S1 b0 b1 off1 dk1=>?_⟩
  obtain⟨b,rfl⟩:∃ b:Nat,b'=b:=⟨b'.toNat,by omega⟩
  refine⟨trivial,⟨by decide,by decide⟩,?_⟩
  refine draw_sgD dk1 (by rw[rngD_len];show n + 1 + 6<=_;omega) (by rw[rngD_len];show 6<=8;decide) fun bs S2 hbl off2 dk2=>?_
  rw[rngD_len] at hbl dk2;have hb6:bs.length=6:=hbl;refine⟨bs.map sg,rfl,by rw[sg_sum,hb6,ag];show 6 + _ * 0<=_;omega,?_⟩
  rw[join_sg];generalize hbase:(⟨bs.toArray⟩:Str)=base;have hbl6:base.length=6:=by rw[<- hbase];show bs.toArray.size=6;rw[ak];exact hb6
  refine⟨z9999 (by decide),_,letter_at (by omega:b < 26),z9999 (by show base.length + 1<=9999;omega),?_⟩
  generalize hnear:base++(⟨#[97 + b]⟩:Str)=near;have hn7:near.length=7:=by
   rw[<- hnear];show(base.cps++#[97 + b]).size=7;rw[fE];show base.length + 1=7;omega
  refine⟨a,7,n + 1 + 6,rfl,dk2,by omega,by decide,by decide,fun pl' S3 p0 p1' off3 dk3=>⟨by show(0:Int) < 2;decide,?_⟩⟩
  obtain⟨pl,hpl⟩:∃ pl:Nat,pl' + (b:Int) % 2=pl:=⟨(pl' + (b:Int) % 2).toNat,by omega⟩
  refine⟨a,2,n + 1 + 6 + 1,rfl,dk3,by omega,by decide,by decide,fun al S4 l0 l1 off4 dk4=>?_⟩
  have hSp:S4 p1=some (.lst (wordsD.map D.str)):=(off4 p1 h1a).trans ((off3 p1 h1a).trans ((off2 p1 h1a).trans ((off1 p1 h1a).trans supd_same)));refine⟨.inl ⟨by decide,by decide⟩,_,rfl,_,hSp,fun p2 hp2=>?_⟩
  have h2a:=dk4.ne hp2;obtain⟨ws,mk,hcut,hnd,hlen,hmk⟩:∃ (ws:List Str) (mk:Nat->Str),cutD (wordsD.map D.str) (some (12 * al)) none=ws.map D.str/\(ws++(aD 12).map mk).Nodup/\(∀ x∈ws++(aD 12).map mk,1<=x.length/\x.length<=8)/\∀ k:Nat,atI [D.str ((⟨#[97 + (b + k) % 26]⟩:Str)++repS (aJ "q") (1 + (k:Int) % 7)),D.str (cutS near none (some (pl' + (b:Int) % 2))++(⟨#[97 + (b + k) % 26]⟩:Str)++cutS near (some (pl' + (b:Int) % 2)) (some ((b:Int) % 8)))] al=some (.str (mk k)):=by
   have h:al=0\/al=1:=by omega
   rw[hpl];rcases h with rfl | rfl
   ·exact⟨wordsD,made0 b,rfl,(ok0 b (by omega)).1,(ok0 b (by omega)).2,fun k=>rfl⟩
   ·refine⟨[],made1 (cutS near none (some (pl:Int))) (cutS near (some (pl:Int)) (some ((b:Int) % 8))) b,rfl,nd1 _ _ _,fun x hx=>?_,fun k=>rfl⟩;obtain⟨k,_,rfl⟩:=br.mp hx
    have:=cut_two hn7 pl (some ((b:Int) % 8))
    have e:∀ u v:Str,(made1 u v b k).length=u.length + 1 + v.length:=fun u v=>by
     show(u.cps++#[97 + (b + k) % 26]++v.cps).size=_;rw[fE,fE];rfl
    rw[e];omega
  rw[hcut];refine⟨⟨by decide,by decide⟩,for_ind (fun i Γ S'=>(∃ x8 x9:Option D,Γ=[some (.ref a),some (.int many),some (.str lettersZ),some (.ref p2),some (.int (b:Nat)),some (.str near),some (.int (pl' + (b:Int) % 2)),some (.int al),x8,x9])/\S' p2=some (.lst ((ws++(aD i).map mk).map D.str))/\∀ c,c≠p2->S' c=S4 c) ⟨⟨none,none,rfl⟩,by rw[supd_same];simp,fun c hc=>supd_ne hc⟩ ?_ ?_⟩
  ·rintro i x Γ S' N hx ⟨⟨x8,x9,rfl⟩,hf,hoff⟩ hN;obtain⟨hi,rfl⟩:=rng_at hx;have hi12:i < 12:=hi;have hlt:atI lettersZ.cps.toList (((b:Int) + (i:Int)) % 26)=some (97 + (b + i) % 26):=by
    have e:((b:Int) + (i:Int)) % 26=(((b + i) % 26:Nat):Int):=by omega
    rw[e];exact letter_at (by omega)
   have n7:near.length<=1000000:=by omega
   have c7:∀ u v:Option Int,(cutS near u v).length<=7:=fun u v=>cutS_le near u v hn7;have r8:(repS (aJ "q") (1 + (i:Int) % 7)).length<=7:=by rw[repS_len rfl (by omega)];omega
   refine⟨trivial,by show(0:Int) < 26;decide,z9999 (by decide),_,hlt,⟨_,hf⟩,?_⟩
   refine⟨by show(0:Int) < 7;decide,rfl,by omega,by omega,z9999 (by show 1 + (repS (aJ "q") (1 + (i:Int) % 7)).length<=9999;omega),?_⟩
   refine⟨_,rfl,n7,z9999 (by show(cutS near none (some (pl' + (b:Int) % 2))).length + 1<=9999;have:=c7 none (some (pl' + (b:Int) % 2));omega),_,rfl,by show(0:Int) < 8;decide,_,rfl,n7,?_,z9999 (by show 2<=9999;decide),_,_,rfl,hmk i,_,hf,?_,hN _ _ ⟨⟨_,_,rfl⟩,?_,fun c hc=>(supd_ne hc).trans (hoff c hc)⟩⟩
   ·refine z9999 ?_;have h1:=c7 none (some (pl' + (b:Int) % 2));have h2:=c7 (some (pl' + (b:Int) % 2)) (some ((b:Int) % 8));show((cutS near none (some (pl' + (b:Int) % 2))).cps++#[97 + (b + i) % 26]).size + (cutS near (some (pl' + (b:Int) % 2)) (some ((b:Int) % 8))).length<=9999;rw[fE];show(cutS near none (some (pl' + (b:Int) % 2))).length + 1 + _<=9999;omega
   ·rw[ag,az,ag,cJ,bn]
    have:ws.length<=12:=by
     have:=congrArg fj hcut
     rw[ag] at this;rw[<- this];unfold cutD;rw[aP,bo];show _<=12
     have:(wordsD.map D.str).length=12:=rfl
     omega
    omega
   ·rw[supd_same,gq];simp
  ·rintro Γ S' ⟨⟨x8,x9,rfl⟩,hf,hoff⟩;rw[rngD_len] at hf;have dk5:DkD S' a (n + 9):=(dk4.eq (hoff a (bW h2a))).mono (by omega)
   have hw12:ws.length<=12:=by
    have:=congrArg fj hcut
    rw[ag] at this;rw[<- this];unfold cutD;rw[aP,bo]
    have:(wordsD.map D.str).length=12:=rfl
    omega
   refine⟨trivial,⟨by omega,by omega⟩,?_⟩
   rw[bF];refine pop_nD (m:=many) (bW h2a) dk5 (by omega) hf (by rw[ag,az,ag,cJ];show many<=_ + 12;omega) (by rw[ag,az,ag,cJ];show _ + 12<=999;omega) fun vs us S9 pm hvl hl9 dk9 off9=>?_
   obtain⟨as,bs',rfl,rfl,pn⟩:=perm_back (f:=D.str) dStr' (fun _=>rfl) pm;rw[ag] at hvl;refine rt_drop (S':=fun c=>if c=a then S9 c else S c) (fun c o e=>?_) (q as _ (fB.mp (pn.nodup_iff.mpr hnd)).1 hvl (fun x hx=>hlen x (pn.mem_iff.mp (da _ hx))) (fun c hc=>if_neg hc) (dk9.eq (if_pos rfl)))
   by_cases hc:c=a
   ·rw[if_pos hc] at e;exact e
   ·rw[if_neg hc] at e;have n1:c≠p1:=by rintro rfl;rw[hp1] at e;cases e
    have e4:S4 c=some o:=(off4 c hc).trans ((off3 c hc).trans ((off2 c hc).trans ((off1 c hc).trans ((supd_ne n1).trans e))));have n2:c≠p2:=by rintro rfl;rw[hp2] at e4;cases e4
    exact(off9 c n2 hc).trans ((hoff c n2).trans e4)
end
abbrev s_law_sets:Stmt:=top 13
theorem sc_law_sets:FnScope ["deck", "most", "wide", "names", "kind", "core", "parts", "found", "k", "own"] ["deck", "most", "wide"] (defScope s_law_sets):=fsc
section
variable {P:aB} {w:aN} {K:av} {mg:Str->Option ad} {base:aS} {pt cc:Addr}
theorem ok_law_sets (T:Tx K mg "_law_sets" s_law_sets) (B:Bs mg) (d_law_draw:Df P w K mg base 2 "_law_draw" ["deck", "most"] (spU K spd_draw)) (d_law_names:Df P w K mg base 2 "_law_names" ["deck", "many"] (spU K spd_names)):Df P w K mg base 3 "_law_sets" ["deck", "most", "wide"] (spU K spd_sets):=by
 refine e_def T sc_law_sets (fun F=>F.binds fun _ _ _ _ _ _=>us3 fun _ _ _=>rfl) ?_ fun f cdv A outer s H E hr=>⟨_,(dss_cons (ds_set (i:=3) sc_law_sets.nd rfl (a7 rfl) (e_callD d_law_names hr rfl (da_cons (dv 0) (da_cons (e_add (k:=false) e_int (e_callD d_law_draw hr rfl (da_cons (dv 0) (da_cons (dv 2) da_nil)))) da_nil))))
  (dss_cons (ds_set (i:=4) sc_law_sets.nd rfl (gV rfl) (e_callD d_law_draw hr rfl (da_cons (dv 0) (da_cons e_int da_nil))))
  (dss_cons (ds_setC (i:=5) rfl (a7 rfl) (N':=["name", "deck"]) (oc:=none) (b:=false) [0] [] rfl sc_law_sets.nd (fun _ _ _=>turn_one _ _ _ _ _ _ _ _ _) (.own (.cap (i:=0) rfl (by decide +kernel) .nil)) (free_of rfl) (di_sq (dv 3)) (cg_name (i:=0)) (fun _ _ _ _ _=>pg_name (i:=0) (nd_ ["name", "deck"]) rfl (a7 rfl) (.inr rfl)) (fun _ _ _ _ _=>dts_one (by exact(dt_eq hr (e_callD d_law_draw hr rfl (da_cons (dv 1) (da_cons e_int da_nil))) e_int))) bo_emit (fun _ _ _ _ _ _=>pb_emit rfl (by exact PD.o (dv 0))))
  (dss_cons (ds_set (i:=6) sc_law_sets.nd rfl (gV rfl) (e_add (k:=false) e_int (e_callD d_law_draw hr rfl (da_cons (dv 0) (da_cons e_int da_nil)))))
  (dss_cons (ds_set (i:=7) sc_law_sets.nd rfl (a7 rfl) (e_lst (b:=true) da_nil))
  (dss_cons (ds_for c8 rfl (di_range1 rfl B.range (da_cons (e_ix (e_lst (b:=false) (da_cons (e_callD d_law_draw hr rfl (da_cons (dv 0) (da_cons (e_add (k:=false) (dv 1) e_int) da_nil))) (da_cons (dv 1) da_nil))) (e_int1 rfl B.int (da_cons (e_eq hr (e_callD d_law_draw hr rfl (da_cons (dv 0) (da_cons e_int da_nil))) e_int) da_nil))) da_nil)) (dg_name (i:=8) sc_law_sets.nd rfl (gV rfl)) (dss_cons (ds_setC (i:=9) rfl (a7 rfl) (N':=["name", "deck", "kind"]) (oc:=none) (b:=false) [0] [] rfl sc_law_sets.nd (fun _ _ _=>turn_one _ _ _ _ _ _ _ _ _) (.own (.cap (i:=0) rfl (by decide +kernel) (.cap (i:=4) rfl (by decide +kernel) .nil))) (free_of rfl) (di_sq (dv 3)) (cg_name (i:=0)) (fun _ _ _ _ _=>pg_name (i:=0) (nd_ ["name", "deck", "kind"]) rfl (a7 rfl) (.inr rfl)) (fun _ _ _ _ _=>dts_one (by exact(dt_eq hr (e_callD d_law_draw hr rfl (da_cons (dv 1) (da_cons (e_ix (e_lst (b:=false) (da_cons e_int (da_cons e_int (da_cons e_int (da_cons e_int (da_cons e_int da_nil)))))) (dv 2)) da_nil))) e_int))) bo_emit (fun _ _ _ _ _ _=>pb_emit rfl (by exact PD.o (dv 0))))
  (dss_cut (ds_if (dt_eq hr (dv 4) e_int) (dss_one (ds_set (i:=9) sc_law_sets.nd rfl (a7 rfl) (e_add (k:=false) (e_add (k:=false) (dv 5) (e_sl (b:=false) (dv 9) do_none (do_some e_int))) (e_comp (N':=["at", "name", "parts", "k"]) (oc:=none) (b:=false) [0,1] [] rfl sc_law_sets.nd (fun _ _ _=>turn_one _ _ _ _ _ _ _ _ _) (.own (.own (.cap (i:=6) rfl (by decide +kernel) (.cap (i:=8) rfl (by decide +kernel) .nil)))) (free_of rfl) (di_enL rfl B.enumerate (da_cons (dv 3) da_nil)) (cg_pair (i:=0) (j:=1)) (fun _ _ _ _ _=>pg_tup rfl (pgs_cons (pg_name (i:=0) (nd_ ["at", "name", "parts", "k"]) rfl (a7 rfl) (.inr rfl)) (pgs_cons (pg_name (i:=1) (nd_ ["at", "name", "parts", "k"]) rfl (a7 rfl) (.inr rfl)) pgs_nil))) (fun _ _ _ _ _=>dts_one (by exact(dt_eq hr (e_mod (dv 0) (dv 2)) (e_mod (dv 3) (dv 2))))) bo_emit (fun _ _ _ _ _ _=>pb_emit rfl (by exact PD.o (dv 1))))))) dss_nil)
  (dss_cut (ds_if (dt_eq hr (dv 4) e_int) (dss_one (ds_set (i:=9) sc_law_sets.nd rfl (a7 rfl) (e_lst (b:=false) (da_cons (e_ix (dv 3) (e_callD d_law_draw hr rfl (da_cons (dv 0) (da_cons (e_len rfl B.len (da_cons (dv 3) da_nil)) da_nil)))) (da_cons (e_ix (dv 3) (e_callD d_law_draw hr rfl (da_cons (dv 0) (da_cons (e_len rfl B.len (da_cons (dv 3) da_nil)) da_nil)))) da_nil))))) dss_nil)
  (dss_cut (ds_if (dt_eq hr (dv 4) e_int) (dss_one (ds_set (i:=9) sc_law_sets.nd rfl (a7 rfl) (e_sl (b:=false) (dv 3) do_none (do_some (e_callD d_law_draw hr rfl (da_cons (dv 0) (da_cons (e_add (k:=false) (e_len rfl B.len (da_cons (dv 3) da_nil)) e_int) da_nil))))))) dss_nil)
  (dss_one (ds_expr (e_append (dv 7) (da_cons (e_tuple rfl B.tuple (da_cons (e_sorted (b:=false) hr rfl B.sorted (da_cons (e_sl (b:=false) (e_sortedSetS (b:=false) hr rfl B.sorted rfl B.set (dv 9)) do_none (do_some e_int)) da_nil)) da_nil)) da_nil)))))))))
  (dss_one (ds_ret (e_tuple rfl B.tuple (da_cons (e_sortedSet (b:=false) hr rfl B.sorted rfl B.set (dv 7)) da_nil)))))))))),?_⟩
 ·rintro ds S Q ⟨a,most,wide,n,rfl,_⟩;rfl
 ·rintro ds S Q ⟨a,most,wide,n,rfl,dk,hn,hm,hw1,hw2,q⟩;refine⟨a,wide,n,rfl,dk,by omega,by omega,by omega,fun r S1 r0 r1 off1 dk1=>?_⟩
  obtain⟨w,rfl⟩:∃ w:Nat,r=w:=⟨r.toNat,by omega⟩
  refine⟨a,1 + w,n + 1,by rw[gx];rfl,dk1,by omega,by omega,fun ws S2 nd wl wlen off2 dk2=>?_⟩
  refine⟨a,5,n + 1 + 9 + (1 + w),rfl,dk2,by omega,by decide,by decide,fun kind S3 k0 k1 off3 dk3=>?_⟩
  refine⟨ws.map D.str,rfl,draw_sub dk3 (by omega) (by omega) (fun x S k dk hk Q q=>⟨a,3,k,rfl,dk,hk,by decide,by decide,fun r S' _ _ off dk'=>⟨rfl,_,rfl,q _ S' off dk'⟩⟩) fun core S4 hcs off4 dk4=>?_⟩
  refine⟨a,5,n + 1 + 9 + (1 + w) + 1 + ws.length,rfl,dk4,by omega,by decide,by decide,fun pt S5 p0 p1 off5 dk5=>?_⟩
  refine⟨z9999 (by show 0<=9999;decide),fun fp hfp=>?_⟩
  have hfa:=dk5.ne hfp;have hfpS:S fp=none:=(off1 fp hfa).symm.trans ((off2 fp hfa).symm.trans ((off3 fp hfa).symm.trans ((off4 fp hfa).symm.trans ((off5 fp hfa).symm.trans hfp))));refine⟨a,(most:Int) + 1,n + 1 + 9 + (1 + w) + 1 + ws.length + 1,rfl,dk5.eq (supd_ne (bW hfa)),by omega,by omega,by omega,fun r6 S6 r60 r61 off6 dk6=>?_⟩
  refine⟨z9999 (by show 2<=9999;decide),a,3,n + 1 + 9 + (1 + w) + 1 + ws.length + 2,rfl,dk6,by omega,by decide,by decide,fun r7 S7 r70 r71 off7 dk7=>⟨rfl,?_⟩⟩
  obtain⟨cnt,hv,cm⟩:∃ cnt:Nat,atI [D.int r6,.int (most:Nat)] (if (if false=true then !decide (D.int r7=D.int 0) else decide (D.int r7=D.int 0))=true then 1 else 0)=some (.int (cnt:Nat))/\cnt<=most:=by
   obtain⟨c6,rfl⟩:∃ c:Nat,r6=c:=⟨r6.toNat,by omega⟩
   have gen:∀ b:Bool,∃ cnt:Nat,atI [D.int (c6:Nat),.int (most:Nat)] (if b=true then 1 else 0)=some (.int (cnt:Nat))/\cnt<=most:=fun b=>by
    cases b with
    | true=>exact⟨most,rfl,aj _⟩
    | false=>exact⟨c6,rfl,by omega⟩
   exact gen _
  refine⟨_,_,rfl,hv,⟨by omega,by omega⟩,?_⟩
  rw[bF];have hf7:S7 fp=some (.lst []):=(off7 fp hfa).trans ((off6 fp hfa).trans supd_same);have hoff:∀ b,b≠a->b≠fp->S7 b=S b:=fun b h1 h2=>((((((off7 b h1).trans (off6 b h1)).trans (supd_ne h2)).trans (off5 b h1)).trans (off4 b h1)).trans (off3 b h1)).trans ((off2 b h1).trans (off1 b h1));have wne:1<=ws.length:=by omega
  have w12:ws.length<=12:=by omega
  generalize hN0:n + 1 + 9 + (1 + w) + 1 + ws.length + 3=N0 at *
  refine for_ind (fun i Γ S'=>∃ (x8 x9:Option D) (fs:List (List Str)),Γ=[some (.ref a),some (.int (most:Nat)),some (.int (wide:Nat)),some (.lst (ws.map D.str)),some (.int kind),some (.lst (core.map D.str)),some (.int (2 + pt)),some (.ref fp),x8,x9]/\S' fp=some (.lst (fs.map tupS))/\fs.length=i/\(∀ t∈fs,Srt t/\t.length<=6/\∀ x∈t,x∈ws)/\(∀ b,b≠a->b≠fp->S' b=S b)/\DkD S' a (N0 + 20 * i)) ⟨none,none,[],rfl,hf7,rfl,(fun _ h=>by cases h),hoff,dk7.mono (by omega)⟩ ?_ ?_
  ·rintro i x Γ S' N hx ⟨x8,x9,fs,rfl,hf,hfl,hts,hob,dk⟩ hN;obtain⟨hi,rfl⟩:=rng_at hx;have hi14:i < cnt:=hi;obtain⟨v,hpv,v1,v2⟩:=pickI (P:=fun v=>1<=v/\v<=9) (l:=[2,4,9,9,9]) (i:=kind) k0 (by simpa using k1) (by decide)
   refine⟨trivial,ws.map D.str,rfl,draw_sub dk (by omega) (by omega) (fun x S k dk hk Q q=>⟨z9999 (by show 5<=9999;decide),_,_,rfl,hpv,a,v,k,rfl,dk,hk,by omega,by omega,fun r S' _ _ off dk'=>⟨rfl,_,rfl,q _ S' off dk'⟩⟩) fun own S8 hos off8 dk8=>?_⟩
   have hf8:S8 fp=some (.lst (fs.map tupS)):=(off8 fp hfa).trans hf;have ho8:∀ b,b≠a->b≠fp->S8 b=S b:=fun b h1 h2=>(off8 b h1).trans (hob b h1 h2);refine⟨fun Γ S'=>∃ own:List Str,Γ=[some (.ref a),some (.int (most:Nat)),some (.int (wide:Nat)),some (.lst (ws.map D.str)),some (.int kind),some (.lst (core.map D.str)),some (.int (2 + pt)),some (.ref fp),some (.int (i:Nat)),some (.lst (own.map D.str))]/\(∀ x∈own,x∈ws)/\own.length<=40/\S' fp=some (.lst (fs.map tupS))/\(∀ b,b≠a->b≠fp->S' b=S b)/\DkD S' a (N0 + 20 * i + ws.length),?_,?_⟩
   ·refine⟨rfl,_,rfl,ite2 (fun c=>?_) fun c=>⟨own,rfl,fun x hx=>hos.subset hx,by have:=hos.length_le;omega,hf8,ho8,dk8⟩⟩
    obtain⟨cs,ec,hcsub,hclen⟩:∃ cs:List Str,cutD (own.map D.str) none (some 1)=cs.map D.str/\(∀ x∈cs,x∈own)/\cs.length<=own.length:=⟨_,cutD_map _ _ _ _,fun x hx=>dP (de hx),by rw[aP,bo];omega⟩
    have ol:=hos.length_le;have cl:=hcs.length_le;refine⟨1,rfl,_,rfl,?_⟩;rw[ec];refine⟨_,_,rfl,rfl,z9999 (by rw[ag,ag];omega),?_⟩
    refine loop_ind (fun j acc S'=>S'=S8/\∃ os:List Str,acc=os.map D.str/\os.length<=j/\∀ x∈os,x∈ws) ⟨rfl,[],rfl,aj _,fun _ h=>by cases h⟩ ?_ ?_
    ·rintro j y acc S' N2 hy ⟨rfl,os,rfl,osl,osm⟩ hN2;obtain⟨z,hz,rfl⟩:=pairs_get _ _ _ _ hy;rw[a6,bK] at hz;obtain⟨x,hx,rfl⟩:=hz;have hj:=(aH.mp hx).1;refine⟨trivial,rfl,rfl,by show(0:Int) < 2 + pt;omega,by show(0:Int) < 2 + pt;omega,rfl,_,rfl,ite2 (fun c=>⟨z9999 (by rw[ag];omega),hN2 _ _ ⟨rfl,os++[x],by rw[a9];rfl,by rw[az];show os.length + 1<=_;omega,fun y hy=>?_⟩⟩) fun c=>hN2 _ _ ⟨rfl,os,rfl,by omega,osm⟩⟩
     rcases bB.mp hy with h | h
     ·exact osm y h
     ·rw[aG.mp h];exact bL hx
    ·rintro acc S' ⟨rfl,os,rfl,osl,osm⟩;rw[pairs_len,ag] at osl;refine⟨trivial,_,_,rfl,rfl,z9999 (by rw[az,ag,ag,ag];omega),core++cs++os,by rw[a9,a9];rfl,fun y hy=>?_,by rw[az,az];omega,hf8,ho8,dk8⟩
     rcases bB.mp hy with h | h
     ·rcases bB.mp h with h | h
      ·exact hcs.subset h
      ·exact hos.subset (hcsub y h)
     ·exact osm y h
   rintro Γ S9 ⟨own,rfl,how,hol,hf9,ho9,dk9⟩;refine⟨fun Γ S'=>∃ own:List Str,Γ=[some (.ref a),some (.int (most:Nat)),some (.int (wide:Nat)),some (.lst (ws.map D.str)),some (.int kind),some (.lst (core.map D.str)),some (.int (2 + pt)),some (.ref fp),some (.int (i:Nat)),some (.lst (own.map D.str))]/\(∀ x∈own,x∈ws)/\own.length<=40/\S' fp=some (.lst (fs.map tupS))/\(∀ b,b≠a->b≠fp->S' b=S b)/\DkD S' a (N0 + 20 * i + ws.length + 2),?_,?_⟩
   ·refine⟨rfl,_,rfl,ite2 (fun c=>?_) fun c=>⟨own,rfl,how,hol,hf9,ho9,dk9.mono (by omega)⟩⟩
    have pick:∀ r:Int,0<=r->r < ((ws.map D.str).length:Nat)->∃ x∈ws,atI (ws.map D.str) r=some (D.str x):=fun r r0 r1=>by
     obtain⟨j,rfl⟩:∃ j:Nat,r=j:=⟨r.toNat,by omega⟩
     rw[ag] at r1;have hj:j < ws.length:=by omega
     exact⟨ws[j],cf hj,atI_nat (j:=j) (by rw[a6,ai hj];rfl)⟩
    refine⟨_,rfl,a,((ws.map D.str).length:Nat),N0 + 20 * i + ws.length,rfl,dk9,by omega,by rw[ag];omega,by rw[ag];omega,fun r S10 r0 r1 off10 dk10=>?_⟩
    obtain⟨x1,hx1,e1⟩:=pick r r0 r1;refine⟨_,_,rfl,e1,_,rfl,a,((ws.map D.str).length:Nat),N0 + 20 * i + ws.length + 1,rfl,dk10,by omega,by rw[ag];omega,by rw[ag];omega,fun r S11 r0 r1 off11 dk11=>?_⟩
    obtain⟨x2,hx2,e2⟩:=pick r r0 r1;refine⟨_,_,rfl,e2,z9999 (by show 2<=9999;decide),[x1,x2],rfl,fun y hy=>?_,by show 2<=40;decide,(off11 fp hfa).trans ((off10 fp hfa).trans hf9),fun b h1 h2=>(off11 b h1).trans ((off10 b h1).trans (ho9 b h1 h2)),dk11⟩
    rcases ax.mp hy with rfl | hy
    ·exact hx1
    ·rw[aG.mp hy];exact hx2
   clear own how hol hf9 ho9 dk9 S9;rintro Γ S9 ⟨own,rfl,how,hol,hf9,ho9,dk9⟩;refine⟨fun Γ S'=>∃ own:List Str,Γ=[some (.ref a),some (.int (most:Nat)),some (.int (wide:Nat)),some (.lst (ws.map D.str)),some (.int kind),some (.lst (core.map D.str)),some (.int (2 + pt)),some (.ref fp),some (.int (i:Nat)),some (.lst (own.map D.str))]/\(∀ x∈own,x∈ws)/\own.length<=40/\S' fp=some (.lst (fs.map tupS))/\(∀ b,b≠a->b≠fp->S' b=S b)/\DkD S' a (N0 + 20 * i + ws.length + 3),?_,?_⟩
   ·refine⟨rfl,_,rfl,ite2 (fun c=>?_) fun c=>⟨own,rfl,how,hol,hf9,ho9,dk9.mono (by omega)⟩⟩
    refine⟨_,rfl,a,((ws.map D.str).length:Nat) + 1,N0 + 20 * i + ws.length + 2,rfl,dk9,by omega,by omega,by rw[ag];omega,fun r S10 r0 r1 off10 dk10=>?_⟩
    obtain⟨cs,ec,hcsub,hclen⟩:∃ cs:List Str,cutD (ws.map D.str) none (some r)=cs.map D.str/\(∀ x∈cs,x∈ws)/\cs.length<=ws.length:=⟨_,cutD_map _ _ _ _,fun x hx=>dP (de hx),by rw[aP,bo];omega⟩
    refine⟨r,rfl,_,rfl,?_⟩;rw[ec];exact⟨cs,rfl,hcsub,by omega,(off10 fp hfa).trans hf9,fun b h1 h2=>(off10 b h1).trans (ho9 b h1 h2),dk10⟩
   clear own how hol hf9 ho9 dk9 S9;rintro Γ S9 ⟨own,rfl,how,hol,hf9,ho9,dk9⟩;refine⟨⟨_,hf9⟩,own,rfl,by omega,fun out ond omem=>?_,fun out ond omem opw=>?_⟩
   ·have:=ond.length_le_of_subset fun t ht=>(omem t).mp ht
    omega
   obtain⟨cs,ec,hcsub,hclen,hcnd⟩:∃ cs:List Str,cutD (out.map D.str) none (some 6)=cs.map D.str/\(∀ x∈cs,x∈out)/\cs.length<=6/\cs.Nodup:=by
    refine⟨_,cutD_map _ _ _ _,fun x hx=>dP (de hx),?_,ond.sublist ((fx _ _).trans (js _ _))⟩
    have:HT.sIx out.length out.length (some ((6:Nat):Int))=min 6 out.length:=HT.sIx_nat _ _ 6
    rw[aP];show min (HT.sIx out.length out.length (some ((6:Nat):Int)) - _) _<=6;omega
   refine⟨6,rfl,_,rfl,?_⟩;rw[ec];refine .inl ⟨cs,rfl,by omega,_,rfl,_,hf9,z9999 (by rw[ag];omega),hN _ _ ⟨_,_,fs++[srS cs],rfl,by rw[supd_same,a9];rfl,by rw[az,hfl];rfl,fun t ht=>?_,fun b h1 h2=>(supd_ne h2).trans (ho9 b h1 h2),(dk9.eq (supd_ne (bW hfa))).mono (by omega)⟩⟩
   rcases bB.mp ht with h | h
   ·exact hts t h
   ·rw[aG.mp h];exact⟨srS_srt hcnd,by rw[(srS_perm _).length_eq];exact hclen,fun x hx=>how x ((omem x).mp (hcsub x (mem_srS.mp hx)))⟩
  ·rintro Γ S' ⟨x8,x9,fs,rfl,hf,hfl,hts,hob,dk⟩;rw[rngD_len] at hfl dk;refine⟨trivial,fs,hf,by omega,fun out ond omem opw=>⟨_,rfl,?_⟩⟩
   have ol:=ond.length_le_of_subset fun t ht=>(omem t).mp ht;have osi:∀ t∈out,Srt t/\t.length<=6/\∀ x∈t,x∈ws:=fun t ht=>hts t ((omem t).mp ht);have onm:∀ x∈L2.nms out,x∈ws:=fun x hx=>by
    obtain⟨t,ht,hxt⟩:=mem_nms.mp hx;exact(osi t ht).2.2 x hxt
   refine rt_drop (S':=fun c=>if c=a then S' c else S c) (fun c o e=>?_) (q out _ { srt:=opw,each:=fun t ht=>⟨(osi t ht).1,(osi t ht).2.1⟩,len:=by omega,nms:=bN ((nms_srt _).nodup.length_le_of_subset onm) (by omega),ne:=fun x hx=>lt_empty (wlen x (onm x hx)).1 } (fun c hc=>if_neg hc) ((dk.eq (if_pos rfl)).mono (by omega)))
   by_cases z:c=a
   ·rw[if_pos z] at e;exact e
   ·rw[if_neg z] at e;have zf:c≠fp:=by rintro rfl;rw[hfpS] at e;cases e
    rw[hob c z zf];exact e
end
end Toy
set_option maxHeartbeats 4000000
namespace L2
open PySem
theorem cut_from (xs:List D) (i:Nat):cutD xs (some ((i:Int) + 1)) none=xs.drop (i + 1):=by
 rcases bP i xs.length with h | h
 ·have e:cutD xs (some ((i:Int) + 1)) none=cutD (xs.map id) (some (((i + 1:Nat):Int))) none:=by rw[List.map_id];rfl
  rw[e,cutD_map,HT.sIx_none,HT.sIx_nat,iH (by lia),bJ (by rw[bo];exact aj _),List.map_id]
 ·have e:cutD xs (some ((i:Int) + 1)) none=cutD (xs.map id) (some (((i + 1:Nat):Int))) none:=by rw[List.map_id];rfl
  rw[e,cutD_map,HT.sIx_none,HT.sIx_nat,d7 (by lia),d7 (by lia),List.take_nil]
  rfl
end L2
namespace Toy
open PySem L2
def cn_of (n:Nat):SpD:=fun ds S Q=>∃ (xs:List D) (m:Nat),ds=[.tup xs,.int m]/\m < n/\xs.length<=20/\Q (.lst ((ch xs m).map D.tup)) S
end Toy
namespace L2
open PySem
open Toy (ch ch_cons ch_zero ch_mem mem_ch meG)
theorem ch_lex {α:Type} [DecidableEq α] {lt:α->α->Bool} (irr:∀ a,lt a a=false):∀ {N:List α} (k:Nat),N.Pairwise (fun a b=>lt a b=true)->(ch N k).Pairwise fun a b=>lexG lt a b=true
 | N,0,_=>by rw[ch_zero];exact cL _ _
 | [],k + 1,_=>gY
 | a::N,k + 1,hN=>by
  have hN':=bA.mp hN;rw[ch_cons];refine fK.mpr ⟨?_,ch_lex irr (k + 1) hN'.2,?_⟩
  ·rw[bO];refine(ch_lex irr k hN'.2).imp fun {x y} h=>?_;show(if a=a then lexG lt x y else lt a a)=true
   rw[if_pos rfl];exact h
  ·intro x hx y hy;obtain⟨r,hr,rfl⟩:=br.mp hx;obtain⟨h1,h2⟩:=ch_mem hy;cases y with
   | nil=>simp at h1
   | cons b y =>
    have hb:b∈N:=h2.subset ar;have hab:=hN'.1 b hb;show(if a=b then lexG lt r y else lt a b)=true
    rw[if_neg (by rintro rfl;rw[irr] at hab;cases hab)]
    exact hab
end L2
namespace Toy
open PySem L2
end Toy
set_option maxHeartbeats 1000000
namespace Toy
open PySem L2
abbrev s_choices_of:Stmt:=top 2
theorem sc_choices_of:FnScope ["things", "many", "found", "at", "one"] ["things", "many"] (defScope s_choices_of):=fsc
def sp_choices_of:SpD:=cn_of 8
section
variable {P:aB} {w:aN} {K:av} {mg:Str->Option ad} {base:aS} {pt cc:Addr}
theorem ch_step {k n:Nat} (T:Tx K mg "choices_of" s_choices_of) (B:Bs mg) (d_choices_of:Df P w K mg base k "choices_of" ["things", "many"] (spU K (cn_of n))):Df P w K mg base (k + 1) "choices_of" ["things", "many"] (spU K (cn_of (n + 1))):=by
 refine e_def T sc_choices_of (fun F=>F.binds fun _ _ _ _ _ _=>us2 fun _ _=>rfl) ?_ fun f cdv A outer s H E hr=>⟨_,(dss_cons (ds_if (dt_eq hr (dv 1) e_int) (dss_one (ds_ret (e_lst (b:=false) (da_cons (e_tup da_nil) da_nil)))) dss_nil)
  (dss_cons (ds_if (dt_not (dt_ltle e_int (dv 1) (e_len rfl B.len (da_cons (dv 0) da_nil)))) (dss_one (ds_ret (e_lst (b:=false) da_nil))) dss_nil)
  (dss_cons (ds_set (i:=2) sc_choices_of.nd rfl (a7 rfl) (e_lst (b:=true) da_nil))
  (dss_cons (ds_for c8 rfl (di_enT rfl B.enumerate (da_cons (dv 0) da_nil)) (dg_tup rfl (dgs_cons (dg_name (i:=3) sc_choices_of.nd rfl (a7 rfl)) (dgs_cons (dg_name (i:=4) sc_choices_of.nd rfl (gV rfl)) dgs_nil))) (dss_one (ds_expr (e_extend (dv 2) (da_cons (e_comp (N':=["more", "one"]) (oc:=none) (b:=true) [0] [] rfl sc_choices_of.nd (fun _ _ _=>turn_one _ _ _ _ _ _ _ _ _) (.own (.cap (i:=4) rfl (by decide +kernel) .nil)) (free_of rfl) (di_sq (e_callD d_choices_of hr rfl (da_cons (e_sl (b:=false) (dv 0) (do_some (e_add (k:=false) (dv 3) e_int)) do_none) (da_cons (e_sub (dv 1) e_int) da_nil)))) (cg_name (i:=0)) (fun _ _ _ _ _=>pg_name (i:=0) (nd_ ["more", "one"]) rfl (a7 rfl) (.inr rfl)) (fun _ _ _ _ _=>dts_nil) bo_emit (fun _ _ _ _ _ _=>pb_emit rfl (by exact PD.o (e_add (k:=false) (e_tup (da_cons (dv 1) da_nil)) (dv 0))))) da_nil)))))
  (dss_one (ds_ret (dv 2))))))),?_⟩
 ·rintro ds S Q ⟨xs,m,rfl,_⟩;rfl
 ·rintro ds S Q ⟨xs,m,rfl,hm,hx,q⟩;refine⟨rfl,_,rfl,ite2 (fun c1=>?_) fun c1=>?_⟩
  ·have e:m=0:=by
    have:=of_decide_eq_true c1
    injection this with this
    omega
   subst e;rw[ch_zero] at q;exact⟨z9999 (by decide),z9999 (by show 1<=9999;decide),rt_same q⟩
  have m0:m≠0:=fun e=>c1 (decide_eq_true (by rw[e];rfl))
  refine⟨_,rfl,ite2 (fun _=>?_) fun c=>absurd (decide_eq_true (by omega)) c⟩
  refine⟨_,rfl,_,rfl,ite2 (fun c2=>?_) fun c2=>?_⟩
  ·have hb:xs.length < m:=by simp at c2;omega
   rw[ch_big xs m hb] at q;exact⟨z9999 (by decide),rt_same q⟩
  have hb:m<=xs.length:=by simp at c2;omega
  obtain⟨c,rfl⟩:∃ c,m=c + 1:=⟨m - 1,by omega⟩
  refine⟨z9999 (by decide),fun fp hfp=>?_⟩
  have hcl:∀ m,(ch xs m).length<=2 ^ 20:=fun m=>bN (ch_len xs m) (fL (by decide) hx)
  refine for_ind (fun i Γ S'=>∃ (x3 x4:Option D) (acc:List (List D)),Γ=[some (.tup xs),some (.int ((c + 1:Nat):Int)),some (.ref fp),x3,x4]/\S' fp=some (.lst (acc.map D.tup))/\acc++ch (xs.drop i) (c + 1)=ch xs (c + 1)/\∀ b o,S b=some o->S' b=some o)
   ⟨none,none,[],rfl,supd_same,rfl,fun b o e=>by rw[supd_ne (by rintro rfl;rw[hfp] at e;cases e)];exact e⟩ ?_ ?_
  ·rintro i x Γ S' N hxi ⟨x3,x4,acc,rfl,hf,hacc,hs⟩ hN;obtain⟨y,hy,rfl⟩:=pairs_get xs 0 i x hxi;have hi:i < xs.length:=by
    rcases bP i xs.length with z | z
    ·exact z
    ·rw[bE z] at hy;cases hy
   have hyi:xs[i]=y:=by rw[ai hi] at hy;exact aL hy
   have hd:=ch_drop xs i c hi;rw[hyi] at hd;have hlen:acc.length + (ch (xs.drop (i + 1)) c).length<=2 ^ 20:=by
    have h1:=congrArg fj hacc;rw[hd,az,az,ag] at h1
    have:=hcl (c + 1)
    omega
   refine⟨trivial,rfl,rfl,⟨_,hf⟩,_,rfl,xs.drop (i + 1),c,?_,by omega,by rw[bo];omega,_,rfl,loop_map (enc:=D.tup) (f:=fun more=>D.tup (y::more)) (fun more hm Q q=>?_) ?_ ?_⟩
   ·show [D.tup (cutD xs (some (0 + (i:Int) + 1)) none),D.int (((c + 1:Nat):Int) - 1)]=_;rw[gW,cut_from,show((c + 1:Nat):Int) - 1=(c:Int) by omega]
   ·have h1:=(ch_mem hm).1;exact⟨z9999 (by show 1<=9999;decide),z9999 (by show 1 + more.length<=9999;omega),q⟩
   ·rw[bn];show 0 + (ch (xs.drop (i + 1)) c).length<=_;omega
   ·intro p2 hp2;have hne:p2≠fp:=by rintro rfl;rw[hp2] at hf;cases hf
    refine⟨_,_,(supd_ne (bW hne)).trans hf,supd_same,?_,hN _ _ ⟨_,_,acc++(ch (xs.drop (i + 1)) c).map (y::·),rfl,?_,?_,fun b o e=>?_⟩⟩
    ·rw[cO,ag,ag,bn];omega
    ·rw[supd_same,a9,b5];rfl
    ·rw[dj,<- hd];exact hacc
    ·rw[supd_ne (by rintro rfl;rw[hfp] at e;cases e),supd_ne (by rintro rfl;rw[hs _ _ e] at hp2;cases hp2)]
     exact hs b o e
  ·rintro Γ S' ⟨x3,x4,acc,rfl,hf,hacc,hs⟩;rw[pairs_len,d7 (aj _),ch_nil,eN] at hacc;refine⟨trivial,rt_frz (S':=S) hf hs hfp (hacc ▸ q)⟩
theorem ch_all (T:Tx K mg "choices_of" s_choices_of) (B:Bs mg):∀ n:Nat,Df P w K mg base (1 + n) "choices_of" ["things", "many"] (spU K (cn_of n))
 | 0=>T.df (fun F=>F.binds fun _ _ _ _ _ _=>us2 fun _ _=>rfl) fun F=>F.ok sc_choices_of (fun vs H Q E ⟨_,_,_,_,_,_,⟨_,_,_,h,_⟩,_⟩=>absurd h (cP _)) fun cdv A outer s H vs Q E' hr ⟨_,_,_,_,_,_,⟨_,_,_,h,_⟩,_⟩=>absurd h (cP _)
 | n + 1=>ch_step T B (ch_all T B n)
theorem ok_choices_of (T:Tx K mg "choices_of" s_choices_of) (B:Bs mg):Df P w K mg base 9 "choices_of" ["things", "many"] (spU K sp_choices_of):=by
 exact ch_all T B 8
end
abbrev s_meets:Stmt:=top 1
theorem sc_meets:FnScope ["one", "row"] ["one", "row"] (defScope s_meets):=fsc
section
variable {P:aB} {w:aN} {K:av} {mg:Str->Option ad} {base:aS} {pt cc:Addr}
theorem ok_meets (T:Tx K mg "meets" s_meets) (B:Bs mg):Df P w K mg base 1 "meets" ["one", "row"] (spU K sp_meets):=by
 refine e_def T sc_meets (fun F=>F.binds fun _ _ _ _ _ _=>us2 fun _ _=>rfl) ?_ fun f cdv A outer s H E hr=>⟨_,(dss_one (ds_ret (e_any rfl B.any (da_cons (e_comp (N':=["name", "one"]) (oc:=none) (b:=false) [0] [] rfl sc_meets.nd (fun _ _ _=>turn_one _ _ _ _ _ _ _ _ _) (.own (.cap (i:=0) rfl (by decide +kernel) .nil)) (free_of rfl) (di_sq (dv 1)) (cg_name (i:=0)) (fun _ _ _ _ _=>pg_name (i:=0) (nd_ ["name", "one"]) rfl (a7 rfl) (.inr rfl)) (fun _ _ _ _ _=>dts_nil) bo_emit (fun _ _ _ _ _ _=>pb_emit rfl (by exact PD.o (e_in hr (dv 0) (dv 1))))) da_nil)))),?_⟩
 ·rintro ds S Q ⟨α,dα,E,one,row,d1,d2,rfl,_⟩;rfl
 ·rintro ds S Q ⟨α,dα,E,one,row,d1,d2,rfl,hE,h1,h2,hl,q⟩;have go:∀ Q':List D->Sto->Prop,Q' (row.map fun d=>D.bl (decide (d∈one))) S->loopD (gdName 0) dYes (emitD (dOp (inD false) (dVar 0) (dVar 1))) (fun _=>True) [none,some d1] (row.map E.e) [] S Q':=fun Q' q' =>
   loop_map (f:=fun d=>D.bl (decide (d∈one))) (fun d hd Q q=>in_e (neg:=false) (E:=E) (by omega) h1.sq q) (z9999 (by show 0 + row.length<=_;omega)) q'
  have e:(row.map fun d=>decide (d∈one)).any id=mts one row:=by unfold mts;rw[List.any_map];rfl
  rw[<- e] at q;rcases h2 with rfl | rfl
  ·exact⟨row.map E.e,rfl,go _ ⟨row.map fun d=>decide (d∈one),by show _=_;rw[b5];rfl,rt_same q⟩⟩
  ·exact⟨row.map E.e,rfl,go _ ⟨row.map fun d=>decide (d∈one),by show _=_;rw[b5];rfl,rt_same q⟩⟩
end
abbrev gO (one:List (List Str)) (j:Nat):List Str:=one.getD j []
def fitB (one:List (List Str)) (i:Nat) (right:List Str):Bool:=(aD one.length).all fun j=>mts (gO one j) right == !decide (j=i)
def acrB (one other:List (List Str)):Bool:=decide (one.length=other.length) && (aD other.length).all fun i=>fitB one i (gO other i)
def foL (ts one:List (List Str)):Nat->Option (List (List Str))
 | 0=>some []
 | i + 1=>match foL ts one i with
  | none=>none
  | some r=>match ts.find? (fitB one i) with
   | none=>none
   | some x=>some (r++[x])
def foD:Option (List (List Str))->D
 | none=>.non
 | some r=>.tup (r.map tupS)
def laF (ts:List (List Str)):List (List (List Str))->Option (List (List Str) × List (List Str))
 | []=>none
 | one::rest=>match foL ts one one.length with
  | some r=>some (one,r)
  | none=>laF ts rest
def laM (ts:List (List Str)):Nat->List (List Str) × List (List Str)
 | 0=>([],[])
 | m + 1=>match laF ts (ch ts (m + 1)) with
  | some p=>p
  | none=>laM ts m
def prD (p:List (List Str) × List (List Str)):D:=.tup [.tup (p.1.map tupS),.tup (p.2.map tupS)]
def sp_fits:SpD:=fun ds S Q=>∃ (one:List (List Str)) (i:Nat) (right:List Str),ds=[.tup (one.map tupS),.int (i:Nat),tupS right]/\one.length<=99/\right.length<=99/\Q (.bl (fitB one i right)) S
def sp_go_across:SpD:=fun ds S Q=>∃ (one other:List (List Str)),ds=[.tup (one.map tupS),.tup (other.map tupS)]/\one.length<=99/\(∀ t∈other,t.length<=99)/\Q (.bl (acrB one other)) S
def sp_first_other:SpD:=fun ds S Q=>∃ (ts one:List (List Str)),ds=[.tup (ts.map tupS),.tup (one.map tupS)]/\ts.length<=99/\one.length<=20/\(∀ t∈ts,t.length<=99)/\Q (foD (foL ts one one.length)) S
def sp_longest_across:SpD:=fun ds S Q=>∃ (ts:List (List Str)),ds=[.tup (ts.map tupS)]/\ts.length<=14/\(∀ t∈ts,t.length<=99)/\Q (prD (laM ts 5)) S
theorem foL_len {ts one:List (List Str)}:∀ {i:Nat} {r:List (List Str)},foL ts one i=some r->r.length=i
 | 0,r,h=>by cases h;rfl
 | i + 1,r,h=>by
  unfold foL at h
  split at h
  ·cases h
  ·next r' e =>
   split at h
   ·cases h
   ·cases h;rw[az,foL_len e];rfl
abbrev s_fits:Stmt:=top 6
theorem sc_fits:FnScope ["one", "at", "right"] ["one", "at", "right"] (defScope s_fits):=fsc
section
variable {P:aB} {w:aN} {K:av} {mg:Str->Option ad} {base:aS} {pt cc:Addr}
theorem ok_fits (T:Tx K mg "fits" s_fits) (B:Bs mg) (d_meets:Df P w K mg base 1 "meets" ["one", "row"] (spU K sp_meets)):Df P w K mg base 2 "fits" ["one", "at", "right"] (spU K sp_fits):=by
 refine e_def T sc_fits (fun F=>F.binds fun _ _ _ _ _ _=>us3 fun _ _ _=>rfl) ?_ fun f cdv A outer s H E hr=>⟨_,(dss_one (ds_ret (e_all rfl B.all (da_cons (e_comp (N':=["place", "left", "right", "at"]) (oc:=none) (b:=false) [0,1] [] rfl sc_fits.nd (fun _ _ _=>turn_one _ _ _ _ _ _ _ _ _) (.own (.own (.cap (i:=2) rfl (by decide +kernel) (.cap (i:=1) rfl (by decide +kernel) .nil)))) (free_of rfl) (di_enT rfl B.enumerate (da_cons (dv 0) da_nil)) (cg_pair (i:=0) (j:=1)) (fun _ _ _ _ _=>pg_tup rfl (pgs_cons (pg_name (i:=0) (nd_ ["place", "left", "right", "at"]) rfl (a7 rfl) (.inr rfl)) (pgs_cons (pg_name (i:=1) (nd_ ["place", "left", "right", "at"]) rfl (a7 rfl) (.inr rfl)) pgs_nil))) (fun _ _ _ _ _=>dts_nil) bo_emit (fun _ _ _ _ _ _=>pb_emit rfl (by exact PD.o (e_eq hr (e_callD d_meets hr rfl (da_cons (dv 1) (da_cons (dv 2) da_nil))) (e_ne hr (dv 0) (dv 3)))))) da_nil)))),?_⟩
 ·rintro ds S Q ⟨one,i,right,rfl,_⟩;rfl
 ·rintro ds S Q ⟨one,i,right,rfl,h1,h2,q⟩;have eb:∀ (a:Bool) (j:Nat),decide (D.bl a=D.bl (!decide (D.int (j:Nat)=D.int (i:Nat))))=(a == !decide (j=i)):=fun a j=>by
   have e:decide (D.int (j:Nat)=D.int (i:Nat))=decide (j=i):=decide_eq_decide.mpr ⟨fun h=>by injection h with h;exact Int.ofNat.inj h,fun h=>by rw[h]⟩
   rw[e];cases a <;> cases decide (j=i) <;> rfl
  refine loop_ind (fun j acc S'=>S'=S/\acc=((aD j).map fun j=>mts (gO one j) right == !decide (j=i)).map D.bl) ⟨rfl,rfl⟩ ?_ ?_
  ·rintro j y acc S' N hy ⟨rfl,rfl⟩ hN;obtain⟨z,hz,rfl⟩:=pairs_get _ _ _ _ hy;rw[a6,bK] at hz;obtain⟨t,ht,rfl⟩:=hz;have hj:=(aH.mp ht).1;have eg:gO one j=t:=by show one.getD j []=t;rw[ay,ht];rfl
   rw[gW];refine⟨trivial,rfl,rfl,Str,inferInstance,strE,t,right,tupS t,tupS right,rfl,by decide,.inl rfl,.inl rfl,by omega,rfl,rfl,z9999 (by rw[ag,ag,cJ];omega),hN _ _ ⟨rfl,?_⟩⟩
   rw[gq,a9,a9];show _++[D.bl (decide (D.bl (mts t right)=D.bl (!decide (D.int (j:Nat)=D.int (i:Nat)))))]=_;rw[eb,<- eg];rfl
  ·rintro acc S' ⟨rfl,rfl⟩;rw[pairs_len,ag];refine⟨trivial,(aD one.length).map (fun j=>mts (gO one j) right == !decide (j=i)),rfl,rt_same ?_⟩;have e:((aD one.length).map fun j=>mts (gO one j) right == !decide (j=i)).all id=fitB one i right:=by unfold fitB;rw[fR];rfl
   rw[<- e] at q;exact q
end
abbrev s_first_other:Stmt:=top 8
theorem sc_first_other:FnScope ["sets", "one", "found", "at", "fitting"] ["sets", "one"] (defScope s_first_other):=fsc
section
variable {P:aB} {w:aN} {K:av} {mg:Str->Option ad} {base:aS} {pt cc:Addr}
theorem ok_first_other (T:Tx K mg "first_other" s_first_other) (B:Bs mg) (d_fits:Df P w K mg base 2 "fits" ["one", "at", "right"] (spU K sp_fits)):Df P w K mg base 3 "first_other" ["sets", "one"] (spU K sp_first_other):=by
 refine e_def T sc_first_other (fun F=>F.binds fun _ _ _ _ _ _=>us2 fun _ _=>rfl) ?_ fun f cdv A outer s H E hr=>⟨_,(dss_cons (ds_set (i:=2) sc_first_other.nd rfl (a7 rfl) (e_lst (b:=true) da_nil))
  (dss_cons (ds_for c8 rfl (di_range1 rfl B.range (da_cons (e_len rfl B.len (da_cons (dv 1) da_nil)) da_nil)) (dg_name (i:=3) sc_first_other.nd rfl (gV rfl)) (dss_cons (ds_setC (i:=4) rfl (a7 rfl) (N':=["right", "one", "at"]) (oc:=none) (b:=false) [0] [] rfl sc_first_other.nd (fun _ _ _=>turn_one _ _ _ _ _ _ _ _ _) (.own (.cap (i:=1) rfl (by decide +kernel) (.cap (i:=3) rfl (by decide +kernel) .nil))) (free_of rfl) (di_sq (dv 0)) (cg_name (i:=0)) (fun _ _ _ _ _=>pg_name (i:=0) (nd_ ["right", "one", "at"]) rfl (a7 rfl) (.inr rfl)) (fun _ _ _ _ _=>dts_one (by exact(dt_tru (e_callD d_fits hr rfl (da_cons (dv 1) (da_cons (dv 2) (da_cons (dv 0) da_nil))))))) bo_emit (fun _ _ _ _ _ _=>pb_emit rfl (by exact PD.o (dv 0))))
  (dss_cons (ds_if (dt_not (dt_tru (dv 4))) (dss_one (ds_ret e_non)) dss_nil)
  (dss_one (ds_expr (e_append (dv 2) (da_cons (e_ix (dv 4) e_int) da_nil)))))))
  (dss_one (ds_ret (e_tuple rfl B.tuple (da_cons (dv 2) da_nil)))))),?_⟩
 ·rintro ds S Q ⟨ts,one,rfl,_⟩;rfl
 ·rintro ds S Q ⟨ts,one,rfl,h1,h2,h3,q⟩;refine⟨z9999 (by decide),fun fp hfp=>⟨_,rfl,⟨by rw[ag];omega,by rw[ag];omega⟩,?_⟩⟩
  rw[ag,bF];have none_up:∀ {i:Nat},foL ts one i=none->∀ j,i<=j->foL ts one j=none:=fun {i} h j hij=>by
   induction j with
   | zero=>rw[show i=0 by omega] at h;exact h
   | succ j ih =>
    by_cases z:i=j + 1
    ·rw[<- z];exact h
    ·unfold foL;rw[ih (by omega)]
  refine for_ind (fun i Γ S'=>∃ (x3 x4:Option D) (r:List (List Str)),Γ=[some (.tup (ts.map tupS)),some (.tup (one.map tupS)),some (.ref fp),x3,x4]/\foL ts one i=some r/\S' fp=some (.lst (r.map tupS))/\∀ b o,S b=some o->S' b=some o) ⟨none,none,[],rfl,rfl,supd_same,fun b o e=>by rw[supd_ne (by rintro rfl;rw[hfp] at e;cases e)];exact e⟩ ?_ ?_
  ·rintro i x Γ S' N hx ⟨x3,x4,r,rfl,hr,hf,hk⟩ hN;obtain⟨hi,rfl⟩:=rng_at hx;have hi':i < one.length:=hi;refine⟨trivial,_,rfl,loop_filt (p:=fun t=>fitB one i t) (f:=tupS) (fun t ht Q q=>⟨one,i,t,rfl,by omega,h3 t ht,q⟩) (fun t ht _ Q q=>q) (z9999 (by show 0 + ts.length<=_;omega)) ?_⟩
   rw[cO];have ef:ts.find? (fitB one i)=(ts.filter fun t=>fitB one i t).head?:=(List.head?_filter ..).symm;cases e:(ts.filter fun t=>fitB one i t) with
   | nil =>
    rw[e] at ef;have hn:foL ts one (i + 1)=none:=by unfold foL;rw[hr,ef];rfl
    rw[none_up hn _ hi'] at q;exact rt_drop hk q
   | cons t us =>
    rw[e] at ef;have hn:foL ts one (i + 1)=some (r++[t]):=by unfold foL;rw[hr,ef];rfl
    have rl:=foL_len hr;refine⟨⟨_,hf⟩,_,_,rfl,atI_nat (j:=0) rfl,_,hf,z9999 (by rw[ag];omega),hN _ _ ⟨_,_,r++[t],rfl,hn,by rw[supd_same,a9];rfl,fun b o e=>?_⟩⟩
    rw[supd_ne (by rintro rfl;rw[hfp] at e;cases e)];exact hk b o e
  ·rintro Γ S' ⟨x3,x4,r,rfl,hr,hf,hk⟩;rw[rngD_len] at hr;rw[hr] at q;exact⟨trivial,_,hf,rt_drop hk q⟩
end
end Toy
namespace L2
open PySem PySem.Spec PyProof.Rows
def Itd (lo:Int) (n:Nat):It:=⟨fun i _=>i < n,fun i H x H'=>H'=H/\x=.int (lo - i),fun i _=>n<=i⟩
theorem turn_down {P:aB} {w:aN} {K:av} {tg:Expr} (it:Addr) (lo:Int) (n:Nat):Turn P w K tg (Itd lo n) [it] it (fun i h=>IsRangeIter h it (lo + (i:Nat) * (-1)) ((n:Int) - (i:Nat)) (-1)) where
 mem:=by simp
 obj:=fun i h st b hb=>by
  have e:b=it:=by simpa using hb
  subst e;exact⟨_,st,fun v z=>by
   have z':Data.fields _=Data.cell v:=z;cases z'⟩
 keep:=fun i h h' st k=>k it (by simp) _ st
 item:=by
  intro X hP hw hK hc i pins s σ H E I hf st hg;subst hP hw hK;obtain⟨f0,f1,f2,f3,f4,f5⟩:=hf it (by simp)
  have W:=Walks.range (prog:=X.prog) (w:=X.w) (I.ok.hd hc) it lo (-1) n;refine W.item i s _ _ hg st fun v h' tk hv st' kk=>?_;obtain⟨t,rfl⟩:=hv;have I1:Inv X pins σ H { s with heap:=h',toks:=tk }:=I.turned (fun b o hb e=>kk b o (by simpa using hb) e) f0 f1 f3 f4 f5
  refine⟨_,rfl,go_of (s:={ s with heap:=h',toks:=tk }) (n := "range_iterator") st' rfl rfl (by decide) ⟨.int (lo - i),H,I1,⟨t,?_⟩,⟨rfl,rfl⟩,st',fun b hb=>(hf b hb).1⟩⟩
  rw[show lo + (i:Int) * (-1)=lo - i by lia]
 done:=by
  intro X hP hw hK hc i pins s σ H E I hf st hg;subst hP hw hK;obtain⟨f0,f1,f2,f3,f4,f5⟩:=hf it (by simp)
  exact wpAny_pyNext_range_end (I.ok.hd hc) st (by have:n<=i:=hg;lia) fun h' eb=>⟨rfl,I.turned (t':=s.toks) (fun b o hb e=>eb b o hb e) f0 f1 f3 f4 f5⟩
 self:=fun _ _ _ _ _ st h=>wpAny_pyIter_rangeiter st h
section
variable {X:Cx} {tg:Expr}
theorem size_down (i j:Int):e8 i j (-1)=(((i - j).toNat:Nat):Int):=by
 unfold e8;rw[if_neg (by decide)]
 split
 ·have:(i - j - 1) / (-(-1:Int))=i - j - 1:=by rw[Int.neg_neg,Int.ediv_one]
  rw[this];lia
 ·lia
theorem down_it {pins:List (Addr × Obj)} {σ:St} {H:Hp} {s:ah} {R:It->Hp->Prop} {E:ad->ah->Prop} {lo hi:Int} {t u v:Tok} {tk:Nat} (I:Inv X pins σ H s) (hs:iM lo hi (-1)=true)
  (q:R (Itd lo (lo - hi).toNat) H):aw (aA X.prog X.w) X.A (pyIter (.ref s.heap.objs.size)) (PIE X pins σ tg R) E { s with heap:=s.heap.push { cls:=.type "range",data:=.fields #[.int lo t,.int hi u,.int (-1) v] },toks:=tk }:=by
 refine wpAny_pyIter_range (IsRange.new ..) hs ?_;have I1:Inv X pins σ H { s with heap:=s.heap.push { cls:=.type "range",data:=.fields #[.int lo t,.int hi u,.int (-1) v] },toks:=tk }:=I.kept fun b o e=>af _ e
 refine⟨(s.heap.push { cls:=.type "range",data:=.fields #[.int lo t,.int hi u,.int (-1) v] }).objs.size,[(s.heap.push { cls:=.type "range",data:=.fields #[.int lo t,.int hi u,.int (-1) v] }).objs.size],_,_,H,rfl,
  I1.kept (t':=tk) fun b o e=>af _ e,turn_down _ lo (lo - hi).toNat,?_,fun b hb=>?_,q⟩
 ·have e1:lo + ((0:Nat):Int) * (-1)=lo:=by simp
  have e2:(((lo - hi).toNat:Nat):Int) - ((0:Nat):Int)=e8 lo hi (-1):=by rw[size_down];simp
  show IsRangeIter _ _ (lo + ((0:Nat):Int) * (-1)) ((((lo - hi).toNat:Nat):Int) - ((0:Nat):Int)) (-1);rw[e1,e2];exact ao _ rfl
 ·have e:b=(s.heap.push { cls:=.type "range",data:=.fields #[.int lo t,.int hi u,.int (-1) v] }).objs.size:=by simpa using hb
  subst e;exact I1.fpOk (aj _) (I1.hok.fresh (aj _))
theorem small_down {a b:Int} (ha:0<=a) (ha':a<=1000) (hb:0<=b) (hb':b<=1000):iM a b (-1)=true:=by
 unfold iM;rw[size_down];simp only[bC.Range.rangeFitsLong,aK,Bool.or_eq_true,decide_eq_true_eq,beq_iff_eq];refine⟨⟨⟨⟨⟨by omega,by omega⟩,by omega,by omega⟩,by omega,by omega⟩,by omega,by omega⟩,.inr ?_⟩
 rw[if_neg (by decide),aK]
 exact⟨decide_eq_true (by omega),decide_eq_true (by omega)⟩
def iRng3 (ta:TA):TI:=fun σ H R=>ta σ H fun vs H1=>∃ i j:Int,vs=[.int i,.int j,.int (-1)]/\(0<=i/\i<=1000/\0<=j/\j<=1000)/\R (Itd i (i - j).toNat) H1
theorem pi_range3 {a b c:Expr} {ta:TA} {p pos:Pos} (hg:Gl X "range") (hm:X.mg "range" = none) (ha:PA X [a,b,c] ta) (hs:am [a,b,c] X.env=[(false,eval a X.env),(false,eval b X.env),(false,eval c X.env)]:=by rfl) (hs2:am [b,c] X.env=[(false,eval b X.env),(false,eval c X.env)]:=by rfl) :
  PI X tg (.Call (.Name "range" p) [a,b,c] [] pos) (iRng3 ta):=by
 intro pins s σ H R I h;refine Call_ (ld_blt I hg hm boot_range (cj (thn (ha pos pins s σ H _ I h) fun us s1 ⟨vs,H1,I1,r1,q1⟩=>?_) (by rw[hs,hs2]) (by rw[hs2];rfl)))
 obtain⟨i,j,e,⟨q1,q2,q3,q4⟩,q⟩:=q1;subst e;cases r1 with
 | cons r rr =>
  cases rr with
  | cons r' rr =>
   cases rr with
   | cons r'' rr =>
    cases rr;obtain⟨t,rfl⟩:=r;obtain⟨t',rfl⟩:=r';obtain⟨t'',rfl⟩:=r'';exact call_range_3 (by decide) (down_it I1 (small_down q1 q2 q3 q4) q) (.inl (jV (by decide)))
end
def dwnD:Int->Nat->List D
 | _,0=>[]
 | i,n + 1=>.int i::dwnD (i - 1) n
theorem dwnD_len:∀ (n:Nat) (i:Int),(dwnD i n).length=n
 | 0,_=>rfl
 | n + 1,i=>by unfold dwnD;rw[bH,dwnD_len n]
theorem dwnD_get:∀ (n:Nat) (lo:Int) (i:Nat) (d:D),(dwnD lo n)[i]?=some d->i < n/\d=.int (lo - i)
 | 0,_,i,d,h=>by cases h
 | n + 1,lo,0,d,h=>by cases h;exact⟨iN _,by rw[show lo - ((0:Nat):Int)=lo by lia]⟩
 | n + 1,lo,i + 1,d,h=>by
  obtain⟨h1,h2⟩:=dwnD_get n (lo - 1) i d h;exact⟨Nat.succ_lt_succ h1,by rw[h2,show lo - 1 - (i:Int)=lo - ((i + 1:Nat):Int) by rw[gx];lia]⟩
section
variable {X:Cx} {K:Fg} {pos:Pos} {a b c:Expr}
theorem itk_dwn {F:Am} {S:Sto} {H:Hp} {lo:Int} {n:Nat} {G:Sto->Prop}:ItOk K F S H (Itd lo n) (dwnD lo n) G where
 go:=fun F2 f S2 H2 x r2 _ i d hd=>by
  obtain⟨h1,rfl⟩:=dwnD_get n lo i d hd;refine⟨h1,fun y H3 z=>?_⟩;obtain⟨e2,y1⟩:=z;subst e2;subst y1;exact⟨Ext.refl _ _,r2,by unfold RepV;rfl⟩
 stop:=fun F2 f S2 H2 x r2 _=>by rw[dwnD_len];exact aj n
def dRng3 (ta:AD):ID:=fun Γ S Q=>ta Γ S fun ds S1=>∃ i j:Int,ds=[.int i,.int j,.int (-1)]/\(0<=i/\i<=1000/\0<=j/\j<=1000)/\Q (dwnD i (i - j).toNat) (fun _=>True) S1
theorem di_range3 {tg:Expr} {p:Pos} {ta:AD} (hg:Gl X "range") (hm:X.mg "range" = none) (ha:PAD K X [a,b,c] ta) (hs:am [a,b,c] X.env=[(false,eval a X.env),(false,eval b X.env),(false,eval c X.env)]:=by rfl) (hs2:am [b,c] X.env=[(false,eval b X.env),(false,eval c X.env)]:=by rfl) :
  PID K X tg (.Call (.Name "range" p) [a,b,c] [] pos) (dRng3 ta):=.of (pi_range3 hg hm ha.o hs hs2) fun σ H R z0=>z0.el fun F S Γ QD r g q c =>
 ⟨F,S,Γ,_,r,g,q,fun vs ds H1 S1 x1 r1 v1 q1=>by
  obtain⟨i,j,rfl,hb,q2⟩:=q1;unfold RepL at v1;obtain⟨v,vs,rfl,rv,v1⟩:=v1;obtain⟨v',w,rfl,rv',rw'⟩:=v1.two;rw[rint rv,rint rv',rint rw'];exact⟨i,j,rfl,hb,c _ _ _ _ _ x1 r1 itk_dwn q2⟩⟩
end
theorem e_globI {X:Cx} {K:Fg} {x:Str} {i:Int} {tk:Tok} {pos:Pos} (hg:Gl X x) (hm:X.mg x=some (.int i tk)) (hd:(x == ("__debug__" : Str))=false:=by decide):PD K X (.Name x pos) (dC (.int i)) :=
 .of (pe_glob hg hm (show RelV (.int i) (.int i tk) from⟨tk,rfl⟩) hd) (up_c fun _ _=>by unfold RepV;rfl)
theorem gl_int {K:av} {h:aS} {mg:Str->Option ad} {x:Str} {i:Int} {v:ad} (X:K.In h) (G:h.Ns aX mg) (a:bI K aX x=some (some v)) (b:∃ tk,v=.int i tk):∃ tk,mg x=some (.int i tk):=by
 obtain⟨tk,rfl⟩:=b;exact⟨tk,kC X G a⟩
end L2
namespace Toy
open PySem L2
abbrev s_longest_across:Stmt:=top 7
theorem sc_longest_across:FnScope ["sets", "many", "one", "other"] ["sets"] (defScope s_longest_across):=fsc
section
variable {P:aB} {w:aN} {K:av} {mg:Str->Option ad} {base:aS} {pt cc:Addr}
theorem ok_longest_across {tg:Tok} (T:Tx K mg "longest_across" s_longest_across) (B:Bs mg) (LG:mg "LONGEST" = some (.int 5 tg)) (d_choices_of:Df P w K mg base 9 "choices_of" ["things", "many"] (spU K sp_choices_of)) (d_first_other:Df P w K mg base 9 "first_other" ["sets", "one"] (spU K sp_first_other)):Df P w K mg base 10 "longest_across" ["sets"] (spU K sp_longest_across):=by
 refine e_def T sc_longest_across (fun F=>F.binds fun _ _ _ _ _ _=>us1 fun _=>rfl) ?_ fun f cdv A outer s H E hr=>⟨_,(dss_cons (ds_for c8 rfl (di_range3 rfl B.range (da_cons (e_globI rfl LG) (da_cons e_int (da_cons (e_neg e_int) da_nil)))) (dg_name (i:=1) sc_longest_across.nd rfl (a7 rfl)) (dss_one (ds_for c8 rfl (di_sq (e_callD d_choices_of hr rfl (da_cons (dv 0) (da_cons (dv 1) da_nil)))) (dg_name (i:=2) sc_longest_across.nd rfl (a7 rfl)) (dss_cons (ds_set (i:=3) sc_longest_across.nd rfl (a7 rfl) (e_callD d_first_other hr rfl (da_cons (dv 0) (da_cons (dv 2) da_nil))))
  (dss_one (ds_if (dt_isnt hr (dv 3) e_non) (dss_one (ds_ret (e_tup (da_cons (dv 2) (da_cons (dv 3) da_nil))))) dss_nil))))))
  (dss_one (ds_ret (e_tup (da_cons (e_tup da_nil) (da_cons (e_tup da_nil) da_nil)))))),?_⟩
 ·rintro ds S Q ⟨ts,rfl,_⟩;rfl
 ·rintro ds S Q ⟨ts,rfl,h1,h2,q⟩;have mono:∀ m,m<=5->laM ts 5=laM ts m\/True:=fun _ _=>.inr trivial;refine⟨5,0,rfl,⟨by decide,by decide,by decide,by decide⟩,?_⟩
  refine for_ind (fun i Γ S'=>∃ (x1 x2 x3:Option D),Γ=[some (.tup (ts.map tupS)),x1,x2,x3]/\laM ts 5=laM ts (5 - i)/\S'=S) ⟨none,none,none,rfl,rfl,rfl⟩ ?_ ?_
  ·rintro i x Γ S' N hx ⟨x1,x2,x3,rfl,hm,rfl⟩ hN;obtain⟨hi,rfl⟩:=dwnD_get _ _ _ _ hx;have hi5:i < 5:=hi;obtain⟨m,em⟩:∃ m,5 - i=m + 1:=⟨4 - i,by omega⟩
   have ei:(5:Int) - (i:Nat)=((m + 1:Nat):Int):=by omega
   rw[ei];refine⟨trivial,ts.map tupS,m + 1,rfl,by omega,by rw[ag];omega,(Toy.ch ts (m + 1)).map (fun s=>D.tup (s.map tupS)),(by show _=_;rw[Toy.ch_map,b5];rfl),?_⟩
   rw[em] at hm;have step:laM ts (m + 1)=match laF ts (ch ts (m + 1)) with | some p=>p | none=>laM ts m:=rfl
   refine for_ind (fun j Γ S2=>∃ (x2 x3:Option D),Γ=[some (.tup (ts.map tupS)),some (.int ((m + 1:Nat):Int)),x2,x3]/\laF ts (ch ts (m + 1))=laF ts ((ch ts (m + 1)).drop j)/\S2=S') ⟨x2,x3,rfl,rfl,rfl⟩ ?_ ?_
   ·rintro j y Γ S2 N2 hy ⟨y2,y3,rfl,hd,rfl⟩ hN2;rw[a6,bK] at hy;obtain⟨one,ho,rfl⟩:=hy;obtain⟨hj,e1⟩:=aH.mp ho;obtain⟨ol,os⟩:=ch_mem (bL ho);have hdc:(ch ts (m + 1)).drop j=one::(ch ts (m + 1)).drop (j + 1):=by rw[cU hj,e1]
    rw[hdc] at hd;refine⟨trivial,ts,one,rfl,by omega,by omega,h2,?_⟩
    cases e:foL ts one one.length with
    | none =>
     have:laF ts (one::(ch ts (m + 1)).drop (j + 1))=laF ts ((ch ts (m + 1)).drop (j + 1)):=by show(match foL ts one one.length with | some r=>_ | none=>_)=_;rw[e]
     exact⟨false,rfl,iteF (hN2 _ _ ⟨_,_,rfl,hd.trans this,rfl⟩)⟩
    | some r =>
     have:laF ts (one::(ch ts (m + 1)).drop (j + 1))=some (one,r):=by show(match foL ts one one.length with | some r=>_ | none=>_)=_;rw[e]
     rw[hm,step,hd,this] at q;exact⟨true,rfl,iteT ⟨z9999 (by show 2<=9999;decide),rt_same q⟩⟩
   ·rintro Γ S2 ⟨y2,y3,rfl,hd,rfl⟩;rw[ag,fS] at hd;refine⟨trivial,hN _ _ ⟨_,_,_,rfl,?_,rfl⟩⟩;rw[hm,step,hd,show 5 - (i + 1)=m by omega]
    rfl
  ·rintro Γ S' ⟨x1,x2,x3,rfl,hm,rfl⟩;rw[dwnD_len] at hm;have e0:laM ts 5=([],[]):=hm;rw[e0] at q;exact⟨trivial,z9999 (by decide),z9999 (by decide),z9999 (by show 2<=9999;decide),rt_same q⟩
end
abbrev s_go_across:Stmt:=top 5
theorem sc_go_across:FnScope ["one", "other"] ["one", "other"] (defScope s_go_across):=fsc
section
variable {P:aB} {w:aN} {K:av} {mg:Str->Option ad} {base:aS} {pt cc:Addr}
theorem ok_go_across (T:Tx K mg "go_across" s_go_across) (B:Bs mg) (d_fits:Df P w K mg base 2 "fits" ["one", "at", "right"] (spU K sp_fits)):Df P w K mg base 3 "go_across" ["one", "other"] (spU K sp_go_across):=by
 refine e_def T sc_go_across (fun F=>F.binds fun _ _ _ _ _ _=>us2 fun _ _=>rfl) ?_ fun f cdv A outer s H E hr=>⟨_,(dss_one (ds_ret (e_and (e_eq hr (e_len rfl B.len (da_cons (dv 0) da_nil)) (e_len rfl B.len (da_cons (dv 1) da_nil))) (e_one (e_all rfl B.all (da_cons (e_comp (N':=["at", "right", "one"]) (oc:=none) (b:=false) [0,1] [] rfl sc_go_across.nd (fun _ _ _=>turn_one _ _ _ _ _ _ _ _ _) (.own (.own (.cap (i:=0) rfl (by decide +kernel) .nil))) (free_of rfl) (di_enT rfl B.enumerate (da_cons (dv 1) da_nil)) (cg_pair (i:=0) (j:=1)) (fun _ _ _ _ _=>pg_tup rfl (pgs_cons (pg_name (i:=0) (nd_ ["at", "right", "one"]) rfl (a7 rfl) (.inr rfl)) (pgs_cons (pg_name (i:=1) (nd_ ["at", "right", "one"]) rfl (a7 rfl) (.inr rfl)) pgs_nil))) (fun _ _ _ _ _=>dts_nil) bo_emit (fun _ _ _ _ _ _=>pb_emit rfl (by exact PD.o (e_callD d_fits hr rfl (da_cons (dv 2) (da_cons (dv 0) (da_cons (dv 1) da_nil))))))) da_nil)))))),?_⟩
 ·rintro ds S Q ⟨one,other,rfl,_⟩;rfl
 ·rintro ds S Q ⟨one,other,rfl,h1,h2,q⟩;dsimp only[dRet];refine⟨_,rfl,_,rfl,rfl,_,rfl,?_⟩;have el:decide (D.int (((one.map tupS).length:Nat):Int)=D.int (((other.map tupS).length:Nat):Int))=decide (one.length=other.length):=decide_eq_decide.mpr ⟨fun h=>by injection h with h;rw[ag,ag] at h;exact Int.ofNat.inj h,fun h=>by rw[ag,ag,h]⟩
  refine ite2 (fun c=>?_) fun c=>?_
  ·have hl:one.length=other.length:=of_decide_eq_true (el.symm.trans c);refine loop_ind (fun j acc S'=>S'=S/\acc=((aD j).map fun j=>fitB one j (gO other j)).map D.bl) ⟨rfl,rfl⟩ ?_ ?_
   ·rintro j y acc S' N hy ⟨rfl,rfl⟩ hN;obtain⟨z,hz,rfl⟩:=pairs_get _ _ _ _ hy;rw[a6,bK] at hz;obtain⟨t,ht,rfl⟩:=hz;have hj:=(aH.mp ht).1;have eg:gO other j=t:=by show other.getD j []=t;rw[ay,ht];rfl
    rw[gW];refine⟨trivial,rfl,rfl,one,j,t,rfl,h1,h2 t (bL ht),z9999 (by rw[ag,ag,cJ];omega),hN _ _ ⟨rfl,?_⟩⟩
    rw[gq,a9,a9,<- eg];rfl
   ·rintro acc S' ⟨rfl,rfl⟩;rw[pairs_len,ag];refine⟨trivial,(aD other.length).map (fun j=>fitB one j (gO other j)),rfl,rt_same ?_⟩;have e:((aD other.length).map fun j=>fitB one j (gO other j)).all id=acrB one other:=by unfold acrB;rw[fR,decide_eq_true hl,jA];rfl
    rw[<- e] at q;exact q
  ·have hl:¬ one.length=other.length:=fun h=>c (el.trans (decide_eq_true h));have e:acrB one other=false:=by unfold acrB;rw[decide_eq_false hl,Bool.false_and]
   rw[e] at q;exact rt_same q
end
def PA (ts one:List (List Str)):Prop:=∀ x∈one,∃ t∈ts,mts x t=false/\∀ y∈one,y≠x->mts y t=true
theorem gO_at {one:List (List Str)} {i:Nat} (hi:i < one.length):gO one i=one[i]:=by
 show one.getD i []=one[i];rw[ay,ai hi];rfl
theorem fitB_iff {one:List (List Str)} {i:Nat} {t:List Str} (nd:one.Nodup) (hi:i < one.length):fitB one i t=true↔mts one[i] t=false/\∀ y∈one,y≠one[i]->mts y t=true:=by
 unfold fitB;rw[bq];constructor
 ·intro h;refine⟨?_,fun y hy ne=>?_⟩
  ·have:=h i (aM.mpr hi)
   rw[gO_at hi] at this;simpa using this
  ·obtain⟨j,hj,rfl⟩:=aY hy
   have:=h j (aM.mpr hj)
   rw[gO_at hj] at this;have ji:j≠i:=fun e=>ne (by subst e;rfl)
   simpa [ji] using this
 ·rintro⟨h1,h2⟩ j hj;have hj:=aM.mp hj;rw[gO_at hj]
  by_cases e:j=i
  ·subst e;simpa using h1
  ·have ne:one[j]≠one[i]:=fun c=>e ((fN nd).mp c);simpa [e] using h2 _ (cf hj) ne
theorem foL_at {ts one:List (List Str)}:∀ {i:Nat} {r:List (List Str)},foL ts one i=some r->∀ j,j < i->ts.find? (fitB one j)=some (gO r j)
 | 0,r,h,j,hj=>absurd hj (cP j)
 | i + 1,r,h,j,hj=>by
  unfold foL at h
  split at h
  ·cases h
  ·next r' e =>
   split at h
   ·cases h
   ·next x ex =>
    cases h;have l:=foL_len e
    by_cases z:j < i
    ·rw[foL_at e j z];show some (r'.getD j [])=some ((r'++[x]).getD j []);rw[ay,ay,dD (by omega)]
    ·have:j=i:=by omega
     subst this;rw[ex];show some x=some ((r'++[x]).getD j []);rw[ay,di (by omega),l,Nat.sub_self];rfl
theorem foL_ex {ts one:List (List Str)}:∀ {i:Nat},(∀ j,j < i->∃ t∈ts,fitB one j t=true)->∃ r,foL ts one i=some r
 | 0,_=>⟨[],rfl⟩
 | i + 1,h=>by
  obtain⟨r,hr⟩:=foL_ex (i:=i) fun j hj=>h j (by omega)
  obtain⟨t,ht,hf⟩:=h i (by omega)
  cases e:ts.find? (fitB one i) with
  | none=>rw[List.find?_eq_none] at e;exact absurd hf (e t ht)
  | some x=>exact⟨r++[x],by unfold foL;rw[hr,e]⟩
theorem foL_iff {ts one:List (List Str)} (nd:one.Nodup):(∃ r,foL ts one one.length=some r)↔PA ts one:=by
 constructor
 ·rintro⟨r,h⟩ x hx;obtain⟨i,hi,rfl⟩:=aY hx
  have:=foL_at h i hi
  obtain⟨f1,f2⟩:=(fitB_iff nd hi).mp (List.find?_some this);exact⟨_,jj this,f1,f2⟩
 ·intro h;refine foL_ex fun j hj=>?_;obtain⟨t,ht,h1,h2⟩:=h _ (cf hj);exact⟨t,ht,(fitB_iff nd hj).mpr ⟨h1,h2⟩⟩
theorem laF_some {ts:List (List Str)}:∀ {cs:List (List (List Str))} {p},laF ts cs=some p->p.1∈cs/\foL ts p.1 p.1.length=some p.2
 | [],p,h=>by cases h
 | one::rest,p,h=>by
  unfold laF at h
  split at h
  ·next r e=>cases h;exact⟨ar ..,e⟩
  ·obtain⟨a,b⟩:=laF_some h;exact⟨au _ a,b⟩
theorem laF_none {ts:List (List Str)}:∀ {cs:List (List (List Str))},laF ts cs=none->∀ one∈cs,foL ts one one.length=none
 | [],_,_,h=>by cases h
 | c::rest,h,one,ho=>by
  unfold laF at h
  split at h
  ·cases h
  ·next e =>
   rcases ax.mp ho with rfl | ho
   ·exact e
   ·exact laF_none h one ho
theorem laM_ok (ts:List (List Str)):∀ m,(laM ts m).1∈ch ts (laM ts m).1.length/\(laM ts m).1.length<=m/\foL ts (laM ts m).1 (laM ts m).1.length=some (laM ts m).2
 | 0=>⟨by show []∈ch ts 0;rw[ch_zero];exact aG.mpr rfl,aj 0,rfl⟩
 | m + 1=>by
  unfold laM
  split
  ·next p e =>
   obtain⟨a,b⟩:=laF_some e;have l:=(ch_mem a).1;exact⟨by rw[l];exact a,by omega,b⟩
  ·obtain⟨a,b,c⟩:=laM_ok ts m;exact⟨a,by omega,c⟩
theorem laM_top {ts:List (List Str)}:∀ {m k:Nat},k<=m->∀ {one:List (List Str)},one∈ch ts k->(∃ r,foL ts one one.length=some r)->k<=(laM ts m).1.length
 | 0,k,hk,one,_,_=>by omega
 | m + 1,k,hk,one,ho,hr=>by
  unfold laM
  split
  ·next p e=>have l:=(ch_mem (laF_some e).1).1;omega
  ·next e =>
   by_cases z:k=m + 1
   ·subst z;obtain⟨r,hr⟩:=hr;rw[laF_none e one ho] at hr;cases hr
   ·exact laM_top (by omega) ho hr
abbrev lenA (ts:List (List Str)):Nat:=(laM ts 5).1.length
theorem sub_filt {α:Type} {p:α->Bool} {ts one:List α} (nd:ts.Nodup) (n1:one.Nodup) (h:∀ x∈one,x∈ts) (hp:∀ x,p x=true↔x∈one):(ts.filter p).Perm one:=by
 rw[List.perm_ext_iff_of_nodup (nd.sublist fV) n1];intro a;rw[dW,hp];exact⟨fun x=>x.2,fun x=>⟨h a x,x⟩⟩
theorem lenA_ge {ts one:List (List Str)} (nd:ts.Nodup) (n1:one.Nodup) (h:∀ x∈one,x∈ts) (p:PA ts one) (l:one.length<=5):one.length<=lenA ts:=by
 have pm:=sub_filt (p:=fun x=>one.any fun y=>decide (y=x)) nd n1 h fun x=>by simp
 have ms:=mem_ch (fV (p:=fun x=>one.any fun y=>decide (y=x)) (l:=ts));rw[pm.length_eq] at ms;refine laM_top l ms ((foL_iff (pm.nodup_iff.mpr n1)).mpr fun x hx=>?_);obtain⟨t,ht,h1,h2⟩:=p x (pm.mem_iff.mp hx);exact⟨t,ht,h1,fun y hy=>h2 y (pm.mem_iff.mp hy)⟩
theorem laM_sub (ts:List (List Str)):(laM ts 5).1.Sublist ts:=(ch_mem (laM_ok ts 5).1).2
theorem laM_PA {ts:List (List Str)} (nd:ts.Nodup):PA ts (laM ts 5).1:=(foL_iff (nd.sublist (laM_sub ts))).mp ⟨_,(laM_ok ts 5).2.2⟩
theorem lenA_le {ts:List (List Str)}:lenA ts<=5:=(laM_ok ts 5).2.1
theorem PA_mono {ts us one:List (List Str)} (h:∀ x∈ts,x∈us) (p:PA ts one):PA us one:=fun x hx=>by
 obtain⟨t,ht,q⟩:=p x hx;exact⟨t,h t ht,q⟩
theorem lenA_mono {ts us:List (List Str)} (nt:ts.Nodup) (nu:us.Nodup) (h:∀ x∈ts,x∈us):lenA ts<=lenA us :=
 lenA_ge nu (nt.sublist (laM_sub ts)) (fun x hx=>h x ((laM_sub ts).subset hx)) (PA_mono h (laM_PA nt)) lenA_le
theorem lenA_map {ts us:List (List Str)} (g:List Str->List Str) (nt:ts.Nodup) (nu:us.Nodup) (h:∀ x∈ts,g x∈us) (inj:∀ x∈ts,∀ y∈ts,g x=g y->x=y) (hm:∀ x∈ts,∀ y∈ts,mts (g x) (g y)=mts x y):lenA ts<=lenA us:=by
 have sb:=laM_sub ts;have nd:=nt.sublist sb;have key:=lenA_ge (one:=(laM ts 5).1.map g) nu ?_ ?_ ?_ (by rw[ag];exact lenA_le)
 ·rw[ag] at key;exact key
 ·exact(bO.mpr (dI (fun {a b} ha hb ne c=>ne (inj a (sb.subset ha) b (sb.subset hb) c)) nd))
 ·intro x hx;obtain⟨y,hy,rfl⟩:=br.mp hx;exact h y (sb.subset hy)
 ·intro x hx;obtain⟨y,hy,rfl⟩:=br.mp hx;obtain⟨t,ht,h1,h2⟩:=laM_PA nt y hy;refine⟨g t,h t ht,by rw[hm _ (sb.subset hy) _ ht];exact h1,fun z hz ne=>?_⟩
  obtain⟨w,hw,rfl⟩:=br.mp hz;rw[hm _ (sb.subset hw) _ ht];exact h2 w hw fun e=>ne (by rw[e])
theorem lenA_one {ts:List (List Str)} (nt:ts.Nodup) (h:[]∈ts):1<=lenA ts :=
 lenA_ge (one:=[[]]) nt (by simp) (fun x hx=>by rw[aG.mp hx];exact h) (fun x hx=>by
  rw[aG.mp hx];exact⟨[],h,rfl,fun y hy ne=>absurd (aG.mp hy) ne⟩) (by decide)
theorem mts_self {x:List Str} (h:x≠[]):mts x x=true:=by
 rw[mts_iff];cases x with
 | nil=>exact absurd rfl h
 | cons a l=>exact⟨a,ar ..,ar ..⟩
theorem mts_comm {x y:List Str}:mts x y=mts y x:=by
 rw[iF,mts_iff,mts_iff];exact⟨fun⟨a,b,c⟩=>⟨a,c,b⟩,fun⟨a,b,c⟩=>⟨a,c,b⟩⟩
theorem lenA_two {ts:List (List Str)} (nt:ts.Nodup) {x y:List Str} (hx:x∈ts) (hy:y∈ts) (ex:x≠[]) (ey:y≠[]) (hm:mts x y=false):2<=lenA ts:=by
 have ne:x≠y:=fun e=>by rw[e,mts_self ey] at hm;cases hm
 refine lenA_ge (one:=[x,y]) nt (by simp[ne]) (fun z hz=>?_) (fun z hz=>?_) (by show 2<=5;decide)
 ·rcases ax.mp hz with rfl | hz
  ·exact hx
  ·rw[aG.mp hz];exact hy
 ·rcases ax.mp hz with rfl | hz
  ·refine⟨y,hy,hm,fun w hw nw=>?_⟩;rcases ax.mp hw with rfl | hw
   ·exact absurd rfl nw
   ·rw[aG.mp hw];exact mts_self ey
  ·have:=aG.mp hz
   subst this;refine⟨x,hx,by rw[mts_comm];exact hm,fun w hw nw=>?_⟩
   rcases ax.mp hw with rfl | hw
   ·exact mts_self ex
   ·exact absurd (aG.mp hw) nw
theorem laM_acr {ts:List (List Str)}:acrB (laM ts 5).1 (laM ts 5).2=true:=by
 have h:=(laM_ok ts 5).2.2;have l:=foL_len h;unfold acrB;rw[l,decide_eq_true rfl,jA,bq];intro i hi;exact List.find?_some (foL_at h i (aM.mp hi))
theorem laM_snd {ts:List (List Str)}:∀ x∈(laM ts 5).2,x∈ts:=by
 have h:=(laM_ok ts 5).2.2;have l:=foL_len h;intro x hx;obtain⟨i,hi,rfl⟩:=aY hx
 have:=jj (foL_at h i (by omega))
 rw[gO_at hi] at this;exact this
theorem laM_laF {ts:List (List Str)}:∀ {m k:Nat},(laM ts m).1.length=k + 1->laF ts (ch ts (k + 1))=some (laM ts m)
 | 0,k,h=>by cases h
 | m + 1,k,h=>by
  unfold laM at h ⊢;cases e:laF ts (ch ts (m + 1)) with
  | none=>rw[e] at h;exact laM_laF h
  | some p =>
   rw[e] at h;have l:=(ch_mem (laF_some e).1).1;have h:p.1.length=k + 1:=h
   have:k=m:=by omega
   subst this;exact e
theorem laF_first {ts:List (List Str)} {R:List (List Str)->List (List Str)->Prop}:∀ {cs:List (List (List Str))} {p},cs.Pairwise R->laF ts cs=some p->∀ one∈cs,(∃ r,foL ts one one.length=some r)->one=p.1\/R p.1 one
 | [],p,_,h=>by cases h
 | c::cs,p,pw,h=>by
  obtain⟨p1,p2⟩:=bA.mp pw;intro one ho hr;unfold laF at h
  split at h
  ·cases h;rcases ax.mp ho with rfl | ho
   ·exact .inl rfl
   ·exact .inr (p1 one ho)
  ·next e =>
   rcases ax.mp ho with rfl | ho
   ·obtain⟨r,hr⟩:=hr;rw[e] at hr;cases hr
   ·exact laF_first p2 h one ho hr
theorem find_first {α:Type} {R:α->α->Prop} {f:α->Bool}:∀ {l:List α} {x:α},l.Pairwise R->l.find? f=some x->∀ y∈l,f y=true->y=x\/R x y
 | [],x,_,h=>by cases h
 | a::l,x,pw,h=>by
  obtain⟨p1,p2⟩:=bA.mp pw;intro y hy fy;rw[cR] at h
  split at h
  ·cases h;rcases ax.mp hy with rfl | hy
   ·exact .inl rfl
   ·exact .inr (p1 y hy)
  ·next e =>
   rcases ax.mp hy with rfl | hy
   ·rw[e] at fy;cases fy
   ·exact find_first p2 h y hy fy
theorem lexG_pt {α:Type} [DecidableEq α] {lt:α->α->Bool} (as:∀ a b,lt a b=true->lt b a=false):∀ {a b:List α},a.length=b.length->(∀ i (h1:i < a.length) (h2:i < b.length),a[i]=b[i]\/lt b[i] a[i]=true)->lexG lt a b=false
 | [],[],_,_=>rfl
 | [],y::ys,h,_=>by cases h
 | x::xs,[],h,_=>by cases h
 | x::xs,y::ys,h,hh=>by
  show(if x=y then lexG lt xs ys else lt x y)=false
  split
  ·exact lexG_pt as (by simpa using h) fun i h1 h2=>hh (i + 1) (by simpa using h1) (by simpa using h2)
  ·next ne =>
   rcases hh 0 (by simp) (by simp) with e | e
   ·exact absurd e ne
   ·exact as _ _ e
theorem lexG_as {α:Type} [DecidableEq α] {lt:α->α->Bool} (as:∀ a b,lt a b=true->lt b a=false):∀ {a b:List α},lexG lt a b=true->lexG lt b a=false
 | [],[],h=>by cases h
 | [],y::ys,_=>rfl
 | x::xs,[],h=>by cases h
 | x::xs,y::ys,h=>by
  have h:(if x=y then lexG lt xs ys else lt x y)=true:=h
  show(if y=x then lexG lt ys xs else lt y x)=false
  split at h
  ·next e=>rw[if_pos e.symm];exact lexG_as as h
  ·next e=>rw[if_neg fun c=>e c.symm];exact as _ _ h
def PZ (zs:List (List Str × List Str)):Prop:=zs.Nodup/\∀ z∈zs,mts z.1 z.2=false/\∀ w∈zs,w≠z->mts w.1 z.2=true
theorem PZ_perm {zs ws:List (List Str × List Str)} (h:zs.Perm ws) (p:PZ ws):PZ zs:=⟨h.nodup_iff.mpr p.1,fun z hz=>by
 obtain⟨a,b⟩:=p.2 z (h.mem_iff.mp hz);exact⟨a,fun w hw=>b w (h.mem_iff.mp hw)⟩⟩
theorem acr_at {one other:List (List Str)} (h:acrB one other=true):one.length=other.length/\∀ i j,i < other.length->j < one.length->mts (gO one j) (gO other i)=!decide (j=i):=by
 unfold acrB at h;rw[aK,decide_eq_true_iff,bq] at h;refine⟨h.1,fun i j hi hj=>?_⟩
 have:=h.2 i (aM.mpr hi)
 unfold fitB at this;rw[bq] at this;exact gE (this j (aM.mpr hj))
theorem PZ_acr {one other:List (List Str)} (h:acrB one other=true):PZ (other.zip one):=by
 obtain⟨l,hh⟩:=acr_at h;have zl:(other.zip one).length=one.length:=by rw[fw];omega
 have g:∀ i (hi:i < (other.zip one).length),(other.zip one)[i]=(gO other i,gO one i):=fun i hi=>by
  rw[List.getElem_zip,gO_at (by omega),gO_at (by omega)]
 have ne:∀ i j (hi:i < (other.zip one).length) (hj:j < (other.zip one).length),i≠j->(other.zip one)[i]≠(other.zip one)[j]:=fun i j hi hj n e=>by
  rw[g i hi,g j hj] at e;injection e with e1 e2
  have a:=hh i i (by omega) (by omega)
  have b:=hh i j (by omega) (by omega)
  rw[decide_eq_true rfl] at a;rw[decide_eq_false (fun c=>n c.symm),<- e2,a] at b;cases b
 refine⟨cT.mpr fun i j hi hj lt=>ne i j hi hj (by omega),fun z hz=>?_⟩
 obtain⟨i,hi,rfl⟩:=aY hz;refine⟨?_,fun w hw n=>?_⟩
 ·rw[g i hi,mts_comm];show mts (gO one i) (gO other i)=false;rw[hh i i (by omega) (by omega),decide_eq_true rfl];rfl
 ·obtain⟨j,hj,rfl⟩:=aY hw;rw[g j hj,g i hi,mts_comm];show mts (gO one i) (gO other j)=true;rw[hh j i (by omega) (by omega),decide_eq_false (fun e=>n (by subst e;rfl))];rfl
theorem PZ_fst {zs:List (List Str × List Str)} (p:PZ zs):∀ z∈zs,∀ w∈zs,z.1=w.1->z=w:=fun z hz w hw e=>by
 refine bc fun n=>?_;have a:=(p.2 z hz).1;have b:=(p.2 z hz).2 w hw fun c=>n c.symm;rw[e,b] at a;cases a
theorem PZ_nd {zs:List (List Str × List Str)} (p:PZ zs):(zs.map (·.1)).Nodup :=
 bO.mpr (dI (fun {a b} ha hb n c=>n (PZ_fst p a ha b hb c)) p.1)
theorem turn_least {ts:List (List Str)} (hs:SrtT ts) {zs:List (List Str × List Str)} (hp:zs.Perm ((laM ts 5).2.zip (laM ts 5).1)) (hz:SrtT (zs.map (·.1))):lexG HT.lexS (zs.map (·.1)) (laM ts 5).1=false/\(zs.map (·.1)=(laM ts 5).1->lexG HT.lexS (zs.map (·.2)) (laM ts 5).2=false):=by
 have pz:=PZ_perm hp (PZ_acr laM_acr);have nd:=PZ_nd pz;have fl:=foL_len (laM_ok ts 5).2.2;have zl:zs.length=(laM ts 5).1.length:=by rw[hp.length_eq,fw];omega
 have as:∀ a b,HT.lexS a b=true->HT.lexS b a=false:=fun a b h=>HT.lexS_as h;have m1:∀ z∈zs,z.1∈ts/\z.2∈ts:=fun z h=>by
  have:=iC (hp.mem_iff.mp h)
  exact⟨laM_snd _ this.1,(laM_sub ts).subset this.2⟩
 have fit:∀ i (hi:i < zs.length),fitB (zs.map (·.1)) i zs[i].2=true:=fun i hi=>by
  have hi':i < (zs.map (·.1)).length:=by rw[ag];exact hi
  refine(fitB_iff nd hi').mpr ?_;rw[eA];obtain⟨a,b⟩:=pz.2 _ (cf hi);refine⟨a,fun y hy n=>?_⟩;obtain⟨w,hw,rfl⟩:=br.mp hy;exact b w hw fun e=>n (by rw[e])
 have ex:∃ r,foL ts (zs.map (·.1)) (zs.map (·.1)).length=some r:=foL_ex fun j hj=>by
  rw[ag] at hj;exact⟨_,(m1 _ (cf hj)).2,fit j hj⟩
 have sub:(zs.map (·.1)).Sublist ts:=by
  have e:zs.map (·.1)=ts.filter fun x=>(zs.map (·.1)).any fun y=>decide (y=x):=by
   refine SrtT.ext hz (hs.sublist fV) fun n=>?_;rw[dW];constructor
   ·intro h;obtain⟨z,hz',rfl⟩:=br.mp h;exact⟨(m1 z hz').1,List.any_eq_true.mpr ⟨_,h,decide_eq_true rfl⟩⟩
   ·rintro⟨_,h⟩;obtain⟨y,hy,e⟩:=List.any_eq_true.mp h;rw[<- of_decide_eq_true e];exact hy
  rw[e];exact fV
 have mc:=mem_ch sub;rw[ag,zl] at mc;constructor
 ·cases e:(laM ts 5).1.length with
  | zero =>
   have z0:zs=[]:=bz (by omega)
   rw[z0,bz e];rfl
  | succ k =>
   rw[e] at mc;rcases laF_first (ch_lex lexS_irr (k + 1) hs) (laM_laF e) _ mc ex with h | h
   ·rw[h];exact lexG_pt as rfl fun i _ _=>.inl rfl
   ·exact lexG_as as h
 ·intro e;have f:=(laM_ok ts 5).2.2;refine lexG_pt as (by rw[ag];omega) fun i h1 h2=>?_
  have h1':i < zs.length:=by rw[ag] at h1;exact h1
  rw[eA]
  have:=foL_at f i (by omega)
  rw[gO_at h2,<- e] at this;exact find_first hs this _ (m1 _ (cf h1')).2 (fit i h1')
def sp_law_turned:SpD:=fun ds S Q=>∃ p:List (List Str) × List (List Str),ds=[prD p]/\p.1.length=p.2.length/\p.1.length<=5/\p.2.Nodup/\∀ zs:List (List Str × List Str),zs.Perm (p.2.zip p.1)->SrtT (zs.map (·.1))->Q (prD (zs.map (·.1),zs.map (·.2))) S
def sp_law_right68:SpD:=fun ds S Q=>∃ ts:List (List Str),ds=[.tup (ts.map tupS),prD (laM ts 5)]/\SrtT ts/\ts.length<=14/\(∀ t∈ts,t.length<=99)/\Q (.bl true) S
end Toy
namespace L2
open PySem PySem.Spec PyProof.Rows
section
variable {prog:aB} {w:aN} {A:aO} {E:ad->ah->Prop} {s:ah} {z ti to j1 j2 t1 t2:Addr} {m:Nat} {us vs:Array ad} {p q:ad}
abbrev tiO (t:Addr):Obj:={ cls:=.type "tuple_iterator",data:=.fields #[.ref t,.int 0 0] }
abbrev zt2 (h:aS) (a b:Addr):aS:=(h.push (tiO a)).push (tiO b)
abbrev zt3 (h:aS) (a b:Addr):aS:=(zt2 h a b).push { cls:=.type "tuple",data:=.seq #[.ref h.objs.size,.ref (h.push (tiO a)).objs.size] }
abbrev zt4 (h:aS) (a b:Addr):aS:=(zt3 h a b).push { cls:=.type "tuple",data:=.seq #[.none,.none] }
abbrev zt5 (h:aS) (a b:Addr):aS:=(zt4 h a b).push { cls:=.type "zip",data:=.fields #[.none,.bool false,.bool false,.ref (zt2 h a b).objs.size,.ref (zt3 h a b).objs.size] }
theorem zt_new (a b:Addr) (us vs:Array ad):Meets (bC.«zip.__new__» ⟨[.type "zip",.ref a,.ref b],[]⟩) (fun _ R s=>(s.heap.IsTuple a us/\s.heap.IsTuple b vs)/\R (.ok (.ret (.ref (zt4 s.heap a b).objs.size))) { s with heap:=zt5 s.heap a b }) :=
 .of_wp fun prog w A R s z1=>by
  obtain⟨⟨b1,b2⟩,k⟩:=z1;obtain⟨hp,g,d,tk,os⟩:=s;have _sub:=sub_zip;have c1:iO (ah.heap ⟨hp,g,d,tk,os⟩) a us:=b1;have c2:iO (ah.heap ⟨hp.push (tiO a),g,d,tk,os⟩) b vs:=iO.at b2 fun o x=>af _ x
  wp_walk using eE c1,eE c2
  exact⟨_,rfl,k⟩
theorem zt_call {a b:Addr} {R:ad->ah->Prop} (b1:s.heap.IsTuple a us) (b2:s.heap.IsTuple b vs)
  (k:∀ h',IsZip h' (s.heap.objs.size + 4) (s.heap.objs.size + 2) (s.heap.objs.size + 3) .none->du h' (s.heap.objs.size + 2) (.ref s.heap.objs.size) (.ref (s.heap.objs.size + 1))->du h' (s.heap.objs.size + 3) .none .none ->
   h'.IsTupleIter s.heap.objs.size a 0->h'.IsTupleIter (s.heap.objs.size + 1) b 0->(∀ c o,s.heap.get? c=some o->h'.get? c=some o)->R (.ref (s.heap.objs.size + 4)) { s with heap:=h' }):aw (aA prog w) A (call (.type "zip") [.ref a,.ref b]) R E s:=by
 refine callType_new F.called_zip (by decide) (F.typeCall_zip_2 _ _) (F.newCall_zip_2 _ _) (fun obj=>F.args_object_init_3 obj _ _) F.entry_zip_new (zt_new a b us vs) ⟨⟨b1,b2⟩,?_⟩
 have up:∀ {h:aS} {o:Obj} {c:Addr} {x:Obj},h.get? c=some x->(h.push o).get? c=some x:=fun x=>af _ x;have s1:(s.heap.push (tiO a)).objs.size=s.heap.objs.size + 1:=bU ..;have s2:(zt2 s.heap a b).objs.size=s.heap.objs.size + 2:=by rw[bU,s1]
 have s3:(zt3 s.heap a b).objs.size=s.heap.objs.size + 3:=by rw[bU,s2]
 have s4:(zt4 s.heap a b).objs.size=s.heap.objs.size + 4:=by rw[bU,s3]
 have o5:(zt5 s.heap a b).get? (zt4 s.heap a b).objs.size=some _:=ao _ rfl;have o4:(zt5 s.heap a b).get? (zt3 s.heap a b).objs.size=some _:=up (ao _ rfl);have o3:(zt5 s.heap a b).get? (zt2 s.heap a b).objs.size=some _:=up (up (ao _ rfl));have o2:(zt5 s.heap a b).get? (s.heap.push (tiO a)).objs.size=some _:=up (up (up (ao _ rfl)));have o1:(zt5 s.heap a b).get? s.heap.objs.size=some _:=up (up (up (up (ao _ rfl))));show _/\_;rw[s2,s3,s4] at o5;rw[s1,s2] at o3;rw[s3] at o4;rw[s1] at o2;rw[s4];exact⟨⟨_,o5,rfl⟩,k _ o5 o3 o4 ⟨_,o1,rfl,rfl⟩ ⟨_,o2,rfl,rfl⟩ fun c o x=>up (up (up (up (up x))))⟩
end
abbrev itK (k:Bool) (h:aS) (j t:Addr) (m:Nat):Prop:=match k with
 | true=>h.IsListIter j t m
 | false=>h.IsTupleIter j t m
abbrev sqK (k:Bool) (h:aS) (t:Addr) (us:Array ad):Prop:=match k with
 | true=>h.IsList t us
 | false=>h.IsTuple t us
abbrev IsZb (h:aS) (z ti to:Addr) (f0:ad) (b:Bool):Prop:=h.get? z=some { cls:=.type "zip",dict:=none,data:=.fields #[f0,.bool b,.bool false,.ref ti,.ref to],slots:=#[] }
theorem itK.ext {k:Bool} {h h':aS} {j t c:Addr} {m:Nat} (e:itK k h j t m) (x:cB c h h') (n:j≠c):itK k h' j t m:=by
 cases k
 ·exact aS.IsTupleIter.extBut e x.extBut n
 ·exact aS.IsListIter.extBut e x.extBut n
theorem itK.at {k:Bool} {h h':aS} {j t:Addr} {m:Nat} (e:itK k h j t m) (x:∀ c o,h.get? c=some o->h'.get? c=some o):itK k h' j t m:=by
 cases k
 all_goals
  obtain⟨o,ho,r⟩:=e;exact⟨o,x _ o ho,r⟩
theorem itK.at2 {k:Bool} {h h':aS} {j t z:Addr} {m:Nat} (e:itK k h j t m) (n:j≠z) (x:∀ c o,c≠z->h.get? c=some o->h'.get? c=some o):itK k h' j t m:=by
 cases k
 all_goals
  obtain⟨o,ho,r⟩:=e;exact⟨o,x _ o n ho,r⟩
theorem sqK.ext {k:Bool} {h h':aS} {t c:Addr} {us:Array ad} (e:sqK k h t us) (x:cB c h h') (n:t≠c):sqK k h' t us:=by
 cases k
 ·exact iO.extBut e x.extBut n
 ·exact aS.IsList.extBut e x.extBut n
section
variable {prog:aB} {w:aN} {A:aO} {E:ad->ah->Prop} {s:ah} {z ti to j1 j2 t1 t2 T:Addr} {m:Nat} {us vs:Array ad} {p q:ad} {k1 k2:Bool}
theorem nxK_item {k:Bool} {j t:Addr} {x:ad} {Q:ad->ah->Prop} (hit:itK k s.heap j t m) (ht:sqK k s.heap t us) (hx:us[m]?=some x)
  (hQ:∀ h',itK k h' j t (m + 1)->cB j s.heap h'->Q x { s with heap:=h' }):aw (aA prog w) A (aT (.ref j)) Q E s:=by
 cases k
 ·exact nx_item hit ht hx hQ
 ·exact wpAny_nextOf_list_item hit ht hx hQ
theorem nxK_end {k:Bool} {j t:Addr} {Q:ad->ah->Prop} (hh:A.handled=none) (hit:itK k s.heap j t m) (ht:sqK k s.heap t us) (hx:us[m]?=none)
  (hE:∀ h' e,aS.ExtBut j s.heap h'->(∃ o,h'.get? e=some o/\o.cls=.type "StopIteration")->E (.ref e) { s with heap:=h' }):aw (aA prog w) A (aT (.ref j)) Q E s:=by
 cases k
 ·exact nx_end hh hit ht hx hE
 ·exact wpAny_nextOf_list_end hh hit ht hx hE
theorem own_out {K:Bool->ah->Prop} {oT:Obj} {b:Bool} (g:IsZb s.heap z ti to (dz T) b) (gT:s.heap.get? T=some oT)
  (k:∀ ha,IsZb ha z ti to (dz T) true->cB z s.heap ha->K false { s with heap:=ha }):aw (aA prog w) A (bf (.ref z)) K E s:=by
 unfold bf;refine aa (bT g rfl (x:=dz T) rfl ?_);show aw _ _ (loadIfAlive ((T:Int).toNat) >>= _) _ _ _;rw[bF];refine aa (PySem.W.kdx_alive gT ?_);simp only[Option.isNone_some,aE,if_false];refine aa (bT g rfl (x:=.bool b) rfl ?_);cases b with
 | true =>
  rw[if_neg (show ¬ ((fG true != fG true)=true) from bR)]
  exact ae (k s.heap g (jt _ _))
 | false =>
  rw[if_pos (show(fG false != fG true)=true from rfl)]
  exact aa (bi g (by simp) fun ha ga sa=>ae (k ha ga sa))
theorem zc_item {u v:ad} {R:ad->ah->Prop} {oT:Obj} {b:Bool} (ap:gk z ti to j1 j2 t1 t2) (g:IsZb s.heap z ti to (dz T) b) (gT:s.heap.get? T=some oT) (gi:du s.heap ti (.ref j1) (.ref j2))
  (e1:itK k1 s.heap j1 t1 m) (e2:itK k2 s.heap j2 t2 m) (b1:sqK k1 s.heap t1 us) (b2:sqK k2 s.heap t2 vs) (hu:us[m]?=some u) (hv:vs[m]?=some v)
  (k:∀ h',IsZb h' z ti to (dz T) true->itK k1 h' j1 t1 (m + 1)->itK k2 h' j2 t2 (m + 1)->du h' s.heap.objs.size u v ->
   (∀ c o,c≠z->c≠j1->c≠j2->s.heap.get? c=some o->h'.get? c=some o)->R (.ref s.heap.objs.size) { s with heap:=h' }) :
  aw (aA prog w) A (bC.«zip.__next__» ⟨[.ref z],[]⟩) (fun f s'=>∃ y,f=.done (.ret y)/\R y s') E s:=by
 refine aa (m:=jH (.ref z) 2) (bT g rfl (x:=.bool false) rfl (aa (m:=jH (.ref z) 3) (bT g rfl (x:=.ref ti) rfl (aa (cg gi rfl ?_)))));refine aa (m:=bf (.ref z)) (own_out g gT fun ha ga sa=>?_);simp only[aE,if_false];refine aa ?_;simp only[List.forIn_toArray,dy,gN];refine aa (aa (aW (aa (m:=aT (.ref j1)) (nxK_item (e1.ext sa ap.i1z) (b1.ext sa ap.l1z) hu fun hb eb sb=>ae ?_))));refine ae (aa (aa (aW (aa (m:=aT (.ref j2)) (nxK_item ((e2.ext sa ap.i2z).ext sb ap.i12.symm) ((b2.ext sa ap.l2z).ext sb ap.l2i1) hv fun hd ed sd=>ae (ae (ae ?_)))))));refine aa (je (hsz:=by rw[bn];show 2<=_;decide) (ae ⟨_,rfl,?_⟩))
 have size:hd.objs.size=s.heap.objs.size:=sd.1.trans (sb.1.trans sa.1);have up:∀ c o,hd.get? c=some o->(hd.push { cls:=.type "tuple",data:=.seq #[u,v] }).get? c=some o:=fun c o x=>af _ x;have new:du (hd.push { cls:=.type "tuple",data:=.seq #[u,v] }) hd.objs.size u v:=ao _ rfl;show R (.ref hd.objs.size) _;rw[size] at new ⊢;exact k _ (up _ _ (sd.extBut _ _ ap.i2z.symm (sb.extBut _ _ ap.i1z.symm ga))) ((eb.ext sd ap.i12).at up) (ed.at up) new fun c o n1 n2 n3 x=>up _ _ (sd.extBut _ _ n3 (sb.extBut _ _ n2 (sa.extBut _ _ n1 x)))
theorem zc_end {R:Fin->ah->Prop} {oT:Obj} {b:Bool} (hh:A.handled=none) (ap:gk z ti to j1 j2 t1 t2) (g:IsZb s.heap z ti to (dz T) b) (gT:s.heap.get? T=some oT) (gi:du s.heap ti (.ref j1) (.ref j2))
  (e1:itK k1 s.heap j1 t1 m) (e2:itK k2 s.heap j2 t2 m) (b1:sqK k1 s.heap t1 us) (b2:sqK k2 s.heap t2 vs) (no:us[m]?=none\/vs[m]?=none)
  (k:∀ h' e,(∀ c o,c≠z->c≠to->c≠j1->c≠j2->s.heap.get? c=some o->h'.get? c=some o)->(∃ o,h'.get? e=some o/\o.cls=.type "StopIteration")->E (.ref e) { s with heap:=h' }) :
  aw (aA prog w) A (bC.«zip.__next__» ⟨[.ref z],[]⟩) R E s:=by
 refine aa (m:=jH (.ref z) 2) (bT g rfl (x:=.bool false) rfl (aa (m:=jH (.ref z) 3) (bT g rfl (x:=.ref ti) rfl (aa (cg gi rfl ?_)))));refine aa (m:=bf (.ref z)) (own_out g gT fun ha ga sa=>?_);simp only[aE,if_false];refine aa ?_;simp only[List.forIn_toArray,dy,gN];cases hu:us[m]? with
 | none =>
  exact aa (aa (aW (aa (m:=aT (.ref j1)) (nxK_end hh (e1.ext sa ap.i1z) (b1.ext sa ap.l1z) hu fun hb e sb ex=>k hb e (fun c o n1 _ n3 _ x=>sb _ _ n3 (sa.extBut _ _ n1 x)) ex))))
 | some u =>
  have hv:vs[m]?=none:=no.elim (fun x=>by rw[hu] at x;cases x) id
  refine aa (aa (aW (aa (m:=aT (.ref j1)) (nxK_item (e1.ext sa ap.i1z) (b1.ext sa ap.l1z) hu fun hb eb sb=>ae ?_))));exact ae (aa (aa (aW (aa (m:=aT (.ref j2)) (nxK_end hh ((e2.ext sa ap.i2z).ext sb ap.i12.symm) ((b2.ext sa ap.l2z).ext sb ap.l2i1) hv fun hd e sd ex=>k hd e (fun c o n1 _ n3 n4 x=>sd _ _ n4 (sb.extBut _ _ n3 (sa.extBut _ _ n1 x))) ex)))))
theorem zg_item {u v:ad} {R:ad->ah->Prop} (ap:gk z ti to j1 j2 t1 t2) (g:IsZb s.heap z ti to .none false) (gi:du s.heap ti (.ref j1) (.ref j2)) (go:du s.heap to p q)
  (e1:itK k1 s.heap j1 t1 m) (e2:itK k2 s.heap j2 t2 m) (b1:sqK k1 s.heap t1 us) (b2:sqK k2 s.heap t2 vs) (hu:us[m]?=some u) (hv:vs[m]?=some v)
  (k:∀ h',IsZb h' z ti to (dz s.heap.objs.size) false->itK k1 h' j1 t1 (m + 1)->itK k2 h' j2 t2 (m + 1)->du h' s.heap.objs.size u v ->
   (∀ c o,c≠z->c≠to->c≠j1->c≠j2->s.heap.get? c=some o->h'.get? c=some o)->R (.ref s.heap.objs.size) { s with heap:=h' }) :
  aw (aA prog w) A (bC.«zip.__next__» ⟨[.ref z],[]⟩) (fun f s'=>∃ y,f=.done (.ret y)/\R y s') E s:=by
 refine aa (m:=jH (.ref z) 2) (bT g rfl (x:=.bool false) rfl (aa (m:=jH (.ref z) 3) (bT g rfl (x:=.ref ti) rfl (aa (cg gi rfl ?_)))));refine aa (m:=bf (.ref z)) ?_;unfold bf;refine aa (bT g rfl (x:=.none) rfl (ae ?_));simp only[if_true];refine aa (dH (aa (bT g rfl (x:=.ref to) rfl (aa (bi g (by simp) fun ha ga sa=>?_)))))
 have ga':IsZb ha z ti to .ellipsis false:=ga;refine aa ?_;simp only[List.zipIdx_cons,List.zipIdx_nil,dy,gN];refine aa (aa (iq (aa (m:=aT (.ref j1)) (nxK_item (e1.ext sa ap.i1z) (b1.ext sa ap.l1z) hu fun hb eb sb=>ae ?_))));have ob:du hb to p q:=sb.extBut _ _ ap.TOi1 (sa.extBut _ _ ap.TOz go);refine aa (cg ob rfl (aa (iA ob fun hc oc sc=>aa (wpAny_letGo (ae ?_)))));have oc':du hc to u q:=oc;refine aa (aa (iq (aa (m:=aT (.ref j2)) (nxK_item (((e2.ext sa ap.i2z).ext sb ap.i12.symm).ext sc ap.TOi2.symm) (((b2.ext sa ap.l2z).ext sb ap.l2i1).ext sc ap.l2TO) hv fun hd ed sd=>ae ?_))));have od:du hd to u q:=sd.extBut _ _ ap.TOi2 oc';refine aa (cg od rfl (aa (iA od fun he oe se=>aa (wpAny_letGo (ae (ae ?_))))));have oe':du he to u v:=oe;refine aa (cg oe' rfl (aa (je ?_)));have size:he.objs.size=s.heap.objs.size:=se.1.trans (sd.1.trans (sc.1.trans (sb.1.trans sa.1)));have ge:IsZb he z ti to .ellipsis false:=se.extBut _ _ ap.TOz.symm (sd.extBut _ _ ap.i2z.symm (sc.extBut _ _ ap.TOz.symm (sb.extBut _ _ ap.i1z.symm ga')));have stay:∀ c o,c≠z->c≠to->c≠j1->c≠j2->s.heap.get? c=some o->he.get? c=some o:=fun c o n1 n2 n3 n4 x=>se.extBut _ _ n2 (sd.extBut _ _ n4 (sc.extBut _ _ n2 (sb.extBut _ _ n3 (sa.extBut _ _ n1 x))));have f1:itK k1 he j1 t1 (m + 1):=((eb.ext sc ap.TOi1.symm).ext sd ap.i12).ext se ap.TOi1.symm;have f2:itK k2 he j2 t2 (m + 1):=ed.ext se ap.TOi2.symm;have zl:z < he.objs.size:=aq ge;refine aa (m:=fW (.ref z) (.ref he.objs.size)) ?_;unfold fW;have gf:IsZb (he.push { cls:=.type "tuple",data:=.seq #[u,v] }) z ti to .ellipsis false:=af _ ge;refine aa (bi gf (by simp) fun hg gg sg=>?_)
 have gg':IsZb hg z ti to (dz he.objs.size) false:=gg;refine bi gg' (by simp) fun hh gh sh=>?_
 have gh':IsZb hh z ti to (dz he.objs.size) false:=gh;have lift:∀ c o,c≠z->he.get? c=some o->hh.get? c=some o:=fun c o n x=>sh.extBut _ _ n (sg.extBut _ _ n (af _ x));have new:du hh he.objs.size u v:=sh.extBut _ _ (bX zl) (sg.extBut _ _ (bX zl) (ao _ rfl));rw[size] at gh' new;refine ae ⟨_,rfl,?_⟩;show R (.ref he.objs.size) _;rw[size];exact k hh gh' (f1.at2 ap.i1z lift) (f2.at2 ap.i2z lift) new fun c o n1 n2 n3 n4 x=>lift c o n1 (stay c o n1 n2 n3 n4 x)
theorem zg_end {R:Fin->ah->Prop} (hh:A.handled=none) (ap:gk z ti to j1 j2 t1 t2) (g:IsZb s.heap z ti to .none false) (gi:du s.heap ti (.ref j1) (.ref j2)) (go:du s.heap to p q)
  (e1:itK k1 s.heap j1 t1 m) (e2:itK k2 s.heap j2 t2 m) (b1:sqK k1 s.heap t1 us) (b2:sqK k2 s.heap t2 vs) (no:us[m]?=none\/vs[m]?=none)
  (k:∀ h' e,(∀ c o,c≠z->c≠to->c≠j1->c≠j2->s.heap.get? c=some o->h'.get? c=some o)->(∃ o,h'.get? e=some o/\o.cls=.type "StopIteration")->E (.ref e) { s with heap:=h' }) :
  aw (aA prog w) A (bC.«zip.__next__» ⟨[.ref z],[]⟩) R E s:=by
 refine aa (m:=jH (.ref z) 2) (bT g rfl (x:=.bool false) rfl (aa (m:=jH (.ref z) 3) (bT g rfl (x:=.ref ti) rfl (aa (cg gi rfl ?_)))));refine aa (m:=bf (.ref z)) ?_;unfold bf;refine aa (bT g rfl (x:=.none) rfl (ae ?_));simp only[if_true];refine aa (dH (aa (bT g rfl (x:=.ref to) rfl (aa (bi g (by simp) fun ha ga sa=>?_)))))
 have ga':IsZb ha z ti to .ellipsis false:=ga;refine aa ?_;simp only[List.zipIdx_cons,List.zipIdx_nil,dy,gN];have last:∀ (h2:aS) (e:Addr),IsZb h2 z ti to .ellipsis false->(∀ c o,c≠z->c≠to->c≠j1->c≠j2->s.heap.get? c=some o->h2.get? c=some o)->(∃ o,h2.get? e=some o/\o.cls=.type "StopIteration")->∀ h3,cB z h2 h3->E (.ref e) { s with heap:=h3 }:=fun h2 e g2 st ⟨o,ho,hc⟩ h3 s3 =>
  have ne:e≠z:=fun x=>by subst x;rw[g2] at ho;cases ho;simp at hc
  k h3 e (fun c o n1 n2 n3 n4 x=>s3.extBut _ _ n1 (st c o n1 n2 n3 n4 x)) ⟨o,s3.extBut _ _ ne ho,hc⟩
 cases hu:us[m]? with
 | none =>
  refine aa (aa (iq (aa (m:=aT (.ref j1)) (nxK_end hh (e1.ext sa ap.i1z) (b1.ext sa ap.l1z) hu fun hb e sb ex=>?_))));have gb:IsZb hb z ti to .ellipsis false:=sb _ _ ap.i1z.symm ga';exact bi gb (by simp) fun hc _ sc=>last hb e gb (fun c o n1 _ n3 _ x=>sb _ _ n3 (sa.extBut _ _ n1 x)) ex hc sc
 | some u =>
  have hv:vs[m]?=none:=no.elim (fun x=>by rw[hu] at x;cases x) id
  refine aa (aa (iq (aa (m:=aT (.ref j1)) (nxK_item (e1.ext sa ap.i1z) (b1.ext sa ap.l1z) hu fun hb eb sb=>ae ?_))));have ob:du hb to p q:=sb.extBut _ _ ap.TOi1 (sa.extBut _ _ ap.TOz go);refine aa (cg ob rfl (aa (iA ob fun hc oc sc=>aa (wpAny_letGo (ae ?_)))));refine aa (aa (iq (aa (m:=aT (.ref j2)) (nxK_end hh (((e2.ext sa ap.i2z).ext sb ap.i12.symm).ext sc ap.TOi2.symm) (((b2.ext sa ap.l2z).ext sb ap.l2i1).ext sc ap.l2TO) hv fun hd e sd ex=>?_))));have gd:IsZb hd z ti to .ellipsis false:=sd _ _ ap.i2z.symm (sc.extBut _ _ ap.TOz.symm (sb.extBut _ _ ap.i1z.symm ga'));exact bi gd (by simp) fun he _ se=>last hd e gd (fun c o n1 n2 n3 n4 x=>sd _ _ n4 (sc.extBut _ _ n2 (sb.extBut _ _ n3 (sa.extBut _ _ n1 x)))) ex he se
end
end L2
set_option maxHeartbeats 2000000
namespace PySem
namespace F
theorem zk_ga:entryFor table "zip.__getattribute__" = some bC.«object.__getattribute__» :=
 entryFor_alias (id' := "object.__getattribute__") (by kernel_rfl) (by first | rfl | decide +kernel) (by decide +kernel) (by kernel_rfl)
theorem zk_keys:hX (.type "zip") "keys" = pure none:=by
 rw[fu,dF];kernel_rfl
theorem zk_hook:hX (.type "zip") "__getattr__" = pure none:=by
 rw[fu,dF];kernel_rfl
end F
theorem zk_meets (z:Addr) (fs:Array ad) (u:Tok):Meets (bC.«object.__getattribute__» ⟨[.ref z,.str "keys" u],[]⟩) (fun A R s =>
  s.heap.get? z=some { cls:=.type "zip",dict:=none,data:=.fields fs,slots:=#[] }/\raisesAttr (.ref z) "keys" A R s):=by
 refine .of_wp fun prog w A R s hs=>?_;obtain⟨h,g,d,t,os⟩:=s;obtain⟨hz,hr⟩:=hs;have ty:(⟨h,g,d,t,os⟩:ah).TypeIs (.ref z) "zip":=⟨_,hz,rfl⟩;have f4:=F.zk_keys;unfold bC.«object.__getattribute__»
 repeat (any_goals (first | assumption | wp_step))
 exact wpAny_raiseAttrError hr.1 hr.2 (attrMsg_fits (by decide +kernel) (by size_fits))
theorem zk_none {prog:aB} {w:aN} {A:aO} {E:ad->ah->Prop} {s:ah} {z:Addr} {fs:Array ad} {Q:Option ad->ah->Prop} (hA:A.handled=none)
  (hz:s.heap.get? z=some { cls:=.type "zip",dict:=none,data:=.fields fs,slots:=#[] })
  (q:∀ h' tk,(∀ b o,s.heap.get? b=some o->h'.get? b=some o)->Q none { s with heap:=h',toks:=tk }):aw (aA prog w) A (getAttr? (.ref z) "keys") Q E s:=by
 obtain⟨h,g,d,t,os⟩:=s;have ty:∀ t',(⟨h,g,d,t',os⟩:ah).TypeIs (.ref z) "zip":=fun _=>⟨_,hz,rfl⟩;have f1:=sub_AttributeError;have f3:=F.slot_zip_getattribute.lookup;have f4:=F.slot_zip_getattribute.bind (.ref z);have f5:=F.zk_hook;unfold getAttr? getAttrBy? getAttrBy
 repeat (any_goals (first | assumption | exact ty _ | ((with_reducible show aw _ _ (call (ad.builtin "zip.__getattribute__") _ _) _ _ _);refine gz F.slot_zip_getattribute (ty _) F.zk_ga (F.args_zip_getattribute_2 _ _) (zk_meets z fs _) ⟨hz,by simp[hA],fun h' tk e hx=>?_⟩) | wp_step))
 obtain⟨t',u',he⟩:=hx.there;show aw _ _ (getattributeRaised _ _ _ _ _ _ _) _ _ _;unfold getattributeRaised
 repeat (any_goals (first | assumption | wp_step))
 exact q _ _ hx.keeps
end PySem
namespace L2
open PySem PySem.Spec PyProof.Rows
theorem zk_entry:entryFor table "dict.update.loop" = some bC.«dict.update.loop»:=entryFor_of_tree (by kernel_rfl)
theorem zk_plain:plainId "dict.update.loop" = true:=by decide +kernel
structure ZsK (z ti to j1 j2 t1 t2 d:Addr) (k1 k2:Bool) (us vs:Array ad) (i:Nat) (h:aS):Prop where
 pr:du h ti (.ref j1) (.ref j2)
 e1:itK k1 h j1 t1 i
 e2:itK k2 h j2 t2 i
 b1:sqK k1 h t1 us
 b2:sqK k2 h t2 vs
 st:(IsZb h z ti to .none false/\∃ p q,du h to p q)\/∃ (T:Addr) (b:Bool) (oT:Obj),IsZb h z ti to (dz T) b/\h.get? T=some oT/\T≠z/\T≠to/\T≠j1/\T≠j2/\T≠d
theorem sqK.at {k:Bool} {h h':aS} {t:Addr} {us:Array ad} (e:sqK k h t us) (x:∀ o,h.get? t=some o->h'.get? t=some o):sqK k h' t us:=by
 cases k
 all_goals
  obtain⟨o,ho,r⟩:=e;exact⟨o,x o ho,r⟩
section
variable {prog:aB} {w:aN} {A:aO} {E:ad->ah->Prop} {s:ah} {z ti to j1 j2 t1 t2 d:Addr} {i:Nat} {us vs:Array ad} {k1 k2:Bool}
theorem ZsK.ty (st:ZsK z ti to j1 j2 t1 t2 d k1 k2 us vs i s.heap):s.TypeIs (.ref z) "zip":=by
 rcases st.st with⟨g,_⟩ | ⟨_,_,_,g,_⟩
 ·exact⟨_,g,rfl⟩
 ·exact⟨_,g,rfl⟩
theorem zk_next {u v:ad} {R:Option ad->ah->Prop} (ap:gk z ti to j1 j2 t1 t2) (dl:d < s.heap.objs.size) (st:ZsK z ti to j1 j2 t1 t2 d k1 k2 us vs i s.heap) (hu:us[i]?=some u) (hv:vs[i]?=some v)
  (k:∀ h',ZsK z ti to j1 j2 t1 t2 d k1 k2 us vs (i + 1) h'->du h' s.heap.objs.size u v->(∀ c o,c≠z->c≠to->c≠j1->c≠j2->s.heap.get? c=some o->h'.get? c=some o)->R (some (.ref s.heap.objs.size)) { s with heap:=h' }) :
  aw (aA prog w) A (e6 (.ref z)) R E s:=by
 have ty:=st.ty;have lj1:j1 < s.heap.objs.size:=by
  have:=st.e1
  cases k1 <;> (obtain⟨o,ho,_⟩:=this;exact aq ho)
 have lj2:j2 < s.heap.objs.size:=by
  have:=st.e2
  cases k2 <;> (obtain⟨o,ho,_⟩:=this;exact aq ho)
 have body:aw (aA prog w) A.in1 (bC.«zip.__next__» ⟨[.ref z],[]⟩) (fun f s'=>∃ y,f=.done (.ret y)/\R (some y) s') (fun e s'=>False) s:=by
  rcases st.st with⟨g,p,q,go⟩ | ⟨T,b,oT,g,gT,n1,n2,n3,n4,n5⟩
  ·have lto:to < s.heap.objs.size:=aq go;have lz:z < s.heap.objs.size:=aq g;refine zg_item ap g st.pr go st.e1 st.e2 st.b1 st.b2 hu hv fun h' x1 x2 x3 x4 x5=>k h' ⟨x5 _ _ ap.TIz ap.TITO ap.TIi1 ap.TIi2 st.pr,x2,x3,st.b1.at fun o=>x5 _ o ap.l1z ap.l1TO ap.l1i1 ap.l1i2,st.b2.at fun o=>x5 _ o ap.l2z ap.l2TO ap.l2i1 ap.l2i2,.inr ⟨_,_,_,x1,x4,bX lz,bX lto,bX lj1,bX lj2,bX dl⟩⟩ x4 x5
  ·refine zc_item ap g gT st.pr st.e1 st.e2 st.b1 st.b2 hu hv fun h' x1 x2 x3 x4 x5=>k h' ⟨x5 _ _ ap.TIz ap.TIi1 ap.TIi2 st.pr,x2,x3,st.b1.at fun o=>x5 _ o ap.l1z ap.l1i1 ap.l1i2,st.b2.at fun o=>x5 _ o ap.l2z ap.l2i1 ap.l2i2,.inr ⟨_,_,_,x1,x5 _ _ n1 n3 n4 gT,n1,n2,n3,n4,n5⟩⟩ x4 fun c o m1 _ m3 m4=>x5 c o m1 m3 m4
 exact aa (f7 (b7 (name:=aJ "__next__") ty F.slot_zip_next (b4 F.slot_zip_next ty F.entry_zip_next (cH body (fun f s' ⟨y,e,r⟩=>⟨y,e,ae r⟩) fun _ _ z=>z.elim) (F.args_zip_next_1 _))))
theorem zk_stop {R:Option ad->ah->Prop} (hh:A.handled=none) (ap:gk z ti to j1 j2 t1 t2) (st:ZsK z ti to j1 j2 t1 t2 d k1 k2 us vs i s.heap) (no:us[i]?=none\/vs[i]?=none)
  (k:∀ h',(∀ c o,c≠z->c≠to->c≠j1->c≠j2->s.heap.get? c=some o->h'.get? c=some o)->R none { s with heap:=h' }):aw (aA prog w) A (e6 (.ref z)) R E s:=by
 have ty:=st.ty;have body:aw (aA prog w) A.in1 (bC.«zip.__next__» ⟨[.ref z],[]⟩) (fun f s'=>False) (fun e s'=>∃ e' h',e=.ref e'/\s'={ s with heap:=h' }/\(∀ c o,c≠z->c≠to->c≠j1->c≠j2->s.heap.get? c=some o->h'.get? c=some o)/\∃ o,h'.get? e'=some o/\o.cls=.type "StopIteration") s:=by
  rcases st.st with⟨g,p,q,go⟩ | ⟨T,b,oT,g,gT,_⟩
  ·exact zg_end (by simp[hh]) ap g st.pr go st.e1 st.e2 st.b1 st.b2 no fun h' e x y=>⟨e,h',rfl,rfl,x,y⟩
  ·exact zc_end (by simp[hh]) ap g gT st.pr st.e1 st.e2 st.b1 st.b2 no fun h' e x y=>⟨e,h',rfl,rfl,x,y⟩
 refine aa (f7 (b7 (name:=aJ "__next__") ty F.slot_zip_next (b4 F.slot_zip_next ty F.entry_zip_next (cH body (fun _ _ z=>z.elim) fun e s' ⟨e',h',x1,x2,x3,o,x4,x5⟩=>?_) (F.args_zip_next_1 _))));subst x1 x2;exact aa (fQ (T := "StopIteration") (b:=true) ⟨o,x4,x5⟩ ja (ae (k _ x3)))
theorem dz_loop {L:List (Key × ad)} (hh:A.handled=none) (ap:gk z ti to j1 j2 t1 t2) (dn:d≠z/\d≠ti/\d≠to/\d≠j1/\d≠j2/\d≠t1/\d≠t2) (hL:∀ (j:Nat) (u v:ad),us[j]?=some u->vs[j]?=some v->∃ k,L[j]?=some (k,v)/\(mixKind prog w).is k u=true) (hn:∀ (j:Nat),us[j]?=none\/vs[j]?=none->L.length<=j) {R:Result->ah->Prop} :
  ∀ (n i:Nat) (s:ah) (kvs:List (Key × ad)),L.length - i=n->ZsK z ti to j1 j2 t1 t2 d k1 k2 us vs i s.heap->s.heap.DictOf (mixKind prog w) d kvs->kvs.length + n<=sizeLine ->
  (∀ h' tk,h'.DictOf (mixKind prog w) d ((L.drop i).foldl (fun m p=>stored m p.1 p.2) kvs)->(∀ c o,c≠z->c≠to->c≠j1->c≠j2->c≠d->s.heap.get? c=some o->h'.get? c=some o)->R (.ok (.ret .none)) { s with heap:=h',toks:=tk }) ->
  ij (aA prog w) A (.builtin "dict.update.loop" ⟨[.ref d,.ref z,dz i,.none],[]⟩) R s:=by
 intro n
 induction n with
 | zero =>
  intro i s kvs hi st hd hz hR;refine bv zk_entry ?_;rw[aZ zk_plain _];show aw _ A.in1 (e6 (.ref z) >>= _) _ _ s;have no:us[i]?=none\/vs[i]?=none:=by
   cases hu:us[i]? with
   | none=>exact .inl rfl
   | some u =>
    cases hv:vs[i]? with
    | none=>exact .inr rfl
    | some v =>
     obtain⟨k,e,_⟩:=hL i u v hu hv
     have:=(aH.mp e).1
     omega
  refine aa (zk_stop (by simp[hh]) ap st no fun h' x=>aa (ae (ae ?_)))
  have e:=hR h' s.toks;rw[d7 (by omega)] at e
  refine e ?_ fun c o n1 n2 n3 n4 _=>x c o n1 n2 n3 n4;obtain⟨o,es,ep,ho,r⟩:=hd;exact⟨o,es,ep,x d o dn.1 dn.2.2.1 dn.2.2.2.1 dn.2.2.2.2.1 ho,r⟩
 | succ n ih =>
  intro i s kvs hi st hd hz hR;refine bv zk_entry ?_;rw[aZ zk_plain _];show aw _ A.in1 (e6 (.ref z) >>= _) _ _ s;obtain⟨u,hu⟩:∃ u,us[i]?=some u:=by
   cases hu:us[i]? with
   | none=>have:=hn i (.inl hu);omega
   | some u=>exact⟨u,rfl⟩
  obtain⟨v,hv⟩:∃ v,vs[i]?=some v:=by
   cases hv:vs[i]? with
   | none=>have:=hn i (.inr hv);omega
   | some v=>exact⟨v,rfl⟩
  obtain⟨k,hk,his⟩:=hL i u v hu hv;have dl:d < s.heap.objs.size:=by obtain⟨o,es,ep,ho,_⟩:=hd;exact aq ho
  refine aa (zk_next ap dl st hu hv fun h1 st1 pr x=>?_);have hd1:h1.DictOf (mixKind prog w) d kvs:=by
   obtain⟨o,es,ep,ho,r⟩:=hd;exact⟨o,es,ep,x d o dn.1 dn.2.2.1 dn.2.2.2.1 dn.2.2.2.2.1 ho,r⟩
  refine aa (aW ?_);have ty:ip { s with heap:=h1 } (.ref s.heap.objs.size) "tuple":=⟨_,pr,rfl⟩
  refine aa (wpAny_tryCatch ?_);unfold bC.Dict.pairItems;refine aa (eQ ty ?_);rw[if_pos (by decide)]
  refine aa (cg pr rfl (ae ?_));show aw _ A.in1 (gH [u,v] (dictSet d u v)) _ _ _;refine aW (wpAny_dictSet_pairs his hd1 (fun h2 hd2 sb=>ae ⟨cQ zk_plain _,?_⟩) (by omega))
  have st2:ZsK z ti to j1 j2 t1 t2 d k1 k2 us vs (i + 1) h2:=⟨sb.extBut _ _ dn.2.1.symm st1.pr,st1.e1.ext sb dn.2.2.2.1.symm,st1.e2.ext sb dn.2.2.2.2.1.symm,st1.b1.ext sb dn.2.2.2.2.2.1.symm,st1.b2.ext sb dn.2.2.2.2.2.2.symm,by
   rcases st1.st with⟨g,p,q,go⟩ | ⟨T,b,oT,g,gT,n1,n2,n3,n4,n5⟩
   ·exact .inl ⟨sb.extBut _ _ dn.1.symm g,p,q,sb.extBut _ _ dn.2.2.1.symm go⟩
   ·exact .inr ⟨T,b,oT,sb.extBut _ _ dn.1.symm g,sb.extBut _ _ n5 gT,n1,n2,n3,n4,n5⟩⟩
  have le:i < L.length:=by omega
  refine ih (i + 1) _ (stored kvs k v) (by omega) st2 hd2 (by have:=stored_length_le kvs k v;omega) fun h' tk e y=>hR h' tk ?_ fun c o n1 n2 n3 n4 n5 g=>y c o n1 n2 n3 n4 n5 (sb.extBut _ _ n5 (x c o n1 n2 n3 n4 g))
  rw[cU le];have ee:L[i]=(k,v):=by
   rw[ai le] at hk;exact aL hk
  rw[ee];exact e
theorem dz_call {L:List (Key × ad)} {p q:ad} {Q:ad->ah->Prop} (hh:A.handled=none) (ap:gk z ti to j1 j2 t1 t2) (g:IsZb s.heap z ti to .none false) (go:du s.heap to p q) (gi:du s.heap ti (.ref j1) (.ref j2)) (e1:itK k1 s.heap j1 t1 0) (e2:itK k2 s.heap j2 t2 0) (b1:sqK k1 s.heap t1 us) (b2:sqK k2 s.heap t2 vs)
  (hL:∀ (j:Nat) (u v:ad),us[j]?=some u->vs[j]?=some v->∃ k,L[j]?=some (k,v)/\(mixKind prog w).is k u=true) (hn:∀ (j:Nat),us[j]?=none\/vs[j]?=none->L.length<=j) (hz:L.length<=sizeLine)
  (k:∀ h' tk d,s.heap.objs.size<=d->h'.DictOf (mixKind prog w) d (L.foldl (fun m p=>stored m p.1 p.2) [])->(∀ c o,c≠z->c≠to->c≠j1->c≠j2->s.heap.get? c=some o->h'.get? c=some o)->Q (.ref d) { s with heap:=h',toks:=tk }) :
  aw (aA prog w) A (call (.type "dict") [.ref z]) Q E s:=by
 refine callType_codes (Q₁:=fun obj s1=>obj=.ref s.heap.objs.size/\s1={ s with heap:=s.heap.push { cls:=.type "dict",data:=.dict #[] } }) F.kt_called_dict (F.kt_typeCall_dict_1 _) F.entry_dict_init (kt_code_dict_new _ ⟨rfl,rfl⟩) ?_
 rintro obj s1 ⟨rfl,rfl⟩;have new:(s.heap.push { cls:=.type "dict",data:=.dict #[] }).DictOf (mixKind prog w) s.heap.objs.size []:=aS.DictOf.new s.heap;refine⟨new.typeIs,F.args_dict_init_2 _ _,?_⟩;unfold bC.«dict.__init__» bC.Dict.selfAndRest;refine aa (aa (wpAny_notOrdered_dict new.typeIs ?_));refine ae ?_;have up:∀ c o,s.heap.get? c=some o->(s.heap.push { cls:=.type "dict",data:=.dict #[] }).get? c=some o:=fun c o x=>af _ x;show aw _ _ (jQ "dict.__init__" s.heap.objs.size (.ref z) [] .none) _ _ _;unfold jQ;have ty:ip { s with heap:=s.heap.push { cls:=.type "dict",data:=.dict #[] } } (.ref z) "zip":=⟨_,up _ _ g,rfl⟩
 refine aa (eQ ty ?_);rw[if_pos (by decide)]
 refine aa (zk_none (by simp[hh]) (up _ _ g) fun h1 tk x=>?_)
 rw[if_pos (show(none:Option ad).isNone=true from rfl)]
 have kp:∀ c o,s.heap.get? c=some o->h1.get? c=some o:=fun c o e=>x c o (up c o e);refine aa (dH (aa (wpAny_pyIter_zip (kp _ _ g) ?_)));have nd:∀ c o,s.heap.get? c=some o->s.heap.objs.size≠c:=fun c o e=>bX (aq e);have ej:∀ {k:Bool} {j t:Addr} {m:Nat},itK k s.heap j t m->s.heap.objs.size≠j:=fun {k j t m} e=>by
  cases k <;> (obtain⟨o,ho,_⟩:=e;exact nd _ _ ho)
 have es:∀ {k:Bool} {t:Addr} {us:Array ad},sqK k s.heap t us->s.heap.objs.size≠t:=fun {k t us} e=>by
  cases k <;> (obtain⟨o,ho,_⟩:=e;exact nd _ _ ho)
 refine ae ⟨cQ zk_plain _,?_⟩;refine dz_loop (L:=L) (by simp[hh]) ap ⟨nd _ _ g,nd _ _ gi,nd _ _ go,ej e1,ej e2,es b1,es b2⟩ hL hn L.length 0 _ [] rfl ⟨kp _ _ gi,e1.at kp,e2.at kp,b1.at (kp _),b2.at (kp _),.inl ⟨kp _ _ g,_,_,kp _ _ go⟩⟩ ?_ (by simpa using hz) fun h' tk' hd y=>?_
 ·obtain⟨o,es,ep,ho,r⟩:=new;exact⟨o,es,ep,x _ _ ho,r⟩
 ·exact⟨rfl,k h' tk' _ (aj _) hd fun c o n1 n2 n3 n4 e=>y c o n1 n2 n3 n4 (nd _ _ e).symm (kp c o e)⟩
end
end L2
set_option maxHeartbeats 1000000
namespace L2
open PySem PySem.Spec PyProof.Rows
def getG {β:Type} (kvs:List (Key × β)) (key:Key):Option β:=(kvs.find? fun kv=>decide (kv.1=key)).map (·.2)
section
variable {X:Cx} {K:Fg} {k:Nat} {pos:Pos} {o i:Expr} {td ty:ED}
theorem get_pair {M:Am} {H:Hp} {key:Key} {d:D} {ks:List (Key × V)} {kvs:List (Key × D)} (l:bb (fun(p:Key × V) (q:Key × D)=>p.1=q.1/\RepV K M H q.2 p.2) ks kvs) (h:getG kvs key=some d):∃ v,valV ks key=some v/\RepV K M H d v:=by
 induction l with
 | nil=>cases h
 | @cons a b as bs hab _ ih =>
  by_cases e:b.1=key
  ·have:getG (b::bs) key=some b.2:=by unfold getG;rw[cR,decide_eq_true e];rfl
   rw[this] at h;injection h with h
   subst h;exact⟨a.2,valV_pos (hab.1.trans e),hab.2⟩
  ·have:getG (b::bs) key=getG bs key:=by unfold getG;rw[cR,decide_eq_false e]
   rw[this] at h;obtain⟨v,hv,rv⟩:=ih h;refine⟨v,?_,rv⟩;rw[<- hv];have e':a.1≠key:=fun z=>e (hab.1 ▸ z);simp[valV,cR,e']
def dDGet (td ty:ED):ED:=fun Γ S Q=>td Γ S fun o S1=>ty Γ S1 fun y S2=>match o with
 | .ref a=>∃ kvs key d,S2 a=some (.dk kvs)/\dkey y=some key/\getG kvs key=some d/\Q d S2
 | _=>False
theorem e_dget (hr:Room k X.A) (ho:PD K X o td) (hi:PD K X i ty) (hs:NoSl i:=by intro _ _;rfl):PD K X (.Subscript o i pos) (dDGet td ty):=.of (pe_dget (lt10 hr) ho.o hi.o hs) fun σ H Q z0=>z0.el fun F S Γ QD r g q c =>
 ⟨F,S,Γ,_,r,g,q,fun x od H2 S2 x2 r2 v2 q2=>⟨F,S2,Γ,_,r2,g.ext x2,q2,fun y yd H3 S3 x3 r3 v3 q3=>by
  cases od with
  | ref a =>
   obtain⟨kvs,key,d,hS,hk,hg,q3⟩:=q3;obtain⟨ks,hu,lu⟩:=r3.obj a _ hS;obtain⟨v,hv,rv⟩:=get_pair lu hg;refine⟨a,v,rref (v2.ext x3),.inl ⟨ks,key,.inl hu,dkey_rep v3 hk,hv.symm⟩,c v d H3 S3 (x2.trans x3) r3 rv q3⟩
  | _=>exact q3.elim⟩⟩
end
end L2
set_option maxHeartbeats 2000000
namespace L2
open PySem PySem.Spec PyProof.Rows
def ZNew (k1 k2:Bool):Prop:=∀ {prog:aB} {w:aN} {A:aO} {E:ad->ah->Prop} {s:ah} {a b:Addr} {us vs:Array ad} {R:ad->ah->Prop},sqK k1 s.heap a us->sqK k2 s.heap b vs ->
 (∀ h',IsZb h' (s.heap.objs.size + 4) (s.heap.objs.size + 2) (s.heap.objs.size + 3) .none false->du h' (s.heap.objs.size + 2) (.ref s.heap.objs.size) (.ref (s.heap.objs.size + 1))->du h' (s.heap.objs.size + 3) .none .none ->
  itK k1 h' s.heap.objs.size a 0->itK k2 h' (s.heap.objs.size + 1) b 0->(∀ c o,s.heap.get? c=some o->h'.get? c=some o)->R (.ref (s.heap.objs.size + 4)) { s with heap:=h' })->aw (aA prog w) A (call (.type "zip") [.ref a,.ref b]) R E s
theorem zn_TT:ZNew false false:=fun b1 b2 k=>zt_call b1 b2 k
theorem zn_LL:ZNew true true:=fun b1 b2 k=>call_zip_2 b1 b2 fun h' x1 x2 x3 x4 x5 _ x6=>k h' x1 x2 x3 x4 x5 x6
def SqB (k:Bool) (K:Fg) (H:Hp) (a:Addr) (xs:List V):Prop:=match k with
 | true=>SqL K H a xs
 | false=>SqT K H a xs
section
variable {X:Cx} {K:Fg} {k1 k2:Bool}
theorem Inv.sqB {k:Bool} {pins:List (Addr × Obj)} {σ:St} {H:Hp} {s:ah} {a:Addr} {xs:List V} (I:Inv X pins σ H s) (h:SqB k X.K H a xs):∃ its:List ad,Vals xs its/\sqK k s.heap a its.toArray/\xs.length<=sizeLine/\a < s.heap.objs.size:=by
 cases k
 ·obtain⟨its,r,p,z⟩:=I.tuple h;obtain⟨o,e,_⟩:=id p;exact⟨its,r,p,z,aq e⟩
 ·obtain⟨its,r,p,z⟩:=I.list h;obtain⟨o,e,_⟩:=id p.isList;exact⟨its,r,p.isList,z,aq e⟩
theorem zip_arg {e f:Expr} {ta:TA} {p pos pos':Pos} {pins:List (Addr × Obj)} {s:ah} {σ:St} {H:Hp} {Q:List ad->ah->Prop} {Kt:Addr->Addr->List V->List V->Hp->Prop} (nw:ZNew k1 k2) (hg:Gl X "zip") (hm:X.mg "zip" = none) (ha:PA X [e,f] ta) (I:Inv X pins σ H s)
  (h:ta σ H fun vs H1=>∃ a b xs ys,vs=[.ref a,.ref b]/\SqB k1 X.K H1 a xs/\SqB k2 X.K H1 b ys/\Kt a b xs ys H1)
  (go:∀ (s1:ah) (H1:Hp) (a b:Addr) (xs ys:List V) (its jts:List ad) (h':aS),Inv X pins σ H1 s1->Kt a b xs ys H1->Vals xs its->Vals ys jts->gk (s1.heap.objs.size + 4) (s1.heap.objs.size + 2) (s1.heap.objs.size + 3) s1.heap.objs.size (s1.heap.objs.size + 1) a b ->
   IsZb h' (s1.heap.objs.size + 4) (s1.heap.objs.size + 2) (s1.heap.objs.size + 3) .none false->du h' (s1.heap.objs.size + 2) (.ref s1.heap.objs.size) (.ref (s1.heap.objs.size + 1))->du h' (s1.heap.objs.size + 3) .none .none ->
   itK k1 h' s1.heap.objs.size a 0->itK k2 h' (s1.heap.objs.size + 1) b 0->sqK k1 h' a its.toArray->sqK k2 h' b jts.toArray->xs.length<=sizeLine->(∀ c o,s1.heap.get? c=some o->h'.get? c=some o)->Q [.ref (s1.heap.objs.size + 4)] { s1 with heap:=h' })
  (hz:am [.Call (.Name "zip" p) [e,f] [] pos'] X.env=(false,eval (.Call (.Name "zip" p) [e,f] [] pos') X.env)::am [] X.env:=by rfl) (hs:am [e,f] X.env=[(false,eval e X.env),(false,eval f X.env)]:=by rfl) (hs2:am [f] X.env=[(false,eval f X.env)]:=by rfl) :
  aw (aA X.prog X.w) X.A (spliced (cy pos (am [.Call (.Name "zip" p) [e,f] [] pos'] X.env))) Q X.xe s:=by
 rw[hz];refine Calls.spliced_cons ?_;refine Call_ (ld_blt I hg hm PyProof.Rows.boot_zip (cj (thn (ha pos' pins s σ H _ I h) fun us s1 ⟨vs,H1,I1,r1,q1⟩=>?_) (by rw[hs,hs2]) (by rw[hs2];rfl)))
 obtain⟨a,b,xs,ys,rfl,hq1,hq2,q⟩:=q1;cases r1 with
 | cons r rr =>
  cases rr with
  | cons r' rr =>
   cases rr;cases r;cases r';obtain⟨its,rv,p1,z1,l1⟩:=I1.sqB hq1;obtain⟨jts,rv',p2,z2,l2⟩:=I1.sqB hq2;exact nw p1 p2 fun h' x1 x2 x3 x4 x5 x6=>Calls.spliced_nil (go s1 H1 a b xs ys its jts h' I1 q rv rv' (zipApart_new l1 l2) x1 x2 x3 x4 x5 (p1.at fun o=>x6 _ o) (p2.at fun o=>x6 _ o) z1 x6)
def tDz (k1 k2:Bool) (K:Fg) (ta:TA):TE:=fun σ H Q=>ta σ H fun vs H1=>∃ (a b:Addr) (xs ys:List V),vs=[.ref a,.ref b]/\SqB k1 K H1 a xs/\SqB k2 K H1 b ys/\∃ ks:List Key,xs=ks.map kV/\ks.Nodup/\ks.length=ys.length/\∀ p,H1 p=none->Q (.ref p) (upd H1 p (.dK (ks.zip ys)))
theorem kv_zip:∀ {ks:List Key} {ys:List V} {jts:List ad},Vals ys jts->KV (ks.zip ys) (ks.zip jts)
 | [],_,_,_=>by rw[cK,cK];exact .nil
 | k::ks,_,_,.nil=>by rw[cN,cN];exact .nil
 | k::ks,_,_,.cons r rr=>.cons ⟨rfl,r⟩ (kv_zip rr)
theorem pe_dzip {e f:Expr} {ta:TA} {p0 p pos pos':Pos} (nw:ZNew k1 k2) (hg0:Gl X "dict") (hm0:X.mg "dict" = none) (hg:Gl X "zip") (hm:X.mg "zip" = none) (ha:PA X [e,f] ta) (hc:X.calm=true:=by rfl)
  (hz:am [.Call (.Name "zip" p) [e,f] [] pos'] X.env=(false,eval (.Call (.Name "zip" p) [e,f] [] pos') X.env)::am [] X.env:=by rfl) (hs:am [e,f] X.env=[(false,eval e X.env),(false,eval f X.env)]:=by rfl) (hs2:am [f] X.env=[(false,eval f X.env)]:=by rfl)
  (hpl:(cy pos (am [] X.env)).any (·.1)=false:=by rfl):PE X (.Call (.Name "dict" p0) [.Call (.Name "zip" p) [e,f] [] pos'] [] pos) (tDz k1 k2 X.K ta):=by
 intro pins s σ H Q I h;refine fo (ld_blt I hg0 hm0 PyProof.Rows.boot_dict ?_);refine cj (zip_arg (Kt:=fun a b xs ys H1=>∃ ks:List Key,xs=ks.map kV/\ks.Nodup/\ks.length=ys.length/\∀ p,H1 p=none->Q (.ref p) (upd H1 p (.dK (ks.zip ys)))) nw hg hm ha I h (fun s1 H1 a b xs ys its jts h' I1 q rv rv' ap x1 x2 x3 x4 x5 x6 x7 z1 x8=>?_) hz hs hs2) hz hpl;obtain⟨ks,rfl,nd,hl,q⟩:=q;have l1:its.length=ks.length:=by rw[<- rv.length,ag]
 have l2:jts.length=ys.length:=rv'.length.symm;have len:(ks.zip jts).length=ks.length:=by rw[fw];omega
 refine dz_call (L:=ks.zip jts) (I1.ok.hd hc) ap x1 x3 x2 x4 x5 x6 x7 (fun j u v hu hv=>?_) (fun j hj=>?_) ?_ fun h2 tk d dl hd y=>?_
 ·have hu':its[j]?=some u:=by simpa using hu
  have hv':jts[j]?=some v:=by simpa using hv
  have lj:j < ks.length:=by have:=(aH.mp hu').1;omega
  have hk:ks[j]?=some ks[j]:=ai lj;obtain⟨u',e,r⟩:=rv.get (i:=j) (x:=kV ks[j]) (by rw[a6,hk];rfl)
  rw[hu'] at e;cases e;exact⟨ks[j],List.getElem?_zip_eq_some.mpr ⟨hk,hv'⟩,kV_is r⟩
 ·rw[len];rcases hj with h | h
  ·have:its[j]?=none:=by simpa using h
   rw[jl] at this;omega
  ·have:jts[j]?=none:=by simpa using h
   rw[jl] at this;omega
 ·rw[len];rw[ag] at z1;exact z1
 ·have ln:s1.heap.objs.size<=d:=bN (fM (eC (fP _ 4) (aq x1))) dl;have ne:∀ c o i,s1.heap.get? c=some o->c≠s1.heap.objs.size + i:=fun c o i e=>aC (aF (aq e) (fP _ _));have hk:(ks.zip jts).foldl (fun m p=>stored m p.1 p.2) []=ks.zip jts:=merged_nil_of_nodup _ (by rw[jR (by omega)];exact nd)
  rw[hk] at hd;refine⟨.ref d,_,I1.laid (a:=d) (o:=.dK (ks.zip ys)) (t':=tk) (fun c o e=>y c o (ne c o 4 e) (ne c o 3 e) (ne c o 0 e) (ne c o 1 e) (x8 c o e)) ln (dk_new ?_ (beq_eq_false_iff_ne.mpr (bW (aC (aF I1.big ln)))) (kv_zip rv') hd),rfl,q d (I1.hok.fresh ln)⟩;rw[fw];rw[ag] at z1;omega
def kdIs (k:Bool) (S:Sto) (d:D) (xs:List D):Prop:=match k with
 | true=>lsIs S d xs
 | false=>d=.tup xs
def dDz (k1 k2:Bool) (ta:AD):ED:=fun Γ S Q=>ta Γ S fun ds S1=>∃ (d1 d2:D) (ss:List Str) (ys:List D),ds=[d1,d2]/\kdIs k1 S1 d1 (ss.map D.str)/\kdIs k2 S1 d2 ys/\ss.Nodup/\ss.length=ys.length/\∀ p,S1 p=none->Q (.ref p) (supd S1 p (.dk ((ss.map (fm:Str->Key)).zip ys)))
theorem kdIs.sq {k:Bool} {F:Am} {S:Sto} {H:Hp} (r:Rp K F S H) {d:D} {v:V} {xs:List D} (h:RepV K (mt S F) H d v) (l:kdIs k S d xs):∃ a us,v=.ref a/\SqB k K H a us/\RepL K (mt S F) H xs us:=by
 cases k
 ·cases l;exact tup.st h
 ·exact lsIs.sl r h l
theorem strs_are {M:Am} {H:Hp}:∀ {ss:List Str} {us:List V},RepL K M H (ss.map D.str) us->us=ss.map V.str
 | [],us,l=>by
  unfold RepL at l;exact l
 | s::ss,us,l=>by
  unfold RepL at l;obtain⟨x,xs,rfl,l1,l2⟩:=l;unfold RepV at l1;rw[l1,strs_are l2];rfl
theorem zip_rep {M M':Am} {H H':Hp} (up:∀ d v,RepV K M H d v->RepV K M' H' d v):∀ {ks:List Key} {ys:List D} {us:List V},RepL K M H ys us->bb (fun(p:Key × V) (q:Key × D)=>p.1=q.1/\RepV K M' H' q.2 p.2) (ks.zip us) (ks.zip ys)
 | [],_,_,_=>by rw[cK,cK];exact .nil
 | k::ks,[],us,l=>by
  unfold RepL at l;subst l;rw[cN,cN];exact .nil
 | k::ks,y::ys,us,l=>by
  unfold RepL at l;obtain⟨x,xs,rfl,l1,l2⟩:=l;exact .cons ⟨rfl,up _ _ l1⟩ (zip_rep up l2)
theorem e_dzip {e f:Expr} {ta:AD} {p0 p pos pos':Pos} (nw:ZNew k1 k2) (hg0:Gl X "dict") (hm0:X.mg "dict" = none) (hg:Gl X "zip") (hm:X.mg "zip" = none) (ha:PAD K X [e,f] ta) (hK:X.K=K:=by rfl) (hc:X.calm=true:=by rfl)
  (hz:am [.Call (.Name "zip" p) [e,f] [] pos'] X.env=(false,eval (.Call (.Name "zip" p) [e,f] [] pos') X.env)::am [] X.env:=by rfl) (hs:am [e,f] X.env=[(false,eval e X.env),(false,eval f X.env)]:=by rfl) (hs2:am [f] X.env=[(false,eval f X.env)]:=by rfl)
  (hpl:(cy pos (am [] X.env)).any (·.1)=false:=by rfl):PD K X (.Call (.Name "dict" p0) [.Call (.Name "zip" p) [e,f] [] pos'] [] pos) (dDz k1 k2 ta):=by
 subst hK;refine .of (pe_dzip nw hg0 hm0 hg hm ha.o hc hz hs hs2 hpl) fun σ H Q z0=>z0.el fun F S Γ QD r g q c=>⟨F,S,Γ,_,r,g,q,fun vs ds H1 S1 x1 r1 v1 q1=>?_⟩;obtain⟨d1,d2,ss,ys,rfl,h1,h2,nd,hl,q⟩:=q1;obtain⟨v,w,rfl,rv,rw'⟩:=v1.two;obtain⟨a,us,rfl,sq,lu⟩:=h1.sq r1 rv;obtain⟨b,us',rfl,sq',lu'⟩:=h2.sq r1 rw';refine⟨a,b,us,us',rfl,sq,sq',ss.map fm,?_,?_,?_,fun p hp=>?_⟩
 ·rw[b5];exact strs_are lu
 ·exact kH.map _ (fun a b h z=>h (fm.inj z)) nd
 ·rw[ag,hl,lu'.length]
 ·exact c (.ref p) (.ref p) _ (supd S1 p (.dk ((ss.map fm).zip ys))) (x1.trans (Ext.mk' hp)) (r1.mk' hp ⟨_,upd_same,zip_rep (fun d v h=>h.keep (Ext.mk' hp).kp) lu'⟩) (by unfold RepV;rfl) (q p (r1.sn hp))
end
theorem zs_len:hX (.type "zip") "__len__" = pure none:=by
 rw[fu,dF];kernel_rfl
theorem zs_hintN:hX (.type "zip") "__length_hint__" = pure none:=by
 rw[fu,dF];kernel_rfl
structure Pz (us vs:Array ad) (lo:Nat) (h:aS) (as:List Addr):Prop where
 rise:as.Pairwise (· < ·)
 low:∀ a∈as,lo<=a
 there:∀ (j:Nat) (a:Addr),as[j]?=some a->∃ u v,us[j]?=some u/\vs[j]?=some v/\du h a u v
theorem Pz.keep {us vs:Array ad} {lo:Nat} {h h':aS} {as:List Addr} (x:Pz us vs lo h as) (k:∀ c o,lo<=c->h.get? c=some o->h'.get? c=some o):Pz us vs lo h' as :=
 ⟨x.rise,x.low,fun j a e=>by
  obtain⟨u,v,e1,e2,g⟩:=x.there j a e;exact⟨u,v,e1,e2,k _ _ (x.low a (bL e)) g⟩⟩
theorem Pz.add {us vs:Array ad} {lo:Nat} {h h':aS} {as:List Addr} {u v:ad} (x:Pz us vs lo h as) (ln:lo<=h.objs.size) (k:∀ c o,lo<=c->h.get? c=some o->h'.get? c=some o) (hu:us[as.length]?=some u) (hv:vs[as.length]?=some v) (g:du h' h.objs.size u v):Pz us vs lo h' (as++[h.objs.size]) where
 rise:=fK.mpr ⟨x.rise,cL _ _,fun a ha b hb=>by
  rw[aG.mp hb];obtain⟨j,hj,e⟩:=aY ha;obtain⟨_,_,_,_,g⟩:=x.there j a (by rw[ai hj,e])
  exact aq g⟩
 low:=fun a ha=>(bB.mp ha).elim (x.low a) fun h=>by rw[aG.mp h];exact ln
 there:=fun j a e=>by
  rcases fA j as.length with h1 | h1 | h1
  ·rw[dD h1] at e;exact(x.keep k).there j a e
  ·subst h1;rw[di (aj _),Nat.sub_self] at e;cases e;exact⟨u,v,hu,hv,g⟩
  ·rw[bE (by rw[az];exact h1)] at e
   cases e
section
variable {prog:aB} {w:aN} {A:aO} {E:ad->ah->Prop} {s:ah} {z ti to j1 j2 t1 t2 S:Addr} {i lo N:Nat} {us vs:Array ad} {k1 k2:Bool}
theorem ZsK.same {h h':aS} (st1:ZsK z ti to j1 j2 t1 t2 S k1 k2 us vs i h) (dn:S≠z/\S≠ti/\S≠to/\S≠j1/\S≠j2/\S≠t1/\S≠t2) (sb:cB S h h'):ZsK z ti to j1 j2 t1 t2 S k1 k2 us vs i h' :=
 ⟨sb.extBut _ _ dn.2.1.symm st1.pr,st1.e1.ext sb dn.2.2.2.1.symm,st1.e2.ext sb dn.2.2.2.2.1.symm,st1.b1.ext sb dn.2.2.2.2.2.1.symm,st1.b2.ext sb dn.2.2.2.2.2.2.symm,by
  rcases st1.st with⟨g,p,q,go⟩ | ⟨T,b,oT,g,gT,n1,n2,n3,n4,n5⟩
  ·exact .inl ⟨sb.extBut _ _ dn.1.symm g,p,q,sb.extBut _ _ dn.2.2.1.symm go⟩
  ·exact .inr ⟨T,b,oT,sb.extBut _ _ dn.1.symm g,sb.extBut _ _ n5 gT,n1,n2,n3,n4,n5⟩⟩
theorem zs_loop (hh:A.handled=none) (ap:gk z ti to j1 j2 t1 t2) (dn:S≠z/\S≠ti/\S≠to/\S≠j1/\S≠j2/\S≠t1/\S≠t2) (hlo:z < lo/\to < lo/\j1 < lo/\j2 < lo/\S < lo) (hN:∀ (j:Nat),j < N->(∃ u,us[j]?=some u)/\∃ v,vs[j]?=some v) (hE:us[N]?=none\/vs[N]?=none) (hz:N<=sizeLine) (res:ad) {R:Result->ah->Prop} :
  ∀ (n i:Nat) (s:ah) (c:Nat) (as:List Addr),N - i=n->i<=N->lo<=s.heap.objs.size->ZsK z ti to j1 j2 t1 t2 S k1 k2 us vs i s.heap->s.heap.get? S=some { cls:=.type "list",dict:=none,data:=.seq (as.map cA).toArray c,slots:=#[] }->as.length=i->Pz us vs lo s.heap as ->
  (∀ h' c as,as.length=N->Pz us vs lo h' as->(∀ b o,b≠z->b≠to->b≠j1->b≠j2->b≠S->s.heap.get? b=some o->h'.get? b=some o)->h'.get? S=some { cls:=.type "list",dict:=none,data:=.seq (as.map cA).toArray c,slots:=#[] }->R (.ok (.ret res)) { s with heap:=h' }) ->
  ij (aA prog w) A (.builtin "list.extend.loop" ⟨[.ref S,.ref z,res],[]⟩) R s:=by
 have hi:∀ c,lo<=c->c≠z/\c≠to/\c≠j1/\c≠j2/\c≠S:=fun c h=>⟨bX (aF hlo.1 h),bX (aF hlo.2.1 h),bX (aF hlo.2.2.1 h),bX (aF hlo.2.2.2.1 h),bX (aF hlo.2.2.2.2 h)⟩;intro n
 induction n with
 | zero =>
  intro i s c as hn hiN ls st hS hl pz hR;have ei:i=N:=by omega
  subst ei;refine bv eL ?_;rw[aZ b8 _];show aw _ A.in1 (e6 (.ref z) >>= _) _ _ s;refine aa (zk_stop (by simp[hh]) ap st hE fun h' x=>ae ?_)
  exact hR h' c as hl (pz.keep fun b o hb e=>x b o (hi b hb).1 (hi b hb).2.1 (hi b hb).2.2.1 (hi b hb).2.2.2.1 e) (fun b o n1 n2 n3 n4 _ e=>x b o n1 n2 n3 n4 e) (x S _ dn.1 dn.2.2.1 dn.2.2.2.1 dn.2.2.2.2.1 hS)
 | succ n ih =>
  intro i s c as hn hiN ls st hS hl pz hR;refine bv eL ?_;rw[aZ b8 _];show aw _ A.in1 (e6 (.ref z) >>= _) _ _ s;obtain⟨⟨u,hu⟩,v,hv⟩:=hN i (by omega)
  refine aa (zk_next ap (aq hS) st hu hv fun h1 st1 pr x=>?_);have hS1:=x S _ dn.1 dn.2.2.1 dn.2.2.2.1 dn.2.2.2.2.1 hS;have hts:(as.map cA).toArray.size=i:=by rw[ak,ag,hl]
  show aw _ A.in1 (jJ S (·.push (.ref s.heap.objs.size)) >>= _) _ _ _;refine aa ?_;refine fv (s:={ s with heap:=h1 }) hS1 rfl (ae ⟨cQ b8 _,?_⟩) (by rw[hts];omega) (by show((as.map cA).toArray.push (.ref s.heap.objs.size)).size<=sizeLine + 1;rw[Array.size_push,hts];omega)
  have hS2:=bD (aV (·.push (cA s.heap.objs.size))) hS1 rfl;have et:(as.map cA).toArray.push (cA s.heap.objs.size)=((as++[s.heap.objs.size]).map cA).toArray:=by simp
  obtain⟨c1,hS2'⟩:∃ c1,(h1.update S (aV (·.push (cA s.heap.objs.size)))).get? S=some { cls:=.type "list",dict:=none,data:=.seq ((as++[s.heap.objs.size]).map cA).toArray c1,slots:=#[] }:=⟨_,by rw[<- et];exact hS2⟩
  have sb:=be h1 S (aV (·.push (cA s.heap.objs.size)));have nS:=(hi _ ls).2.2.2.2;refine ih (i + 1) { s with heap:=h1.update S (aV (·.push (cA s.heap.objs.size))) } c1 (as++[s.heap.objs.size]) (by omega) (by omega) ?_ (st1.same dn sb) hS2' (by rw[az,hl];rfl) ?_ fun h' c' as' a1 a2 a3 a4=>hR h' c' as' a1 a2 (fun b o n1 n2 n3 n4 n5 e=>a3 b o n1 n2 n3 n4 n5 (sb.extBut _ _ n5 (x b o n1 n2 n3 n4 e))) a4
  ·show lo<=(h1.update S _).objs.size;rw[sb.1];exact bN ls (fM (aq pr))
  ·exact pz.add ls (fun b o hb e=>sb.extBut _ _ (hi b hb).2.2.2.2 (x b o (hi b hb).1 (hi b hb).2.1 (hi b hb).2.2.1 (hi b hb).2.2.2.1 e)) (hl ▸ hu) (hl ▸ hv) (sb.extBut _ _ nS pr)
theorem zs_hint (hT:s.TypeIs (.ref z) "zip") {Q:Bool->ah->Prop} (h:Q true s):aw (aA prog w) A (d0 (.ref z)) Q E s:=by
 unfold d0;refine aa (gv hT zs_len ?_);refine eO (fun hab=>absurd hab (by decide)) (fun _=>?_)
 refine eO (fun hab=>absurd hab (by decide)) (fun _=>?_)
 exact aa (gv hT zs_hintN (ae h))
theorem zs_collect {p q:ad} {Q:List ad->ah->Prop} (hh:A.handled=none) (ap:gk z ti to j1 j2 t1 t2) (g:IsZb s.heap z ti to .none false) (go:du s.heap to p q) (gi:du s.heap ti (.ref j1) (.ref j2)) (e1:itK k1 s.heap j1 t1 0) (e2:itK k2 s.heap j2 t2 0) (b1:sqK k1 s.heap t1 us) (b2:sqK k2 s.heap t2 vs)
  (hN:∀ (j:Nat),j < N->(∃ u,us[j]?=some u)/\∃ v,vs[j]?=some v) (hE:us[N]?=none\/vs[N]?=none) (hz:N<=sizeLine)
  (h:∀ h' as,as.length=N->Pz us vs (s.heap.objs.size + 1) h' as->(∀ b o,b≠z->b≠to->b≠j1->b≠j2->s.heap.get? b=some o->h'.get? b=some o)->Q (as.map cA) { s with heap:=h' }):aw (aA prog w) A (collect (.ref z)) Q E s:=by
 unfold collect;refine aa (i8 (bv iQ ?_));rw[aZ iR _];show aw _ A.in1 (newList [] >>= fun l=>again (.builtin "list.__iadd__" ⟨[l,.ref z],[]⟩)) _ _ s;refine aa (bj (ae ⟨cQ fg _,bv jK ?_⟩));rw[aZ fg _];show aw _ A.in1 (d6 (.ref s.heap.objs.size) (.ref z) (.ref s.heap.objs.size)) _ _ _;generalize hh1:s.heap.push _=h1;have old:∀ b o,s.heap.get? b=some o->h1.get? b=some o:=fun b o e=>by rw[<- hh1];exact af _ e
 have hsz:h1.objs.size=s.heap.objs.size + 1:=by rw[<- hh1,bU]
 have hS1:h1.get? s.heap.objs.size=some { cls:=.type "list",dict:=none,data:=.seq #[] 0,slots:=#[] }:=by rw[<- hh1];exact ao _ rfl
 have nd:∀ c o,s.heap.get? c=some o->s.heap.objs.size≠c:=fun c o e=>bX (aq e);have lt:∀ c o,s.heap.get? c=some o->c < s.heap.objs.size + 1:=fun c o e=>cZ (aq e);have ej:∀ {k:Bool} {j t:Addr} {m:Nat},itK k s.heap j t m->∃ o,s.heap.get? j=some o:=fun {k j t m} e=>by
  cases k <;> (obtain⟨o,ho,_⟩:=e;exact⟨o,ho⟩)
 have es:∀ {k:Bool} {t:Addr} {us:Array ad},sqK k s.heap t us->∃ o,s.heap.get? t=some o:=fun {k t us} e=>by
  cases k <;> (obtain⟨o,ho,_⟩:=e;exact⟨o,ho⟩)
 obtain⟨o1,g1⟩:=ej e1;obtain⟨o2,g2⟩:=ej e2;obtain⟨o3,g3⟩:=es b1;obtain⟨o4,g4⟩:=es b2;have dn:s.heap.objs.size≠z/\s.heap.objs.size≠ti/\s.heap.objs.size≠to/\s.heap.objs.size≠j1/\s.heap.objs.size≠j2/\s.heap.objs.size≠t1/\s.heap.objs.size≠t2:=⟨nd _ _ g,nd _ _ gi,nd _ _ go,nd _ _ g1,nd _ _ g2,nd _ _ g3,nd _ _ g4⟩;have st:ZsK z ti to j1 j2 t1 t2 s.heap.objs.size k1 k2 us vs 0 h1:=⟨old _ _ gi,e1.at old,e2.at old,b1.at (old _),b2.at (old _),.inl ⟨old _ _ g,_,_,old _ _ go⟩⟩;unfold d6;have hT:ip { s with heap:=h1 } (.ref z) "zip":=⟨_,old _ _ g,rfl⟩
 refine aa (eQ hT ?_);have ee:eW (.ref s.heap.objs.size) (.ref z)=false:=by simp[eW,dn.1]
 rw[if_neg (by rw[ee];decide)]
 refine aa (wpAny_pyIter_zip (old _ _ g) (aa (aW (zs_hint hT ?_))));refine eO (fun _=>?_) (fun hc=>absurd rfl hc);refine aa (dH ?_);refine aa ?_;show aw _ _ (jJ s.heap.objs.size (·.push .none) >>= fun _=>jJ s.heap.objs.size (·.pop)) _ _ _;refine aa (fv hS1 rfl ?_);have hS3:=bD (aV (·.push bg)) hS1 rfl;refine fv (hz:=by seq_fits) hS3 rfl ?_
 have hS4:=bD (aV (·.pop)) hS3 rfl;have sb1:=be h1 s.heap.objs.size (aV (·.push bg));have sb2:=be (h1.update s.heap.objs.size (aV (·.push bg))) s.heap.objs.size (aV (·.pop));refine ae ⟨cQ b8 _,?_⟩;refine zs_loop (lo:=s.heap.objs.size + 1) (N:=N) hh ap dn ⟨lt _ _ g,lt _ _ go,lt _ _ g1,lt _ _ g2,ic _⟩ hN hE hz _ N 0 _ _ [] rfl (bG _) ?_ ((st.same dn sb1).same dn sb2) hS4 rfl ⟨gY,(fun _ h=>nomatch h),(fun j a e=>by simp at e)⟩ fun h' c as a1 a2 a3 a4=>?_
 ·show s.heap.objs.size + 1<=((h1.update _ _).update _ _).objs.size;rw[sb2.1,sb1.1,hsz];exact aj _
 ·show aw _ A (load s.heap.objs.size >>= _) _ _ _;refine aa (wpAny_load a4 ?_);have e:=h h' as a1 a2 fun b o n1 n2 n3 n4 x=>a3 b o n1 n2 n3 n4 (nd _ _ x).symm (sb2.extBut _ _ (nd _ _ x).symm (sb1.extBut _ _ (nd _ _ x).symm (old _ _ x)));exact ae e
end
end L2
namespace SF
open PySem PyProof.Rows
structure Orc (prog:aB) (w:aN) (A:aO) (s:ah) (κ:f8) (P:b9->Prop) (lt:b9->b9->Bool):Prop where
 ask:∀ x y (Q:Bool->ah->Prop),P x->P y->Q (lt x y) s->aw (aA prog w) A (keyLt' κ x.1 y.1) Q (fun _ _=>False) s
 as:∀ x y,P x->P y->lt x y=true->lt y x=false
 tr:∀ x y z,P x->P y->P z->lt y x=false->lt z y=false->lt z x=false
section
variable {prog:aB} {w:aN} {A:aO} {E:ad->ah->Prop} {s:ah} {κ:f8} {P:b9->Prop} {lt:b9->b9->Bool}
theorem wp_lt (o:Orc prog w A s κ P lt) {st:gB} {x y:b9} {Q:Option Bool->gB->Prop} (hk:kindOf st=κ) (hx:P x) (hy:P y) (h:Q (some (lt x y)) st):wpS (aA prog w) A E s (lt' x y) Q st:=by
 rw[lt'_eq];refine bd (wpS_get ?_);rw[hk];refine bd (wpS_lift (f7 (cH (o.ask x y (fun b s'=>s'=s/\b=lt x y) hx hy ⟨rfl,rfl⟩) (fun b s' hb=>?_) fun _ _ hF=>hF.elim)));obtain⟨rfl,rfl⟩:=hb;exact⟨rfl,bQ h⟩
theorem wp_el {st:gB} {arr:Array b9} {i:Nat} {x:b9} {Q:b9->gB->Prop} (hx:arr[i]?=some x) (h:Q x st):wpS (aA prog w) A E s (elem' arr i) Q st:=by
 rw[elem'_eq,hx];exact bQ h
end
def Sd {α:Type} (lt:α->α->Bool) (l:List α):Prop:=l.Pairwise fun x y=>lt y x=false
end SF
set_option maxHeartbeats 4000000
namespace SF
open PySem PyProof.Rows
def at0 (xs:Array b9) (i:Nat):b9:=(xs[i]?).getD (.none,.none)
theorem at_of {xs ys:Array b9} {i j:Nat} (h:xs[i]?=ys[j]?):at0 xs i=at0 ys j:=by unfold at0;rw[h]
def Gd (lo:Nat) (a xs:Array b9):Prop:=xs.Perm a/\∀ i,i < lo->xs[i]?=a[i]?
theorem Gd.size {lo:Nat} {a xs:Array b9} (h:Gd lo a xs):xs.size=a.size:=h.1.size_eq
def Up (lt:b9->b9->Bool) (xs:Array b9) (i j:Nat):Prop:=∀ p q,i<=p->p < q->q < j->lt (at0 xs q) (at0 xs p)=false
def Dn (lt:b9->b9->Bool) (xs:Array b9) (i j:Nat):Prop:=∀ p q,i<=p->p < q->q < j->lt (at0 xs p) (at0 xs q)=false
def Eqs (lt:b9->b9->Bool) (xs:Array b9) (i j:Nat):Prop:=∀ p q,i<=p->p < j->i<=q->q < j->lt (at0 xs p) (at0 xs q)=false
theorem rev_at {xs:Array b9} {i j:Nat} (hj:j<=xs.size) (k:Nat):at0 (dA xs i j ((j - i) / 2)) k=if i<=k/\k < j then at0 xs (i + j - 1 - k) else at0 xs k:=by
 have e:=iJ (i:=i) hj k
 split at e
 ·next h=>rw[if_pos h];exact at_of e
 ·next h=>rw[if_neg h];exact at_of e
theorem Gd.rev {lo i j d:Nat} {a xs:Array b9} (h:Gd lo a xs) (hi:lo<=i) (hj:j<=xs.size) (hd:d=(j - i) / 2):Gd lo a (dA xs i j d):=by
 subst hd;refine⟨(mirror_perm _ _ _ _).trans h.1,fun k hk=>?_⟩;rw[iJ hj,if_neg (by lia)]
 exact h.2 k hk
section
variable {prog:aB} {w:aN} {A:aO} {E:ad->ah->Prop} {s:ah} {κ:f8} {P:b9->Prop} {lt:b9->b9->Bool}
theorem gd_P {lo:Nat} {a xs:Array b9} (h:Gd lo a xs) (PA:∀ x∈a.toList,P x) {i:Nat} (hi:i < a.size):xs[i]?=some (at0 xs i)/\P (at0 xs i):=by
 have hi':i < xs.size:=by rw[h.size];exact hi
 have e:xs[i]?=some xs[i]:=getElem?_pos _ i hi';have e2:at0 xs i=xs[i]:=by unfold at0;rw[e];rfl
 rw[e2];exact⟨e,PA _ ((dw.mp h.1).mem_iff.mp (by simp))⟩
theorem wp_ltAt (o:Orc prog w A s κ P lt) {st:gB} {xs:Array b9} {lo i j:Nat} {Q:Option Bool->gB->Prop} (hk:kindOf st=κ) (PA:∀ x∈(a8 st).toList,P x) (g:Gd lo (a8 st) xs) (hi:i < (a8 st).size) (hj:j < (a8 st).size) (h:Q (some (lt (at0 xs i) (at0 xs j))) (c9 st xs)) :
  wpS (aA prog w) A E s (ltAt' i j) Q (c9 st xs):=by
 rw[ltAt'_eq];refine bd (wpS_get ?_);obtain⟨e1,p1⟩:=gd_P g PA hi;obtain⟨e2,p2⟩:=gd_P g PA hj;exact bd (wp_el e1 (bd (wp_el e2 (wp_lt o hk p1 p2 h))))
theorem irr (o:Orc prog w A s κ P lt) {x:b9} (hx:P x):lt x x=false:=by
 cases e:lt x x with
 | false=>rfl
 | true=>exact absurd (e.symm.trans (o.as x x hx hx e)) (by decide)
variable {st:gB} {xs:Array b9} {lo:Nat}
theorem Up.more (o:Orc prog w A s κ P lt) {i j:Nat} (hP:∀ p,p<=j->P (at0 xs p)) (h:Up lt xs i j) (hij:i < j) (e:lt (at0 xs j) (at0 xs (j - 1))=false):Up lt xs i (j + 1):=fun p q h1 h2 h3=>by
 rcases bP q j with z | z
 ·exact h p q h1 h2 z
 ·have:q=j:=by lia
  subst this;rcases bP p (q - 1) with y | y
  ·exact o.tr _ _ _ (hP p (by lia)) (hP (q - 1) (by lia)) (hP q (by lia)) (h p (q - 1) h1 y (by lia)) e
  ·have:p=q - 1:=by lia
   rw[this];exact e
theorem Dn.more (o:Orc prog w A s κ P lt) {i j:Nat} (hP:∀ p,p<=j->P (at0 xs p)) (h:Dn lt xs i j) (hij:i < j) (e:lt (at0 xs (j - 1)) (at0 xs j)=false):Dn lt xs i (j + 1):=fun p q h1 h2 h3=>by
 rcases bP q j with z | z
 ·exact h p q h1 h2 z
 ·have:q=j:=by lia
  subst this;rcases bP p (q - 1) with y | y
  ·exact o.tr _ _ _ (hP q (by lia)) (hP (q - 1) (by lia)) (hP p (by lia)) e (h p (q - 1) h1 y (by lia))
  ·have:p=q - 1:=by lia
   rw[this];exact e
theorem Dn.rev {i j d:Nat} (h:Dn lt xs i j) (hj:j<=xs.size) (hd:d=(j - i) / 2):Up lt (dA xs i j d) i j:=fun p q h1 h2 h3=>by
 subst hd;rw[rev_at hj,rev_at hj,if_pos ⟨by lia,by lia⟩,if_pos ⟨by lia,by lia⟩]
 exact h _ _ (by lia) (by lia) (by lia)
theorem Dn.eqs {i j c d:Nat} (h:Dn lt xs i j) (hc:i<=c) (he:Eqs lt xs c j) (hj:j<=xs.size) (hd:d=(j - c) / 2):Dn lt (dA xs c j d) i j:=fun p q h1 h2 h3=>by
 subst hd;rw[rev_at hj,rev_at hj]
 by_cases a1:c<=p/\p < j
 ·rw[if_pos a1,if_pos ⟨by lia,by lia⟩]
  exact he _ _ (by lia) (by lia) (by lia) (by lia)
 ·rw[if_neg a1]
  by_cases a2:c<=q/\q < j
  ·rw[if_pos a2];exact h _ _ h1 (by lia) (by lia)
  ·rw[if_neg a2];exact h _ _ h1 h2 h3
theorem wp_cnt (o:Orc prog w A s κ P lt) {nrem:Nat} {Q:Option Nat->gB->Prop} (hk:kindOf st=κ) (PA:∀ x∈(a8 st).toList,P x) (hn:1<=nrem) (hs:lo + nrem<=(a8 st).size)
  (h:∀ n xs,1<=n->n<=nrem->Gd lo (a8 st) xs->Up lt xs lo (lo + n)->Q (some n) (c9 st xs)):wpS (aA prog w) A E s (countRun' lo nrem) Q st:=by
 have pP:∀ {xs},Gd lo (a8 st) xs->∀ p,p < (a8 st).size->P (at0 xs p):=fun g p hp=>(gd_P g PA hp).2;rw[countRun'_eq];dsimp only;have est:st=c9 st (a8 st):=rfl;have g0:Gd lo (a8 st) (a8 st):=⟨kh _,fun _ _=>rfl⟩;refine bd (gn (dJ (I:=fun x c st'=>st'=c9 st (a8 st)/\c=(none,x)/\1<=x/\Up lt (a8 st) lo (lo + x))
  (Q:=fun c st'=>st'=c9 st (a8 st)/\∃ n,c=(none,n)/\1<=n/\n<=nrem/\Up lt (a8 st) lo (lo + n)/\(n < nrem->lt (at0 (a8 st) (lo + n)) (at0 (a8 st) (lo + n - 1))=true)) ?_ ?_ ⟨est,rfl,aj _,fun p q _ _ _=>by lia⟩) ?_)
 ·rintro x c st' _ hx ⟨rfl,rfl,h1,hu⟩;dsimp only;refine bd (wp_ltAt o (i:=lo + x) (j:=lo + x - 1) hk PA g0 (by lia) (by lia) ?_)
  dsimp only;cases e:lt (at0 (a8 st) (lo + x)) (at0 (a8 st) (lo + x - 1)) with
  | true=>rw[if_pos rfl];exact bQ ⟨rfl,x,rfl,h1,by lia,hu,fun _=>e⟩
  | false=>rw[if_neg (by simp)];exact bQ ⟨rfl,rfl,by lia,Up.more o (i:=lo) (j:=lo + x) (fun p hp=>pP g0 p (by lia)) hu (by lia) e⟩
 ·rintro c st' ⟨rfl,rfl,h1,hu⟩;refine⟨rfl,_,rfl,by lia,by lia,hu,fun z=>by lia⟩
 ·rintro c st' ⟨rfl,n,rfl,n1,n2,hu,hlt⟩;dsimp only
  by_cases c0:(n == nrem)=true
  ·rw[if_pos c0];exact bQ (h n _ n1 n2 g0 hu)
  rw[if_neg c0];have c0':n < nrem:=by
   have:n≠nrem:=by simpa using c0
   lia
  have hlt':=hlt c0';have pp:∀ p,p<=lo + n->P (at0 (a8 st) p):=fun p hp=>pP g0 p (by lia)
  have hle:=o.as _ _ (pp _ (aj _)) (pp _ (by lia)) hlt'
  by_cases cn:n > 1
  ·rw[if_pos cn];refine bd (wp_ltAt o (i:=lo) (j:=lo + n - 1) hk PA g0 (by lia) (by lia) ?_)
   dsimp only;cases e:lt (at0 (a8 st) lo) (at0 (a8 st) (lo + n - 1)) with
   | true=>rw[if_pos rfl];exact bQ (h n _ n1 n2 g0 hu)
   | false =>
    rw[if_neg (by simp),dg]
    have down:∀ p,lo<=p->p < lo + n->lt (at0 (a8 st) p) (at0 (a8 st) (lo + n - 1))=false:=fun p h1 h2=>by
     rcases eF h1 with rfl | h1
     ·exact e
     ·exact o.tr _ _ _ (pp _ (by lia)) (pp _ (by lia)) (pp _ (by lia)) e (hu lo p (aj _) h1 h2)
    have dn:Dn lt (a8 st) lo (lo + n):=fun p q h1 h2 h3=>by
     rcases eF (show q<=lo + n - 1 by lia) with z | z
     ·rw[z];exact down p h1 (by lia)
     ·exact o.tr _ _ _ (pp _ (by lia)) (pp _ (by lia)) (pp _ (by lia)) (hu q (lo + n - 1) (by lia) z (by lia)) (down p h1 (by lia))
    have eqs:Eqs lt (a8 st) lo (lo + n):=fun p q h1 h2 h3 h4=>by
     rcases fA p q with z | z | z
     ·exact dn p q h1 z h4
     ·subst z;exact irr o (pp _ (by lia))
     ·exact hu q p h3 z h2
    have g2:Gd lo (a8 st) (dA (a8 st) lo (lo + n) ((lo + n - lo) / 2)):=g0.rev (aj _) (by lia) rfl
    have hd:Dn lt (dA (a8 st) lo (lo + n) ((lo + n - lo) / 2)) lo (lo + (n + 1)):=by
     refine Dn.more o (i:=lo) (j:=lo + n) (fun p hp=>pP g2 p (by lia)) (dn.eqs (aj _) eqs (by lia) rfl) (by lia) ?_
     have rv:=rev_at (xs:=a8 st) (i:=lo) (j:=lo + n) (by lia)
     rw[rv,rv,if_pos ⟨by lia,by lia⟩,if_neg (by lia)]
     exact o.tr _ _ _ (pp _ (by lia)) (pp (lo + n - 1) (by lia)) (pp _ (by lia)) hle (down _ (by lia) (by lia))
    have n2:=c0';refine bd (eX ?_);change wpS _ _ _ _ _ _ (c9 st (dA (a8 st) lo (lo + n) ((lo + n - lo) / 2)))
    rename Gd lo (a8 st) (dA (a8 st) lo (lo + n) ((lo + n - lo) / 2))=>g
    generalize dA (a8 st) lo (lo + n) ((lo + n - lo) / 2)=xs at g hd ⊢;refine bd (wpS_lift (dH ⟨rfl,?_⟩));refine bd (gn (dJ (I:=fun x c st'=>∃ xs q,st'=c9 st xs/\c=(none,x,q)/\2<=x/\q + 1<=x/\Gd lo (a8 st) xs/\Dn lt xs lo (lo + x)/\Eqs lt xs (lo + x - (q + 1)) (lo + x))
     (Q:=fun c st'=>∃ xs n q,st'=c9 st xs/\c=(none,n,q)/\1<=n/\n<=nrem/\q + 1<=n/\Gd lo (a8 st) xs/\Dn lt xs lo (lo + n)/\Eqs lt xs (lo + n - (q + 1)) (lo + n)) ?_ ?_ ⟨xs,0,rfl,rfl,by lia,by lia,g,hd,fun p q h1 h2 h3 h4=>by
      have:p=q:=by lia
      subst this;exact irr o (pP g p (by lia))⟩) ?_)
    ·rintro x c st' _ hx ⟨xs,q,rfl,rfl,x2,hq,g,hd,he⟩;have hxs:xs.size=(a8 st).size:=g.size;dsimp only;refine bd (wp_ltAt o (i:=lo + x) (j:=lo + x - 1) hk PA g (by lia) (by lia) ?_)
     dsimp only;cases e:lt (at0 xs (lo + x)) (at0 xs (lo + x - 1)) with
     | true =>
      rw[if_pos rfl];have e2:=o.as _ _ (pP g _ (by lia)) (pP g _ (by lia)) e
      have one:∀ ys,Gd lo (a8 st) ys->Eqs lt ys (lo + (x + 1) - (0 + 1)) (lo + (x + 1)):=fun ys g' p q h1 h2 h3 h4=>by
       have:p=q:=by lia
       subst this;exact irr o (pP g' p (by lia))
      by_cases cq:q > 0
      ·rw[if_pos cq,dg];have hd2:(lo + x - (lo + x - (q + 1))) / 2=(lo + x - (lo + x - (q + 1))) / 2:=rfl;have g2:Gd lo (a8 st) (dA xs (lo + x - (q + 1)) (lo + x) ((lo + x - (lo + x - (q + 1))) / 2)):=g.rev (by lia) (by lia) rfl
       have d2:Dn lt (dA xs (lo + x - (q + 1)) (lo + x) ((lo + x - (lo + x - (q + 1))) / 2)) lo (lo + x):=hd.eqs (by lia) he (by lia) rfl
       refine bd (eX (bQ ⟨_,0,rfl,rfl,by lia,by lia,g2,Dn.more o (i:=lo) (j:=lo + x) (fun p hp=>pP g2 p (by lia)) d2 (by lia) ?_,one _ g2⟩))
       have rv:=rev_at (xs:=xs) (i:=lo + x - (q + 1)) (j:=lo + x) (by lia)
       rw[rv,rv,if_pos ⟨by lia,by lia⟩,if_neg (by lia)]
       exact o.tr (at0 xs (lo + x)) (at0 xs (lo + x - 1)) _ (pP g _ (by lia)) (pP g _ (by lia)) (pP g _ (by lia)) e2 (he _ _ (by lia) (by lia) (by lia) (by lia))
      ·rw[if_neg cq];exact bQ ⟨xs,0,rfl,rfl,by lia,by lia,g,Dn.more o (i:=lo) (j:=lo + x) (fun p hp=>pP g p (by lia)) hd (by lia) e2,one _ g⟩
     | false =>
      rw[if_neg (by simp)]
      refine bd (wp_ltAt o (i:=lo + x - 1) (j:=lo + x) hk PA g (by lia) (by lia) ?_)
      dsimp only;cases e2:lt (at0 xs (lo + x - 1)) (at0 xs (lo + x)) with
      | true=>rw[if_pos rfl];exact bQ ⟨xs,x,q,rfl,rfl,by lia,by lia,hq,g,hd,he⟩
      | false =>
       rw[if_neg (by simp)]
       refine bQ ⟨xs,q + 1,rfl,rfl,by lia,by lia,g,Dn.more o (i:=lo) (j:=lo + x) (fun p hp=>pP g p (by lia)) hd (by lia) e2,fun p r h1 h2 h3 h4=>?_⟩
       have pp:∀ p,p<=lo + x->P (at0 xs p):=fun p hp=>pP g p (by lia)
       have low:∀ p,lo + x - (q + 1)<=p->p < lo + x->lt (at0 xs p) (at0 xs (lo + x))=false/\lt (at0 xs (lo + x)) (at0 xs p)=false:=fun p a1 a2=>by
        have b1:=he p (lo + x - 1) a1 a2 (by lia) (by lia)
        have b2:=he (lo + x - 1) p (by lia) (by lia) a1 a2
        exact⟨o.tr _ _ _ (pp _ (by lia)) (pp _ (by lia)) (pp _ (by lia)) e2 b1,o.tr _ _ _ (pp _ (by lia)) (pp _ (by lia)) (pp _ (by lia)) b2 e⟩
       by_cases z1:p=lo + x
       ·by_cases z2:r=lo + x
        ·rw[z1,z2];exact irr o (pp _ (by lia))
        ·rw[z1];exact(low r (by lia) (by lia)).2
       ·by_cases z2:r=lo + x
        ·rw[z2];exact(low p (by lia) (by lia)).1
        ·exact he p r (by lia) (by lia) (by lia) (by lia)
    ·rintro c st' ⟨xs,q,rfl,rfl,x2,hq,g,hd,he⟩;exact⟨xs,_,q,rfl,rfl,by lia,by lia,hq,g,by rwa [show max (n + 1) nrem=nrem by lia] at hd ⊢,he⟩
    ·rintro c st' ⟨xs,n,q,rfl,rfl,n1,n2,hq,g,hd,he⟩;have hxs:xs.size=(a8 st).size:=g.size;dsimp only
     by_cases cq:q > 0
     ·rw[if_pos cq,dg,dg];have g2:Gd lo (a8 st) (dA xs (lo + n - (q + 1)) (lo + n) ((lo + n - (lo + n - (q + 1))) / 2)):=g.rev (by lia) (by lia) rfl
      have d2:Dn lt (dA xs (lo + n - (q + 1)) (lo + n) ((lo + n - (lo + n - (q + 1))) / 2)) lo (lo + n):=hd.eqs (by lia) he (by lia) rfl
      have s2:=g2.size;have g3:=g2.rev (i:=lo) (j:=lo + n) (aj _) (by lia) rfl
      have u3:=d2.rev (i:=lo) (j:=lo + n) (by lia) rfl
      refine bd (eX (bd (eX ?_)));change wpS _ _ _ _ _ _ (c9 st (dA (dA xs (lo + n - (q + 1)) (lo + n) ((lo + n - (lo + n - (q + 1))) / 2)) lo (lo + n) ((lo + n - lo) / 2)));generalize dA (dA xs (lo + n - (q + 1)) (lo + n) ((lo + n - (lo + n - (q + 1))) / 2)) lo (lo + n) ((lo + n - lo) / 2)=zs at g3 u3 ⊢;refine bd (gn (dJ (I:=fun x c st'=>st'=c9 st zs/\c=(none,x)/\n<=x/\Up lt (zs) lo (lo + x))
       (Q:=fun c st'=>st'=c9 st zs/\∃ n,c=(none,n)/\1<=n/\n<=nrem/\Up lt (zs) lo (lo + n)) ?_ ?_ ⟨rfl,rfl,aj _,u3⟩) ?_)
      ·rintro x c st' _ hx ⟨rfl,rfl,h1,hu⟩;dsimp only;refine bd (wp_ltAt o (i:=lo + x) (j:=lo + x - 1) hk PA g3 (by lia) (by lia) ?_)
       dsimp only;cases e:lt (at0 (zs) (lo + x)) (at0 (zs) (lo + x - 1)) with
       | true=>rw[if_pos rfl];exact bQ ⟨rfl,x,rfl,by lia,by lia,hu⟩
       | false=>rw[if_neg (by simp)];exact bQ ⟨rfl,rfl,by lia,Up.more o (i:=lo) (j:=lo + x) (fun p hp=>pP g3 p (by lia)) hu (by lia) e⟩
      ·rintro c st' ⟨rfl,rfl,h1,hu⟩;exact⟨rfl,_,rfl,by lia,by lia,hu⟩
      ·rintro c st' ⟨rfl,n,rfl,n1,n2,hu⟩;exact bQ (h n (zs) n1 n2 g3 hu)
     ·rw[if_neg cq,dg];have g3:=g.rev (i:=lo) (j:=lo + n) (aj _) (by lia) rfl
      have u3:=hd.rev (i:=lo) (j:=lo + n) (by lia) rfl
      refine bd (eX ?_);change wpS _ _ _ _ _ _ (c9 st (dA xs lo (lo + n) ((lo + n - lo) / 2)));generalize dA xs lo (lo + n) ((lo + n - lo) / 2)=zs at g3 u3 ⊢;refine bd (gn (dJ (I:=fun x c st'=>st'=c9 st zs/\c=(none,x)/\n<=x/\Up lt (zs) lo (lo + x))
       (Q:=fun c st'=>st'=c9 st zs/\∃ n,c=(none,n)/\1<=n/\n<=nrem/\Up lt (zs) lo (lo + n)) ?_ ?_ ⟨rfl,rfl,aj _,u3⟩) ?_)
      ·rintro x c st' _ hx ⟨rfl,rfl,h1,hu⟩;dsimp only;refine bd (wp_ltAt o (i:=lo + x) (j:=lo + x - 1) hk PA g3 (by lia) (by lia) ?_)
       dsimp only;cases e:lt (at0 (zs) (lo + x)) (at0 (zs) (lo + x - 1)) with
       | true=>rw[if_pos rfl];exact bQ ⟨rfl,x,rfl,by lia,by lia,hu⟩
       | false=>rw[if_neg (by simp)];exact bQ ⟨rfl,rfl,by lia,Up.more o (i:=lo) (j:=lo + x) (fun p hp=>pP g3 p (by lia)) hu (by lia) e⟩
      ·rintro c st' ⟨rfl,rfl,h1,hu⟩;exact⟨rfl,_,rfl,by lia,by lia,hu⟩
      ·rintro c st' ⟨rfl,n,rfl,n1,n2,hu⟩;exact bQ (h n (zs) n1 n2 g3 hu)
  ·rw[if_neg cn];have e1:n=1:=by lia
   subst e1;have hd:Dn lt (a8 st) lo (lo + (1 + 1)):=fun p q h1 h2 h3=>by
    have ep:p=lo:=by lia
    have eq:q=lo + 1:=by lia
    rw[ep,eq];exact hle
   have n2:=c0';have g:=g0;refine bd (wpS_lift (dH ⟨rfl,?_⟩));refine bd (gn (dJ (I:=fun x c st'=>∃ xs q,st'=c9 st xs/\c=(none,x,q)/\2<=x/\q + 1<=x/\Gd lo (a8 st) xs/\Dn lt xs lo (lo + x)/\Eqs lt xs (lo + x - (q + 1)) (lo + x))
    (Q:=fun c st'=>∃ xs n q,st'=c9 st xs/\c=(none,n,q)/\1<=n/\n<=nrem/\q + 1<=n/\Gd lo (a8 st) xs/\Dn lt xs lo (lo + n)/\Eqs lt xs (lo + n - (q + 1)) (lo + n)) ?_ ?_ ⟨a8 st,0,rfl,rfl,by lia,by lia,g,hd,fun p q h1 h2 h3 h4=>by
     have:p=q:=by lia
     subst this;exact irr o (pP g p (by lia))⟩) ?_)
   ·rintro x c st' _ hx ⟨xs,q,rfl,rfl,x2,hq,g,hd,he⟩;have hxs:xs.size=(a8 st).size:=g.size;dsimp only;refine bd (wp_ltAt o (i:=lo + x) (j:=lo + x - 1) hk PA g (by lia) (by lia) ?_)
    dsimp only;cases e:lt (at0 xs (lo + x)) (at0 xs (lo + x - 1)) with
    | true =>
     rw[if_pos rfl];have e2:=o.as _ _ (pP g _ (by lia)) (pP g _ (by lia)) e
     have one:∀ ys,Gd lo (a8 st) ys->Eqs lt ys (lo + (x + 1) - (0 + 1)) (lo + (x + 1)):=fun ys g' p q h1 h2 h3 h4=>by
      have:p=q:=by lia
      subst this;exact irr o (pP g' p (by lia))
     by_cases cq:q > 0
     ·rw[if_pos cq,dg];have hd2:(lo + x - (lo + x - (q + 1))) / 2=(lo + x - (lo + x - (q + 1))) / 2:=rfl;have g2:Gd lo (a8 st) (dA xs (lo + x - (q + 1)) (lo + x) ((lo + x - (lo + x - (q + 1))) / 2)):=g.rev (by lia) (by lia) rfl
      have d2:Dn lt (dA xs (lo + x - (q + 1)) (lo + x) ((lo + x - (lo + x - (q + 1))) / 2)) lo (lo + x):=hd.eqs (by lia) he (by lia) rfl
      refine bd (eX (bQ ⟨_,0,rfl,rfl,by lia,by lia,g2,Dn.more o (i:=lo) (j:=lo + x) (fun p hp=>pP g2 p (by lia)) d2 (by lia) ?_,one _ g2⟩))
      have rv:=rev_at (xs:=xs) (i:=lo + x - (q + 1)) (j:=lo + x) (by lia)
      rw[rv,rv,if_pos ⟨by lia,by lia⟩,if_neg (by lia)]
      exact o.tr (at0 xs (lo + x)) (at0 xs (lo + x - 1)) _ (pP g _ (by lia)) (pP g _ (by lia)) (pP g _ (by lia)) e2 (he _ _ (by lia) (by lia) (by lia) (by lia))
     ·rw[if_neg cq];exact bQ ⟨xs,0,rfl,rfl,by lia,by lia,g,Dn.more o (i:=lo) (j:=lo + x) (fun p hp=>pP g p (by lia)) hd (by lia) e2,one _ g⟩
    | false =>
     rw[if_neg (by simp)]
     refine bd (wp_ltAt o (i:=lo + x - 1) (j:=lo + x) hk PA g (by lia) (by lia) ?_)
     dsimp only;cases e2:lt (at0 xs (lo + x - 1)) (at0 xs (lo + x)) with
     | true=>rw[if_pos rfl];exact bQ ⟨xs,x,q,rfl,rfl,by lia,by lia,hq,g,hd,he⟩
     | false =>
      rw[if_neg (by simp)]
      refine bQ ⟨xs,q + 1,rfl,rfl,by lia,by lia,g,Dn.more o (i:=lo) (j:=lo + x) (fun p hp=>pP g p (by lia)) hd (by lia) e2,fun p r h1 h2 h3 h4=>?_⟩
      have pp:∀ p,p<=lo + x->P (at0 xs p):=fun p hp=>pP g p (by lia)
      have low:∀ p,lo + x - (q + 1)<=p->p < lo + x->lt (at0 xs p) (at0 xs (lo + x))=false/\lt (at0 xs (lo + x)) (at0 xs p)=false:=fun p a1 a2=>by
       have b1:=he p (lo + x - 1) a1 a2 (by lia) (by lia)
       have b2:=he (lo + x - 1) p (by lia) (by lia) a1 a2
       exact⟨o.tr _ _ _ (pp _ (by lia)) (pp _ (by lia)) (pp _ (by lia)) e2 b1,o.tr _ _ _ (pp _ (by lia)) (pp _ (by lia)) (pp _ (by lia)) b2 e⟩
      by_cases z1:p=lo + x
      ·by_cases z2:r=lo + x
       ·rw[z1,z2];exact irr o (pp _ (by lia))
       ·rw[z1];exact(low r (by lia) (by lia)).2
      ·by_cases z2:r=lo + x
       ·rw[z2];exact(low p (by lia) (by lia)).1
       ·exact he p r (by lia) (by lia) (by lia) (by lia)
   ·rintro c st' ⟨xs,q,rfl,rfl,x2,hq,g,hd,he⟩;exact⟨xs,_,q,rfl,rfl,by lia,by lia,hq,g,by rwa [show max (1 + 1) nrem=nrem by lia] at hd ⊢,he⟩
   ·rintro c st' ⟨xs,n,q,rfl,rfl,n1,n2,hq,g,hd,he⟩;have hxs:xs.size=(a8 st).size:=g.size;dsimp only
    by_cases cq:q > 0
    ·rw[if_pos cq,dg,dg];have g2:Gd lo (a8 st) (dA xs (lo + n - (q + 1)) (lo + n) ((lo + n - (lo + n - (q + 1))) / 2)):=g.rev (by lia) (by lia) rfl
     have d2:Dn lt (dA xs (lo + n - (q + 1)) (lo + n) ((lo + n - (lo + n - (q + 1))) / 2)) lo (lo + n):=hd.eqs (by lia) he (by lia) rfl
     have s2:=g2.size;have g3:=g2.rev (i:=lo) (j:=lo + n) (aj _) (by lia) rfl
     have u3:=d2.rev (i:=lo) (j:=lo + n) (by lia) rfl
     refine bd (eX (bd (eX ?_)));change wpS _ _ _ _ _ _ (c9 st (dA (dA xs (lo + n - (q + 1)) (lo + n) ((lo + n - (lo + n - (q + 1))) / 2)) lo (lo + n) ((lo + n - lo) / 2)));generalize dA (dA xs (lo + n - (q + 1)) (lo + n) ((lo + n - (lo + n - (q + 1))) / 2)) lo (lo + n) ((lo + n - lo) / 2)=zs at g3 u3 ⊢;refine bd (gn (dJ (I:=fun x c st'=>st'=c9 st zs/\c=(none,x)/\n<=x/\Up lt (zs) lo (lo + x))
      (Q:=fun c st'=>st'=c9 st zs/\∃ n,c=(none,n)/\1<=n/\n<=nrem/\Up lt (zs) lo (lo + n)) ?_ ?_ ⟨rfl,rfl,aj _,u3⟩) ?_)
     ·rintro x c st' _ hx ⟨rfl,rfl,h1,hu⟩;dsimp only;refine bd (wp_ltAt o (i:=lo + x) (j:=lo + x - 1) hk PA g3 (by lia) (by lia) ?_)
      dsimp only;cases e:lt (at0 (zs) (lo + x)) (at0 (zs) (lo + x - 1)) with
      | true=>rw[if_pos rfl];exact bQ ⟨rfl,x,rfl,by lia,by lia,hu⟩
      | false=>rw[if_neg (by simp)];exact bQ ⟨rfl,rfl,by lia,Up.more o (i:=lo) (j:=lo + x) (fun p hp=>pP g3 p (by lia)) hu (by lia) e⟩
     ·rintro c st' ⟨rfl,rfl,h1,hu⟩;exact⟨rfl,_,rfl,by lia,by lia,hu⟩
     ·rintro c st' ⟨rfl,n,rfl,n1,n2,hu⟩;exact bQ (h n (zs) n1 n2 g3 hu)
    ·rw[if_neg cq,dg];have g3:=g.rev (i:=lo) (j:=lo + n) (aj _) (by lia) rfl
     have u3:=hd.rev (i:=lo) (j:=lo + n) (by lia) rfl
     refine bd (eX ?_);change wpS _ _ _ _ _ _ (c9 st (dA xs lo (lo + n) ((lo + n - lo) / 2)));generalize dA xs lo (lo + n) ((lo + n - lo) / 2)=zs at g3 u3 ⊢;refine bd (gn (dJ (I:=fun x c st'=>st'=c9 st zs/\c=(none,x)/\n<=x/\Up lt (zs) lo (lo + x))
      (Q:=fun c st'=>st'=c9 st zs/\∃ n,c=(none,n)/\1<=n/\n<=nrem/\Up lt (zs) lo (lo + n)) ?_ ?_ ⟨rfl,rfl,aj _,u3⟩) ?_)
     ·rintro x c st' _ hx ⟨rfl,rfl,h1,hu⟩;dsimp only;refine bd (wp_ltAt o (i:=lo + x) (j:=lo + x - 1) hk PA g3 (by lia) (by lia) ?_)
      dsimp only;cases e:lt (at0 (zs) (lo + x)) (at0 (zs) (lo + x - 1)) with
      | true=>rw[if_pos rfl];exact bQ ⟨rfl,x,rfl,by lia,by lia,hu⟩
      | false=>rw[if_neg (by simp)];exact bQ ⟨rfl,rfl,by lia,Up.more o (i:=lo) (j:=lo + x) (fun p hp=>pP g3 p (by lia)) hu (by lia) e⟩
     ·rintro c st' ⟨rfl,rfl,h1,hu⟩;exact⟨rfl,_,rfl,by lia,by lia,hu⟩
     ·rintro c st' ⟨rfl,n,rfl,n1,n2,hu⟩;exact bQ (h n (zs) n1 n2 g3 hu)
end
theorem bub_at {xs:Array b9} {src d:Nat} (hs:src < xs.size) (hd:d<=src) (k:Nat) :
  at0 (bubble xs src d) k=if k=src - d then at0 xs src else if src - d < k/\k<=src then at0 xs (k - 1) else at0 xs k:=by
 have e:=getElem?_bubble hs d hd k
 by_cases h1:k=src - d
 ·rw[if_pos h1] at e ⊢;exact at_of e
 ·rw[if_neg h1] at e ⊢
  by_cases h2:src - d < k/\k<=src
  ·rw[if_pos h2] at e ⊢;exact at_of e
  ·rw[if_neg h2] at e ⊢;exact at_of e
section
variable {prog:aB} {w:aN} {A:aO} {E:ad->ah->Prop} {s:ah} {κ:f8} {P:b9->Prop} {lt:b9->b9->Bool} {st:gB} {lo:Nat}
theorem wp_bin (o:Orc prog w A s κ P lt) {n ok:Nat} {Q:Bool->gB->Prop} (hk:kindOf st=κ) (PA:∀ x∈(a8 st).toList,P x) (hs:lo + n<=(a8 st).size) (hok:ok<=n) (hu:Up lt (a8 st) lo (lo + ok))
  (h:∀ xs,Gd lo (a8 st) xs->Up lt xs lo (lo + n)->Q true (c9 st xs)):wpS (aA prog w) A E s (binarySort' lo n ok) Q st:=by
 have pP:∀ {xs},Gd lo (a8 st) xs->∀ p,p < (a8 st).size->P (at0 xs p):=fun g p hp=>(gd_P g PA hp).2;have g0:Gd lo (a8 st) (a8 st):=⟨kh _,fun _ _=>rfl⟩;rw[binarySort'_eq];refine bd (gn (dJ (I:=fun k c st'=>∃ xs,st'=c9 st xs/\c=(none,())/\Gd lo (a8 st) xs/\Up lt xs lo (lo + min k n))
  (Q:=fun c st'=>∃ xs,st'=c9 st xs/\c=(none,())/\Gd lo (a8 st) xs/\Up lt xs lo (lo + n)) ?step ?fin ?init) ?post)
 case post =>
  rintro c st' ⟨xs,rfl,rfl,g,hu⟩;exact bQ (h xs g hu)
 case init =>
  refine⟨a8 st,rfl,rfl,g0,fun p q h1 h2 h3=>?_⟩
  by_cases z:ok=0
  ·lia
  ·exact hu p q h1 h2 (by lia)
 case fin =>
  rintro c st' ⟨xs,rfl,rfl,g,hu⟩;refine⟨xs,rfl,rfl,g,?_⟩;rwa [show min (max (max ok 1) n) n=n by lia] at hu
 case step =>
  rintro k c st' hak hkn ⟨xs,rfl,rfl,g,hu⟩;rw[show min k n=k by lia] at hu
  have hxs:xs.size=(a8 st).size:=g.size;have pp:∀ p,p < lo + n->P (at0 xs p):=fun p hp=>pP g p (by lia)
  dsimp only;refine bd (gn (dJ (I:=fun x c st''=>st''=c9 st xs/\∃ l r,c=(none,l,r)/\l<=r/\r<=k/\r - l<=k - x /\
    (∀ i,i < l->lt (at0 xs (lo + k)) (at0 xs (lo + i))=false)/\(∀ i,r<=i->i < k->lt (at0 xs (lo + i)) (at0 xs (lo + k))=false))
   (Q:=fun c st''=>st''=c9 st xs/\∃ l r,c=(none,l,r)/\l<=k /\
    (∀ i,i < l->lt (at0 xs (lo + k)) (at0 xs (lo + i))=false)/\(∀ i,l<=i->i < k->lt (at0 xs (lo + i)) (at0 xs (lo + k))=false)) ?istep ?ifin ?iinit) ?ipost)
  case iinit=>exact⟨rfl,0,k,rfl,by lia,by lia,by lia,fun i hi=>by lia,fun i h1 h2=>by lia⟩
  case ifin =>
   rintro c st'' ⟨rfl,l,r,rfl,hlr,hrk,hm,hlo,hhi⟩
   have:l=r:=by lia
   subst this;exact⟨rfl,l,l,rfl,hrk,hlo,hhi⟩
  case istep =>
   rintro x c st'' _ hxk ⟨rfl,l,r,rfl,hlr,hrk,hm,hlo,hhi⟩;dsimp only
   by_cases hge:l >= r
   ·rw[if_pos hge]
    have:l=r:=by lia
    subst this;exact bQ ⟨rfl,l,l,rfl,hrk,hlo,hhi⟩
   ·rw[if_neg hge];refine bd (wp_ltAt o hk PA g (i:=lo + k) (j:=lo + (l + r) / 2) (by lia) (by lia) ?_)
    dsimp only;cases e:lt (at0 xs (lo + k)) (at0 xs (lo + (l + r) / 2)) with
    | true =>
     rw[if_pos rfl];refine bQ ⟨rfl,l,(l + r) / 2,rfl,by lia,by lia,by lia,hlo,fun i h1 h2=>?_⟩
     have e2:=o.as _ _ (pp _ (by lia)) (pp _ (by lia)) e
     rcases eF h1 with z | z
     ·rw[<- z];exact e2
     ·exact o.tr _ _ _ (pp _ (by lia)) (pp (lo + (l + r) / 2) (by lia)) (pp _ (by lia)) e2 (hu _ _ (by lia) (by lia) (by lia))
    | false =>
     rw[if_neg (by simp)]
     refine bQ ⟨rfl,(l + r) / 2 + 1,r,rfl,by lia,by lia,by lia,fun i h1=>?_,hhi⟩
     rcases eF (show i<=(l + r) / 2 by lia) with z | z
     ·rw[z];exact e
     ·exact o.tr _ _ _ (pp _ (by lia)) (pp (lo + (l + r) / 2) (by lia)) (pp _ (by lia)) (hu _ _ (by lia) (by lia) (by lia)) e
  case ipost =>
   rintro c st'' ⟨rfl,l,r,rfl,hlk,hlo,hhi⟩;show wpS _ _ _ _ (do moveDown' (lo + k) (lo + l);pure (ce (none,()))) _ _
   rw[moveDown'_eq];have hks:lo + k < xs.size:=by lia
   have ed:lo + k - (lo + l)=k - l:=by lia
   refine bd (eX (bQ ⟨bubble xs (lo + k) (lo + k - (lo + l)),rfl,rfl,⟨(bubble_perm _ _ _).trans g.1,fun i hi=>?_⟩,?_⟩))
   ·rw[getElem?_bubble hks _ (by lia),if_neg (by lia),if_neg (by lia)]
    exact g.2 i hi
   ·rw[show min (k + 1) n=k + 1 by lia]
    intro p q h1 h2 h3;rw[bub_at hks (by lia),bub_at hks (by lia),show lo + k - (lo + k - (lo + l))=lo + l by lia]
    have hlo':∀ i,lo<=i->i < lo + l->lt (at0 xs (lo + k)) (at0 xs i)=false:=fun i a b=>by
     have:=hlo (i - lo) (by lia)
     rwa [show lo + (i - lo)=i by lia] at this
    have hhi':∀ i,lo + l<=i->i < lo + k->lt (at0 xs i) (at0 xs (lo + k))=false:=fun i a b=>by
     have:=hhi (i - lo) (by lia) (by lia)
     rwa [show lo + (i - lo)=i by lia] at this
    repeat' split
    all_goals first
     | (exfalso;lia)
     | exact hlo' _ (by lia) (by lia)
     | exact hhi' _ (by lia) (by lia)
     | exact hu _ _ (by lia) (by lia) (by lia)
end
def offs:Nat->List (List b9)->List (Nat × Nat)
 | _,[]=>[]
 | k,s::ss=>(k,s.length)::offs (k + s.length) ss
theorem offs_len:∀ k ss,(offs k ss).length=ss.length
 | _,[]=>rfl
 | k,s::ss=>by simp[offs,offs_len]
theorem offs_app:∀ k (s1 s2:List (List b9)),offs k (s1++s2)=offs k s1++offs (k + s1.flatten.length) s2
 | k,[],s2=>by simp[offs]
 | k,s::s1,s2=>by simp[offs,offs_app,Nat.add_assoc]
def sl (x:Nat × Nat × Nat):Nat × Nat:=(x.1,x.2.1)
structure Pn (κ:f8) (P:b9->Prop) (lt:b9->b9->Bool) (a0:List b9) (st:gB) (segs:List (List b9)) (rest:List b9):Prop where
 kind:kindOf st=κ
 fl:failedOf st=none
 arr:(a8 st).toList=segs.flatten++rest
 perm:(a8 st).toList.Perm a0
 sd:∀ sg∈segs,Sd lt sg/\sg≠[]
 pd:(jS st).toList.map sl=offs 0 segs
section
variable {prog:aB} {w:aN} {A:aO} {E:ad->ah->Prop} {s:ah} {κ:f8} {P:b9->Prop} {lt:b9->b9->Bool} {st:gB} {a0 rest:List b9} {segs:List (List b9)}
theorem Pn.psize (h:Pn κ P lt a0 st segs rest):(jS st).size=segs.length:=by
 have:=congrArg fj h.pd
 rwa [ag,offs_len,aR] at this
theorem Pn.size (h:Pn κ P lt a0 st segs rest):(a8 st).size=a0.length:=by rw[<- aR];exact h.perm.length_eq
theorem Pn.room (h:Pn κ P lt a0 st segs rest):segs.flatten.length + rest.length=a0.length:=by rw[<- az,<- h.arr];exact h.perm.length_eq
theorem Pn.next (h:Pn κ P lt a0 st segs rest) {xs:Array b9} {n:Nat} (hn:1<=n) (hs:segs.flatten.length + n<=a0.length) (g:Gd segs.flatten.length (a8 st) xs) (hu:Up lt xs segs.flatten.length (segs.flatten.length + n)) :
  ∃ sg rest',sg.length=n/\Sd lt sg/\sg≠[]/\Pn κ P lt a0 (c9 st xs) segs (sg++rest'):=by
 have hz:xs.toList.length=a0.length:=by rw[aR,g.size,h.size]
 have tk:xs.toList.take segs.flatten.length=segs.flatten:=by
  have:(a8 st).toList.take segs.flatten.length=segs.flatten:=by rw[h.arr,List.take_append_of_le_length (aj _),ii]
  rw[<- this];refine jp fun i=>?_;rw[List.getElem?_take,List.getElem?_take,this]
  split
  ·next hi=>rw[bu,bu];exact g.2 i hi
  ·rfl
 refine⟨(xs.toList.drop segs.flatten.length).take n,(xs.toList.drop segs.flatten.length).drop n,by rw[aP,bo];lia,?_,fun e=>?_,h.kind,h.fl,?_,?_,h.sd,h.pd⟩
 ·refine cT.mpr fun i j hi hj hij=>?_;rw[aP,bo] at hi hj
  have:=hu (segs.flatten.length + i) (segs.flatten.length + j) (by lia) (by lia) (by lia)
  have ea:∀ k,segs.flatten.length + k < xs.toList.length->∀ hk,((xs.toList.drop segs.flatten.length).take n)[k]'hk=at0 xs (segs.flatten.length + k):=fun k h1 hk=>by
   rw[jq,jr];unfold at0;rw[<- bu,ai h1]
   rfl
  rw[ea i (by lia),ea j (by lia)]
  exact this
 ·have:=congrArg fj e
  rw[aP,bo,dY] at this;lia
 ·show xs.toList=_;rw[eJ]
  conv=>lhs;rw[<- eJ segs.flatten.length xs.toList,tk]
 ·exact(dw.mp g.1).trans h.perm
theorem Pn.push {sg rest':List b9} (h:Pn κ P lt a0 st segs (sg++rest')) (hs:Sd lt sg) (hne:sg≠[]) {lo n:Nat} (hlo:segs.flatten.length=lo) (hn:sg.length=n):Pn κ P lt a0 (setPending st ((jS st).push (lo,n,0))) (segs++[sg]) rest':=by
 subst hlo hn;refine⟨h.kind,h.fl,?_,h.perm,fun x hx=>?_,?_⟩
 ·show(a8 st).toList=_;rw[h.arr];simp
 ·rcases bB.mp hx with z | z
  ·exact h.sd x z
  ·rw[aG.mp z];exact⟨hs,hne⟩
 ·show((jS st).push _).toList.map sl=_;rw[gL,a9,h.pd,offs_app];simp[offs,sl]
end
section
variable {prog:aB} {w:aN} {A:aO} {E:ad->ah->Prop} {s:ah} {κ:f8} {P:b9->Prop} {lt:b9->b9->Bool} {st:gB} {a0 rest:List b9} {segs:List (List b9)}
theorem wp_runs64 (o:Orc prog w A s κ P lt) (PA:∀ x∈(a8 st).toList,P x) (hk:kindOf st=κ) (hf:failedOf st=none) (hp:jS st=#[]) (h64:(a8 st).size < 64) {Q:Unit->gB->Prop}
  (h:∀ st',(a8 st').toList.Perm (a8 st).toList->failedOf st'=none->Sd lt (a8 st').toList->Q () st'):wpS (aA prog w) A E s sortRuns' Q st:=by
 have h0:Pn κ P lt (a8 st).toList st [] (a8 st).toList:=⟨hk,hf,rfl,e9 _,fun _ hx=>absurd hx hZ,by rw[hp];rfl⟩
 have pA:∀ {st' segs rest},Pn κ P lt (a8 st).toList st' segs rest->∀ x∈(a8 st').toList,P x:=fun I x hx=>PA x (I.perm.mem_iff.mp hx);have hmr:minRun' (a8 st).size (a8 st).size 0=(a8 st).size:=by
  cases e:(a8 st).size with
  | zero=>rfl
  | succ n=>rw[minRun'_succ,if_pos (by lia)]
 rw[sortRuns'_eq];refine bd (wpS_get ?_);dsimp only;have lz:(a8 st).toList.length=(a8 st).size:=aR;refine bd (gn (dJ
  (I:=fun x c st'=>∃ segs rest,c=(none,segs.flatten.length)/\Pn κ P lt (a8 st).toList st' segs rest/\x<=segs.flatten.length/\segs.length<=1/\(segs=[]\/rest=[]))
  (Q:=fun c st'=>∃ segs,c=(none,segs.flatten.length)/\Pn κ P lt (a8 st).toList st' segs []/\segs.length<=1) ?step ?fin ⟨[],_,rfl,h0,aj _,bG _,.inl rfl⟩) ?post)
 case fin =>
  rintro c st' ⟨segs,rest,rfl,I,hx,h1,_⟩;have r:=I.room;obtain rfl:rest=[]:=bz (by lia)
  exact⟨segs,rfl,I,h1⟩
 case post =>
  rintro c st' ⟨segs,rfl,I,h1⟩;dsimp only;refine bd (gn (dJ (I:=fun x c st'=>∃ segs,c=(none,())/\Pn κ P lt (a8 st).toList st' segs []/\segs.length<=1)
   (Q:=fun c st'=>∃ segs,c=(none,())/\Pn κ P lt (a8 st).toList st' segs []/\segs.length<=1) ?_ (fun _ _ hh=>hh) ⟨segs,rfl,I,h1⟩) ?_)
  ·rintro x c st' _ hx ⟨segs,rfl,I,hc⟩;refine bd (wpS_get ?_);have hps:=I.psize;rw[if_pos (by lia)]
   exact bQ ⟨segs,rfl,I,hc⟩
  ·rintro c st' ⟨segs,rfl,I,hc⟩;refine bQ (h st' I.perm I.fl ?_);rw[I.arr,eN]
   match segs,hc,I with
   | [],_,_=>exact gY
   | [sg],_,I=>rw[gZ];exact(I.sd sg (.head _)).1
 case step =>
  rintro x c st' _ hx ⟨segs,rest,rfl,I,hxs,hs1,hor⟩;have r:=I.room;have sz:=I.size;dsimp only
  by_cases c1:segs.flatten.length >= (a8 st).size
  ·rw[if_pos c1];obtain rfl:rest=[]:=bz (by lia)
   exact bQ ⟨segs,rfl,I,hs1⟩
  rw[if_neg c1];obtain rfl:segs=[]:=by
   rcases hor with z | z
   ·exact z
   ·subst z;rw[dY] at r;exact absurd (by lia) c1
  refine bd (wp_cnt o I.kind (pA I) (lo:=([]:List (List b9)).flatten.length) (by lia) (by lia) fun n xs n1 n2 g hu=>?_)
  dsimp only;rw[hmr];have z0:([]:List (List b9)).flatten.length=0:=rfl
  by_cases c2:n < (a8 st).size
  rw[if_pos c2];refine bd (wpS_lift (dH ⟨rfl,?_⟩));refine bd (wp_bin o (st:=c9 st' xs) I.kind (fun x hx=>pA I x ((dw.mp g.1).mem_iff.mp hx)) (by have:=g.size;show _<=xs.size;lia) (by lia) hu fun ys g2 hu2=>?_)
  rw[if_neg (by simp)]
  obtain⟨sg,rest',ls,hs,hne,I2⟩:=I.next (by lia) (by lia) ⟨g2.1.trans g.1,fun i hi=>(g2.2 i hi).trans (g.2 i hi)⟩ hu2
  change Pn κ P lt _ (c9 (c9 st' xs) ys) _ _ at I2
  rotate_left
  rw[if_neg c2];obtain⟨sg,rest',ls,hs,hne,I2⟩:=I.next n1 (by lia) g hu
  all_goals
   have r2:=I2.room;rw[az] at r2;have hps:=I2.psize;obtain rfl:rest'=[]:=bz (by lia)
   refine bd (wpS_get ?_)
   split
   next s1 n1' _ hb =>
    exfalso
    have:(jS _).size=0:=hps
    have:=ig this
    rw[this] at hb;simp at hb
   next =>
    refine bd (eX (bQ ⟨[sg],[],?_,I2.push hs hne rfl ls,?_,aj _,.inr rfl⟩))
    ·rw[gZ,ls];simp
    ·rw[gZ];lia
end
theorem mem_zip_same {α:Type}:∀ {l:List α} {x y:α},(x,y)∈l.zip l->x=y/\x∈l
 | a::l,x,y,h=>by
  rw[cD] at h;rcases ax.mp h with e | h
  ·cases e;exact⟨rfl,.head _⟩
  ·exact⟨(mem_zip_same h).1,.tail _ (mem_zip_same h).2⟩
section
variable {prog:aB} {w:aN} {A:aO} {E:ad->ah->Prop} {s:ah}
theorem short_pw {α:Type} {R:α->α->Prop}:∀ l:List α,l.length < 2->l.Pairwise R
 | [],_=>.nil
 | [x],_=>cL _ _
theorem sort_any64 {a:Addr} {vs:List ad} {n:Nat} {P:PySem.Fin->ah->Prop} (lt:ad->ad->Bool) (h64:vs.length < 64) (ho:s.heap.get? a=some (bM "list" vs.toArray n))
  (H:∀ h2:aS,(∀ b o,b≠a->s.heap.get? b=some o->h2.get? b=some o)->2<=vs.length->∀ (Q:f8->ah->Prop),(∀ κ,Orc prog w A { s with heap:=h2 } κ (fun x=>x.1∈vs) (fun x y=>lt x.1 y.1)->Q κ { s with heap:=h2 })->aw (aA prog w) A (keyKind' vs.toArray) Q E { s with heap:=h2 })
  (h:∀ xs:Array b9,xs.Perm (ka vs)->xs.toList.Pairwise (fun x y=>lt y.1 x.1=false)->P (.done (.ret .none)) { s with heap:=jh s.heap a vs (xs.map (·.2)) }) :
  aw (aA prog w) A (bC.«list.sort» ⟨[.ref a],[]⟩) P E s:=by
 have hz:vs.length<=sizeLine:=by rw[bn];lia
 rw[list_sort_plain];have ha:a < s.heap.objs.size:=aq ho;refine aa (j5 ho rfl ?_);refine aa (f9 ho rfl ?_ (by rw[ak];exact hz) (bG _))
 obtain⟨e1,ho1⟩:∃ e1,(s.heap.update a (aV fun _=>#[])).get? a=some (bM "list" #[] e1):=⟨_,gw ho (fun _=>#[])⟩;refine aa (iz ho1 rfl ?_);refine aa (je ?_ (by show vs.length<=_;exact hz))
 refine aa (gc ?_ (bG _));refine aW ?_;have sb:=be s.heap a (aV fun _=>(#[]:Array ad));have ho6:(((s.heap.update a (aV fun _=>#[])).push (bM "tuple" vs.toArray 0)).push (bM "list" #[] 0)).get? a=some (bM "list" #[] e1):=af _ (af _ ho1);have kp:∀ b o,b≠a->s.heap.get? b=some o->(((s.heap.update a (aV fun _=>#[])).push (bM "tuple" vs.toArray 0)).push (bM "list" #[] 0)).get? b=some o:=fun b o hb e=>af _ (af _ ((sb.2 b hb).trans e));show aw (aA prog w) A _ P E { s with heap:=((s.heap.update a (aV fun _=>#[])).push (bM "tuple" vs.toArray 0)).push (bM "list" #[] 0) }
 dsimp only;have pz:(ka vs).size=vs.length:=pairsOf_size vs
 by_cases h2:vs.toArray.size < 2
 ·rw[if_pos h2,if_pos h2];refine aa (ae ?_);rw[StateT.run_pure];refine aa (ae ?_);dsimp only;refine aa (iz ho6 rfl ?_);refine aa (f9 ho6 rfl ?_ (bG _) (by rw[kq];show(ka vs).size<=_;rw[pz];exact Nat.le_succ_of_le hz))
  simp only[bne_self_eq_false,aE,if_false];refine ae (h (ka vs) (kh _) ?_)
  have:(ka vs).toList.length < 2:=by rw[aR,pz];simpa using h2
  exact short_pw _ this
 ·rw[if_neg h2,if_neg h2];refine aa (H _ kp (by simpa using h2) _ fun κ o=>?_)
  refine aa (cH (wp_runs64 o (st:=gB.mk' κ (vs.toArray.zip vs.toArray) #[] 7 none) (Q:=fun _ st'=>(a8 st').toList.Perm (ka vs).toList/\failedOf st'=none/\Sd (fun x y:b9=>lt x.1 y.1) (a8 st').toList)
   (fun x hx=>(mem_zip_same (x:=x.1) (y:=x.2) (by rw[<- pairsOf_toList];exact hx)).2) rfl rfl rfl (by show(ka vs).size < 64;rw[pz];exact h64) fun st' a1 a2 a3=>⟨a1,a2,a3⟩) ?_ fun _ _ e=>e)
  rintro⟨⟨⟩,st'⟩ s' ⟨rfl,hp,hf,hs⟩;dsimp only;refine aa (iz ho6 rfl ?_);refine aa (f9 ho6 rfl ?_ (bG _) (by rw[kq,<- aR,hp.length_eq,aR,pz];exact Nat.le_succ_of_le hz))
  rw[hf];simp only[bne_self_eq_false,aE,if_false];exact ae (h _ (dw.mpr hp) hs)
end
end SF
namespace KS
open PySem PySem.W PyProof.Rows
section
variable {prog:aB} {w:aN} {A:aO} {E:ad->ah->Prop} {s:ah}
open Classical in
theorem perm_map {α β:Type} {f:α->β} {l:List β} {k:List β} (h:l.Perm k):∀ {m:List α},k=m.map f->∃ m':List α,m'.Perm m/\l=m'.map f:=by
 induction h with
 | nil=>exact fun e=>⟨_,e9 _,e⟩
 | cons x _ ih =>
  intro m e;cases m with
  | nil=>cases e
  | cons a m =>
   rw[bm] at e;injection e with e1 e2
   obtain⟨m',p,q⟩:=ih e2;exact⟨a::m',p.cons a,by rw[bm,q,e1]⟩
 | swap x y l =>
  intro m e;cases m with
  | nil=>cases e
  | cons a m =>
   cases m with
   | nil=>simp at e
   | cons b m =>
    rw[bm,bm] at e;injection e with e1 e2
    injection e2 with e2 e3
    exact⟨b::a::m,.swap _ _ _,by rw[bm,bm,e1,e2,e3]⟩
 | trans p q ih1 ih2 =>
  intro m e;obtain⟨m1,q1,e1⟩:=ih2 e;obtain⟨m2,q2,e2⟩:=ih1 e1;exact⟨m2,q2.trans q1,e2⟩
theorem idx_map {α:Type} (l:List α) (d:α):((aD l.length).map fun i=>l.getD i d)=l:=by
 apply fh
 ·simp
 ·intro i h1 h2;simp only[eA,jd,ay];rw[ai h2]
  rfl
end
end KS
set_option maxHeartbeats 1000000
namespace L2
open PySem PySem.Spec PyProof.Rows
def smp:Nat->D->Bool
 | _,.int _=>true
 | _,.str _=>true
 | n + 1,.tup xs=>xs.all (smp n)
 | _,_=>false
section
variable {X:Cx} {pins:List (Addr × Obj)} {σ:St} {H:Hp} {s:ah} {M:Am}
theorem repl_uniq {f:D->Bool} (h:∀ d e x,f d=true->f e=true->RepV X.K M H d x->RepV X.K M H e x->d=e):∀ {ds es:List D} {xs:List V},ds.all f=true->es.all f=true->RepL X.K M H ds xs->RepL X.K M H es xs->ds=es
 | [],[],_,_,_,_,_=>rfl
 | [],e::es,xs,_,_,p,q=>by
  unfold RepL at p q;obtain⟨v,vs,rfl,_⟩:=q;cases p
 | d::ds,[],xs,_,_,p,q=>by
  unfold RepL at p q;obtain⟨v,vs,rfl,_⟩:=p;cases q
 | d::ds,e::es,xs,a,b,p,q=>by
  unfold RepL at p q;obtain⟨v,vs,rfl,p1,p2⟩:=p;obtain⟨v',vs',e',q1,q2⟩:=q;injection e' with e1 e2
  subst e1 e2;rw[jz,aK] at a b;rw[h d e v a.1 b.1 p1 q1,repl_uniq h a.2 b.2 p2 q2]
theorem rep_uniq (I:Inv X pins σ H s):∀ (n:Nat) (d e:D) (x:V),smp n d=true->smp n e=true->RepV X.K M H d x->RepV X.K M H e x->d=e
 | 0,d,e,x,a,b,p,q=>by
  cases d <;> first | (cases a;done) | skip
  all_goals (cases e <;> first | (cases b;done) | skip)
  all_goals (unfold RepV at p q;subst p)
  ·injection q with q;rw[q]
  ·cases q
  ·cases q
  ·injection q with q;rw[q]
 | n + 1,d,e,x,a,b,p,q=>by
  cases d <;> first | (cases a;done) | skip
  all_goals (cases e <;> first | (cases b;done) | skip)
  ·unfold RepV at p q;subst p;injection q with q;rw[q]
  ·unfold RepV at p q;subst p;cases q
  ·unfold RepV at p q;subst p;obtain⟨_,_,e',_⟩:=q;cases e'
  ·unfold RepV at p q;subst p;cases q
  ·unfold RepV at p q;subst p;injection q with q;rw[q]
  ·unfold RepV at p q;subst p;obtain⟨_,_,e',_⟩:=q;cases e'
  ·unfold RepV at p q;subst q;obtain⟨_,_,e',_⟩:=p;cases e'
  ·unfold RepV at p q;subst q;obtain⟨_,_,e',_⟩:=p;cases e'
  ·rename_i ds es;unfold RepV at p q;obtain⟨a1,xs,rfl,t,l⟩:=p;obtain⟨a2,ys,e',t',l'⟩:=q;injection e' with e'
   subst e'
   have:xs=ys:=I.tuple_inj t.sq t'.sq
   subst this;rw[repl_uniq (fun d e x=>rep_uniq I n d e x) a b l l']
open PySem.W in
theorem one_at (I:Inv X pins σ H s) {n:Nat} {A:aO} {c:Bool} {d e:D} {x y:V} {u v:ad} {Q:Bool->ah->Prop} {E:ad->ah->Prop} (hu:A.units + n < bS) (h:RepV X.K M H d x) (h':RepV X.K M H e y) (r:RelV x u) (r':RelV y v) (o:okL n d e=true) (hd:smp n d=true) (he:smp n e=true)
  (q:Q (ltN n d e) s):aw (aA X.prog X.w) A (oneLt' c u v) Q E s:=by
 cases c with
 | false=>exact kat_one _ _ (lt_at I n hu h h' r r' o _ _ _ _ (show jL Q (.bool (ltN n d e)) s from q))
 | true =>
  cases n with
  | zero =>
   cases d <;> first | (cases hd;done) | skip
   all_goals (cases e <;> first | (cases o;done) | skip)
   all_goals unfold RepV at h h';subst h;subst h';obtain⟨t,rfl⟩:=r;obtain⟨t',rfl⟩:=r'
   ·exact kb q
   ·exact kc q
  | succ n =>
   cases d <;> first | (cases hd;done) | skip
   all_goals (cases e <;> first | (cases o;done) | skip)
   ·unfold RepV at h h';subst h;subst h';obtain⟨t,rfl⟩:=r;obtain⟨t',rfl⟩:=r';exact kb q
   ·unfold RepV at h h';subst h;subst h';obtain⟨t,rfl⟩:=r;obtain⟨t',rfl⟩:=r';exact kc q
   ·rename_i ds es;unfold RepV at h h';obtain⟨a,xs,rfl,t,l⟩:=h;obtain⟨b,ys,rfl,t',l'⟩:=h';cases r;cases r';obtain⟨us,ru,pl,_⟩:=I.tuple t.sq;obtain⟨vs,rv,pl',_⟩:=I.tuple t'.sq;obtain⟨⟨cls,dd,data,sl⟩,ho,hc,n1,hd1⟩:=id pl;obtain⟨⟨cls2,dd2,data2,sl2⟩,ho2,hc2,n2,hd2⟩:=id pl';simp only at hc hd1 hc2 hd2;subst hc hd1 hc2 hd2;rw[oneLt'_eq];simp only[if_true];refine aa (wpAny_cRoomFor (by lia) ?_)
    refine aa (ie ⟨_,ho,rfl⟩ dE (gz dE ⟨_,ho,rfl⟩ fr (ff _ _) (HT.tuple_lt_gen a b _ _ n1 n2 dd dd2 sl sl2 (lexN (ltN n) ds es)) ⟨ho,ho2,?_,?_⟩))
    ·exact lex_at (fun p q r r' o=>(eq3 I n (show A.units + 1 + n < bS by lia) p q r r' o).eq) (fun p q r r' o=>lt_at I n (show A.units + 1 + n < bS by lia) p q r r' o) l l' ru rv o
    ·exact cY q
open PySem.W in
theorem katD (I:Inv X pins σ H s) {n:Nat} {A:aO} {c:Bool} {Q:Bool->ah->Prop} (hu:A.units + n < bS):∀ {ds es:List D} {xs ys:List V} {us vs:List ad} (i:Nat) {fin:Bool},RepL X.K M H ds xs->RepL X.K M H es ys->Vals xs us->Vals ys vs->okLs (okL n) n ds es=true->ds.all (smp n)=true->es.all (smp n)=true->fin=decide (us.length < vs.length)->Q (lexN (ltN n) ds es) s->KatLex X.prog X.w A c fin Q (us.zip vs) i s
 | [],[],_,_,_,_,i,fin,p,q,r,t,_,_,_,hf,h=>by
  unfold RepL at p q;subst p;subst q;cases r;cases t;subst hf;exact kat_nil h
 | [],e::es,_,_,_,_,i,fin,p,q,r,t,_,_,_,hf,h=>by
  unfold RepL at p q;subst p;obtain⟨v,vs,rfl,_,_⟩:=q;cases r;cases t;subst hf;rw[cK];exact kat_nil (by simpa [lexN] using h)
 | d::ds,[],_,_,_,_,i,fin,p,q,r,t,_,_,_,hf,h=>by
  unfold RepL at p q;subst q;obtain⟨v,vs,rfl,_,_⟩:=p;cases r;cases t;subst hf;rw[cN];exact kat_nil (by simpa [lexN] using h)
 | d::ds,e::es,_,_,_,_,i,fin,p,q,r,t,o,s1,s2,hf,h=>by
  unfold RepL at p q;obtain⟨x,xs,rfl,p1,p2⟩:=p;obtain⟨y,ys,rfl,q1,q2⟩:=q;cases r with
  | cons r1 r2 =>
   cases t with
   | cons t1 t2 =>
    unfold okLs at o;rw[aK] at o;rw[jz,aK] at s1 s2;rw[cD];unfold lexN at h;refine kat_cons ((eq3 I n hu p1 q1 r1 t1 o.1).eq _ _ _ _ ?_);refine kat_go (fun z=>kat_yes ?_) fun z=>kat_no ?_
    ·have z:=of_decide_eq_true z;rw[if_pos z] at h o;exact katD I hu (i + 1) p2 q2 r2 t2 o.2 s1.2 s2.2 (by subst hf;simp) h
    ·have z:=of_decide_eq_false z;rw[if_neg z] at h o;exact one_at I hu p1 q1 r1 t1 o.2 s1.1 s2.1 h
open PySem.W in
theorem keyD_lt (I:Inv X pins σ H s) {n:Nat} {A:aO} {κ:f8} {d e:D} {x y:V} {u v:ad} {Q:Bool->ah->Prop} {E:ad->ah->Prop} (hu:A.units + (n + 1) < bS) (h:RepV X.K M H d x) (h':RepV X.K M H e y) (r:RelV x u) (r':RelV y v) (o:okL (n + 1) d e=true) (hd:smp (n + 1) d=true) (he:smp (n + 1) e=true) (ht:∃ xs,d=.tup xs) (ht':∃ xs,e=.tup xs)
  (hκ:(∃ c,κ=tuples' c)\/κ=general'\/κ=oneType') (q:Q (ltN (n + 1) d e) s):aw (aA X.prog X.w) A (keyLt' κ u v) Q E s:=by
 rcases hκ with⟨c,rfl⟩ | rfl | rfl
 ·obtain⟨ds,rfl⟩:=ht;obtain⟨es,rfl⟩:=ht';unfold RepV at h h';obtain⟨a,xs,rfl,t,l⟩:=h;obtain⟨b,ys,rfl,t',l'⟩:=h';cases r;cases r';obtain⟨us,ru,⟨o1,ho,hc,n1,hd1⟩,_⟩:=I.tuple t.sq;obtain⟨vs,rv,⟨o2,ho2,hc2,n2,hd2⟩,_⟩:=I.tuple t'.sq;refine kat_lt ho hd1 ho2 hd2 ?_;exact katD I (show A.units + n < bS by lia) 0 l l' ru rv o hd he (by simp) q
 ·show aw _ _ (oneLt' false _ _) _ _ _;exact one_at I hu h h' r r' o hd he q
 ·rw[keyLt'_oneType];exact one_at I hu h h' r r' o hd he q
def TyL (h:aS) (v:ad):Prop:=(∃ x t,v=.str x t)\/(∃ i t,v=.int i t)\/∃ b o T,v=.ref b/\h.get? b=some o/\o.cls=.type T
def TupL (h:aS) (v:ad):Prop:=∃ b items,v=.ref b/\iW h b items/\∀ x∈items.toList,TyL h x
theorem TupL.ty {h:aS} {v:ad} (t:TupL h v):TyL h v:=by
 obtain⟨b,items,rfl,⟨o,ho,hc,_⟩,_⟩:=t;exact .inr (.inr ⟨b,o, "tuple",rfl,ho,hc⟩)
open PySem.W in
theorem types_go {prog:aB} {w:aN} {A:aO} {E:ad->ah->Prop} {s:ah}:∀ {vs:List ad} {Q:List ad->ah->Prop},(∀ v∈vs,TyL s.heap v)->(∀ ts,Q ts s)->aw (aA prog w) A (vs.mapM typeOf) Q E s
 | [],_,_,h=>by rw[kI];exact ae (h [])
 | v::vs,Q,p,h=>by
  rw[ku];refine aa ?_;have rest:∀ t:ad,aw (aA prog w) A (vs.mapM typeOf >>= fun ts=>pure (t::ts)) Q E s:=fun t=>aa (types_go (fun u hu=>p u (au _ hu)) fun ts=>ae (h _));rcases p v ar with⟨x,t,rfl⟩ | ⟨i,t,rfl⟩ | ⟨b,o,T,rfl,ho,hc⟩
  ·exact ae (rest _)
  ·exact ae (rest _)
  ·exact Looks.here (show Looks (aA prog w) s.heap (typeOf (.ref b)) o.cls from(Looks.ld ho).andThen .now) (rest _)
open PySem.W in
theorem firstsN {prog:aB} {w:aN} {A:aO} {E:ad->ah->Prop} {s:ah}:∀ {vs:List ad} {Q:List (Option ad)->ah->Prop},(∀ v∈vs,TupL s.heap v)->(∀ fs:List (Option ad),(∀ f∈fs,∀ v,f=some v->TyL s.heap v)->Q fs s)->aw (aA prog w) A (vs.mapM firstOfTuple') Q E s
 | [],_,_,h=>by rw[kI];exact ae (h [] fun f hf=>by cases hf)
 | v::vs,Q,p,h=>by
  obtain⟨b,items,rfl,⟨o,ho,hc,n,hd⟩,ti⟩:=p v ar;rw[ku];refine aa ?_;rw[kas_first_eq];refine aa (Looks.here (show Looks (aA prog w) s.heap (typeOf (.ref b)) o.cls from(Looks.ld ho).andThen .now) ?_)
  rw[hc,if_neg (by first | decide | simp)]
  refine aa (j5 ho hd (ae ?_));refine aa (firstsN (fun u hu=>p u (au _ hu)) fun fs pf=>ae (h _ fun f hf v e=>?_));rcases ax.mp hf with rfl | hf
  ·refine ti v ?_
   have:=eI e
   simpa using this
  ·exact pf f hf v e
open PySem.W in
theorem kindN {prog:aB} {w:aN} {A:aO} {E:ad->ah->Prop} {s:ah} {vs:List ad} {Q:f8->ah->Prop} (p:∀ v∈vs,TupL s.heap v) (h:∀ κ,(∃ c,κ=tuples' c)\/κ=general'\/κ=oneType'->Q κ s):aw (aA prog w) A (keyKind' vs.toArray) Q E s:=by
 rw[kat_kind_eq,fD,map_eq_pure_bind];refine aa (aa (firstsN p fun fs pf=>ae ?_));have one:∀ (gs:List ad) (Q':Option ad->ah->Prop),(∀ v∈gs,TyL s.heap v)->(∀ o,Q' o s)->aw (aA prog w) A (oneTypeOnly' gs.toArray) Q' E s:=fun gs Q' hg hq=>by
  rw[oneTypeOnly'_eq,fD,map_eq_pure_bind];refine aa (aa (types_go hg fun ts=>ae ?_));cases ts.toArray[0]? with
  | none=>exact ae (hq _)
  | some t=>exact ae (hq _)
 by_cases hall:(fs.toArray.all fun x=>x.isSome)=true
 ·rw[if_pos hall];refine aa (dH ?_);have e:fs.toArray.filterMap id=(fs.filterMap id).toArray:=by simp
  rw[e];refine aa (one _ _ (fun v hv=>?_) fun o=>ae (h _ (.inl ⟨_,rfl⟩)));obtain⟨f,hf,e⟩:=eB.mp hv;exact pf f hf v e
 ·rw[if_neg hall]
  by_cases h1:((fs.toArray[0]?.bind id).isSome)=true
  ·rw[if_pos h1];exact ae (h _ (.inr (.inl rfl)))
  ·rw[if_neg h1];refine aa (one _ _ (fun v hv=>(p v hv).ty) fun o=>?_);cases o with
   | none=>exact ae (h _ (.inr (.inl rfl)))
   | some t=>exact ae (h _ (.inr (.inr rfl)))
end
structure SrtOk (ds:List D):Prop where
 tup:∀ d∈ds,∃ xs,d=.tup xs
 smp:∀ d∈ds,smp 8 d=true
 ok:∀ a∈ds,∀ b∈ds,okL 8 a b=true
 as:∀ a∈ds,∀ b∈ds,ltN 8 a b=true->ltN 8 b a=false
 tr:∀ a∈ds,∀ b∈ds,∀ c∈ds,ltN 8 b a=false->ltN 8 c b=false->ltN 8 c a=false
section
variable {X:Cx} {K:Fg} {pos:Pos} {k:Nat}
open Classical in
noncomputable def decD (K:Fg) (M:Am) (H:Hp) (ds:List D) (v:ad):D:=if e:∃ d,d∈ds/\∃ x,RepV K M H d x/\RelV x v then e.choose else .non
theorem dec_is {pins:List (Addr × Obj)} {σ:St} {H:Hp} {s:ah} {M:Am} {ds:List D} (I:Inv X pins σ H s) (ok:SrtOk ds) {d:D} {x:V} {v:ad} (hd:d∈ds) (h:RepV X.K M H d x) (r:RelV x v):decD X.K M H ds v=d:=by
 have e:∃ d,d∈ds/\∃ x,RepV X.K M H d x/\RelV x v:=⟨d,hd,x,h,r⟩;unfold decD;rw[dif_pos e];obtain⟨h1,y,h2,h3⟩:=e.choose_spec;generalize e.choose=d' at h1 h2 ⊢;obtain⟨xs,rfl⟩:=ok.tup d hd;obtain⟨xs',rfl⟩:=ok.tup d' h1;have s1:=ok.smp _ hd;have s2:=ok.smp _ h1;have hx:x=y:=by
  unfold RepV at h h2;obtain⟨a,_,rfl,_⟩:=h;obtain⟨b,_,rfl,_⟩:=h2;cases r;cases h3;rfl
 subst hx;exact rep_uniq I 8 _ _ _ s2 s1 h2 h
theorem reps_get {K:Fg} {M:Am} {H:Hp}:∀ {ds:List D} {us:List V} {vs:List ad},RepL K M H ds us->Vals us vs->∀ i,i < vs.length->∃ x,RepV K M H (ds.getD i .non) x/\RelV x (vs.getD i bg)/\ds.getD i .non∈ds
 | [],us,vs,l,r,i,hi=>by
  unfold RepL at l;subst l;cases r;exact absurd hi (cP _)
 | d::ds,us,vs,l,r,i,hi=>by
  unfold RepL at l;obtain⟨x,xs,rfl,l1,l2⟩:=l;cases r with
  | cons r1 r2 =>
   cases i with
   | zero=>exact⟨x,l1,r1,ar⟩
   | succ i =>
    obtain⟨y,a,b,c⟩:=reps_get l2 r2 i (by simpa using hi)
    exact⟨y,a,b,au _ c⟩
theorem srtN_tail {pins:List (Addr × Obj)} {σ:St} {H:Hp} {s:ah} {M:Am} {ds:List D} {ys:List V} {vals:List ad} {h1:aS} {d:Drawn} {tk:Nat} {Q:VK} (hu:X.A.units + 16 < bS) (I1:Inv X pins σ H { s with heap:=h1,drawn:=d,toks:=tk }) (lr:RepL X.K M H ds ys) (pv:Vals ys vals) (ok:SrtOk ds) (h64:ds.length < 64) (hz:ys.length<=sizeLine)
  (q:∀ (p:Addr) (idx:List Nat),H p=none->idx.Perm (aD ys.length)->(idx.map fun i=>ds.getD i .non).Pairwise (fun a b=>ltN 8 b a=false)->Q (.ref p) (upd H p (.lst (idx.map fun i=>ys.getD i V.non)))) :
  aw (aA X.prog X.w) X.A.in1.in1 (bC.«list.sort» ⟨[.ref h1.objs.size],[]⟩) (fun fin s'=>fin=.done (.ret .none)/\∃ v H',Inv X pins σ H' s'/\RelV v (.ref h1.objs.size)/\Q v H') X.xe { s with heap:=h1.push (bM "list" vals.toArray 0),drawn:=d,toks:=tk }:=by
 have hl:ds.length=ys.length:=lr.length.symm;have hvl:=pv.length;have hfr:H h1.objs.size=none:=I1.hok.fresh (aj _);have ho:({ s with heap:=h1.push (bM "list" vals.toArray 0),drawn:=d,toks:=tk }:ah).heap.get? h1.objs.size=some (bM "list" vals.toArray 0):=ao _ rfl
 have mem_:∀ v∈vals,∃ x,RepV X.K M H (decD X.K M H ds v) x/\RelV x v/\decD X.K M H ds v∈ds:=fun v hv=>by
  obtain⟨i,hi,e⟩:=aY hv;obtain⟨x,a,b,c⟩:=reps_get lr pv i hi;have ev:vals.getD i bg=v:=by rw[ay,ai hi,<- e];rfl
  rw[ev] at b;rw[dec_is I1 ok c a b];exact⟨x,a,b,c⟩
 refine SF.sort_any64 (s:={ s with heap:=h1.push (bM "list" vals.toArray 0),drawn:=d,toks:=tk }) (fun u v=>ltN 8 (decD X.K M H ds u) (decD X.K M H ds v)) (by lia) ho (fun h2 kp2 h2l Q' hq=>?_) fun xs hx hsd=>⟨rfl,?_⟩
 ·have I2:Inv X pins σ H { s with heap:=h2,drawn:=d,toks:=tk }:=I1.toks (fun b o e=>kp2 b o (aC (aq e)) (af _ e)) d tk
  refine kindN (s:={ s with heap:=h2,drawn:=d,toks:=tk }) (fun v hv=>?_) fun κ hκ=>hq κ ⟨fun x y Q hx hy q=>?_,fun x y hx hy e=>?_,fun x y z hx hy hz e1 e2=>?_⟩
  ·obtain⟨x,a,b,c⟩:=mem_ v hv;obtain⟨es,ed⟩:=ok.tup _ c;have sm:=ok.smp _ c;rw[ed] at a sm;unfold RepV at a;obtain⟨p,ws,rfl,t,l⟩:=a;cases b;obtain⟨its,rv,pl,_⟩:=I2.tuple t.sq;refine⟨p,_,rfl,pl,fun y hy=>?_⟩;have hy:y∈its:=by simpa using hy
   obtain⟨i,hi,ei⟩:=aY hy;obtain⟨z,z1,z2,z3⟩:=reps_get l rv i hi;have ev:its.getD i bg=y:=by rw[ay,ai hi,<- ei];rfl
   rw[ev] at z2;have sz:smp 7 (es.getD i .non)=true:=bq.mp sm _ z3;generalize es.getD i .non=g at z1 sz;cases g <;> first | (cases sz;done) | skip
   ·unfold RepV at z1;subst z1;obtain⟨t,rfl⟩:=z2;exact .inr (.inl ⟨_,t,rfl⟩)
   ·unfold RepV at z1;subst z1;obtain⟨t,rfl⟩:=z2;exact .inl ⟨_,t,rfl⟩
   ·unfold RepV at z1;obtain⟨p',ws',rfl,t',l'⟩:=z1;cases z2;obtain⟨its',_,⟨o',ho',hc',_⟩,_⟩:=I2.tuple t'.sq;exact .inr (.inr ⟨p',o', "tuple",rfl,ho',hc'⟩)
  ·obtain⟨x1,a1,b1,c1⟩:=mem_ _ hx;obtain⟨x2,a2,b2,c2⟩:=mem_ _ hy;exact keyD_lt I2 (n:=7) (by show X.A.units + 1 + 1 + (7 + 1) < _;lia) a1 a2 b1 b2 (ok.ok _ c1 _ c2) (ok.smp _ c1) (ok.smp _ c2) (ok.tup _ c1) (ok.tup _ c2) hκ q
  ·exact ok.as _ (mem_ _ hx).choose_spec.2.2 _ (mem_ _ hy).choose_spec.2.2 e
  ·exact ok.tr _ (mem_ _ hx).choose_spec.2.2 _ (mem_ _ hy).choose_spec.2.2 _ (mem_ _ hz).choose_spec.2.2 e1 e2
 ·have pl:xs.toList.Perm (ka vals).toList:=dw.mp hx;obtain⟨idx,p1,e1⟩:=KS.perm_map (f:=fun i=>(vals.getD i bg,vals.getD i bg)) (m:=aD vals.length) pl (by
   rw[pairsOf_toList]
   conv=>lhs;rw[<- KS.idx_map vals bg]
   rw[List.zip_map'])
  have hin:∀ i∈idx,i < vals.length:=fun i hi=>aM.mp (p1.mem_iff.mp hi);have eo:xs.map (·.2)=(idx.map fun i=>vals.getD i bg).toArray:=by
   apply jM.mp;rw[Array.toList_map,e1,b5]
   rfl
  rw[eo];rw[e1,bO] at hsd;have srt:(idx.map fun i=>ds.getD i .non).Pairwise (fun a b=>ltN 8 b a=false):=by
   rw[bO];refine hsd.imp_of_mem fun {i j} hi hj hij=>?_;obtain⟨x1,a1,b1,c1⟩:=reps_get lr pv i (hin i hi);obtain⟨x2,a2,b2,c2⟩:=reps_get lr pv j (hin j hj);have d1:=dec_is I1 ok c1 a1 b1;have d2:=dec_is I1 ok c2 a2 b2;rw[<- d1,<- d2];exact hij
  have s2:=be ((((h1.push (bM "list" vals.toArray 0)).update h1.objs.size (aV fun _=>(#[]:Array ad))).push (bM "tuple" vals.toArray 0)).push (bM "list" #[] 0)) h1.objs.size (aV fun _=>(idx.map fun i=>vals.getD i bg).toArray);obtain⟨e2,ho1⟩:∃ e1,((h1.push (bM "list" vals.toArray 0)).update h1.objs.size (aV fun _=>(#[]:Array ad))).get? h1.objs.size=some (bM "list" #[] e1):=⟨_,iI ho fun _=>#[]⟩;have sb:=be (h1.push (bM "list" vals.toArray 0)) h1.objs.size (aV fun _=>(#[]:Array ad));have il:idx.length=vals.length:=by have:=p1.length_eq;simpa using this
  have kk:∀ b o,b≠h1.objs.size->(h1.push (bM "list" vals.toArray 0)).get? b=some o->(jh (h1.push (bM "list" vals.toArray 0)) h1.objs.size vals (idx.map fun i=>vals.getD i bg).toArray).get? b=some o:=fun b o hb e=>(s2.2 b hb).trans (af _ (af _ ((sb.2 b hb).trans e)));refine⟨.ref h1.objs.size,_,I1.laid (a:=h1.objs.size) (o:=.lst (idx.map fun i=>ys.getD i V.non)) (t':=tk) (fun b o e=>kk b o (aC (aq e)) (af _ e)) (aj _) ⟨?_,_,_,vals_idx pv idx (fun i hi=>by rw[hvl];exact hin i hi),iI (af _ (af _ ho1)) fun _=>_⟩,rfl,q _ idx hfr (by rw[hvl];exact p1) srt⟩
  rw[ag];lia
end
end L2
set_option maxHeartbeats 2000000
namespace L2
open PySem PySem.Spec PyProof.Rows
section
variable {X:Cx} {K:Fg} {k1 k2:Bool}
theorem Inv.many {pins:List (Addr × Obj)} {σ:St} {H H':Hp} {s:ah} {h':aS} {t':Nat} (I:Inv X pins σ H s) (k:∀ b u,s.heap.get? b=some u->h'.get? b=some u) (low:∀ b o,H b=some o->H' b=some o) (low':∀ b,b < s.heap.objs.size->H b=none->H' b=none) (new:∀ b o,H b=none->H' b=some o->ObjOk X.prog X.w H' h' b o):Inv X pins σ H' { s with heap:=h',toks:=t' } :=
 I.un ⟨fun b u q _ _ _=>k b u q,fun b u q _ _ _=>⟨u.slots,k b u q⟩,fun b u q n _=>low' b (aq q) n,fun b u q _=>⟨u,k b u q⟩,fun b xs q=>low _ _ q,fun b u xs q=>low _ _ q,fun b ps q=>⟨#[],by rw[low _ _ q];simp⟩⟩ fun b o e=>by
  cases hb:H b with
  | none=>exact new b o hb e
  | some u =>
   have:=low _ _ hb
   rw[e] at this;cases this;exact(I.hok b o hb).stay (fun c v _ q=>k c v q) (fun c q=>low _ _ q) fun c xs q=>low _ _ q
def PrAt (H H':Hp) (as:List Addr) (xs ys:List V):Prop:=Same H H'/\as.length=xs.length/\∀ (j:Nat) (a:Addr) (x y:V),as[j]?=some a->xs[j]?=some x->ys[j]?=some y->H a=none/\H' a=some (.tup [x,y])
def tSz (k1 k2:Bool) (K:Fg) (ta:TA):TE:=fun σ H Q=>ta σ H fun vs H1=>∃ (a b:Addr) (xs ys:List V),vs=[.ref a,.ref b]/\SqB k1 K H1 a xs/\SqB k2 K H1 b ys/\xs.length=ys.length/\∃ (ds:List D) (M:Am),SrtOk ds/\ds.length < 64/\∀ H2 as,PrAt H1 H2 as xs ys->RepL K M H2 ds (as.map V.ref)/\∀ (p:Addr) (idx:List Nat),H2 p=none->idx.Perm (aD (as.map V.ref).length)->(idx.map fun i=>ds.getD i .non).Pairwise (fun a b=>ltN 8 b a=false)->Q (.ref p) (upd H2 p (.lst (idx.map fun i=>(as.map V.ref).getD i V.non)))
theorem sorted_gen2 {prog:aB} {w:aN} {s:ah} {A:aO} {E:ad->ah->Prop} {v:ad} {Pv:List ad->aS->Prop} {Q:ad->ah->Prop} (hh:A.handled=none) (col:∀ R:List ad->ah->Prop,(∀ vals h',Pv vals h'->R vals { s with heap:=h' })->aw (aA prog w) A.in1 (collect v) R E s) (hz:∀ vals h',Pv vals h'->vals.length<=sizeLine)
  (srt:∀ (vals:List ad) (h1:aS),Pv vals h1->aw (aA prog w) A.in1.in1 (bC.«list.sort» ⟨[.ref h1.objs.size],[]⟩) (fun fin s'=>fin=.done (.ret .none)/\Q (.ref h1.objs.size) s') E { s with heap:=h1.push (bM "list" vals.toArray 0) }) :
  aw (aA prog w) A (call (.builtin "sorted") [v]) Q E s:=by
 refine eM kind_sorted j7 j8 (j9 _) ?_;unfold bC.«sorted»;refine aa (m:=checkCount "sorted" 1 1 _) (ae ?_);refine aa (cH (col _ fun vals h1 pv=>?_) (fun _ _ z=>z) fun _ _ z=>z);refine aa (gc ?_ (hz vals h1 pv));have hoL:(h1.push (bM "list" vals.toArray 0)).get? h1.objs.size=some (bM "list" vals.toArray 0):=ao _ rfl;refine aa (aW (b4 jf ⟨_,hoL,rfl⟩ iG ?body (jg _)))
 case body =>
  refine cH (srt vals h1 pv) (fun fin s' ⟨e,q⟩=>?_) fun _ _ e=>e;subst e;exact⟨_,rfl,ae ⟨_,rfl,q⟩⟩
def prH (H:Hp) (as:List Addr) (xs ys:List V):Hp:=fun b=>match H b with
 | some o=>some o
 | none=>match as.idxOf? b with
  | none=>none
  | some j=>match xs[j]?,ys[j]? with
   | some x,some y=>some (.tup [x,y])
   | _,_=>none
theorem vals_refs:∀ as:List Addr,Vals (as.map V.ref) (as.map cA)
 | []=>.nil
 | _::as=>.cons rfl (vals_refs as)
theorem pe_szip {e f:Expr} {ta:TA} {p0 p pos pos':Pos} (hu:X.A.units + 16 < bS) (nw:ZNew k1 k2) (hg0:Gl X "sorted") (hm0:X.mg "sorted" = none) (hg:Gl X "zip") (hm:X.mg "zip" = none) (ha:PA X [e,f] ta) (hc:X.calm=true:=by rfl)
  (hz:am [.Call (.Name "zip" p) [e,f] [] pos'] X.env=(false,eval (.Call (.Name "zip" p) [e,f] [] pos') X.env)::am [] X.env:=by rfl) (hs:am [e,f] X.env=[(false,eval e X.env),(false,eval f X.env)]:=by rfl) (hs2:am [f] X.env=[(false,eval f X.env)]:=by rfl)
  (hpl:(cy pos (am [] X.env)).any (·.1)=false:=by rfl):PE X (.Call (.Name "sorted" p0) [.Call (.Name "zip" p) [e,f] [] pos'] [] pos) (tSz k1 k2 X.K ta):=by
 intro pins s σ H Q I h;refine fo (ld_blt I hg0 hm0 bt_sorted ?_);refine hW (zip_arg (Kt:=fun a b xs ys H1=>xs.length=ys.length/\∃ (ds:List D) (M:Am),SrtOk ds/\ds.length < 64/\∀ H2 as,PrAt H1 H2 as xs ys->RepL X.K M H2 ds (as.map V.ref)/\∀ (p:Addr) (idx:List Nat),H2 p=none->idx.Perm (aD (as.map V.ref).length)->(idx.map fun i=>ds.getD i .non).Pairwise (fun a b=>ltN 8 b a=false)->Q (.ref p) (upd H2 p (.lst (idx.map fun i=>(as.map V.ref).getD i V.non)))) nw hg hm ha I h (fun s1 H1 a b xs ys its jts h' I1 q rv rv' ap x1 x2 x3 x4 x5 x6 x7 z1 x8=>?_) hz hs hs2) hz hpl;obtain⟨hl,ds,M,ok,h64,q⟩:=q;have l1:its.length=xs.length:=rv.length.symm;have l2:jts.length=ys.length:=rv'.length.symm;have ne:∀ c o i,s1.heap.get? c=some o->c≠s1.heap.objs.size + i:=fun c o i e=>aC (aF (aq e) (fP _ _));refine sorted_gen2 (s:={ s1 with heap:=h' }) (Pv:=fun vals h2=>∃ as,vals=as.map cA/\as.length=its.length/\Pz its.toArray jts.toArray (h'.objs.size + 1) h2 as/\∀ b o,s1.heap.get? b=some o->h2.get? b=some o) (I1.ok.hd hc) (fun R hR=>?_) ?_ fun vals h2 pv=>?_
 ·refine zs_collect (s:={ s1 with heap:=h' }) (N:=its.length) (by simp[I1.ok.hd hc]) ap x1 x3 x2 x4 x5 x6 x7 (fun j hj=>?_) (.inl (by simp)) (by omega) fun h2 as a1 a2 a3=>?_
  ·exact⟨⟨its[j],by simp[hj]⟩,jts[j]'(by omega),by simp[show j < jts.length by omega]⟩
  ·exact hR _ _ ⟨as,rfl,a1,a2,fun b o e=>a3 b o (ne b o 4 e) (ne b o 3 e) (ne b o 0 e) (ne b o 1 e) (x8 b o e)⟩
 ·rintro vals h2 ⟨as,rfl,a1,_⟩;rw[ag];omega
 ·obtain⟨as,rfl,a1,a2,a3⟩:=pv;have hge:∀ a∈as,s1.heap.objs.size<=a:=fun a ha=>bN (fM (eC (fP _ 4) (aq x1))) (bN (db _) (a2.low a ha));have nd:as.Nodup:=a2.rise.imp fun h=>aC h;have at_:∀ (j:Nat) (a:Addr),as[j]?=some a->as.idxOf? a=some j:=fun j a e=>by
   obtain⟨hj,ej⟩:=aH.mp e;rw[List.idxOf?_eq_some_iff];refine⟨hj,?_,fun i hi=>?_⟩
   ·rw[ej]
   ·intro z;rw[<- ej] at z;exact absurd ((fN nd).mp z) (aC hi)
  have pr:PrAt H1 (prH H1 as xs ys) as xs ys:=⟨fun b o e=>by unfold prH;rw[e],a1.trans l1,fun j a x y e1 e2 e3=>by
   have hn:H1 a=none:=I1.hok.fresh (hge a (bL e1));refine⟨hn,?_⟩;unfold prH;rw[hn,at_ j a e1];dsimp only;rw[e2,e3]⟩
  obtain⟨lr,q⟩:=q _ _ pr;have I2:Inv X pins σ (prH H1 as xs ys) { s1 with heap:=h2,toks:=s1.toks }:=by
   refine I1.many (t':=s1.toks) a3 pr.1 (fun b hb hn=>?_) fun b o hn e=>?_
   ·unfold prH;rw[hn];dsimp only
    have:as.idxOf? b=none:=List.idxOf?_eq_none_iff.mpr fun z=>absurd (hge b z) (Nat.not_le_of_lt hb)
    rw[this]
   ·unfold prH at e;rw[hn] at e;dsimp only at e;cases ej:as.idxOf? b with
    | none=>rw[ej] at e;cases e
    | some j =>
     rw[ej] at e;dsimp only at e;cases ex:xs[j]? with
     | none=>rw[ex] at e;cases e
     | some x =>
      cases ey:ys[j]? with
      | none=>rw[ex,ey] at e;cases e
      | some y =>
       rw[ex,ey] at e;cases e;obtain⟨hj,e0,_⟩:=List.idxOf?_eq_some_iff.mp ej;obtain⟨u,v,e1,e2,g⟩:=a2.there j b (by rw[ai hj,e0])
       obtain⟨u',f1,r1⟩:=rv.get ex;obtain⟨v',f2,r2⟩:=rv'.get ey;have e1:its[j]?=some u:=by simpa using e1
       have e2:jts[j]?=some v:=by simpa using e2
       rw[f1] at e1;rw[f2] at e2;cases e1;cases e2;exact⟨by show 2<=sizeLine;decide,[u,v],.cons r1 (.cons r2 .nil),⟨_,g,rfl,_,rfl⟩,fun o ho=>by
        have:=ho.symm.trans g
        cases this
        rfl⟩
  refine srtN_tail (s:={ s1 with heap:=h' }) (h1:=h2) (d:=s1.drawn) (tk:=s1.toks) hu I2 lr ?_ ok h64 ?_ q
  ·exact vals_refs as
  ·rw[ag];omega
def zpD (xs ys:List D):List D:=(xs.zip ys).map fun p=>.tup [p.1,p.2]
def dSz (b k1 k2:Bool) (ta:AD):ED:=fun Γ S Q=>ta Γ S fun ds S1=>∃ (d1 d2:D) (xs ys:List D),ds=[d1,d2]/\kdIs k1 S1 d1 xs/\kdIs k2 S1 d2 ys/\xs.length=ys.length/\SrtOk (zpD xs ys)/\(zpD xs ys).length < 64/\∀ out,out.Perm (zpD xs ys)->out.Pairwise (fun a b=>ltN 8 b a=false)->newL b out S1 Q
theorem pr_rep {M M':Am} {H H2:Hp} (up:∀ d v,RepV K M H d v->RepV K M' H2 d v):∀ {as:List Addr} {xs ys:List D} {us vs:List V},RepL K M H xs us->RepL K M H ys vs->as.length=us.length->us.length=vs.length->(∀ (j:Nat) (a:Addr) (x y:V),as[j]?=some a->us[j]?=some x->vs[j]?=some y->¬ M' a/\H2 a=some (.tup [x,y]))->RepL K M' H2 (zpD xs ys) (as.map V.ref)
 | [],[],ys,us,vs,l1,l2,h1,h2,h=>by
  unfold zpD;rw[cK];exact(by unfold RepL;rfl)
 | a::as,[],ys,us,vs,l1,l2,h1,h2,h=>by
  unfold RepL at l1;subst l1;simp at h1
 | [],x::xs,ys,us,vs,l1,l2,h1,h2,h=>by
  unfold RepL at l1;obtain⟨_,_,rfl,_⟩:=l1;simp at h1
 | a::as,x::xs,[],us,vs,l1,l2,h1,h2,h=>by
  unfold RepL at l1 l2;obtain⟨_,_,rfl,_⟩:=l1;subst l2;simp at h2
 | a::as,x::xs,y::ys,us,vs,l1,l2,h1,h2,h=>by
  unfold RepL at l1 l2;obtain⟨u,us,rfl,p1,p2⟩:=l1;obtain⟨v,vs,rfl,q1,q2⟩:=l2;have h0:=h 0 a u v rfl rfl rfl;refine RepL.cons (d:=.tup [x,y]) ?_ (pr_rep up p2 q2 (by simpa using h1) (by simpa using h2) fun j a x y e1 e2 e3=>h (j + 1) a x y (by simpa using e1) (by simpa using e2) (by simpa using e3))
  unfold RepV;exact⟨a,[u,v],rfl,.inl ⟨h0.1,.inl h0.2⟩,RepL.cons (up _ _ p1) (RepL.cons (up _ _ q1) (by unfold RepL;rfl))⟩
theorem e_szip {b:Bool} {k:Nat} {e f:Expr} {ta:AD} {p0 p pos pos':Pos} (hr:Room k X.A) (nw:ZNew k1 k2) (hg0:Gl X "sorted") (hm0:X.mg "sorted" = none) (hg:Gl X "zip") (hm:X.mg "zip" = none) (ha:PAD K X [e,f] ta) (hK:X.K=K:=by rfl) (hc:X.calm=true:=by rfl)
  (hz:am [.Call (.Name "zip" p) [e,f] [] pos'] X.env=(false,eval (.Call (.Name "zip" p) [e,f] [] pos') X.env)::am [] X.env:=by rfl) (hs:am [e,f] X.env=[(false,eval e X.env),(false,eval f X.env)]:=by rfl) (hs2:am [f] X.env=[(false,eval f X.env)]:=by rfl)
  (hpl:(cy pos (am [] X.env)).any (·.1)=false:=by rfl):PD K X (.Call (.Name "sorted" p0) [.Call (.Name "zip" p) [e,f] [] pos'] [] pos) (dSz b k1 k2 ta):=by
 subst hK;refine .of (pe_szip (lt10 hr) nw hg0 hm0 hg hm ha.o hc hz hs hs2 hpl) fun σ H Q z0=>z0.el fun F S Γ QD r g q c=>⟨F,S,Γ,_,r,g,q,fun vs ds H1 S1 x1 r1 v1 q1=>?_⟩;obtain⟨d1,d2,xs,ys,rfl,h1,h2,hl,ok,h64,q⟩:=q1;obtain⟨v,w,rfl,rv,rw'⟩:=v1.two;obtain⟨a,us,rfl,sq,lu⟩:=h1.sq r1 rv;obtain⟨b,us',rfl,sq',lu'⟩:=h2.sq r1 rw';have hlu:us.length=us'.length:=by rw[lu.length,lu'.length];exact hl
 refine⟨a,b,us,us',rfl,sq,sq',hlu,zpD xs ys,mt S1 F,ok,h64,fun H2 as pr=>?_⟩;have x2:Ext S1 H1 S1 H2:=Ext.same pr.1;have lr:RepL X.K (mt S1 F) H2 (zpD xs ys) (as.map V.ref):=pr_rep (fun d v h=>h.ext x2) lu lu' pr.2.1 hlu fun j a x y e1 e2 e3=>by
  obtain⟨n1,n2⟩:=pr.2.2 j a x y e1 e2 e3;refine⟨?_,n2⟩;rintro(z | z)
  ·exact z (r1.sn n1)
  ·obtain⟨⟨u,e,_⟩,_⟩:=r1.frm a z;rw[n1] at e;cases e
 refine⟨lr,fun p idx hp i1 i2=>?_⟩;have hin:∀ i∈idx,i < (as.map V.ref).length:=fun i hi=>aM.mp (i1.mem_iff.mp hi);have hle:=lr.length;refine(Cn.shift c (x1.trans x2)).new (r1.same pr.1) hp (repIdx lr idx hin) (q _ ?_ i2)
 have:=i1.map fun i=>(zpD xs ys).getD i .non
 rw[hle,KS.idx_map] at this;exact this
end
end L2
set_option maxHeartbeats 1000000
namespace L2
open PySem
open Toy (ch ch_zero ch_cons ch_mem mem_ch)
end L2
set_option maxHeartbeats 4000000
namespace L2
open PySem Toy
end L2
namespace L2
open PySem
open Toy (ch ch_cons ch_zero ch_mem mem_ch meG)
end L2
namespace L2
open PySem
open Toy (ch ch_cons ch_zero ch_mem mem_ch meG)
end L2
namespace Toy
open PySem L2
end Toy
namespace L2
open PySem
open Toy (ch ch_mem mem_ch ch_len meG)
end L2
namespace L2
open PySem
open Toy (ch ch_mem mem_ch meG)
end L2
namespace L2
open PySem
open Toy (meG)
end L2
namespace L2
open PySem
open Toy
theorem tsn_f {P:Prop} [Decidable P] (h:P):D.bl (if true=true then !decide P else decide P)=D.bl false:=by rw[decide_eq_true h];rfl
end L2
set_option maxHeartbeats 1000000
namespace L2
open PySem Toy
end L2
set_option maxHeartbeats 4000000
namespace L2
open PySem Toy
structure STO {α:Type} (lt:α->α->Bool):Prop where
 ir:∀ a,lt a a=false
 tr:∀ {a b c},lt a b=true->lt b c=true->lt a c=true
 tot:∀ {a b},lt a b=false->a≠b->lt b a=true
theorem STO.as {α:Type} {lt:α->α->Bool} (o:STO lt) {a b:α} (h:lt a b=true):lt b a=false:=by
 cases e:lt b a with
 | false=>rfl
 | true=>have:=o.tr h e;rw[o.ir] at this;cases this
theorem sto_lex:STO HT.lexS:=⟨lexS_irr,HT.lexS_tr,HT.lexS_tot⟩
section
variable {α:Type} [DecidableEq α] {lt:α->α->Bool}
theorem lexG_cons (x y:α) (xs ys:List α):lexG lt (x::xs) (y::ys)=if x=y then lexG lt xs ys else lt x y:=rfl
theorem STO.lexG (o:STO lt):STO (lexG lt) where
 ir:=fun a=>by
  induction a with
  | nil=>rfl
  | cons x a ih=>rw[lexG_cons,if_pos rfl];exact ih
 tr:=fun {a b c}=>by
  induction a generalizing b c with
  | nil =>
   intro h1 h2;cases b with
   | nil=>cases h1
   | cons y b=>cases c with
    | nil=>cases h2
    | cons z c=>rfl
  | cons x a ih =>
   intro h1 h2;cases b with
   | nil=>cases h1
   | cons y b =>
    cases c with
    | nil=>cases h2
    | cons z c =>
     rw[lexG_cons] at h1 h2 ⊢
     by_cases e:x=y
     ·subst e;rw[if_pos rfl] at h1
      by_cases e':x=z
      ·rw[if_pos e'] at h2 ⊢;exact ih h1 h2
      ·rw[if_neg e'] at h2 ⊢;exact h2
     ·rw[if_neg e] at h1
      by_cases e':y=z
      ·subst e';rw[if_neg e];exact h1
      ·rw[if_neg e'] at h2;have h3:=o.tr h1 h2;rw[if_neg (by rintro rfl;rw[o.ir] at h3;cases h3)]
       exact h3
 tot:=fun {a b}=>by
  induction a generalizing b with
  | nil =>
   intro h1 h2;cases b with
   | nil=>exact absurd rfl h2
   | cons y b=>cases h1
  | cons x a ih =>
   intro h1 h2;cases b with
   | nil=>rfl
   | cons y b =>
    rw[lexG_cons] at h1 ⊢
    by_cases e:x=y
    ·subst e;rw[if_pos rfl] at h1 ⊢;exact ih h1 fun z=>h2 (by rw[z])
    ·rw[if_neg e] at h1;rw[if_neg (bW e)];exact o.tot h1 e
end
section
variable {α:Type} [DecidableEq α] (ok:List α->Bool)
variable {ok}
variable {lt:α->α->Bool}
variable (ok lt) in
end
end L2
set_option maxHeartbeats 1000000
namespace Toy
open PySem L2
def pzD (z:List Str × List Str):D:=.tup [tupS z.1,tupS z.2]
theorem pz_lt (a b:List Str × List Str):ltN 8 (pzD a) (pzD b)=lexG HT.lexS [a.1,a.2] [b.1,b.2]:=by
 have:=flE.lte 8 [a.1,a.2] [b.1,b.2] (by decide)
 rw[show flE.lt=lexG HT.lexS by show lexG setE.lt=_;rw[setE_lt]] at this
 exact this
theorem pz_ok (zs:List (List Str × List Str)):SrtOk (zs.map pzD):=by
 have sto:STO (lexG HT.lexS):=sto_lex.lexG;refine⟨fun d hd=>?_,fun d hd=>?_,fun a ha b hb=>?_,fun a ha b hb=>?_,fun a ha b hb d hd=>?_⟩
 ·obtain⟨p,_,rfl⟩:=br.mp hd;exact⟨_,rfl⟩
 ·obtain⟨p,_,rfl⟩:=br.mp hd;have one:∀ t:List Str,smp 7 (tupS t)=true:=fun t=>by
   show((t.map D.str).all (smp 6))=true;rw[fR,bq];exact fun _ _=>rfl
  show(smp 7 (tupS p.1) && (smp 7 (tupS p.2) && true))=true;rw[one,one];rfl
 ·obtain⟨p,_,rfl⟩:=br.mp ha;obtain⟨p',_,rfl⟩:=br.mp hb;exact flE.okl 8 [p.1,p.2] [p'.1,p'.2] (by decide)
 ·obtain⟨p,_,rfl⟩:=br.mp ha;obtain⟨p',_,rfl⟩:=br.mp hb;rw[pz_lt,pz_lt];exact fun h=>sto.as h
 ·obtain⟨p,_,rfl⟩:=br.mp ha;obtain⟨p',_,rfl⟩:=br.mp hb;obtain⟨p'',_,rfl⟩:=br.mp hd;rw[pz_lt,pz_lt,pz_lt];generalize [p.1,p.2]=x;generalize [p'.1,p'.2]=y;generalize [p''.1,p''.2]=z;intro h1 h2;cases h:lexG HT.lexS z x with
  | false=>rfl
  | true =>
   by_cases e:y=z
   ·subst e;rw[h] at h1;cases h1
   ·have:=sto.tr h (sto.tot h1 (bW (fun z=>by subst z;rw[h] at h2;cases h2)))
    rw[this] at h2;cases h2
theorem pz_srt {zs m:List (List Str × List Str)} (pz:zs.Perm m) (nd:(m.map (·.1)).Nodup) (pw:(zs.map pzD).Pairwise fun a b=>ltN 8 b a=false):SrtT (zs.map (·.1)):=by
 have nd':(zs.map (·.1)).Nodup:=(pz.map _).nodup_iff.mpr nd;rw[bO] at pw;refine bO.mpr ?_;refine((bO.mp nd').and pw).imp fun {a b} ⟨n,h⟩=>?_;rw[pz_lt] at h;have h:(if b.1=a.1 then lexG HT.lexS [b.2] [a.2] else HT.lexS b.1 a.1)=false:=h
 rw[if_neg (bW n)] at h;exact sto_lex.tot h (bW n)
theorem loop_mapP {α:Type} {g:GD} {te:ED} {Γ0:Gm} {S:Sto} {Q:List D->Sto->Prop} {enc:α->D} {f:α->D} {xs:List α} {acc:List D} (h:∀ x∈xs,∀ Q:DK,Q (f x) S->g (enc x) Γ0 S fun Γ2 S2=>te Γ2 S2 Q) (hn:acc.length + xs.length<=sizeLine)
  (q:Q (acc++xs.map f) S):loopD g dYes (emitD te) (fun _=>True) Γ0 (xs.map enc) acc S Q:=by
 induction xs generalizing acc with
 | nil=>exact⟨trivial,by simpa using q⟩
 | cons x xs ih =>
  rw[bH] at hn;exact⟨trivial,h x ar _ ⟨by lia,ih (fun y hy=>h y (au _ hy)) (by rw[az,eG];lia) (by rw[dj];exact q)⟩⟩
abbrev s_law_turned:Stmt:=top 15
theorem sc_law_turned:FnScope ["pair", "both"] ["pair"] (defScope s_law_turned):=fsc
section
variable {P:aB} {w:aN} {K:av} {mg:Str->Option ad} {base:aS} {pt cc:Addr}
theorem ok_law_turned (T:Tx K mg "_law_turned" s_law_turned) (B:Bs mg):Df P w K mg base 1 "_law_turned" ["pair"] (spU K sp_law_turned):=by
 refine e_def T sc_law_turned (fun F=>F.binds fun _ _ _ _ _ _=>us1 fun _=>rfl) ?_ fun f cdv A outer s H E hr=>⟨_,(dss_cons (ds_set (i:=1) sc_law_turned.nd rfl (a7 rfl) (e_szip (b:=false) hr zn_TT rfl B.sorted rfl B.zip (da_cons (e_ix (dv 0) e_int) (da_cons (e_ix (dv 0) e_int) da_nil))))
  (dss_one (ds_ret (e_tup (da_cons (e_tuple rfl B.tuple (da_cons (e_comp (N':=["one", "other"]) (oc:=none) (b:=false) [0,1] [] rfl sc_law_turned.nd (fun _ _ _=>turn_one _ _ _ _ _ _ _ _ _) (.own (.own .nil)) (free_of rfl) (di_sq (dv 1)) (cg_pair (i:=0) (j:=1)) (fun _ _ _ _ _=>pg_tup rfl (pgs_cons (pg_name (i:=0) (nd_ ["one", "other"]) rfl (a7 rfl) (.inr rfl)) (pgs_cons (pg_name (i:=1) (nd_ ["one", "other"]) rfl (a7 rfl) (.inr rfl)) pgs_nil))) (fun _ _ _ _ _=>dts_nil) bo_emit (fun _ _ _ _ _ _=>pb_emit rfl (by exact PD.o (dv 0)))) da_nil)) (da_cons (e_tuple rfl B.tuple (da_cons (e_comp (N':=["one", "other"]) (oc:=none) (b:=false) [0,1] [] rfl sc_law_turned.nd (fun _ _ _=>turn_one _ _ _ _ _ _ _ _ _) (.own (.own .nil)) (free_of rfl) (di_sq (dv 1)) (cg_pair (i:=0) (j:=1)) (fun _ _ _ _ _=>pg_tup rfl (pgs_cons (pg_name (i:=0) (nd_ ["one", "other"]) rfl (a7 rfl) (.inr rfl)) (pgs_cons (pg_name (i:=1) (nd_ ["one", "other"]) rfl (a7 rfl) (.inr rfl)) pgs_nil))) (fun _ _ _ _ _=>dts_nil) bo_emit (fun _ _ _ _ _ _=>pb_emit rfl (by exact PD.o (dv 1)))) da_nil)) da_nil)))))),?_⟩
 ·rintro ds S Q ⟨p,rfl,_⟩;rfl
 ·rintro ds S Q ⟨p,rfl,hl,h5,nd,q⟩;obtain⟨one,other⟩:=p;dsimp only at hl h5 nd q;have ez:zpD (other.map tupS) (one.map tupS)=(other.zip one).map pzD:=by
   unfold zpD;rw[List.zip_map,b5]
   rfl
  have lz:(other.zip one).length=one.length:=by rw[fw];omega
  refine⟨_,_,rfl,rfl,_,_,rfl,rfl,.tup (other.map tupS),.tup (one.map tupS),_,_,rfl,rfl,rfl,by rw[ag,ag];omega,?_,by rw[ez,ag];omega,fun out pm pw=>?_⟩
  ·rw[ez];exact pz_ok _
  ·rw[ez] at pm;obtain⟨zs,pz,rfl⟩:=KS.perm_map pm rfl;have sz:=pz_srt pz (by rw[jR (by omega)];exact nd) pw
   have lzs:zs.length=one.length:=pz.length_eq.trans lz;refine⟨zs.map pzD,rfl,loop_mapP (enc:=pzD) (f:=fun z=>tupS z.1) (fun x hx Q q=>⟨rfl,rfl,q⟩) (z9999 (by show 0 + zs.length<=_;omega)) ?_⟩
   refine⟨_,rfl,zs.map pzD,rfl,loop_mapP (enc:=pzD) (f:=fun z=>tupS z.2) (fun x hx Q q=>⟨rfl,rfl,q⟩) (z9999 (by show 0 + zs.length<=_;omega)) ?_⟩
   refine⟨_,rfl,?_⟩
   have:=q zs pz sz
   unfold prD at this;rw[b5,b5] at this;exact⟨z9999 (by show 2<=9999;decide),rt_same this⟩
end
abbrev s_law_meet:Stmt:=top 14
theorem sc_law_meet:FnScope ["one", "other"] ["one", "other"] (defScope s_law_meet):=fsc
def sp_law_meet:SpD:=fun ds S Q=>∃ a b:List Str,ds=[tupS a,tupS b]/\a.length<=9999/\Q (tupS (meG a b)) S
section
variable {P:aB} {w:aN} {K:av} {mg:Str->Option ad} {base:aS} {pt cc:Addr}
theorem ok_law_meet (T:Tx K mg "_law_meet" s_law_meet) (B:Bs mg):Df P w K mg base 1 "_law_meet" ["one", "other"] (spU K sp_law_meet):=by
 refine e_def T sc_law_meet (fun F=>F.binds fun _ _ _ _ _ _=>us2 fun _ _=>rfl) ?_ fun f cdv A outer s H E hr=>⟨_,(dss_one (ds_ret (e_tuple rfl B.tuple (da_cons (e_comp (N':=["name", "other"]) (oc:=none) (b:=false) [0] [] rfl sc_law_meet.nd (fun _ _ _=>turn_one _ _ _ _ _ _ _ _ _) (.own (.cap (i:=1) rfl (by decide +kernel) .nil)) (free_of rfl) (di_sq (dv 0)) (cg_name (i:=0)) (fun _ _ _ _ _=>pg_name (i:=0) (nd_ ["name", "other"]) rfl (a7 rfl) (.inr rfl)) (fun _ _ _ _ _=>dts_one (by exact(dt_in hr (dv 0) (dv 1)))) bo_emit (fun _ _ _ _ _ _=>pb_emit rfl (by exact PD.o (dv 0)))) da_nil)))),?_⟩
 ·rintro ds S Q ⟨one,row,rfl,_⟩;rfl
 ·rintro ds S Q ⟨one,row,rfl,hl,q⟩;exact⟨one.map D.str,rfl,loop_filt (p:=fun n=>decide (n∈row)) (f:=D.str) (fun x hx Q q=>in_t (neg:=false) (E:=strE) (by decide) rfl q) (fun x hx _ Q q=>q) (z9999 (by show 0 + one.length<=_;omega)) ⟨_,rfl,rt_same q⟩⟩
end
end Toy
set_option maxHeartbeats 4000000
namespace L2
open PySem Toy
end L2
set_option maxHeartbeats 1000000
namespace L2
open PySem Toy
theorem cutTo {α:Type} (f:α->D) (xs:List α) (k:Nat):cutD (xs.map f) none (some (k:Int))=(xs.take k).map f:=by
 rw[cutD_map,HT.sIx_none,HT.sIx_nat,i6,Nat.sub_zero]
 congr 1
 rcases Nat.le_total k xs.length with h | h
 ·rw[iH h]
 ·rw[jT h,bJ (aj _),bJ h]
end L2
namespace Toy
open PySem L2
abbrev s_law_right:Stmt:=top 16
theorem sc_law_right:FnScope ["sets", "told", "one", "other", "apart", "place", "row", "far"] ["sets", "told"] (defScope s_law_right):=fsc
section
variable {P:aB} {w:aN} {K:av} {mg:Str->Option ad} {base:aS} {pt cc:Addr}
theorem ok_law_right (T:Tx K mg "_law_right" s_law_right) (B:Bs mg) (d_go_across:Df P w K mg base 3 "go_across" ["one", "other"] (spU K sp_go_across)) (d_law_turned:Df P w K mg base 3 "_law_turned" ["pair"] (spU K sp_law_turned)) (d_law_meet:Df P w K mg base 3 "_law_meet" ["one", "other"] (spU K sp_law_meet)):Df P w K mg base 4 "_law_right" ["sets", "told"] (spU K sp_law_right68):=by
 refine e_def T sc_law_right (fun F=>F.binds fun _ _ _ _ _ _=>us2 fun _ _=>rfl) ?_ fun f cdv A outer s H E hr=>⟨_,(dss_cons (ds_asg (dv 1) (dg_tup rfl (dgs_cons (dg_name (i:=2) sc_law_right.nd rfl (a7 rfl)) (dgs_cons (dg_name (i:=3) sc_law_right.nd rfl (a7 rfl)) dgs_nil))))
  (dss_cons (ds_if (PWD.pt (dw_or (dt_not (dt_tru (e_callD d_go_across hr rfl (da_cons (dv 2) (da_cons (dv 3) da_nil))))) (dw_or (dt_gt hr (e_len rfl B.len (da_cons (dv 2) da_nil)) e_int) (dw_or1 (dt_ne hr (e_comp (N':=["row", "sets"]) (oc:=none) (b:=false) [0] [] rfl sc_law_right.nd (fun _ _ _=>turn_one _ _ _ _ _ _ _ _ _) (.own (.cap (i:=0) rfl (by decide +kernel) .nil)) (free_of rfl) (di_sq (e_add (k:=false) (dv 2) (dv 3))) (cg_name (i:=0)) (fun _ _ _ _ _=>pg_name (i:=0) (nd_ ["row", "sets"]) rfl (a7 rfl) (.inr rfl)) (fun _ _ _ _ _=>dts_one (by exact(dt_nin hr (dv 0) (dv 1)))) bo_emit (fun _ _ _ _ _ _=>pb_emit rfl (by exact PD.o (dv 0)))) (e_lst (b:=false) da_nil)))))) (dss_one (ds_ret e_bl)) dss_nil)
  (dss_cons (ds_if (PWD.pt (dw_or (dt_ne hr (e_list (b:=false) rfl B.list (da_cons (dv 2) da_nil)) (e_sorted (b:=false) hr rfl B.sorted (da_cons (dv 2) da_nil))) (dw_or1 (dt_ltN hr (e_callD d_law_turned hr rfl (da_cons (dv 1) da_nil)) (dv 1))))) (dss_one (ds_ret e_bl)) dss_nil)
  (dss_cons (ds_set (i:=4) sc_law_right.nd rfl (a7 rfl) e_int)
  (dss_cons (ds_for c8 rfl (di_enT rfl B.enumerate (da_cons (dv 0) da_nil)) (dg_tup rfl (dgs_cons (dg_name (i:=5) sc_law_right.nd rfl (a7 rfl)) (dgs_cons (dg_name (i:=6) sc_law_right.nd rfl (gV rfl)) dgs_nil))) (dss_cons (ds_setC (i:=7) rfl (a7 rfl) (N':=["beside", "row"]) (oc:=none) (b:=false) [0] [] rfl sc_law_right.nd (fun _ _ _=>turn_one _ _ _ _ _ _ _ _ _) (.own (.cap (i:=6) rfl (by decide +kernel) .nil)) (free_of rfl) (di_sq (e_sl (b:=false) (dv 0) do_none (do_some (dv 5)))) (cg_name (i:=0)) (fun _ _ _ _ _=>pg_name (i:=0) (nd_ ["beside", "row"]) rfl (a7 rfl) (.inr rfl)) (fun _ _ _ _ _=>dts_one (by exact(PWD.pt (dw_and (dt_ne hr (dv 0) (e_tup da_nil)) (dw_and1 (dt_eq hr (e_callD d_law_meet hr rfl (da_cons (dv 1) (da_cons (dv 0) da_nil))) (e_tup da_nil))))))) bo_emit (fun _ _ _ _ _ _=>pb_emit rfl (by exact PD.o e_int)))
  (dss_one (ds_if (PWD.pt (dw_and (dt_ne hr (dv 6) (e_tup da_nil)) (dw_and1 (dt_ne hr (dv 7) (e_lst (b:=false) da_nil))))) (dss_one (ds_set (i:=4) sc_law_right.nd rfl (a7 rfl) e_int)) dss_nil))))
  (dss_one (ds_ret (e_ge hr (e_len rfl B.len (da_cons (dv 2) da_nil)) (e_max rfl B.max (da_cons (dv 4) (da_cons (e_int1 rfl B.int (da_cons (e_in hr (e_tup da_nil) (dv 0)) da_nil)) da_nil))))))))))),?_⟩
 ·rintro ds S Q ⟨ts,rfl,_⟩;rfl
 ·rintro ds S Q ⟨ts,rfl,hs,h14,he,q⟩;have lA:(laM ts 5).1.length<=5:=lenA_le;have lB:=foL_len (laM_ok ts 5).2.2;have acr:=laM_acr (ts:=ts);have sA:=laM_sub ts;have mB:=laM_snd (ts:=ts);have tl:=fun zs=>turn_least hs (zs:=zs);have nB:(laM ts 5).2.Nodup:=by
   have:=PZ_nd (PZ_acr acr)
   rw[jR (by omega)] at this
   exact this
  have g1:[]∈ts->1<=(laM ts 5).1.length:=lenA_one hs.nodup;have g2:∀ x∈ts,∀ y∈ts,x≠[]->y≠[]->mts x y=false->2<=(laM ts 5).1.length:=fun x hx y hy ex ey hm=>lenA_two hs.nodup hx hy ex ey hm;generalize laM ts 5=p at *
  obtain⟨one,other⟩:=p;dsimp only at *
  rw[show prD (one,other)=D.tup [.tup (one.map tupS),.tup (other.map tupS)] from rfl]
  refine⟨rfl,rfl,?_⟩;refine⟨one,other,rfl,by omega,fun t ht=>he t (mB t ht),?_⟩
  rw[acr];refine⟨_,rfl,_,rfl,?_⟩;refine ite2 (fun c=>absurd (of_decide_eq_true c) (by rw[ag];omega)) fun _=>?_
  refine⟨z9999 (by rw[ag,ag];omega),_,rfl,?_⟩
  rw[<- a9];refine loop_filt (p:=fun t=>!decide (t∈ts)) (f:=tupS) (fun x hx Q q=>in_t (neg:=true) (E:=setE) (by decide) rfl q) (fun x hx _ Q q=>q) (z9999 (by show 0 + (one++other).length<=_;rw[az];omega)) ?_
  have ef:(one++other).filter (fun t=>!decide (t∈ts))=[]:=by
   rw[g6];intro t ht
   have:t∈ts:=by
    rcases bB.mp ht with h | h
    ·exact sA.subset h
    ·exact mB t h
   simp[this]
  rw[ef];refine⟨z9999 (by decide),rfl,_,rfl,?_⟩
  refine ite2 (fun c=>absurd c (by simp)) fun _=>?_
  have sO:SrtT one:=hs.sublist sA;refine⟨one.map tupS,rfl,.inr (.inr ⟨one,rfl,sO.nodup,by omega,?_⟩)⟩
  rw[srT_of sO];refine⟨?_,_,rfl,?_⟩
  ·show((one.map tupS).zip (one.map tupS)).all (fun p=>okE 8 p.1 p.2)=true;rw[List.zip_map,fR,bq];exact fun p _=>setE.ok 8 p.1 p.2 (by decide)
  refine ite2 (fun c=>absurd c (by simp)) fun _=>?_
  refine⟨(one,other),rfl,lB.symm,lA,nB,fun zs hp hz=>?_⟩;obtain⟨t1,t2⟩:=tl zs hp hz;generalize zs.map (·.1)=z1 at t1 t2;generalize zs.map (·.2)=z2 at t1 t2;have lf:ltN 8 (prD (z1,z2)) (prD (one,other))=false:=by
   refine((tupE (tupE setE)).lte 8 [z1,z2] [one,other] (by decide)).trans ?_
   show(if z1=one then (if z2=other then false else (tupE setE).lt z2 other) else (tupE setE).lt z1 one)=false
   rw[show(tupE setE).lt=lexG HT.lexS by show lexG setE.lt=_;rw[setE_lt]]
   split
   ·next e =>
    split
    ·rfl
    ·exact t2 e
   ·exact t1
  refine⟨(tupE (tupE setE)).okl 8 [z1,z2] [one,other] (by decide),_,rfl,?_⟩
  refine ite2 (fun c=>absurd (lf.symm.trans c) (by decide)) fun _=>?_
  refine for_ind (fun i Γ S'=>∃ (x5 x6 x7:Option D) (ap:Nat),Γ=[some (.tup (ts.map tupS)),some (.tup [.tup (one.map tupS),.tup (other.map tupS)]),some (.tup (one.map tupS)),some (.tup (other.map tupS)),some (.int (ap:Nat)),x5,x6,x7]/\ap<=one.length/\S'=S) ⟨none,none,none,0,rfl,bG _,rfl⟩ ?_ ?_
  ·rintro i y Γ S' N hy ⟨x5,x6,x7,ap,rfl,ha,rfl⟩ hN;obtain⟨z,hz,rfl⟩:=pairs_get _ _ _ _ hy;rw[a6,bK] at hz;obtain⟨t,ht,rfl⟩:=hz;rw[gW];refine⟨trivial,rfl,rfl,?_⟩;have hmem:t∈ts:=bL ht;have me:∀ u,meG t u=[]↔mts t u=false:=fun u=>by
    unfold meG mts;rw[g6,List.any_eq_false];exact⟨fun h x hx c=>h x (of_decide_eq_true c) (decide_eq_true hx),fun h x hx c=>h x (of_decide_eq_true c) (decide_eq_true hx)⟩
   refine⟨_,rfl,_,rfl,?_⟩;rw[cutTo tupS ts i];refine loop_filt (p:=fun u=>!decide (u=[]) && decide (meG t u=[])) (f:=fun _=>D.int 1) (fun u hu Q q=>⟨z9999 (by decide),eq_e (E:=setE) (x:=u) (y:=[]) (by decide) ⟨_,rfl,?_⟩⟩) (fun x hx _ Q q=>q) (z9999 (by show 0 + (ts.take i).length<=_;rw[aP];omega)) ?_
   ·by_cases hu':u=[]
    ·rw[decide_eq_true hu'] at q ⊢;exact q
    ·rw[decide_eq_false hu'] at q ⊢;exact⟨t,u,rfl,bN (he t hmem) (by decide),z9999 (by decide),eq_e (E:=setE) (x:=meG t u) (y:=[]) (by decide) ⟨_,rfl,q⟩⟩
   rw[cO];refine⟨z9999 (by decide),eq_e (E:=setE) (x:=t) (y:=[]) (by decide) ⟨_,rfl,?_⟩⟩
   by_cases ht0:t=[]
   ·rw[decide_eq_true ht0];exact hN _ _ ⟨_,_,_,ap,rfl,ha,rfl⟩
   ·rw[decide_eq_false ht0];refine⟨z9999 (by decide),by show(List.zip _ []).all _=true;rw[cN];rfl,_,rfl,?_⟩
    refine ite2 (fun c=>?_) fun c=>hN _ _ ⟨_,_,_,ap,rfl,ha,rfl⟩;have hne:(ts.take i).filter (fun u=>!decide (u=[]) && decide (meG t u=[]))≠[]:=fun e=>by
     rw[e] at c;simp at c
    obtain⟨u,hu⟩:=List.exists_mem_of_ne_nil _ hne;obtain⟨h1,h2⟩:=dW.mp hu;rw[aK,c4,decide_eq_false_iff_not,decide_eq_true_iff] at h2;exact hN _ _ ⟨_,_,_,2,rfl,g2 t hmem u (de h1) ht0 h2.1 ((me u).mp h2.2),rfl⟩
  ·rintro Γ S' ⟨x5,x6,x7,ap,rfl,ha,rfl⟩;refine⟨trivial,?_⟩;refine⟨_,rfl,?_⟩;refine⟨z9999 (by decide),?_⟩
   dsimp only[dVar,look,List.getElem?_cons_zero,List.getD_cons_zero];refine in_e (E:=setE) (x:=[]) (l:=ts) (d:=.tup (ts.map tupS)) (S:=S') (by decide) rfl ?_
   have fin:(if (if decide (([]:List Str)∈ts)=true then (1:Int) else 0) > (ap:Int) then (if decide (([]:List Str)∈ts)=true then (1:Int) else 0) else (ap:Int))<=((one.map tupS).length:Nat):=by
    rw[ag]
    by_cases h:([]:List Str)∈ts
    ·have:=g1 h
     rw[decide_eq_true h,if_pos rfl]
     split <;> omega
    ·rw[decide_eq_false h];show(if (0:Int) > (ap:Int) then (0:Int) else (ap:Int))<=_
     split <;> omega
   refine rt_same ?_;rw[<- decide_eq_true fin] at q;exact q
end
abbrev s_law_spare:Stmt:=top 17
theorem sc_law_spare:FnScope ["names"] ["names"] (defScope s_law_spare):=fsc
def spL:List Str:=["a", "b", "c", "d", "e", "f", "g", "h", "i", "j", "k", "l", "m"].map aJ
def spW:List Str:=spL.map fun x=>aJ "spare"++x
theorem spW_nd:spW.Nodup:=by decide
theorem spL_eq:signD (aJ "abcdefghijklm")=spL.map D.str:=by rfl
def sp_law_spare:SpD:=fun ds S Q=>∃ (d:D) (ns:List Str),ds=[d]/\sqIs S d (ns.map D.str)/\ns.length<=12/\∀ w,w∉ns->Q (.str w) S
section
variable {P:aB} {w:aN} {K:av} {mg:Str->Option ad} {base:aS} {pt cc:Addr}
theorem ok_law_spare (T:Tx K mg "_law_spare" s_law_spare) (B:Bs mg):Df P w K mg base 1 "_law_spare" ["names"] (spU K sp_law_spare):=by
 refine e_def T sc_law_spare (fun F=>F.binds fun _ _ _ _ _ _=>us1 fun _=>rfl) ?_ fun f cdv A outer s H E hr=>⟨_,(dss_one (ds_ret (e_ix (e_comp (N':=["word", "names"]) (oc:=none) (b:=false) [0] [] rfl sc_law_spare.nd (fun _ _ _=>turn_one _ _ _ _ _ _ _ _ _) (.own (.cap (i:=0) rfl (by decide +kernel) .nil)) (free_of rfl) (di_sq (e_comp (N':=["sign"]) (oc:=none) (b:=false) [0] [] rfl sc_law_spare.nd (fun _ _ _=>turn_one _ _ _ _ _ _ _ _ _) (.own .nil) (free_of rfl) (di_str e_str) (cg_name (i:=0)) (fun _ _ _ _ _=>pg_name (i:=0) (nd_ ["sign"]) rfl (a7 rfl) (.inr rfl)) (fun _ _ _ _ _=>dts_nil) bo_emit (fun _ _ _ _ _ _=>pb_emit rfl (by exact PD.o (e_add (k:=false) e_str (dv 0)))))) (cg_name (i:=0)) (fun _ _ _ _ _=>pg_name (i:=0) (nd_ ["word", "names"]) rfl (a7 rfl) (.inr rfl)) (fun _ _ _ _ _=>dts_one (by exact(dt_nin hr (dv 0) (dv 1)))) bo_emit (fun _ _ _ _ _ _=>pb_emit rfl (by exact PD.o (dv 0)))) e_int))),?_⟩
 ·rintro ds S Q ⟨a,ns,rfl,_⟩;rfl
 ·rintro ds S Q ⟨a,ns,rfl,hn,hl,q⟩;show loopD _ _ _ _ _ (signD _) _ _ _;rw[spL_eq];refine loop_map (f:=fun x=>D.str (aJ "spare"++x)) (fun x hx Q q=>⟨?_,q⟩) (z9999 (by decide)) ?_
  ·have:∀ x∈spL,(aJ "spare").length + x.length<=9999:=by decide
   exact z9999 (this x hx)
  ·refine⟨_,rfl,?_⟩;show loopD _ _ _ _ _ ([]++spL.map fun x=>D.str (aJ "spare"++x)) _ _ _;rw[cO,show(spL.map fun x=>D.str (aJ "spare"++x))=spW.map D.str by unfold spW;rw[b5];rfl]
   refine loop_filt (p:=fun n=>!decide (n∈ns)) (f:=D.str) (fun x hx Q q=>in_t (neg:=true) (E:=strE) (by decide) hn q) (fun x hx _ Q q=>q) (z9999 (by decide)) ?_
   rw[cO];cases e:spW.filter (fun n=>!decide (n∈ns)) with
   | nil =>
    have h:∀ x∈spW,x∈ns:=fun x hx=>by
     have:=g6.mp e x hx
     simpa using this
    have:=spW_nd.length_le_of_subset h
    have l:spW.length=13:=rfl;omega
   | cons w us =>
    have h:=(dW.mp (show w∈spW.filter (fun n=>!decide (n∈ns)) by rw[e];exact ar ..)).2
    have hw:w∉ns:=by simpa using h
    exact⟨_,_,rfl,atI_nat (j:=0) rfl,rt_same (q w hw)⟩
end
end Toy
namespace L2
open PySem PySem.Spec PyProof.Rows
section
variable {X:Cx}
def rSetTT (w:aN) (K:Fg):List V->Hp->VK->Prop:=fun xs H Q=>∃ x ds,xs=[x]/\dT K (dT K dS) H x ds/\ds.length + 1<=300/\∀ p ms H',Same H H'->ms.Nodup->(∀ k,k∈ms↔k∈ds)->dSt w K H' (.ref p) ms->Q (.ref p) H'
theorem call_setTTs {K:Fg} {w:aN} (hu:X.A.units + 8 < bS) (hK:X.K=K:=by rfl) (hw:X.w=w:=by rfl) (hc:X.calm=true:=by rfl):CallR X (.type "set") (rSetTT w K):=by
 subst hK hw;intro pins s σ H xs us Q I r h;obtain⟨x,ds,rfl,⟨a,ys,rfl,hq,p⟩,hn,q⟩:=h;obtain⟨u,rfl,rx⟩:=vals1 r;cases rx;obtain⟨its,ri,pl,_⟩:=I.tuple hq;refine ST.call_setT (ST.restr (ST.tupKd X.prog X.w) fun k v=>∃ x,RelV x v/\dT X.K dS H x k) (I.ok.hd hc) hu pl (keyed' I p ri) (by rw[ak,<- ri.length,p.length];exact hn) fun h' tk ms M _ hk=>?_
 obtain⟨es,ep,t,hI,hled,hp⟩:=M.ex;obtain⟨ps,h1,h2⟩:=pv_of hp;have hfr:H s.heap.objs.size=none:=I.hok.fresh (aj _);have sm:Same H (upd H s.heap.objs.size (stO s.heap.objs.size es ep t)):=same_upd hfr;refine⟨.ref s.heap.objs.size,_,I.laid (t':=tk) (o:=stO s.heap.objs.size es ep t) (fun b o e=>hk b o (aq e) e) (aj _) ?_,rfl,q _ _ _ sm M.nd M.mem ⟨_,es,ep,t,ps,rfl,upd_same,(ST.tupKd X.prog X.w).fits hI.1,hled,fun z=>?_,L2.Paired.imp (fun _ _ z=>⟨z.1,Mo.mo sm z.2⟩) h1,h2⟩⟩
 ·refine⟨(ST.tupKd X.prog X.w).obj hI.1,⟨_,(ST.tupKd X.prog X.w).obj hI.1⟩,fun g1 g2 g k=>k _ g⟩
 ·exact(ST.restr (ST.tupKd X.prog X.w) fun k v=>∃ x,RelV x v/\dT X.K dS H x k).few rfl hI hp M.nd z
end
section
variable {X:Cx} {K:Fg} {pos:Pos} {k:Nat} {F:Am} {S:Sto} {H:Hp}
def dSrtSetT (b:Bool) (te:ED):ED:=fun Γ S Q=>te Γ S fun d S1=>∃ ts:List (List Str),d=.tup (ts.map tupS)/\ts.length < 64/\∀ out:List (List Str),out.Nodup->(∀ t,t∈out↔t∈ts)->out.Pairwise (fun a b=>HT.lexS a b=true)->newL b (out.map tupS) S1 Q
theorem e_sortedSetT {b:Bool} {e:Expr} {te:ED} {p p' pos':Pos} (hr:Room k X.A) (hg:Gl X "sorted") (hm:X.mg "sorted" = none) (hg':Gl X "set") (hm':X.mg "set" = none) (he:PD K X e te) (hK:X.K=K:=by rfl) (hc:X.calm=true:=by rfl)
  (h1:am [e] X.env=(false,eval e X.env)::am [] X.env:=by rfl) (h2:am [jN (.Name "set" p') [e] [] pos'] X.env=(false,eval (jN (.Name "set" p') [e] [] pos') X.env)::am [] X.env:=by rfl) (h3:(cy pos (am [] X.env)).any (·.1)=false:=by rfl) (h4:(cy pos' (am [] X.env)).any (·.1)=false:=by rfl) :
  PD K X (.Call (.Name "sorted" p) [.Call (.Name "set" p') [e] [] pos'] [] pos) (dSrtSetT b te) :=
 .of (pe_callB (call_sortedStN (lt64 hr) hK rfl hc) hg hm bt_sorted (pa_cons (pe_callTy (call_setTTs (lt64 hr) hK rfl hc) hg' hm' bt_set (pa_cons he.o pa_nil h1) (by decide) (by decide) h1 h4) pa_nil h2) (by decide) (by decide) h2 h3) fun σ H Q z0=>z0.el fun F S Γ QD r g q c =>
 ⟨F,S,Γ,_,r,g,q,fun v d H1 S1 x1 r1 v1 ⟨ts,hl,h64,q1⟩=>by
  subst hl;obtain⟨a,us,rfl,sq,lu⟩:=tup.st v1;refine⟨_,ts,rfl,⟨a,us,rfl,sq,repTups lu⟩,by omega,fun p ms H2 s2 nd mem st=>⟨_,ms,rfl,st,nd,?_,fun l ys out hfr pm pw pp=>?_⟩⟩
  ·exact eC (szOk_of nd mem).1 h64
  ·have r2:Rp K F S1 H2:=r1.same s2;have x2:Ext S1 H1 S1 H2:=Ext.same s2;exact Cn.new (Cn.shift c (x1.trans x2)) r2 hfr (tups_rep r2 pp) (q1 out (pm.nodup_iff.mpr nd) (fun t=>(pm.mem_iff).trans (mem t)) pw)⟩
end
end L2
set_option maxHeartbeats 4000000
namespace Toy
open PySem L2
end Toy
namespace L2
open PySem Toy
end L2
set_option maxHeartbeats 1000000
namespace L2
open PySem Toy
end L2
namespace L2
open PySem PySem.Spec PyProof.Rows
end L2
set_option maxHeartbeats 4000000
namespace L2
open PySem
open Toy
end L2
set_option maxHeartbeats 1000000
namespace L2
open PySem Toy
def tr (ns ms:List Str) (n:Str):Str:=ms.getD (ns.idxOf n) n
theorem tr_at {ns ms:List Str} (hl:ms.length=ns.length) {n:Str} (hn:n∈ns):∃ h:ns.idxOf n < ms.length,tr ns ms n=ms[ns.idxOf n]:=by
 have h:ns.idxOf n < ms.length:=by rw[hl];exact iS hn
 refine⟨h,?_⟩;unfold tr;rw[ay,ai h];rfl
theorem tr_mem {ns ms:List Str} (hl:ms.length=ns.length) {n:Str} (hn:n∈ns):tr ns ms n∈ms:=by
 obtain⟨h,e⟩:=tr_at hl hn;rw[e];exact cf h
theorem tr_back {ns ms:List Str} (hl:ms.length=ns.length) (nm:ms.Nodup) {n:Str} (hn:n∈ns):tr ms ns (tr ns ms n)=n:=by
 obtain⟨h,e⟩:=tr_at hl hn;have e2:ms.idxOf (tr ns ms n)=ns.idxOf n:=by rw[e];exact nm.idxOf_getElem _ h
 unfold tr;unfold tr at e2;rw[e2,ay,ai (iS hn)];show ns[ns.idxOf n]=n;exact List.getElem_idxOf _
theorem tr_inj {ns ms:List Str} (hl:ms.length=ns.length) (nm:ms.Nodup) {a b:Str} (ha:a∈ns) (hb:b∈ns) (e:tr ns ms a=tr ns ms b):a=b:=by
 rw[<- tr_back hl nm ha,e,tr_back hl nm hb]
def cl (ns ms:List Str) (t:List Str):List Str:=srS (t.map (tr ns ms))
section
variable {ns ms:List Str} (hl:ms.length=ns.length) (nn:ns.Nodup) (nm:ms.Nodup)
include hl nm
theorem nd_tr {t:List Str} (nt:t.Nodup) (ht:∀ n∈t,n∈ns):(t.map (tr ns ms)).Nodup:=bO.mpr (dI (fun {a b} ha hb n e=>n (tr_inj hl nm (ht a ha) (ht b hb) e)) nt)
theorem cl_srt {t:List Str} (nt:t.Nodup) (ht:∀ n∈t,n∈ns):Srt (cl ns ms t):=srS_srt (nd_tr hl nm nt ht)
theorem mem_cl {t:List Str} {x:Str}:x∈cl ns ms t↔∃ n∈t,tr ns ms n=x:=by unfold cl;rw[mem_srS,br]
theorem cl_mem {t:List Str} (ht:∀ n∈t,n∈ns) {x:Str} (hx:x∈cl ns ms t):x∈ms:=by
 obtain⟨n,hn,rfl⟩:=(mem_cl hl nm).mp hx;exact tr_mem hl (ht n hn)
include nn in
theorem cl_back {t:List Str} (st:Srt t) (ht:∀ n∈t,n∈ns):cl ms ns (cl ns ms t)=t:=by
 refine Srt.ext (cl_srt hl.symm nn (cl_srt hl nm st.nodup ht).nodup fun x hx=>cl_mem hl nm ht hx) st fun x=>?_;rw[mem_cl hl.symm nn];constructor
 ·rintro⟨y,hy,rfl⟩;obtain⟨n,hn,rfl⟩:=(mem_cl hl nm).mp hy;rw[tr_back hl nm (ht n hn)];exact hn
 ·intro hx;exact⟨tr ns ms x,(mem_cl hl nm).mpr ⟨x,hx,rfl⟩,tr_back hl nm (ht x hx)⟩
include nn in
end
abbrev zipK (ns ms:List Str):List (Key × D):=(ns.map (fm:Str->Key)).zip (ms.map D.str)
theorem get_zip:∀ (ns ms:List Str) (n:Str),ms.length=ns.length->n∈ns->getG (zipK ns ms) (.inr n)=some (.str (tr ns ms n))
 | [],_,n,_,h=>by cases h
 | x::ns,[],n,h,_=>by cases h
 | x::ns,m::ms,n,h,hn=>by
  by_cases e:x=n
  ·subst e;unfold tr getG zipK;simp
  ·have hn':n∈ns:=by
    rcases ax.mp hn with z | z
    ·exact absurd z.symm e
    ·exact z
   have:=get_zip ns ms n (by simpa using h) hn'
   have e1:getG (zipK (x::ns) (m::ms)) (.inr n)=getG (zipK ns ms) (.inr n):=by
    have e0:¬ ((fm x:Key)=.inr n):=fun z=>e (fm.inj z);show((List.find? (fun kv:Key × D=>decide (kv.1=.inr n)) ((fm x,D.str m)::zipK ns ms)).map (·.2))=_;rw[cR,decide_eq_false e0];rfl
   have e2:tr (x::ns) (m::ms) n=tr ns ms n:=by
    unfold tr;rw[List.idxOf_cons]
    have:(x == n)=false:=by simpa using e
    rw[this];rfl
   rw[e1,e2,this]
theorem cutTo1 {α:Type} (f:α->D) (xs:List α) (k:Nat):cutD (xs.map f) none (some (k:Int))=(xs.take k).map f:=by
 rw[cutD_map,HT.sIx_none,HT.sIx_nat,i6,Nat.sub_zero]
 congr 1
 rcases Nat.le_total k xs.length with h | h
 ·rw[iH h]
 ·rw[jT h,bJ (aj _),bJ h]
theorem cutFrom1 {α:Type} (f:α->D) (xs:List α) (k:Nat):cutD (xs.map f) (some (k:Int)) none=(xs.drop k).map f:=by
 rw[cutD_map,HT.sIx_none,HT.sIx_nat]
 congr 1
 rcases Nat.le_total k xs.length with h | h
 ·rw[iH h,bJ (by rw[bo];exact aj _)]
 ·rw[jT h,List.drop_of_length_le (aj _),List.drop_of_length_le h,List.take_nil]
end L2
namespace Toy
open PySem L2
end Toy
set_option maxHeartbeats 4000000
namespace L2
open PySem
end L2
set_option maxHeartbeats 1000000
namespace Toy
open PySem L2
abbrev s_law:Stmt:=top 18
theorem sc_law:FnScope ["script", "deck", "turn", "sets", "told", "names", "row", "more", "wider", "at", "fewer", "called", "other"] ["script"] (defScope s_law):=fsc
theorem draw_subG {a:Addr} {tt:TD} {Γr:Gm} {ws:List Str} {n:Nat} {S:Sto} {G:Sto->Prop} (dk:DkD S a n) (hn:n + ws.length<=1000000) (hw:ws.length<=9999) (hG:∀ S',Off a S S'->G S')
  (h:∀ (x:Str) (S:Sto) (k:Nat),DkD S a k->k<=1000000->∀ Q:Bool->Sto->Prop,(∀ c S',Off a S S'->DkD S' a (k + 1)->Q c S')->tt (some (.str x)::Γr) S Q) {Q:List D->Sto->Prop}
  (q:∀ (os:List Str) S',os.Sublist ws->Off a S S'->DkD S' a (n + ws.length)->Q (os.map D.str) S') :
  loopD (gdName 0) tt (emitD (dVar 0)) G (none::Γr) (ws.map D.str) [] S Q:=by
 refine loop_ind (fun i acc S'=>∃ os:List Str,acc=os.map D.str/\os.Sublist (ws.take i)/\Off a S S'/\DkD S' a (n + i)) ⟨[],rfl,jP _,fun _ _=>rfl,dk⟩ ?_ ?_
 ·rintro i x acc S' N hx ⟨os,rfl,hs,ho,dk'⟩ hN;rw[a6,bK] at hx;obtain⟨y,hy,rfl⟩:=hx;obtain⟨hi,_⟩:=aH.mp hy;have et:ws.take (i + 1)=ws.take i++[y]:=by rw[dU,hy];rfl
  refine⟨hG _ ho,h y S' (n + i) dk' (by omega) _ fun c S2 off2 dk2=>?_⟩
  have ol:=hs.length_le;rw[aP] at ol;cases c with
  | true =>
   rw[if_pos rfl];refine⟨z9999 (by rw[ag];omega),hN _ _ ⟨os++[y],by rw[a9];rfl,?_,ho.trans off2,dk2⟩⟩
   rw[et];exact hs.append (kM _)
  | false =>
   rw[if_neg (by simp)]
   refine hN _ _ ⟨os,rfl,?_,ho.trans off2,dk2⟩;rw[et];exact hs.trans (jB _ _)
 ·rintro acc S' ⟨os,rfl,hs,ho,dk'⟩;rw[ag] at hs dk';rw[ii] at hs;exact⟨hG _ ho,q os S' hs ho dk'⟩
section
variable {P:aB} {w:aN} {K:av} {mg:Str->Option ad} {base:aS} {pt cc:Addr}
theorem ok_law {f:Addr} {fd:dN} (Fn:Fun K "law" "law" s_law f fd) (B:Bs mg) (BD:mg "dict" = none) (d_law_deck:Df P w K mg base 49 "_law_deck" ["script"] (spU K spd_deck)) (d_law_draw:Df P w K mg base 49 "_law_draw" ["deck", "most"] (spU K spd_draw)) (d_law_names:Df P w K mg base 49 "_law_names" ["deck", "many"] (spU K spd_names)) (d_law_sets:Df P w K mg base 49 "_law_sets" ["deck", "most", "wide"] (spU K spd_sets)) (d_longest_across:Df P w K mg base 49 "longest_across" ["sets"] (spU K sp_longest_across)) (d_law_right:Df P w K mg base 49 "_law_right" ["sets", "told"] (spU K sp_law_right68)) (d_law_spare:Df P w K mg base 49 "_law_spare" ["names"] (spU K sp_law_spare)):FnOk P w K mg base CX0 50 f fd ["script"] (spU K (spLawW 63)):=by
 refine e_fn Fn sc_law ?_ fun cdv A outer s H E hr=>⟨_,(dss_cons (ds_set (i:=1) sc_law.nd rfl (gV rfl) (e_callD d_law_deck hr rfl (da_cons (dv 0) da_nil)))
  (dss_cons (ds_for c8 rfl (di_range1 rfl B.range (da_cons e_int da_nil)) (dg_name (i:=2) sc_law.nd rfl (a7 rfl)) (dss_cons (ds_set (i:=3) sc_law.nd rfl (a7 rfl) (e_callD d_law_sets hr rfl (da_cons (dv 1) (da_cons e_int (da_cons e_int da_nil)))))
  (dss_cons (ds_set (i:=4) sc_law.nd rfl (a7 rfl) (e_callD d_longest_across hr rfl (da_cons (dv 3) da_nil)))
  (dss_cons (ds_if (dt_not (dt_tru (e_callD d_law_right hr rfl (da_cons (dv 3) (da_cons (dv 4) da_nil))))) (dss_one (ds_ret e_bl)) dss_nil)
  (dss_cons (ds_set (i:=5) sc_law.nd rfl (gV rfl) (e_lst (b:=true) da_nil))
  (dss_cons (ds_for c8 rfl (di_sq (dv 3)) (dg_name (i:=6) sc_law.nd rfl (a7 rfl)) (dss_one (ds_expr (e_extend (dv 5) (da_cons (e_comp (N':=["name", "names"]) (oc:=none) (b:=true) [0] [] rfl sc_law.nd (fun _ _ _=>turn_one _ _ _ _ _ _ _ _ _) (.own (.cap (i:=5) rfl (by decide +kernel) .nil)) (free_of rfl) (di_sq (dv 6)) (cg_name (i:=0)) (fun _ _ _ _ _=>pg_name (i:=0) (nd_ ["name", "names"]) rfl (a7 rfl) (.inr rfl)) (fun _ _ _ _ _=>dts_one (by exact(dt_nin hr (dv 0) (dv 1)))) bo_emit (fun _ _ _ _ _ _=>pb_emit rfl (by exact PD.o (dv 0)))) da_nil)))))
  (dss_cons (ds_set (i:=7) sc_law.nd rfl (a7 rfl) (e_add (k:=false) (e_sl (b:=false) (e_comp (N':=["name", "deck"]) (oc:=none) (b:=false) [0] [] rfl sc_law.nd (fun _ _ _=>turn_one _ _ _ _ _ _ _ _ _) (.own (.cap (i:=1) rfl (by decide +kernel) .nil)) (free_of rfl) (di_sq (dv 5)) (cg_name (i:=0)) (fun _ _ _ _ _=>pg_name (i:=0) (nd_ ["name", "deck"]) rfl (a7 rfl) (.inr rfl)) (fun _ _ _ _ _=>dts_one (by exact(dt_eq hr (e_callD d_law_draw hr rfl (da_cons (dv 1) (da_cons e_int da_nil))) e_int))) bo_emit (fun _ _ _ _ _ _=>pb_emit rfl (by exact PD.o (dv 0)))) do_none (do_some e_int)) (e_repL (b:=false) (e_lst (b:=true) (da_cons (e_callD d_law_spare hr rfl (da_cons (dv 5) da_nil)) da_nil)) (e_callD d_law_draw hr rfl (da_cons (dv 1) (da_cons e_int da_nil))))))
  (dss_cons (ds_set (i:=8) sc_law.nd rfl (a7 rfl) (e_tuple rfl B.tuple (da_cons (e_sortedSetT (b:=false) hr rfl B.sorted rfl B.set (e_add (k:=false) (dv 3) (e_tup (da_cons (e_tuple rfl B.tuple (da_cons (e_sorted (b:=false) hr rfl B.sorted (da_cons (dv 7) da_nil)) da_nil)) da_nil)))) da_nil)))
  (dss_cons (ds_if (dt_lt hr (e_len rfl B.len (da_cons (e_ix (e_callD d_longest_across hr rfl (da_cons (dv 8) da_nil)) e_int) da_nil)) (e_len rfl B.len (da_cons (e_ix (dv 4) e_int) da_nil))) (dss_one (ds_ret e_bl)) dss_nil)
  (dss_cut (ds_if (dt_ne hr (dv 3) (e_tup da_nil)) (dss_cons (ds_set (i:=9) sc_law.nd rfl (a7 rfl) (e_callD d_law_draw hr rfl (da_cons (dv 1) (da_cons (e_len rfl B.len (da_cons (dv 3) da_nil)) da_nil))))
  (dss_cons (ds_set (i:=10) sc_law.nd rfl (a7 rfl) (e_add (k:=false) (e_sl (b:=false) (dv 3) do_none (do_some (dv 9))) (e_sl (b:=false) (dv 3) (do_some (e_add (k:=false) (dv 9) e_int)) do_none)))
  (dss_one (ds_if (dt_gt hr (e_len rfl B.len (da_cons (e_ix (e_callD d_longest_across hr rfl (da_cons (dv 10) da_nil)) e_int) da_nil)) (e_len rfl B.len (da_cons (e_ix (dv 4) e_int) da_nil))) (dss_one (ds_ret e_bl)) dss_nil)))) dss_nil)
  (dss_cons (ds_set (i:=11) sc_law.nd rfl (gV rfl) (e_dzip zn_LL rfl BD rfl B.zip (da_cons (dv 5) (da_cons (e_callD d_law_names hr rfl (da_cons (dv 1) (da_cons (e_len rfl B.len (da_cons (dv 5) da_nil)) da_nil))) da_nil))))
  (dss_cons (ds_set (i:=12) sc_law.nd rfl (a7 rfl) (e_tuple rfl B.tuple (da_cons (e_sorted (b:=false) hr rfl B.sorted (da_cons (e_comp (N':=["row", "called"]) (oc:=none) (b:=false) [0] [] rfl sc_law.nd (fun _ _ _=>turn_one _ _ _ _ _ _ _ _ _) (.own (.cap (i:=11) rfl (by decide +kernel) .nil)) (free_of rfl) (di_sq (dv 3)) (cg_name (i:=0)) (fun _ _ _ _ _=>pg_name (i:=0) (nd_ ["row", "called"]) rfl (a7 rfl) (.inr rfl)) (fun _ _ _ _ _=>dts_nil) bo_emit (fun _ _ _ _ _ _=>pb_emit rfl (by exact PD.o (e_tuple rfl B.tuple (da_cons (e_sorted (b:=false) hr rfl B.sorted (da_cons (e_comp (N':=["name", "called"]) (oc:=none) (b:=false) [0] [] rfl (nd_ ["row", "called"]) (fun _ _ _=>turn_one _ _ _ _ _ _ _ _ _) (.own (.cap (i:=1) rfl (by decide +kernel) .nil)) (free_of rfl) (di_sq (dv 0)) (cg_name (i:=0)) (fun _ _ _ _ _=>pg_name (i:=0) (nd_ ["name", "called"]) rfl (a7 rfl) (.inr rfl)) (fun _ _ _ _ _=>dts_nil) bo_emit (fun _ _ _ _ _ _=>pb_emit rfl (by exact PD.o (e_dget hr (dv 1) (dv 0))))) da_nil)) da_nil))))) da_nil)) da_nil)))
  (dss_one (ds_if (dt_ne hr (e_len rfl B.len (da_cons (e_ix (e_callD d_longest_across hr rfl (da_cons (dv 12) da_nil)) e_int) da_nil)) (e_len rfl B.len (da_cons (e_ix (dv 4) e_int) da_nil))) (dss_one (ds_ret e_bl)) dss_nil))))))))))))))
  (dss_one (ds_ret e_bl)))),?_⟩
 ·rintro ds S Q ⟨ns,rfl,_⟩;rfl
 ·rintro ds S Q ⟨ns,rfl,h63,hw,hS,q⟩;refine⟨ns,rfl,h63,hw,fun a S1 ha _ dk1=>⟨⟨by decide,by decide⟩,?_⟩⟩
  refine for_ind (fun i Γ S'=>∃ x2 x3 x4 x5 x6 x7 x8 x9 x10 x11 x12:Option D,Γ=[some (.lst (ns.map D.int)),some (.ref a),x2,x3,x4,x5,x6,x7,x8,x9,x10,x11,x12]/\DkD S' a (600 * i)) ⟨none,none,none,none,none,none,none,none,none,none,none,rfl,dk1⟩ ?_ ?_
  ·rintro i x Γ S2 Nx hx ⟨x2,x3,x4,x5,x6,x7,x8,x9,x10,x11,x12,rfl,dk2⟩ hN';obtain⟨hi,rfl⟩:=rng_at hx;have hi2:i < 2:=hi;refine⟨trivial,a,7,11,600 * i,rfl,dk2,by omega,by decide,by decide,by decide,fun ts S3 hC off3 dk3=>?_⟩
   have hs:=hC.srt;have het:∀ t∈ts,Srt t:=fun t ht=>(hC.each t ht).1;have hl:=hC.len;have l6:∀ t∈ts,t.length<=6:=fun t ht=>(hC.each t ht).2;have h99:∀ t∈ts,t.length<=99:=fun t ht=>by have:=l6 t ht;omega
   refine⟨ts,rfl,by omega,h99,?_⟩
   refine⟨ts,rfl,hs,by omega,h99,?_⟩
   refine⟨z9999 (by decide),fun lp hlp=>?_⟩
   have hla:lp≠a:=dk3.ne hlp;refine⟨_,rfl,for_ind (fun j Γ S'=>∃ (y6:Option D) (us:List Str),Γ=[some (.lst (ns.map D.int)),some (.ref a),some (.int (i:Nat)),some (.tup (ts.map tupS)),some (prD (laM ts 5)),some (.ref lp),y6,x7,x8,x9,x10,x11,x12]/\S' lp=some (.lst (us.map D.str))/\us.Nodup/\(∀ x,x∈us↔∃ t∈ts.take j,x∈t)/\DkD S' a (600 * i + 500)) ⟨_,[],rfl,supd_same,gR,?_,dk3.eq (supd_ne (bW hla))⟩ ?_ ?_⟩
   ·intro x;simp
   ·rintro j x Γ S4 N hx ⟨y6,us,rfl,hf,und,um,dk4⟩ hN;rw[a6,bK] at hx;obtain⟨t,hx,rfl⟩:=hx;have ht:=bL hx;have t6:=l6 t ht;have ul:us.length<=12:=bN (und.length_le_of_subset fun x hx=>by
     obtain⟨t,ht,hxt⟩:=(um x).mp hx;exact mem_nms.mpr ⟨t,de ht,hxt⟩) hC.nms
    refine⟨trivial,⟨_,hf⟩,_,rfl,loop_filt (p:=fun n=>!decide (n∈us)) (f:=D.str) (fun n hn Q q=>in_t (neg:=true) (E:=strE) (by decide) hf q) (fun n hn _ Q q=>q) (z9999 (by show 0 + t.length<=_;omega)) ?_⟩
    intro bp hbp;have hbl:bp≠lp:=by rintro rfl;rw[hf] at hbp;cases hbp
    have hba:bp≠a:=dk4.ne hbp;have fl:=List.length_filter_le (fun n=>!decide (n∈us)) t;refine⟨_,_,(supd_ne (bW hbl)).trans hf,supd_same,z9999 (by rw[cO,ag,ag];omega),hN _ _ ⟨_,us++t.filter (fun n=>!decide (n∈us)),rfl,?_,?_,fun x=>?_,dk4.eq ((supd_ne (bW hla)).trans (supd_ne (bW hba)))⟩⟩
    ·rw[supd_same,cO,a9]
    ·refine fB.mpr ⟨und,(het t ht).nodup.filter _,fun x hx y hy e=>?_⟩;subst e
     have:=(dW.mp hy).2
     simp[hx] at this
    ·rw[dU,hx,bB,um,dW];constructor
     ·rintro(⟨u,hu,hxu⟩ | ⟨hxt,_⟩)
      ·exact⟨u,da _ hu,hxu⟩
      ·exact⟨t,bt _ (by simp),hxt⟩
     ·rintro⟨u,hu,hxu⟩;rcases bB.mp hu with h | h
      ·exact .inl ⟨u,h,hxu⟩
      ·have:u=t:=by simpa using h
       subst this
       by_cases hin:x∈us
       ·exact .inl ((um x).mp hin)
       ·exact .inr ⟨hxu,by simpa using hin⟩
   ·rintro Γ S4 ⟨y6,us,rfl,hf,und,um,dk4⟩;rw[ag,ii] at um;have ul:us.length<=12:=bN (und.length_le_of_subset fun x hx=>mem_nms.mpr ((um x).mp hx)) hC.nms;refine⟨trivial,us.map D.str,hf,draw_subG dk4 (by omega) (by omega) (fun Sx ox=>(ox lp hla).trans hf) (fun x Sx k dkx hk Q hq=>⟨a,3,k,rfl,dkx,hk,by decide,by decide,fun r S' r0 r1 off dk'=>⟨rfl,_,rfl,hq _ _ off dk'⟩⟩) fun os S5 osub off5 dk5=>?_⟩
    refine⟨5,rfl,_,rfl,.ref lp,us,rfl,(off5 lp hla).trans hf,ul,fun w hw=>⟨z9999 (by show 1<=9999;decide),fun rp hrp=>?_⟩⟩
    have hra:rp≠a:=dk5.ne hrp;have dk5':DkD (supd S5 rp (.lst [.str w])) a (600 * i + 500 + us.length):=dk5.eq (supd_ne (bW hra));refine⟨a,2,_,rfl,dk5',by omega,by decide,by decide,fun r S6 r0 r1 off6 dk6=>?_⟩
    obtain⟨k,rfl⟩:∃ k:Nat,r=k:=⟨r.toNat,by omega⟩
    have er:(aQ k [D.str w]).flatten=(aQ k w).map D.str:=by
     rcases(by omega:k=0\/k=1) with rfl | rfl <;> rfl
    have ec:cutD (os.map D.str) none (some 5)=(os.take 5).map D.str:=cutTo1 D.str os 5;have wm:∀ x,x∈aQ k w->x=w:=fun x hx=>(List.mem_replicate.mp hx).2;have mnd:(os.take 5++aQ k w).Nodup:=by
     refine fB.mpr ⟨(und.sublist osub).sublist (fx _ _),?_,fun x hx y hy e=>?_⟩
     ·rcases(by omega:k=0\/k=1) with rfl | rfl <;> simp
     ·rw[e,wm y hy] at hx;exact hw (osub.subset (de hx))
    have ml:(os.take 5++aQ k w).length<=6:=by rw[az,aP,List.length_replicate];omega
    refine⟨rp,[.str w],k,rfl,rfl,(off6 rp hra).trans supd_same,by show 1 * k<=9999;omega,by omega,?_⟩
    rw[er,ec];refine⟨_,_,rfl,rfl,z9999 (by rw[ag,ag,<- az];omega),?_⟩
    rw[<- a9];generalize os.take 5++aQ k w=mo at mnd ml;have sl:(srS mo).length<=6:=by rw[(srS_perm mo).length_eq];exact ml
    refine .inl ⟨mo,rfl,by omega,_,rfl,z9999 (by show 1<=9999;decide),z9999 (by rw[ag];show _ + 1<=9999;omega),ts++[srS mo],by rw[a9];rfl,by rw[az];show _ + 1 < 64;omega,fun out ond omem opw=>?_⟩
    have outl:out.length<=8:=bN (ond.length_le_of_subset fun t ht=>(omem t).mp ht) (by rw[az];show _ + 1<=8;omega)
    refine⟨_,rfl,out,rfl,by omega,fun t ht=>?_,?_⟩
    ·rcases bB.mp ((omem t).mp ht) with h | h
     ·exact h99 t h
     ·rw[aG.mp h];omega
    have lg:lenA ts<=lenA out:=lenA_mono hs.nodup ond fun x hx=>(omem x).mpr (da _ hx);refine⟨_,_,rfl,atI_nat (j:=0) rfl,_,rfl,_,_,rfl,atI_nat (j:=0) rfl,_,rfl,_,rfl,ite2 (fun c=>absurd (of_decide_eq_true c) ?_) fun _=>?_⟩
    ·rw[ag,ag];have lg:(laM ts 5).1.length<=(laM out 5).1.length:=lg;omega
    have hf6:S6 lp=some (.lst (us.map D.str)):=(off6 lp hla).trans ((supd_ne (fun e=>by rw[<- e,(off5 lp hla).trans hf] at hrp;cases hrp)).trans ((off5 lp hla).trans hf))
    refine⟨fun Γ S'=>∃ y9 y10:Option D,Γ=[some (.lst (ns.map D.int)),some (.ref a),some (.int (i:Nat)),some (.tup (ts.map tupS)),some (prD (laM ts 5)),some (.ref lp),y6,some (.lst (mo.map D.str)),some (.tup (out.map tupS)),y9,y10,x11,x12]/\S' lp=some (.lst (us.map D.str))/\DkD S' a (600 * i + 520),?_,?_⟩
    ·refine⟨z9999 (by show 0<=9999;decide),flE.ok 9 ts [] (by decide),_,rfl,ite2 (fun c=>?_) fun _=>⟨_,_,rfl,hf6,dk6.mono (by omega)⟩⟩
     have hne:ts≠[]:=by rintro rfl;simp at c
     have h0:=List.length_pos_iff.mpr hne;refine⟨_,rfl,a,(ts.length:Int),_,by rw[ag],dk6,by omega,by omega,by omega,fun k S7 k0 k1 off7 dk7=>?_⟩
     obtain⟨j,rfl⟩:∃ j:Nat,k=j:=⟨k.toNat,by omega⟩
     have ec:cutD (ts.map tupS) none (some (j:Int))++cutD (ts.map tupS) (some ((j:Int) + 1)) none=(ts.eraseIdx j).map tupS:=by
      rw[cutTo1,show((j:Int) + 1)=((j + 1:Nat):Int) from rfl,cutFrom1,<- a9,g9]
     have sub:(ts.eraseIdx j).Sublist ts:=List.eraseIdx_sublist ..;have hl':=sub.length_le;refine⟨(j:Int),rfl,(j:Int) + 1,rfl,?_,?_⟩
     ·have:=congrArg fj ec
      rw[az,ag] at this;rw[this];exact z9999 (by omega)
     rw[ec];have lg:lenA (ts.eraseIdx j)<=lenA ts:=lenA_mono (hs.nodup.sublist sub) hs.nodup fun x hx=>sub.subset hx;refine⟨ts.eraseIdx j,rfl,by omega,fun t ht=>h99 t (sub.subset ht),_,_,rfl,atI_nat (j:=0) rfl,_,rfl,_,_,rfl,atI_nat (j:=0) rfl,_,rfl,_,rfl,ite2 (fun c=>absurd (of_decide_eq_true c) ?_) fun _=>⟨_,_,rfl,(off7 lp hla).trans hf6,dk7.mono (by omega)⟩⟩
     rw[ag,ag];have lg:(laM (ts.eraseIdx j) 5).1.length<=(laM ts 5).1.length:=lg;omega
    rintro Γ S7 ⟨y9,y10,rfl,hf7,dk7⟩;refine⟨_,hf7,a,us.length,_,by rw[ag],dk7,by omega,ul,fun ms S8 mnd' mlen _ off8 dk8=>?_⟩
    refine⟨.ref lp,.lst (ms.map D.str),us,ms.map D.str,rfl,(off8 lp hla).trans hf7,rfl,und,by rw[ag,mlen],fun dp hdp=>?_⟩
    have hda:dp≠a:=dk8.ne hdp;have dk9:DkD (supd S8 dp (.dk (zipK us ms))) a _:=dk8.eq (supd_ne (bW hda));have hd9:supd S8 dp (.dk (zipK us ms)) dp=some (.dk (zipK us ms)):=supd_same;show _;generalize supd S8 dp (.dk (zipK us ms))=S9 at dk9 hd9;have inN:∀ t∈ts,∀ n∈t,n∈us:=fun t ht n hn=>(um n).mpr ⟨t,ht,hn⟩;refine⟨_,rfl,loop_map (enc:=tupS) (f:=fun t=>tupS (cl us ms t)) (fun t ht Q q=>?_) (z9999 (by show 0 + ts.length<=9999;omega)) ?_⟩
    ·have t6:=l6 t ht;refine⟨_,rfl,loop_map (enc:=D.str) (f:=fun n=>D.str (tr us ms n)) (fun n hn Q q=>⟨_,_,_,hd9,rfl,get_zip us ms n mlen (inN t ht n hn),q⟩) (z9999 (by show 0 + t.length<=9999;omega)) ?_⟩
     rw[cO];have e1:t.map (fun n=>D.str (tr us ms n))=(t.map (tr us ms)).map D.str:=by rw[b5];rfl
     rw[e1];exact .inl ⟨t.map (tr us ms),rfl,by rw[ag];omega,_,rfl,q⟩
    rw[cO];have e1:ts.map (fun t=>tupS (cl us ms t))=(ts.map (cl us ms)).map tupS:=by rw[b5];rfl
    rw[e1];have bk:∀ t∈ts,cl ms us (cl us ms t)=t:=fun t ht=>cl_back mlen und mnd' (het t ht) (inN t ht);have ndc:(ts.map (cl us ms)).Nodup:=bO.mpr (dI (fun {x y} hx hy n e=>n (by rw[<- bk x hx,e,bk y hy])) hs.nodup)
    have ndo:(srT (ts.map (cl us ms))).Nodup:=(srT_srt ndc).nodup;have uo:∀ u,u∈srT (ts.map (cl us ms))↔∃ t∈ts,cl us ms t=u:=fun u=>by rw[mem_srT,br]
    have ol:(srT (ts.map (cl us ms))).length=ts.length:=by rw[(srT_perm _).length_eq,ag]
    have cm:∀ x∈ts,∀ y∈ts,mts (cl us ms x) (cl us ms y)=mts x y:=fun x hx y hy=>by
     rw[iF,mts_iff,mts_iff];constructor
     ·rintro⟨n,h1,h2⟩;obtain⟨p,hp,rfl⟩:=(mem_cl mlen mnd').mp h1;obtain⟨p',hp',e⟩:=(mem_cl mlen mnd').mp h2
      have:=tr_inj mlen mnd' (inN x hx p' hp') (inN y hy p hp) e
      subst this;exact⟨p',hp,hp'⟩
     ·rintro⟨n,h1,h2⟩;exact⟨tr us ms n,(mem_cl mlen mnd').mpr ⟨n,h1,rfl⟩,(mem_cl mlen mnd').mpr ⟨n,h2,rfl⟩⟩
    have g1:lenA ts<=lenA (srT (ts.map (cl us ms))):=lenA_map (cl us ms) hs.nodup ndo (fun x hx=>(uo _).mpr ⟨x,hx,rfl⟩) (fun x hx y hy e=>by rw[<- bk x hx,e,bk y hy]) cm
    have g2:lenA (srT (ts.map (cl us ms)))<=lenA ts:=by
     refine lenA_map (cl ms us) ndo hs.nodup (fun u hu=>?_) (fun u hu v hv e=>?_) fun u hu v hv=>?_
     ·obtain⟨t,ht,rfl⟩:=(uo u).mp hu;rw[bk t ht];exact ht
     ·obtain⟨t,ht,rfl⟩:=(uo u).mp hu;obtain⟨t',ht',rfl⟩:=(uo v).mp hv;rw[bk t ht,bk t' ht'] at e;rw[e]
     ·obtain⟨t,ht,rfl⟩:=(uo u).mp hu;obtain⟨t',ht',rfl⟩:=(uo v).mp hv;rw[bk t ht,bk t' ht',cm t ht t' ht']
    refine .inr (.inr ⟨ts.map (cl us ms),rfl,ndc,by rw[ag];omega,_,rfl,srT (ts.map (cl us ms)),rfl,by omega,fun u hu=>?_,?_⟩)
    ·obtain⟨t,ht,rfl⟩:=(uo u).mp hu;unfold cl;rw[(srS_perm _).length_eq,ag];exact h99 t ht
    refine⟨_,_,rfl,atI_nat (j:=0) rfl,_,rfl,_,_,rfl,atI_nat (j:=0) rfl,_,rfl,rfl,false,tsn_f ?_,?_⟩
    ·rw[ag,ag];exact congrArg (fun k:Nat=>D.int (k:Int)) (Nat.le_antisymm g2 g1)
    ·exact hN' _ _ ⟨_,_,_,_,_,_,_,_,_,_,_,rfl,dk9.mono (by omega)⟩
  ·rintro Γ S2 ⟨x2,x3,x4,x5,x6,x7,x8,x9,x10,x11,x12,rfl,dk2⟩;exact⟨trivial,rt_drop (fun c o e=>e) (q _)⟩
end
end Toy
set_option maxHeartbeats 4000000
namespace Toy
open PySem L2
theorem fin {l:PySem.W.OpenLaw} {w:aN} {K:av} {h:aS} {mg:Str->Option ad} {fa f3:Addr} {tg:Tok} (X:K.In h) (G:h.Ns aX mg) (hfa:mg "law" = some (.ref fa)) (B:Bs mg) (LG:mg "LONGEST" = some (.int 5 tg)) (AB:mg "abs" = none) (BD:mg "dict" = none)
  (T1:Tx K mg "meets" s_meets) (T2:Tx K mg "choices_of" s_choices_of) (T3:Tx K mg "go_across" s_go_across) (T4:Tx K mg "fits" s_fits) (T5:Tx K mg "longest_across" s_longest_across) (T6:Tx K mg "first_other" s_first_other) (T7:Tx K mg "_law_deck" s_law_deck) (T8:Tx K mg "_law_draw" s_law_draw) (T9:Tx K mg "_law_names" s_law_names) (T10:Tx K mg "_law_sets" s_law_sets) (T11:Tx K mg "_law_meet" s_law_meet) (T12:Tx K mg "_law_turned" s_law_turned) (T13:Tx K mg "_law_right" s_law_right) (T14:Tx K mg "_law_spare" s_law_spare)
  {od3 an3:Option Addr} {sl3:Array (Option ad)} {oc3 kV3 dc3 pm3 cd3 ct3:ad}
  (a3:bI K aX "law" = some (some (.ref f3))) (l3:K.lookup f3=some ⟨oc3,od3,.func (eP "law" "law" (defArgs s_law) (defBody s_law) (defScope s_law) .none kV3 dc3 pm3 an3 cd3 ct3),sl3⟩) (c3:gI K cd3 "law" = true) (k3:fI K (.ref f3)=true) :
  ∃ fd:dN,(∀ (s:ah) (v:ad),BindsTo s fd ⟨[v],[]⟩ [("script",v)])/\∀ base:aS,K.In base->base.Ns aX mg->FnOk l.prog w K mg base CX0 50 fa fd ["script"] (spU K (spLawW 63)):=by
 have e:=hfa.symm.trans (kC X G a3);cases e;refine⟨eP "law" "law" (defArgs s_law) (defBody s_law) (defScope s_law) .none kV3 dc3 pm3 an3 cd3 ct3,fun s v=>.of_eq rfl,fun base _ _=>?_⟩;have F3:=fun_mk (st:=s_law) l3 c3 k3;have d_law_deck:=ok_law_deck (P:=l.prog) (w:=w) (base:=base) T7 B AB;have d_law_draw:=ok_law_draw (P:=l.prog) (w:=w) (base:=base) T8 B;have d_law_names:=ok_law_names (P:=l.prog) (w:=w) (base:=base) T9 B (d_law_draw.mono (by decide))
 have d_law_sets:=ok_law_sets (P:=l.prog) (w:=w) (base:=base) T10 B (d_law_draw.mono (by decide)) (d_law_names.mono (by decide))
 have d_choices_of:=ok_choices_of (P:=l.prog) (w:=w) (base:=base) T2 B;have d_meets:=ok_meets (P:=l.prog) (w:=w) (base:=base) T1 B;have d_fits:=ok_fits (P:=l.prog) (w:=w) (base:=base) T4 B (d_meets.mono (by decide))
 have d_first_other:=ok_first_other (P:=l.prog) (w:=w) (base:=base) T6 B (d_fits.mono (by decide))
 have d_longest_across:=ok_longest_across (P:=l.prog) (w:=w) (base:=base) T5 B LG (d_choices_of.mono (by decide)) (d_first_other.mono (by decide))
 have d_go_across:=ok_go_across (P:=l.prog) (w:=w) (base:=base) T3 B (d_fits.mono (by decide))
 have d_law_turned:=ok_law_turned (P:=l.prog) (w:=w) (base:=base) T12 B;have d_law_meet:=ok_law_meet (P:=l.prog) (w:=w) (base:=base) T11 B;have d_law_right:=ok_law_right (P:=l.prog) (w:=w) (base:=base) T13 B (d_go_across.mono (by decide)) (d_law_turned.mono (by decide)) (d_law_meet.mono (by decide))
 have d_law_spare:=ok_law_spare (P:=l.prog) (w:=w) (base:=base) T14 B;exact ok_law F3 B BD (d_law_deck.mono (by decide)) (d_law_draw.mono (by decide)) (d_law_names.mono (by decide)) (d_law_sets.mono (by decide)) (d_longest_across.mono (by decide)) (d_law_right.mono (by decide)) (d_law_spare.mono (by decide))
end Toy
open PySem PySem.W PyProof.Rows
set_option maxRecDepth 100000 in
set_option maxHeartbeats 0 in
theorem PySem.Challenge.cw_corepetals_k68_whole_longest_across_holds : PySem.Challenge.rw_corepetals_k68_whole_longest_across.Holds := by
 w_on;o_law;k_head;(case hw=>w_witness2)
 k_fill
 refine L2.walkW (l:=PySem.Challenge.rw_corepetals_k68_whole_longest_across) rfl rfl (fun w h Y=>PySem.W.kIn_of Y) ?F
 case F =>
  intro w mg fa h KX G hmg;have B:L2.Bs mg:=by
   refine' L2.bs_mk KX G (L2.bs_all ?z1 ?z2 ?z3 ?z4 ?z5 ?z6 ?z7 ?z8 ?z9 ?z10 ?z11 ?z12 ?z13 ?z14 ?z15 ?z16 ?z17) <;> k_is
  have LG:∃ tg,mg "LONGEST" = some (.int 5 tg):=by
   refine' L2.gl_int KX G ?a ?b
   (case a=>k_is);(case b=>exact⟨_,rfl⟩)
  obtain⟨tg,LG⟩:=LG;have AB:mg "abs" = none:=by
   refine' iZ KX G ?z
   k_is
  have BD:mg "dict" = none:=by
   refine' iZ KX G ?zd
   k_is
  have T1:L2.Tx (L2.KOf KX) mg "meets" Toy.s_meets:=by
   dsimp only[L2.KOf];exact L2.tx_mk KX G (by k_is) (by k_is) (by k_is) (by k_is)
  have T2:L2.Tx (L2.KOf KX) mg "choices_of" Toy.s_choices_of:=by
   dsimp only[L2.KOf];exact L2.tx_mk KX G (by k_is) (by k_is) (by k_is) (by k_is)
  have T3:L2.Tx (L2.KOf KX) mg "go_across" Toy.s_go_across:=by
   dsimp only[L2.KOf];exact L2.tx_mk KX G (by k_is) (by k_is) (by k_is) (by k_is)
  have T4:L2.Tx (L2.KOf KX) mg "fits" Toy.s_fits:=by
   dsimp only[L2.KOf];exact L2.tx_mk KX G (by k_is) (by k_is) (by k_is) (by k_is)
  have T5:L2.Tx (L2.KOf KX) mg "longest_across" Toy.s_longest_across:=by
   dsimp only[L2.KOf];exact L2.tx_mk KX G (by k_is) (by k_is) (by k_is) (by k_is)
  have T6:L2.Tx (L2.KOf KX) mg "first_other" Toy.s_first_other:=by
   dsimp only[L2.KOf];exact L2.tx_mk KX G (by k_is) (by k_is) (by k_is) (by k_is)
  have T7:L2.Tx (L2.KOf KX) mg "_law_deck" Toy.s_law_deck:=by
   dsimp only[L2.KOf];exact L2.tx_mk KX G (by k_is) (by k_is) (by k_is) (by k_is)
  have T8:L2.Tx (L2.KOf KX) mg "_law_draw" Toy.s_law_draw:=by
   dsimp only[L2.KOf];exact L2.tx_mk KX G (by k_is) (by k_is) (by k_is) (by k_is)
  have T9:L2.Tx (L2.KOf KX) mg "_law_names" Toy.s_law_names:=by
   dsimp only[L2.KOf];exact L2.tx_mk KX G (by k_is) (by k_is) (by k_is) (by k_is)
  have T10:L2.Tx (L2.KOf KX) mg "_law_sets" Toy.s_law_sets:=by
   dsimp only[L2.KOf];exact L2.tx_mk KX G (by k_is) (by k_is) (by k_is) (by k_is)
  have T11:L2.Tx (L2.KOf KX) mg "_law_meet" Toy.s_law_meet:=by
   dsimp only[L2.KOf];exact L2.tx_mk KX G (by k_is) (by k_is) (by k_is) (by k_is)
  have T12:L2.Tx (L2.KOf KX) mg "_law_turned" Toy.s_law_turned:=by
   dsimp only[L2.KOf];exact L2.tx_mk KX G (by k_is) (by k_is) (by k_is) (by k_is)
  have T13:L2.Tx (L2.KOf KX) mg "_law_right" Toy.s_law_right:=by
   dsimp only[L2.KOf];exact L2.tx_mk KX G (by k_is) (by k_is) (by k_is) (by k_is)
  have T14:L2.Tx (L2.KOf KX) mg "_law_spare" Toy.s_law_spare:=by
   dsimp only[L2.KOf];exact L2.tx_mk KX G (by k_is) (by k_is) (by k_is) (by k_is)
  refine' Toy.fin KX G hmg B LG AB BD T1 T2 T3 T4 T5 T6 T7 T8 T9 T10 T11 T12 T13 T14 ?a ?l ?c ?k
  (case a=>k_is);(case l=>k_is);(case c=>k_is);(case k=>k_is)
