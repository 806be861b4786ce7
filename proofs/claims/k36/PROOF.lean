import PyProof.Rows.All
import Wide.All
import OpenK.AllK
import Wide.FinOn
import Lean
import PyProof.EqAt
import PyProof.EqKinds
import PyProof.TupleCall
import PySem.SetOps
import KE.KSortTup
import KE.KDictSum
import PyProof.Rows.StrJoin2
import PyProof.Rows.SumAny
import KE.KxText
import PyProof.ZipIter
import PyProof.Rows.FactsT2
import PyProof.Rows.ZipGen
import PyProof.StrOps2
import PyProof.ListRange
import PyProof.ListStr
import PyProof.FString5
import PyProof.AutoSeq1
import PyProof.MinMaxWalk
import PyProof.WalksMore
import PyProof.Rows.CallKwBuiltin
import KE.KMinKey
import KE.RegKTryMore
import PyProof.ExcArgsOwn
import KE.RegKIsAll
import PyProof.Rows.SortShellK
import PyProof.Rows.BitMore
import KE.KLam
import PyProof.TupleKey
import PyProof.TupleOfStr
import PySem.Challenge.RW_corepetals_k36_kept_sets_told
open Array renaming filterMap -> kF, getD -> cS, getD_eq_getD_getElem? -> bV, getElem?_eq_getElem -> eS, getElem?_eq_some_iff -> cW, getElem?_replicate -> jN, getElem?_setIfInBounds_ne -> hZ, getElem?_setIfInBounds_self_of_lt -> fW, getElem?_toList -> b4, length_toList -> cy, mem_of_getElem? -> fN, mem_toList_iff -> dy, replicate -> gE, toList_push -> jH
open Bool renaming and_eq_true -> aI, eq_false_iff -> fb, eq_iff_iff -> fJ, false_eq_true -> aE, false_ne_true -> bo, not_eq_true' -> dI, not_false -> kR, not_true -> gA, true_and -> iD
open Classical renaming byContradiction -> aY
open False renaming elim -> cI
open ForInStep renaming done -> g7, yield -> cA
open Int renaming ediv_one -> kg, toNat_natCast -> bN
open LawfulBEq renaming eq_of_beq -> fL
open LawfulMonad renaming pure_bind -> jW
open List renaming all_eq_true -> bK, all_map -> hU, append_assoc -> bY, append_nil -> bA, dropLast_concat_getLast -> iR, drop_eq_getElem_cons -> eR, drop_eq_nil_of_le -> er, drop_length -> iu, drop_zero -> fy, eq_nil_of_length_eq_zero -> bE, eraseIdxIfInBounds_toArray -> hX, ext_getElem -> fA, filterMap_append -> ib, filterMap_cons -> b8, filterMap_map -> jf, filter_append -> jv, filter_cons -> cQ, filter_eq_nil_iff -> eA, filter_eq_self -> iV, filter_sublist -> iW, flatMap_append -> iU, flatMap_cons -> cF, flatten_append -> iX, flatten_cons -> fV, forIn_cons -> d5, forIn_nil -> jp, getD_eq_getElem?_getD -> aD, getElem?_append_left -> eQ, getElem?_append_right -> eK, getElem?_cons_succ -> gM, getElem?_eq_getElem -> ah, getElem?_eq_none -> bB, getElem?_eq_some_iff -> bd, getElem?_map -> br, getElem?_set_ne -> eV, getElem?_set_self -> gQ, getElem?_take_of_lt -> jL, getElem_append_left -> jR, getElem_append_right -> jB, getElem_inj -> ie, getElem_map -> iq, getElem_mem -> dQ, getElem_of_mem -> b9, getElem_toArray -> fh, getLastD_cons -> ju, getLast_eq_getElem -> j0, length -> gK, length_append -> ax, length_cons -> aF, length_drop -> dO, length_eq_zero_iff -> j3, length_eraseIdx_of_lt -> jt, length_filter_le -> dh, length_map -> aj, length_nil -> dr, length_pos_iff -> c8, length_range -> d0, length_reverse -> d7, length_set -> fI, length_singleton -> fM, length_take -> bJ, lookup -> eY, lookup_cons -> cY, mapM_toArray -> jI, map_append -> aM, map_congr_left -> d8, map_cons -> a9, map_eq_nil_iff -> iY, map_id -> kX, map_map -> cM, map_nil -> eZ, map_reverse -> ix, mem_append -> aW, mem_append_left -> bh, mem_append_right -> aS, mem_cons -> aA, mem_cons_of_mem -> ao, mem_cons_self -> ak, mem_filter -> cb, mem_filterMap -> du, mem_map -> cJ, mem_of_getElem? -> bw, mem_of_mem_drop -> iH, mem_of_mem_take -> fg, mem_range -> bu, mem_singleton -> aB, mergeSort_perm -> iT, nil_append -> bZ, nodup_append -> cg, nodup_cons -> bX, nodup_nil -> fZ, nodup_range -> jY, not_mem_nil -> fx, of_mem_zip -> kC, pairwise_append -> ff, pairwise_cons -> aU, pairwise_iff_getElem -> cZ, pairwise_lt_range -> g6, pairwise_map -> gZ, pairwise_mergeSort -> gO, pairwise_singleton -> b5, perm_append_left_iff -> jA, perm_append_singleton -> jn, range -> aP, range_succ -> kE, replicate -> jd, reverse_append -> gv, reverse_cons -> gU, reverse_singleton -> hW, singleton_append -> fO, size_toArray -> ar, sublist_append_left -> gC, sublist_append_right -> dM, take_add_one -> dH, take_append_drop -> eO, take_length -> dU, take_of_length_le -> cf, take_sublist -> dY, toArray -> gp, zip_cons_cons -> cK, zip_nil_left -> fT, zip_nil_right -> b0
open List.Pairwise renaming filter -> f8, imp_of_mem -> gD, nil -> lq
open List.Perm renaming append_left -> kJ, refl -> gY, swap -> kS, trans -> kH
open List.Sublist renaming append -> k8, refl -> fk
open MonadExcept renaming tryCatch -> kW
open Nat renaming add_right_comm -> ji, le_add_right -> gn, le_of_lt -> gP, le_of_lt_succ -> dF, le_refl -> au, le_succ -> dJ, le_trans -> bc, lt_irrefl -> cE, lt_of_le_of_lt -> jj, lt_of_lt_of_le -> aT, lt_or_eq_of_le -> eM, lt_or_ge -> bO, lt_succ_of_le -> dZ, lt_succ_of_lt -> dg, lt_succ_self -> dN, lt_trans -> fc, lt_trichotomy -> gW, min_eq_left -> iQ, mod_lt -> li, ne_of_gt -> dD, ne_of_lt -> aG, not_lt -> gH, not_lt_zero -> cN, pow_le_pow_right -> iK, sub_self -> i6, sub_zero -> gX, succ_ne_zero -> iw, succ_pos -> i5, zero_add -> km, zero_le -> bL
open Nat.succ renaming inj -> ew
open Ne renaming symm -> bj
open Option renaming getD_none -> jV, isSome_iff_exists -> cj, map_eq_some_iff -> fC
open Option.some renaming inj -> aK
open Or renaming inl -> aR, inr -> fQ
open PyProof.Rows renaming AllBare -> i0, IntsAre -> ki, IsTup -> iF, StrsAre -> ky, callWith_builtin1 -> fw, callWith_type1 -> dz, get?_update_seq -> fK, lt_int -> kZ, lt_str -> kY, seqObj -> b3, slicePart_none -> je, slot_tuple_getitem -> bT
open PyProof.Rows.F renaming entry_set_update_loop -> c7, plain_set_update_loop -> bS
open PySem renaming Around -> aQ, Builtin -> cu, Comprehension -> jM, FuncData -> cT, Heap -> aO, IsPair -> fo, IsPart -> kh, IsZip -> iZ, KeyKind -> k9, Keyword -> gj, NameKind -> fH, Paired -> aZ, Program -> aC, Result -> jK, SetTable -> aJ, Shared -> ai, Value -> ae, Within -> ka, World -> aH, argBest -> fj, assign -> kb, assignEach -> fm, attributeBase -> cX, backTo -> bn, backToKw -> eJ, behindInMarks -> dW, binaryOp -> eX, bootBuiltins -> bz, cLine -> bU, callWith -> jT, call_meets -> jh, cellsFrom -> gJ, codeAny -> d9, codeAny_builtin -> bC, codeAny_call_builtin -> fY, codeAny_mono -> ec, codeAny_of_tree -> iM, compEnvC -> kP, compTurn -> gz, compareOp -> bM, concat_meets -> i4, firstArgMember -> jr, foldedSetIterable -> db, getItem -> jF, getMethod -> gI, holding -> dX, keywordEach -> cV, letOwnedTupleGo -> fF, mainGlobals -> aL, mem_of_lookup -> fv, model -> az, noFill_tuple_add -> jU, ofAClassStatement -> fR, pickOrder -> ja, plainId_quiet -> cP, plainKind -> i9, pushCells -> jX, putSet_of -> ik, pyIter -> jJ, pyNext -> eP, rawInt -> eG, relayAll -> iI, richCompare_meets_room -> fE, seqItems? -> io, setAddHashed -> ko, setField -> kU, sizeLine_eq -> bD, sliceBounds -> e8, sliceRange -> kA, slot_list_getitem -> jG, standAt -> fu, starEach -> am, strKind -> eD, swapsWith -> gc, unsupported -> iJ, updateSeq -> j4, wpAny -> ay, wpAny_Call_Name_kw -> dw, wpAny_askSetting -> eE, wpAny_attempt -> iC, wpAny_bind -> ad, wpAny_call -> ke, wpAny_callSpecial?_slot -> cC, wpAny_call_entry -> cD, wpAny_execs_cons -> f9, wpAny_execs_nil -> dq, wpAny_field -> cw, wpAny_forIn_list -> gk, wpAny_holding -> bF, wpAny_isInstance -> eF, wpAny_ite_split -> iP, wpAny_letGo -> f7, wpAny_loadPart' -> bf, wpAny_mono -> c6, wpAny_newList -> jP, wpAny_newObj_type -> bi, wpAny_of_eq -> iG, wpAny_onRaise -> iE, wpAny_passesOwn -> eU, wpAny_pure -> af, wpAny_pyIter_list -> fS, wpAny_pyIter_tuple -> dR, wpAny_rule -> fD, wpAny_seqItems -> bR, wpAny_setField_rec -> bG, wpAny_setState_of -> dG, wpAny_standAt -> iz, wpAny_storeSet_of -> g8, wpAny_truthy_bool -> da, wpAny_tryCatch -> fB, wpAny_typeOf -> gT, wpAny_updateSeq -> d6, wpAny_updateSeq_pair -> iL
open PySem.Around renaming under -> kd, under_plainId -> a8
open PySem.AutoSeq1 renaming sub_tuple_tuple -> gB
open PySem.Builtin.Builtins renaming bindParams -> fU
open PySem.Builtin.Frozenset renaming updateFrom -> iO
open PySem.Builtin.List renaming listExtendWith -> i8, listLengthHint -> i7, listSameRef -> jO, listTooLong -> gy
open PySem.Builtin.Slice renaming sliceAdjust -> gq, sliceApplied -> dE, sliceFields -> jy, slicePlaces -> cG
open PySem.Builtin.SmallTypes renaming nextOf -> cH, ownedTupleHandOut -> gw, ownedTupleIsFree -> dlQ
open PySem.Builtin.Str renaming strSliceIndices -> bW
open PySem.Builtin.Tuple renaming tupleCompareSizes -> fq, tupleExact -> cr, tupleItemsOf -> jg
open PySem.Calls renaming Name_function_global -> jb, callWith_builtin -> kj, call_function_entry -> gu, spliced_cons -> eI, spliced_nil -> gR
open PySem.Code renaming compLoop -> iB, compStart -> gV, quiet_builtin -> jq
open PySem.Expr renaming Call -> j7
open PySem.F renaming args_list_add_2 -> j6, args_tuple_add_2 -> gx, args_tuple_lt_2 -> gN, called_set -> bq, entry_extend_loop -> jz, entry_list_add -> kz, entry_set_init -> kv, entry_tuple_add -> gL, entry_tuple_lt -> g9, entry_type_call -> jZ, excBase_ValueError -> jx, plainAttrs_list -> d3, plain_extend_loop -> eT, plain_list_iadd -> j5, plain_set_new -> kI, slot_list_add -> kL, slot_list_pop -> kM, slot_set_iter -> kK, slot_tuple_add -> gS, slot_tuple_lt -> fP, typeCall_set_1 -> kr, type_list_pop -> kO
open PySem.Heap renaming IsTuple -> kx, SameBut -> dA, get?_push_of_some -> ag, get?_push_size -> av, get?_update_other -> aX, get?_update_self -> bP, lt_size -> aw, size_push -> bv
open PySem.Heap.IsSliceOf renaming new -> lh
open PySem.Heap.SameBut renaming refl -> lr, update -> cz
open PySem.NameKind renaming cell -> iA, free -> aV
open PySem.Obj renaming mapSeq -> bQ, putSet -> dP
open PySem.Paired renaming length -> b7
open PySem.PassesOwn renaming never -> cO
open PySem.SeqAt renaming EqAt -> cR, RcNeAt -> cL
open PySem.SeqAt.EqAt renaming of_refs -> lj, same -> kG, str_str -> js
open PySem.SetTable renaming fill -> lf, fits -> lc, fresh -> kQ, grown -> dj, slot -> la
open PySem.Str renaming ofString -> aN
open PySem.Value renaming bool -> gF, builtin -> jQ, int -> jS, isStrOf -> iy, isStrOf_shape -> ft, none -> ci, notImplemented -> f6, ref -> bI, str -> ic, type -> cU
open PySem.W renaming Frag -> aq, OpenLaw -> kD, callWith_K -> gG, cellsFrom_some -> kf, codeIn -> fX, emptyDict -> de, excIn -> lg, exmOne -> jw, findIn -> di, fnOf -> eg, hasDictIn -> jD, instObj -> d4, isFn -> kc, keepIn -> cB, kia_one -> ce, kitOne -> bH, kitx_list -> jE, lookIn -> jc, makesIn -> fG, methodCall_KW -> ia, methodObj -> jC, mg_of -> eB, nsIn -> a7, plainGet -> ig, plainGet_of -> iS, takerIn -> kB
open PySem.pickOrder renaming go -> lv
open Sum renaming inl -> j8, inr -> j9
open True renaming intro -> ij
set_option Elab.async false
set_option linter.all false
set_option maxRecDepth 100000
namespace L2
open PySem PySem.Spec PyProof.Rows
abbrev Key:=Sum Int Str
def dJg:Key->ae->Bool
 | .inl k,v=>ae.isInt k v
 | .inr x,v=>iy x v
def keyH (w:aH):Key->Int
 | .inl k=>hashInt k
 | .inr x=>hashStr w x
theorem aQj:∀ {k:Key} {v:ae},dJg k v=true->(∃ i t,k=j8 i/\v=jS i t)\/(∃ x t,k=j9 x/\v=ic x t)
 | .inl i,v,h=>by
  obtain⟨t,e⟩:=ae.isInt_shape (k:=i) (v:=v) h;exact .inl ⟨i,t,rfl,e⟩
 | .inr x,v,h=>by
  obtain⟨t,e⟩:=ft (x:=x) (v:=v) h;exact .inr ⟨x,t,rfl,e⟩
theorem fZq (a b:Int):decide ((j8 a:Key)=j8 b)=(a == b):=by
 by_cases e:a=b
 ·subst e;simp
 ·have h:¬ (j8 a:Key)=j8 b:=λq=>e (j8.inj q);rw[decide_eq_false h];exact(beq_eq_false_iff_ne.mpr e).symm
theorem fZr (a b:Str):decide ((j9 a:Key)=j9 b)=decide (a=b):=by
 by_cases e:a=b
 ·subst e;simp
 ·have h:¬ (j9 a:Key)=j9 b:=λq=>e (j9.inj q);rw[decide_eq_false h,decide_eq_false e]
theorem fZs (a:Int) (b:Str):decide ((j8 a:Key)=j9 b)=false:=decide_eq_false (λq=>nomatch q)
theorem fZt (a:Str) (b:Int):decide ((j9 a:Key)=j8 b)=false:=decide_eq_false (λq=>nomatch q)
def bQq (prog:aC) (w:aH):k9 prog w Key where
 is:=dJg
 hash:=keyH w
 inj:=λv a b ha hb=>by
  rcases aQj ha with⟨i,t,rfl,rfl⟩ | ⟨x,t,rfl,rfl⟩
  ·rcases aQj hb with⟨j,u,rfl,e⟩ | ⟨y,u,rfl,e⟩
   ·injection e with e1 _;rw[e1]
   ·exact nomatch e
  ·rcases aQj hb with⟨j,u,rfl,e⟩ | ⟨y,u,rfl,e⟩
   ·exact nomatch e
   ·injection e with e1 _;rw[e1]
 byValue:=λk v h=>by
  rcases aQj h with⟨i,t,rfl,rfl⟩ | ⟨x,t,rfl,rfl⟩ <;> rfl
 pyHash:=λhv h=>by
  rcases aQj hv with⟨i,t,rfl,rfl⟩ | ⟨x,t,rfl,rfl⟩
  ·exact wpAny_pyHash_int h
  ·exact wpAny_pyHash_str h
 eqBool:=λhu hv h=>by
  rcases aQj hu with⟨i,t,rfl,rfl⟩ | ⟨x,t,rfl,rfl⟩
  ·rcases aQj hv with⟨j,u,rfl,rfl⟩ | ⟨y,u,rfl,rfl⟩
   ·rw[fZq] at h;exact wpAny_eqBool_int h
   ·rw[fZs] at h;exact cR.int_str i t y u _ _ _ _ h
  ·rcases aQj hv with⟨j,u,rfl,rfl⟩ | ⟨y,u,rfl,rfl⟩
   ·rw[fZt] at h;exact cR.str_int x t j u _ _ _ _ h
   ·rw[fZr] at h;exact wpAny_eqBool_str h
 «strs»:=λk x t v h=>by
  rcases aQj h with⟨i,u,rfl,e⟩ | ⟨y,u,rfl,e⟩
  ·exact nomatch e
  ·injection e with e1 _
   subst e1;cases v <;> rfl
inductive V where
 | non | bl (b:Bool) | int (i:Int) | str (x:Str) | byt (b:Array UInt8) | flt (b:UInt64) | ref (a:Addr) | ty (n:String)
 deriving DecidableEq
def RelV:V->ae->Prop
 | .non,u=>u=ci
 | .bl b,u=>u=gF b
 | .int i,u=>∃ t,u=jS i t
 | .str x,u=>∃ t,u=ic x t
 | .byt b,u=>∃ t,u=ae.bytes b t
 | .flt b,u=>∃ t,u=ae.float b t
 | .ref a,u=>u=bI a
 | .ty n,u=>u=cU n
abbrev Vals:List V->List ae->Prop:=aZ RelV
theorem Vals.length {xs:List V} {us:List ae} (r:Vals xs us):xs.length=us.length:=b7 r
theorem Vals.get:∀ {xs:List V} {us:List ae} {i:Nat} {x:V},Vals xs us->xs[i]?=some x->∃ u,us[i]?=some u/\RelV x u
 | _,_,_,_,.nil,e=>by simp at e
 | _,_,0,_,.cons r _,e=>by simp at e;subst e;exact⟨_,rfl,r⟩
 | _,_,i + 1,x,.cons _ t,e=>by
  obtain⟨u,h1,h2⟩:=Vals.get (i:=i) (x:=x) t (by simpa using e)
  exact⟨u,by simpa using h1,h2⟩
theorem Vals.set {x:V} {u:ae} (r:RelV x u):∀ {xs:List V} {us:List ae} (i:Nat),Vals xs us->Vals (xs.set i x) (us.set i u)
 | _,_,_,.nil=>.nil
 | _,_,0,.cons _ t=>.cons r t
 | _,_,i + 1,.cons q t=>.cons q (Vals.set r i t)
theorem Vals.append:∀ {xs ys:List V} {us ws:List ae},Vals xs us->Vals ys ws->Vals (xs++ys) (us++ws)
 | _,_,_,_,.nil,s=>s
 | _,_,_,_,.cons r t,s=>.cons r (Vals.append t s)
theorem Vals.take:∀ {xs:List V} {us:List ae} (n:Nat),Vals xs us->Vals (xs.take n) (us.take n)
 | _,_,0,_=>.nil
 | _,_,_ + 1,.nil=>.nil
 | _,_,n + 1,.cons r t=>.cons r (Vals.take n t)
theorem Vals.drop:∀ {xs:List V} {us:List ae} (n:Nat),Vals xs us->Vals (xs.drop n) (us.drop n)
 | _,_,0,r=>r
 | _,_,_ + 1,.nil=>.nil
 | _,_,n + 1,.cons _ t=>Vals.drop n t
def RelO:Option V->Option ae->Prop
 | some v,some u=>RelV v u
 | none,none=>True
 | _,_=>False
def KV {κ:Type}:List (κ × V)->List (κ × ae)->Prop:=aZ λ(p:κ × V) (q:κ × ae)=>p.1=q.1/\RelV p.2 q.2
def kV:Key->V
 | .inl i=>.int i
 | .inr x=>.str x
inductive HO where
 | lst (xs:List V)
 | tup (xs:List V)
 | dK (kvs:List (Key × V)) | dT (kvs:List (List Key × V))
 | set (S:Int->Bool) (n:Nat)
 | ins (C dx:Addr) (fs:List (Str × V))
 | own (x:Addr)
 | xd (fs:List (Str × V))
 | met (f x:Addr)
 | rng (lo hi:Int)
 | frz (o:Obj) (u:HO)
 | tbl (ps:Array ae)
 | ext (φ:aO->Prop)
abbrev Hp:=Addr->Option HO
def upd (H:Hp) (a:Addr) (o:HO):Hp:=λb=>if b=a then some o else H b
theorem aQc {H:Hp} {a:Addr} {o:HO}:upd H a o a=some o:=by unfold upd;rw[if_pos rfl]
theorem upd_ne {H:Hp} {a b:Addr} {o:HO} (h:b≠a):upd H a o b=H b:=by unfold upd;rw[if_neg h]
theorem aQ9 {H:Hp} {a b:Addr} {o:HO} (h:H a=some o) (h':H b=none):a≠b:=by
 intro e;subst e;rw[h] at h';cases h'
section
variable (P:aC) (w:aH)
def ObjOk (H:Hp) (h:aO) (a:Addr):HO->Prop
 | .lst xs=>xs.length<=sizeLine/\∃ (its:List ae) (n:Nat),Vals xs its/\h.get? a=some { cls:=.type "list",data:=.seq its.toArray n }
 | .tup xs=>xs.length<=sizeLine/\∃ its:List ae,Vals xs its/\iF h a its.toArray/\∀ o,h.get? a=some o->o.dict=none
 | .dK kvs=>kvs.length<=sizeLine/\(a == sysModules)=false/\∃ vs,KV kvs vs/\h.DictOf (bQq P w) a vs
 | .dT kvs=>kvs.length<=sizeLine/\(a == sysModules)=false/\∃ xs:List (List Key × Addr × ae),
   aZ (λ(p:List Key × V) (q:List Key × Addr × ae)=>p.1=q.1/\H q.2.1=some (.tup (p.1.map kV))/\RelV p.2 q.2.2) kvs xs /\
   ∃ o es ep,h.get? a=some o/\o.ExactDict/\o.data=.dict es ep/\es.toList=xs.map (entryOfKey (tupleKind (bQq P w)))/\(xs.map (·.1)).Nodup
 | .set S n=>h.SetOf (intKind P w) a S n
 | .ins C dx fs=>H dx=some (.own a)/\fs.length<=1000/\dx≠a/\h.get? a=some (d4 C dx) /\
   ∃ mA,h.Ns1 dx mA/\(∀ f,RelO (fs.lookup f) (mA f))/\ka mA (fs.map (·.1))
 | .own _=>∃ o,h.get? a=some o
 | .xd fs=>∃ mA,h.Ns1 a mA/\∀ f,RelO (fs.lookup f) (mA f)
 | .rng lo hi=>∃ t u v,h.get? a=some { cls:=.type "range",data:=.fields #[.int lo t,.int hi u,.int 1 v] }
 | .frz o u=>h.get? a=some o/\ObjOk H h a u
 | .tbl ps=>h.get? a=some { cls:=.none,data:=.fields ps }
 | .met f x=>h.get? a=some (jC (.ref f) (.ref x))
 | .ext φ=>φ h/\(∃ o,h.get? a=some o)/\∀ h1 h2:aO,φ h1->(∀ o,h1.get? a=some o->h2.get? a=some o)->φ h2
def HOk (H:Hp) (h:aO):Prop:=∀ a o,H a=some o->ObjOk P w H h a o
end
section
variable {P:aC} {w:aH} {H H':Hp} {h h':aO} {a:Addr} {o:HO}
theorem ObjOk.lt (x:ObjOk P w H h a o):a < h.objs.size:=by
 cases o with
 | lst xs=>obtain⟨_,_,_,_,e⟩:=x;exact aw e
 | tup xs=>obtain⟨_,_,_,p⟩:=x;exact p.1.lt
 | dK i=>obtain⟨_,_,_,_,o,_,_,e,_⟩:=x;exact aw e
 | dT i=>obtain⟨_,_,_,_,o,_,_,e,_⟩:=x;exact aw e
 | set S n=>obtain⟨o,_,_,_,e,_⟩:=x;exact aw e
 | ins C dx fs=>obtain⟨_,_,_,e,_⟩:=x;exact aw e
 | own y=>obtain⟨_,e⟩:=x;exact aw e
 | xd fs=>obtain⟨_,⟨_,_,_,e,_⟩,_⟩:=x;exact aw e
 | rng lo hi=>obtain⟨_,_,_,e⟩:=x;exact aw e
 | frz ob u=>obtain⟨e,_⟩:=x;exact aw e
 | tbl ps=>exact aw (show h.get? a=some _ from x)
 | met f y=>exact aw (show h.get? a=some _ from x)
 | ext φ=>obtain⟨_,⟨_,e⟩,_⟩:=x;exact aw e
theorem Paired.mapP {α β:Type} {F G:α->β->Prop}:∀ {l₁:List α} {l₂:List β},aZ F l₁ l₂->(∀ a b,F a b->G a b)->aZ G l₁ l₂
 | _,_,.nil,_=>.nil
 | _,_,.cons r t,f=>.cons (f _ _ r) (Paired.mapP t f)
theorem ObjOk.stay (x:ObjOk P w H h a o) (k:∀ b u,(b=a\/H b=some (.own a))->h.get? b=some u->h'.get? b=some u)
  (ho:∀ b,H b=some (.own a)->H' b=some (.own a)) (ht:∀ b xs,H b=some (.tup xs)->H' b=some (.tup xs)):ObjOk P w H' h' a o:=by
 induction o with
 | lst xs=>obtain⟨z,B,n,r,e⟩:=x;exact⟨z,B,n,r,k _ _ (.inl rfl) e⟩
 | tup xs =>
  obtain⟨z,B,r,⟨ob,e,c⟩,nd⟩:=x;exact⟨z,B,r,⟨ob,k _ _ (.inl rfl) e,c⟩,λo q=>by rw[k _ _ (.inl rfl) e] at q;cases q;exact nd _ e⟩
 | dK L=>obtain⟨z,y,vs,r,ob,es,i,e,c⟩:=x;exact⟨z,y,vs,r,ob,es,i,k _ _ (.inl rfl) e,c⟩
 | dT L =>
  obtain⟨z,y,xs,r,ob,es,i,e,c⟩:=x;exact⟨z,y,xs,Paired.mapP r λp q z=>⟨z.1,ht _ _ z.2.1,z.2.2⟩,ob,es,i,k _ _ (.inl rfl) e,c⟩
 | set S n=>obtain⟨ob,es,i,t,e,c⟩:=x;exact⟨ob,es,i,t,k _ _ (.inl rfl) e,c⟩
 | ins C dx fs =>
  obtain⟨d,z,ne,e,mA,⟨G,es,i,e2,c⟩,r⟩:=x;exact⟨ho _ d,z,ne,k _ _ (.inl rfl) e,mA,⟨G,es,i,k _ _ (.inr d) e2,c⟩,r⟩
 | own y=>obtain⟨ob,e⟩:=x;exact⟨ob,k _ _ (.inl rfl) e⟩
 | xd fs=>obtain⟨mA,⟨G,es,i,e,c⟩,r⟩:=x;exact⟨mA,⟨G,es,i,k _ _ (.inl rfl) e,c⟩,r⟩
 | rng lo hi=>obtain⟨t,u,v,e⟩:=x;exact⟨t,u,v,k _ _ (.inl rfl) e⟩
 | frz ob u O=>obtain⟨e,q⟩:=x;exact⟨k _ _ (.inl rfl) e,O q⟩
 | tbl ps =>
  have e:h.get? a=some { cls:=.none,data:=.fields ps }:=x;show h'.get? a=some { cls:=.none,data:=.fields ps };exact k a _ (.inl rfl) e
 | met f y =>
  have e:h.get? a=some (jC (.ref f) (.ref y)):=x;show h'.get? a=some (jC (.ref f) (.ref y));exact k a _ (.inl rfl) e
 | ext φ=>obtain⟨p,⟨o,e⟩,st⟩:=x;exact⟨st _ _ p λo q=>k _ _ (.inl rfl) q,⟨o,k _ _ (.inl rfl) e⟩,st⟩
theorem bJm {g:aO} {arr:Array ae} {n:Nat}:∀ o,(g.push { cls:=.type "tuple",data:=.seq arr n }).get? g.objs.size=some o->o.dict=none:=λo e=>by
 rw[av _ rfl] at e;cases e;rfl
theorem HOk.lt (x:HOk P w H h) (e:H a=some o):a < h.objs.size:=(x a o e).lt
theorem HOk.fresh (x:HOk P w H h) (e:h.objs.size<=a):H a=none:=by
 cases q:H a with
 | none=>rfl
 | some u=>exact absurd (aT (x.lt q) e) (cE _)
theorem HOk.kept (x:HOk P w H h) (k:∀ b u,h.get? b=some u->h'.get? b=some u):HOk P w H h':=λa o e =>
 (x a o e).stay (λb u _ q=>k b u q) (λ_ q=>q) λ_ _ q=>q
theorem HOk.laid (x:HOk P w H h) (k:∀ b u,h.get? b=some u->h'.get? b=some u) (hp:h.objs.size<=a) (new:ObjOk P w (upd H a o) h' a o):HOk P w (upd H a o) h':=λb u e=>by
 have i:=x.fresh hp
 by_cases y:b=a
 ·subst y;rw[aQc] at e;cases e;exact new
 ·rw[upd_ne y] at e;exact(x b u e).stay (λc v _ q=>k c v q) (λc q=>by rw[upd_ne (aQ9 q i)];exact q) λc xs q=>by rw[upd_ne (aQ9 q i)];exact q
end
def Rd (H:Hp) (a:Addr) (u:HO):Prop:=H a=some u\/∃ o,H a=some (.frz o u)
theorem Rd.ok {P:aC} {w:aH} {H:Hp} {h:aO} {a:Addr} {u:HO} (r:Rd H a u) (x:HOk P w H h):ObjOk P w H h a u:=by
 rcases r with r | ⟨o,r⟩
 ·exact x a u r
 ·obtain⟨_,q⟩:=x a _ r;exact q
def Mut:Option HO->Prop
 | some (.lst _)=>True
 | some (.dK _)=>True
 | some (.dT _)=>True
 | some (.set _ _)=>True
 | some (.ins _ _ _)=>True
 | some (.ext _)=>True
 | _=>False
section
variable {P:aC} {w:aH} {H:Hp} {h h':aO} {x e:Addr} {o':HO}
theorem HOk.write (ok:HOk P w H h) (mu:Mut (H x)) (he:e=x\/H e=some (.own x)) (k:∀ b u,b≠e->h.get? b=some u->h'.get? b=some u) (heo:∃ u,h'.get? e=some u)
  (new:ObjOk P w (upd H x o') h' x o'):HOk P w (upd H x o') h':=λb u q=>by
 have B:∀ c y,H c=some (.own y)->c≠x:=λc y r z=>by subst z;rw[r] at mu;exact mu
 have ntup:∀ c xs,H c=some (.tup xs)->c≠x:=λc xs r z=>by subst z;rw[r] at mu;exact mu
 by_cases L:b=x
 ·subst L;rw[aQc] at q;cases q;exact new
 ·rw[upd_ne L] at q
  by_cases i:b=e
  ·have q':H b=some (.own x):=by
    rcases he with z | z
    ·exact absurd (i.trans z) L
    ·rw[i];exact z
   rw[q] at q';cases q';obtain⟨v,O⟩:=heo;exact⟨v,by rw[i];exact O⟩
  ·refine(ok b u q).stay (λc v G r=>k c v ?_ r) (λc r=>by rw[upd_ne (B c b r)];exact r) λc xs r=>by rw[upd_ne (ntup c xs r)];exact r
   rcases G with rfl | G
   ·exact i
   ·rintro rfl;rcases he with z | z
    ·exact B c b G z
    ·rw[G] at z;cases z;exact L rfl
end
structure Un (fs ex:List Addr) (H H':Hp) (h h':aO):Prop where
 keep:∀ b o,h.get? b=some o->H b=none->b∉fs->b∉ex->h'.get? b=some o
 slot:∀ b o,h.get? b=some o->H b=none->b∈fs->b∉ex->∃ sl,h'.get? b=some { o with slots:=sl }
 free:∀ b o,h.get? b=some o->H b=none->b∉ex->H' b=none
 there:∀ b o,h.get? b=some o->b∉ex->∃ o',h'.get? b=some o'
 tups:∀ b xs,H b=some (.tup xs)->H' b=some (.tup xs)
 frzs:∀ b o u,H b=some (.frz o u)->H' b=some (.frz o u)
 tbls:∀ b ps,H b=some (.tbl ps)->∃ more,H' b=some (.tbl (ps++more))
section
variable {fs fs' ex ex':List Addr} {H H1 H2:Hp} {h h1 h2 h':aO} {a x e:Addr} {o:HO}
theorem Un.any (u:Un fs ex H H1 h h1) {b:Addr} {ob:Obj} (q:h.get? b=some ob) (n:H b=none) (hx:b∉ex):∃ sl,h1.get? b=some { ob with slots:=sl }:=by
 by_cases i:b∈fs
 ·exact u.slot b ob q n i hx
 ·exact⟨ob.slots,u.keep b ob q n i hx⟩
theorem Un.kept (k:∀ b u,h.get? b=some u->h'.get? b=some u):Un fs ex H H h h' :=
 ⟨λb ob q _ _ _=>k b ob q,λb ob q _ _ _=>⟨ob.slots,k b ob q⟩,λ_ _ _ n _=>n,λb ob q _=>⟨ob,k b ob q⟩,λ_ _ q=>q,λ_ _ _ q=>q,λ_ ps q=>⟨#[],by rw[q];simp⟩⟩
theorem Un.refl:Un fs ex H H h h:=Un.kept λ_ _ q=>q
theorem Un.laid (k:∀ b u,h.get? b=some u->h'.get? b=some u) (hp:h.objs.size<=a) (hn:H a=none):Un fs ex H (upd H a o) h h' where
 keep:=λb u q _ _ _=>k b u q
 slot:=λb u q _ _ _=>⟨u.slots,k b u q⟩
 free:=λb u q n _=>by rw[upd_ne (aG (aT (aw q) hp))];exact n
 there:=λb u q _=>⟨u,k b u q⟩
 tups:=λb xs q=>by rw[upd_ne (aQ9 q hn)];exact q
 frzs:=λb u xs q=>by rw[upd_ne (aQ9 q hn)];exact q
 tbls:=λb ps q=>⟨#[],by rw[upd_ne (aQ9 q hn),q];simp⟩
theorem Un.write (mu:Mut (H x)) (he:e=x\/H e=some (.own x)) (k:∀ b u,b≠e->h.get? b=some u->h'.get? b=some u) (heo:∃ u,h'.get? e=some u):Un fs ex H (upd H x o) h h':=by
 have y:∀ b,H b=none->b≠x:=λb n z=>by subst z;rw[n] at mu;exact mu
 have B:∀ b,H b=none->b≠e:=λb n z=>by
  subst z;rcases he with r | r
  ·exact y b n r
  ·rw[n] at r;cases r
 have hm:∀ b u,H b=some u->¬ Mut (some u)->b≠x:=λb u q nm z=>by subst z;rw[q] at mu;exact nm mu
 refine⟨λb u q n _ _=>k b u (B b n) q,λb u q n _ _=>⟨u.slots,k b u (B b n) q⟩,λb u q n _=>by rw[upd_ne (y b n)];exact n,λb u q _=>?_,
  λb xs q=>by rw[upd_ne (hm b _ q λz=>z)];exact q,λb u xs q=>by rw[upd_ne (hm b _ q λz=>z)];exact q,λb ps q=>⟨#[],by rw[upd_ne (hm b _ q λz=>z),q];simp⟩⟩
 by_cases i:b=e
 ·subst i;exact heo
 ·exact⟨u,k b u i q⟩
end
def trk (h:aO) (H:Hp):List Addr:=(aP h.objs.size).filter λa=>(H a).isSome
def hidT (h:aO) (H:Hp):aO:=PySem.W.hideAll h (trk h H)
theorem cJu (h:aO) (H:Hp):(hidT h H).objs.size=h.objs.size:=PySem.W.hideAll_size _ _
theorem dJh {h:aO} {H:Hp} {b:Addr} {o:Obj} (e:h.get? b=some o) (n:H b=none):(hidT h H).get? b=some o :=
 PySem.W.hideAll_get _ e λhm=>by
  have q:(H b).isSome=true:=(cb.mp hm).2;rw[n] at q;simp at q
theorem eXm {h:aO} {H:Hp} {b:Addr} {o:Obj} (e:(hidT h H).get? b=some o):h.get? b=some o/\H b=none:=by
 have i:h.get? b=some o:=PySem.W.of_hideAll (trk h H) e;refine⟨i,?_⟩;cases q:H b with
 | none=>rfl
 | some x =>
  have hm:b∈trk h H:=cb.mpr ⟨bu.mpr (aw i),by simp[q]⟩
  have z:(hidT h H).get? b=none:=PySem.W.hideAll_none (trk h H) hm;rw[z] at e;cases e
structure Mod (K:aq) (mg:Str->Option ae) (base:aO):Prop where
 kin:K.In base
 glob:base.Ns aL mg
 blt:∃ mb,base.Ns builtinsNs mb/\∀ x:Str,x ≠ "__name__"->mb x=bz x
 nolimit:base.NoLimit
structure Cx where
 prog:aC
 w:aH
 K:aq
 mg:Str->Option ae
 base:aO
 A:aQ
 N:List Str
 s₀:ai
 H₀:Hp
 env:Env
 outer:List Env
 stack:List Env
 ex:List Addr
 fn:Str->Bool
 calm:Bool
 pn:List (Addr × Obj)
 xe:ae->ai->Prop
def frs (l:List Env):List Addr:=l.filterMap (·.frame)
abbrev Cx.fs (X:Cx):List Addr:=frs X.outer
def Vis (sc:Scope) (x:Str):Prop:=sc.names.lookup x=some .local\/sc.names.lookup x=some .cell\/sc.names.lookup x=some .free
def Loc (sc:Scope) (x:Str):Prop:=sc.names.lookup x=some .local\/sc.names.lookup x=some .cell
def Look (env:Env) (h:aO) (m:Str->Option ae) (x:Str) (u:ae):Prop :=
 (env.kindOf x=some .local/\m x=some u)\/((env.kindOf x=some .cell\/env.kindOf x=some .free)/\∃ c,env.cells.lookup x=some c/\h.IsCell c (some u))
structure Cx.Ok (X:Cx):Prop where
 mod:Mod X.K X.mg X.base
 kind:X.env.scope.kind=.function
 glob:X.env.globals=aL
 blt:X.env.builtins=builtinsNs
 above:X.s₀.heap.objs.size<=X.env.locals
 inj:∀ x y c,X.env.cells.lookup x=some c->X.env.cells.lookup y=some c->x=y
 has:∀ x,(X.env.kindOf x=some .cell\/X.env.kindOf x=some .free)->∃ c,X.env.cells.lookup x=some c
 cab:∀ x c,X.fn x=true->X.env.cells.lookup x=some c->X.s₀.heap.objs.size<=c
 hd:X.calm=true->X.A.handled=none
 frames:X.A.frames=some X.stack
 gd:X.A.guards=some []
 stk:X.stack=X.outer\/(X.stack=X.env::X.outer/\X.env.frame=some X.env.locals)
 exf:∀ b∈X.ex,b≠X.env.locals/\∀ x c,X.env.cells.lookup x=some c->c≠b
 bs:∀ b o,X.base.get? b=some o->X.s₀.heap.get? b=some o/\X.H₀ b=none
 bsz:X.base.objs.size<=X.s₀.heap.objs.size
 noex:∀ b o,X.base.get? b=some o->b∉X.ex
 exfs:∀ b∈X.ex,b∉X.fs
 funs:X.s₀.heap.FunFrames X.base X.outer
 frf:∀ b∈X.fs,X.H₀ b=none
structure Inv (X:Cx) (pins:List (Addr × Obj)) (σ:List (Option V)) (H:Hp) (s:ai):Prop where
 ok:X.Ok
 os:s.os=X.s₀.os
 bare:i0 s.gens
 base:Un X.fs X.ex X.H₀ H X.s₀.heap s.heap
 loc:∃ m,s.heap.Ns X.env.locals m/\∀ (i:Nat) (x:Str) (v:V),X.N[i]?=some x->σ[i]?=some (some v)->Vis X.env.scope x->∃ u,RelV v u/\Look X.env s.heap m x u
 cell:∀ x c,X.env.cells.lookup x=some c->∃ v,s.heap.IsCell c v
 free:H X.env.locals=none
 freeC:∀ x c,X.env.cells.lookup x=some c->H c=none
 pin:∀ p∈X.pn++pins,s.heap.get? p.1=some p.2/\H p.1=none/\p.1≠X.env.locals/\p.1∉X.fs/\∀ v,p.2.data≠.cell v
 hok:HOk X.prog X.w H s.heap
 len:σ.length=X.N.length
section
variable {X:Cx} {pins:List (Addr × Obj)} {σ:List (Option V)} {H H':Hp} {s:ai} {h':aO}
theorem Cx.Ok.nofr (ok:X.Ok) {b:Addr} {o:Obj} (e:X.base.get? b=some o):b∉X.fs:=λi=>by
 have:=(ok.funs.mem i).1
 rw[e] at this;cases this
theorem Inv.bs (I:Inv X pins σ H s):∀ b o,X.base.get? b=some o->s.heap.get? b=some o/\H b=none:=λb o e =>
 ⟨I.base.keep b o (I.ok.bs b o e).1 (I.ok.bs b o e).2 (I.ok.nofr e) (I.ok.noex b o e),I.base.free b o (I.ok.bs b o e).1 (I.ok.bs b o e).2 (I.ok.noex b o e)⟩
theorem Inv.bk (I:Inv X pins σ H s):∀ b o,X.base.get? b=some o->s.heap.get? b=some o:=λb o e=>(I.bs b o e).1
theorem Inv.mod (I:Inv X pins σ H s):Mod X.K X.mg X.base:=I.ok.mod
theorem Inv.kIn (I:Inv X pins σ H s):X.K.In s.heap:=I.ok.mod.kin.keeps I.bk
theorem Inv.lt (I:Inv X pins σ H s):X.env.locals < s.heap.objs.size:=let ⟨_,i,_⟩:=I.loc;i.lt
theorem Inv.sz (I:Inv X pins σ H s):X.s₀.heap.objs.size<=s.heap.objs.size:=bc I.ok.above (gP I.lt)
theorem Inv.nofs (I:Inv X pins σ H s) {a:Addr} (h:s.heap.objs.size<=a):a∉X.fs:=λy=>by
 obtain⟨_,o,i,_⟩:=I.ok.funs.mem y;exact absurd (aT (aw i) (bc I.sz h)) (cE _)
theorem Inv.cne (I:Inv X pins σ H s):∀ x c,X.env.cells.lookup x=some c->c≠X.env.locals:=λx c e z=>by
 obtain⟨v,o,ho,hd⟩:=I.cell x c e;obtain⟨m,⟨o',es,B,i,y,_⟩,_⟩:=I.loc;rw[z,i] at ho;cases ho;rw[y] at hd;cases hd
theorem Inv.funs (I:Inv X pins σ H s):s.heap.FunFrames X.base X.outer:=by
 have all:∀ (l:List Env),(∀ b∈frs l,b∈X.fs)->X.s₀.heap.FunFrames X.base l->s.heap.FunFrames X.base l:=by
  intro l
  induction l with
  | nil=>intro _ _;trivial
  | cons env r G =>
   intro B hl;obtain⟨hk,⟨L,o,hf,Y,U,hd⟩,O⟩:=hl;have y:L∈X.fs:=B L (by unfold frs;rw[b8,hf];exact ak)
   obtain⟨sl,e⟩:=I.base.slot L o U (I.ok.frf L y) y λz=>I.ok.exfs L z y;exact⟨hk,⟨L,_,hf,Y,e,hd⟩,G (λb i=>B b (by unfold frs;rw[b8,hf];exact ao _ i)) O⟩
 exact all X.outer (λ_ i=>i) I.ok.funs
theorem Inv.stack (I:Inv X pins σ H s):s.heap.FunFrames X.base X.stack:=by
 rcases I.ok.stk with e | ⟨e,hf⟩
 ·rw[e];exact I.funs
 ·rw[e];obtain⟨m,i,_⟩:=I.loc;refine .cons (by rw[I.ok.kind];decide) hf i ?_ I.funs
  exact aO.get?_none_of_le (bc I.ok.bsz I.ok.above)
theorem Inv.stkSub (I:Inv X pins σ H s):∀ b∈frs X.stack,b∈X.env.locals::X.fs:=λb i=>by
 rcases I.ok.stk with e | ⟨e,hf⟩
 ·rw[e] at i;exact ao _ i
 ·rw[e] at i;unfold frs at i;rw[b8,hf] at i;exact i
theorem Inv.stkFree (I:Inv X pins σ H s):∀ b∈frs X.stack,H b=none:=λb i=>by
 rcases aA.mp (I.stkSub b i) with e | i
 ·rw[e];exact I.free
 ·obtain⟨_,o,y,_⟩:=I.ok.funs.mem i;exact I.base.free b o y (I.ok.frf b i) λz=>I.ok.exfs b z i
theorem Inv.step {g':Array GenState} {t':Nat} {d':Drawn} {ch:List Addr} (I:Inv X pins σ H s)
  (hch:∀ b∈ch,(b∈X.ex\/X.s₀.heap.objs.size<=b)/\b≠X.env.locals/\(∀ x c,X.env.cells.lookup x=some c->c≠b)/\∀ p∈X.pn++pins,p.1≠b)
  (keep:∀ b o,b≠X.env.locals->b∉X.fs->b∉ch->s.heap.get? b=some o->H b=none->h'.get? b=some o)
  (slot:∀ b o,b≠X.env.locals->b∈X.fs->b∉ch->s.heap.get? b=some o->H b=none->∃ sl,h'.get? b=some { o with slots:=sl }) (free:∀ b o,b∉ch->s.heap.get? b=some o->H b=none->H' b=none)
  (there:∀ b o,b∉ch->s.heap.get? b=some o->∃ o',h'.get? b=some o')
  (tups:∀ b xs,H b=some (.tup xs)->H' b=some (.tup xs)) (frzs:∀ b o u,H b=some (.frz o u)->H' b=some (.frz o u)) (tbls:∀ b ps,H b=some (.tbl ps)->∃ more,H' b=some (.tbl (ps++more)))
  (ns:∀ m,s.heap.Ns X.env.locals m->h'.Ns X.env.locals m) (hok:HOk X.prog X.w H' h') (hg:i0 g') :
  Inv X pins σ H' { s with heap:=h',gens:=g',drawn:=d',toks:=t' }:=by
 have Y:∀ b o,X.s₀.heap.get? b=some o->b≠X.env.locals:=λb o e=>aG (aT (aw e) I.ok.above);have G:∀ b o,X.s₀.heap.get? b=some o->b∉X.ex->b∉ch:=λb o e y O=>by
  rcases(hch b O).1 with z | z
  ·exact y z
  ·exact absurd (aT (aw e) z) (cE _)
 have cellK:∀ x c,X.env.cells.lookup x=some c->∀ v,s.heap.IsCell c v->h'.IsCell c v:=λx c e v ⟨o,U,hd⟩=>by
  have B:c∉ch:=λz=>(hch c z).2.2.1 x c e rfl
  by_cases hc:c∈X.fs
  ·obtain⟨sl,q⟩:=slot c o (I.cne x c e) hc B U (I.freeC x c e);exact⟨_,q,hd⟩
  ·exact⟨o,keep c o (I.cne x c e) hc B U (I.freeC x c e),hd⟩
 refine⟨I.ok,I.os,hg,⟨λb o e n O y=>?_,λb o e n O y=>?_,λb o e n y=>?_,λb o e y=>?_,λb xs e=>tups b xs (I.base.tups b xs e),λb o xs e=>frzs b o xs (I.base.frzs b o xs e),λb ps e=>?_⟩,?_,λx c e=>?_,?_,λx c e=>?_,λp hp=>?_,hok,I.len⟩
 ·exact keep b o (Y b o e) O (G b o e y) (I.base.keep b o e n O y) (I.base.free b o e n y)
 ·obtain⟨sl,L⟩:=I.base.slot b o e n O y;obtain⟨Z,e2⟩:=slot b _ (Y b o e) O (G b o e y) L (I.base.free b o e n y);exact⟨Z,e2⟩
 ·obtain⟨o',L⟩:=I.base.there b o e y;exact free b o' (G b o e y) L (I.base.free b o e n y)
 ·obtain⟨o',L⟩:=I.base.there b o e y;exact there b o' (G b o e y) L
 ·obtain⟨m1,L⟩:=I.base.tbls b ps e;obtain⟨m2,e2⟩:=tbls b _ L;exact⟨m1++m2,by rw[e2,Array.append_assoc]⟩
 ·obtain⟨m,hn,hl⟩:=I.loc;refine⟨m,ns m hn,λi x v L e2 e3=>?_⟩;obtain⟨u,r,l⟩:=hl i x v L e2 e3;refine⟨u,r,?_⟩;rcases l with l | ⟨k,c,e,z⟩
  ·exact .inl l
  ·exact .inr ⟨k,c,e,cellK x c e _ z⟩
 ·obtain⟨v,z⟩:=I.cell x c e;exact⟨v,cellK x c e v z⟩
 ·obtain⟨m,⟨o,_,_,U,_⟩,_⟩:=I.loc;exact free _ o (λz=>(hch _ z).2.1 rfl) U I.free
 ·obtain⟨v,o,U,hd⟩:=I.cell x c e;exact free c o (λz=>(hch c z).2.2.1 x c e rfl) U (I.freeC x c e)
 ·obtain⟨e,n,ne,nf,d⟩:=I.pin p hp;have B:p.1∉ch:=λz=>(hch p.1 z).2.2.2 p hp rfl;exact⟨keep p.1 p.2 ne nf B e n,free p.1 p.2 B e n,ne,nf,d⟩
theorem Inv.un {t':Nat} (I:Inv X pins σ H s) (u:Un X.fs [] H H' s.heap h') (hok:HOk X.prog X.w H' h'):Inv X pins σ H' { s with heap:=h',toks:=t' }:=by
 obtain⟨m,⟨o,es,Y,G,r⟩,_⟩:=id I.loc;obtain⟨sl,O⟩:=u.any G I.free (by simp)
 exact I.step (g':=s.gens) (d':=s.drawn) (ch:=[]) (λ_ z=>nomatch z) (λb o _ i _ e n=>u.keep b o e n i (by simp)) (λb o _ i _ e n=>u.slot b o e n i (by simp)) (λb o _ e n=>u.free b o e n (by simp)) (λb o _ e=>u.there b o e (by simp)) u.tups u.frzs u.tbls (λU hm=>by
  obtain⟨o',y,B,ho',L⟩:=hm;rw[G] at ho';cases ho';exact⟨_,y,B,O,L⟩) hok I.bare
theorem Inv.call {g':Array GenState} {t':Nat} {d':Drawn} {ch:List Addr} (I:Inv X pins σ H s) (u:Un (frs X.stack) ch H H' s.heap h') (hok:HOk X.prog X.w H' h') (hg:i0 g')
  (hch:∀ b∈ch,(b∈X.ex\/X.s₀.heap.objs.size<=b)/\b≠X.env.locals/\(∀ x c,X.env.cells.lookup x=some c->c≠b)/\∀ p∈X.pn++pins,p.1≠b) :
  Inv X pins σ H' { s with heap:=h',gens:=g',drawn:=d',toks:=t' }:=by
 obtain⟨m,⟨o,es,Z,L,r⟩,_⟩:=id I.loc;obtain⟨sl,y⟩:=u.any L I.free λz=>(hch _ z).2.1 rfl;exact I.step (ch:=ch) hch (λb o y U i e n=>u.keep b o e n (λz=>(aA.mp (I.stkSub b z)).elim y U) i) (λb o _ _ i e n=>u.any e n i) (λb o i e n=>u.free b o e n i) (λb o i e=>u.there b o e i) u.tups u.frzs u.tbls (λY hm=>by
  obtain⟨o',B,G,ho',O⟩:=hm;rw[L] at ho';cases ho';exact⟨_,B,G,y,O⟩) hok hg
theorem Inv.turned {t':Nat} {it:Addr} (I:Inv X pins σ H s) (k:∀ b o,b≠it->s.heap.get? b=some o->h'.get? b=some o) (hn:H it=none) (hL:it≠X.env.locals)
  (h1:it∈X.ex\/X.s₀.heap.objs.size<=it) (h2:∀ x c,X.env.cells.lookup x=some c->c≠it) (h3:∀ p∈X.pn++pins,p.1≠it):Inv X pins σ H { s with heap:=h',toks:=t' }:=by
 have y:∀ b u,H b=some u->b≠it:=λb u e z=>by rw[z,hn] at e;cases e
 refine I.step (g':=s.gens) (d':=s.drawn) (ch:=[it]) (λb G=>?_) (λb o _ _ i e _=>k b o (λz=>i (by simp[z])) e) (λb o _ _ i e _=>⟨o.slots,k b o (λz=>i (by simp[z])) e⟩) (λ_ _ _ _ n=>n)
  (λb o i e=>⟨o,k b o (λz=>i (by simp[z])) e⟩) (λ_ _ e=>e) (λ_ _ _ e=>e) (λb ps e=>⟨#[],by rw[e];simp⟩) (λm hm=>?_) (λb u e=>?_) I.bare
 ·have e:b=it:=by simpa using G
  subst e;exact⟨h1,hL,h2,h3⟩
 ·obtain⟨o,es,L,B,r⟩:=hm;exact⟨o,es,L,k _ o (bj hL) B,r⟩
 ·refine(I.hok b u e).stay (λc v i q=>k c v ?_ q) (λ_ q=>q) λ_ _ q=>q;rcases i with z | z
  ·rw[z];exact y b u e
  ·exact y c _ z
theorem Inv.tok (I:Inv X pins σ H s) (t:Nat):Inv X pins σ H { s with toks:=t }:=I.un (h':=s.heap) (t':=t) Un.refl I.hok
theorem Inv.kept {t':Nat} (I:Inv X pins σ H s) (k:∀ b u,s.heap.get? b=some u->h'.get? b=some u):Inv X pins σ H { s with heap:=h',toks:=t' }:=I.un (Un.kept k) (I.hok.kept k)
theorem Inv.laid {a:Addr} {o:HO} {t':Nat} (I:Inv X pins σ H s) (k:∀ b u,s.heap.get? b=some u->h'.get? b=some u) (hp:s.heap.objs.size<=a) (new:ObjOk X.prog X.w (upd H a o) h' a o) :
  Inv X pins σ (upd H a o) { s with heap:=h',toks:=t' }:=I.un (Un.laid k hp (I.hok.fresh hp)) (I.hok.laid k hp new)
theorem Inv.write {x e:Addr} {o:HO} {t':Nat} (I:Inv X pins σ H s) (mu:Mut (H x)) (he:e=x\/H e=some (.own x)) (k:∀ b u,b≠e->s.heap.get? b=some u->h'.get? b=some u) (heo:∃ u,h'.get? e=some u)
  (new:ObjOk X.prog X.w (upd H x o) h' x o):Inv X pins σ (upd H x o) { s with heap:=h',toks:=t' }:=I.un (Un.write mu he k heo) (I.hok.write mu he k heo new)
theorem Inv.weak {σ':List (Option V)} (I:Inv X pins σ H s) (hl:σ'.length=σ.length) (w:∀ (i:Nat) v,σ'[i]?=some (some v)->σ[i]?=some (some v)):Inv X pins σ' H s :=
 ⟨I.ok,I.os,I.bare,I.base,let ⟨m,B,y⟩:=I.loc;⟨m,B,λi x v L e2 G=>y i x v L (w i v e2) G⟩,I.cell,I.free,I.freeC,I.pin,I.hok,hl.trans I.len⟩
theorem Inv.pins_of {pins':List (Addr × Obj)} (I:Inv X pins σ H s) (h:∀ p∈pins',s.heap.get? p.1=some p.2/\H p.1=none/\p.1≠X.env.locals/\p.1∉X.fs/\∀ v,p.2.data≠.cell v):Inv X pins' σ H s :=
 ⟨I.ok,I.os,I.bare,I.base,I.loc,I.cell,I.free,I.freeC,λp hp=>(aW.mp hp).elim (λz=>I.pin p (bh _ z)) (h p),I.hok,I.len⟩
theorem nodup_ix {N:List Str} (hN:N.Nodup) {i j:Nat} {x:Str} (a:N[i]?=some x) (b:N[j]?=some x):i=j:=by
 obtain⟨h1,y⟩:=bd.mp a;obtain⟨h2,e2⟩:=bd.mp b;exact(ie hN).mp (y.trans e2.symm)
theorem bJn {M:Model} {A:aQ} {E:ae->ai->Prop} {i:Nat} {x:Str} {v:V} {u:ae} {Q:Unit->ai->Prop} (I:Inv X pins σ H s) (hN:X.N.Nodup) (hi:X.N[i]?=some x) (hx:Loc X.env.scope x) (r:RelV v u)
  (h:∀ s',Inv X pins (σ.set i (some v)) H s'->(∃ a,dA a s.heap s'.heap/\(a=X.env.locals\/X.env.cells.lookup x=some a))->Q () s') (hf:X.fn x=true\/X.env.scope.names.lookup x=some .local:=by first | exact .inl rfl | exact .inr rfl | assumption):ay M A (storeName X.env x u) Q E s:=by
 obtain⟨m,hn,hl⟩:=id I.loc;have hcls:(X.env.scope.kind == .class || (X.env.scope.kind == .module && X.env.locals != X.env.globals))=false:=by rw[I.ok.kind];rfl
 have hiσ:i < σ.length:=by rw[I.len];exact(bd.mp hi).1
 have cne:=I.cne;have tracked:∀ {a:Addr} {h':aO},(∃ o,s.heap.get? a=some o/\H a=none)->dA a s.heap h'->HOk X.prog X.w H h':=λ{a h'} ha B b ob e=>by
  obtain⟨_,_,G⟩:=ha;refine(I.hok b ob e).stay (λc w' hc q=>(B.2 c ?_).trans q) (λ_ q=>q) λ_ _ q=>q;rintro rfl;rcases hc with rfl | hc
  ·rw[G] at e;cases e
  ·rw[G] at hc;cases hc
 rcases hx with hk | hk
 ·refine wpAny_storeName_local hk hn (λh' hn' B=>?_) hcls;obtain⟨oL,_,_,hoL,_⟩:=id hn;refine h _ ⟨I.ok,I.os,I.bare,⟨λb o e n U hx=>?_,λb o e n U hx=>?_,I.base.free,λb o e hx=>?_,I.base.tups,I.base.frzs,I.base.tbls⟩,⟨_,hn',λj y v' e1 e2 e3=>?_⟩,λy c e=>?_,I.free,I.freeC,λp hp=>?_,tracked ⟨oL,hoL,I.free⟩ B,by simpa using I.len⟩ ⟨_,B,.inl rfl⟩
  ·exact(B.2 b (aG (aT (aw e) I.ok.above))).trans (I.base.keep b o e n U hx)
  ·obtain⟨sl,e1⟩:=I.base.slot b o e n U hx;exact⟨sl,(B.2 b (aG (aT (aw e) I.ok.above))).trans e1⟩
  ·obtain⟨o',e1⟩:=I.base.there b o e hx;exact⟨o',(B.2 b (aG (aT (aw e) I.ok.above))).trans e1⟩
  ·by_cases L:j=i
   ·subst L;rw[hi] at e1;cases e1;rw[gQ hiσ] at e2;cases e2;exact⟨u,r,.inl ⟨hk,by simp⟩⟩
   ·rw[eV (bj L)] at e2;obtain⟨u',r',q⟩:=hl j y v' e1 e2 e3;refine⟨u',r',?_⟩;rcases q with⟨k,e⟩ | ⟨k,c,e,z⟩
    ·refine .inl ⟨k,?_⟩
     have:y≠x:=λe=>L (nodup_ix hN e1 (e ▸ hi))
     simp[this,e]
    ·exact .inr ⟨k,c,e,z.sameBut B (cne y c e)⟩
  ·obtain⟨w',z⟩:=I.cell y c e;exact⟨w',z.sameBut B (cne y c e)⟩
  ·obtain⟨e,n,ne,nf,d⟩:=I.pin p hp;exact⟨(B.2 p.1 ne).trans e,n,ne,nf,d⟩
 ·have O:X.fn x=true:=by
   rcases hf with z | z
   ·exact z
   ·rw[z] at hk;cases hk
  obtain⟨c,hc⟩:=I.ok.has x (.inl hk);obtain⟨w',z⟩:=I.cell x c hc;refine wpAny_storeName_cell I.ok.kind hk hc z (λh' hc' B=>?_);obtain⟨oc,Z,Y⟩:=id z;refine h { s with heap:=h' } ⟨I.ok,I.os,I.bare,⟨λb o e n U hx=>?_,λb o e n U hx=>?_,I.base.free,λb o e hx=>?_,I.base.tups,I.base.frzs,I.base.tbls⟩,⟨m,hn.sameBut B (bj (cne x c hc)),λj y v' e1 e2 e3=>?_⟩,λy c' e=>?_,I.free,I.freeC,λp hp=>?_,tracked ⟨oc,Z,I.freeC x c hc⟩ B,by simpa using I.len⟩ ⟨c,B,.inr hc⟩
  ·exact(B.2 b (aG (aT (aw e) (I.ok.cab x c O hc)))).trans (I.base.keep b o e n U hx)
  ·obtain⟨sl,e1⟩:=I.base.slot b o e n U hx;exact⟨sl,(B.2 b (aG (aT (aw e) (I.ok.cab x c O hc)))).trans e1⟩
  ·obtain⟨o',e1⟩:=I.base.there b o e hx;exact⟨o',(B.2 b (aG (aT (aw e) (I.ok.cab x c O hc)))).trans e1⟩
  ·by_cases L:j=i
   ·subst L;rw[hi] at e1;cases e1;rw[gQ hiσ] at e2;cases e2;exact⟨u,r,.inr ⟨.inl hk,c,hc,hc'⟩⟩
   ·rw[eV (bj L)] at e2;obtain⟨u',r',q⟩:=hl j y v' e1 e2 e3;refine⟨u',r',?_⟩;rcases q with q | ⟨k,c',e,z'⟩
    ·exact .inl q
    ·refine .inr ⟨k,c',e,z'.sameBut B ?_⟩;rintro rfl;exact L (nodup_ix hN e1 (I.ok.inj _ _ _ e hc ▸ hi))
  ·by_cases hcc:c'=c
   ·subst hcc;exact⟨_,hc'⟩
   ·obtain⟨w2,z2⟩:=I.cell y c' e;exact⟨w2,z2.sameBut B hcc⟩
  ·obtain⟨e,n,ne,nf,d⟩:=I.pin p hp;refine⟨(B.2 p.1 ?_).trans e,n,ne,nf,d⟩;intro q;rw[q,Z] at e;have q':oc=p.2:=aK e;exact d w' (by rw[<- q'];exact Y)
theorem store_ok {M:Model} {A:aQ} {E:ae->ai->Prop} {i:Nat} {x:Str} {v:V} {u:ae} {Q:Unit->ai->Prop} (I:Inv X pins σ H s) (hN:X.N.Nodup) (hi:X.N[i]?=some x) (hx:Loc X.env.scope x) (r:RelV v u)
  (h:∀ s',Inv X pins (σ.set i (some v)) H s'->Q () s') (hf:X.fn x=true\/X.env.scope.names.lookup x=some .local:=by first | exact .inl rfl | exact .inr rfl | assumption):ay M A (storeName X.env x u) Q E s :=
 bJn I hN hi hx r (λs' y _=>h s' y) hf
theorem Inv.call' {s':ai} {ch:List Addr} (I:Inv X pins σ H s) (ho:s'.os=s.os) (u:Un (frs X.stack) ch H H' s.heap s'.heap) (hok:HOk X.prog X.w H' s'.heap) (hg:i0 s'.gens)
  (hch:∀ b∈ch,(b∈X.ex\/X.s₀.heap.objs.size<=b)/\b≠X.env.locals/\(∀ x c,X.env.cells.lookup x=some c->c≠b)/\∀ p∈X.pn++pins,p.1≠b):Inv X pins σ H' s':=by
 obtain⟨h',g',d',t',o'⟩:=s';have e:o'=s.os:=ho;subst e;exact I.call (g':=g') (t':=t') (d':=d') u hok hg hch
end
abbrev XK:=ae->Option Addr->Hp->Prop
abbrev St:=List (Option V)
abbrev VK:=V->Hp->Prop
abbrev TE:=St->Hp->VK->Prop
abbrev TT:=St->Hp->(Bool->Hp->Prop)->Prop
abbrev TA:=St->Hp->(List V->Hp->Prop)->Prop
structure Ends where
 nx:St->Hp->Prop
 rt:VK
 bk:St->Hp->Prop:=λ_ _=>False
 ct:St->Hp->Prop:=λ_ _=>False
abbrev TS:=Ends->St->Hp->Prop
def EP (X:Cx) (pins:List (Addr × Obj)) (σ:St) (Q:VK) (u:ae) (s':ai):Prop:=∃ v H',Inv X pins σ H' s'/\RelV v u/\Q v H'
def TP (X:Cx) (pins:List (Addr × Obj)) (σ:St) (Q:Bool->Hp->Prop) (b:Bool) (s':ai):Prop:=∃ H',Inv X pins σ H' s'/\Q b H'
def AP (X:Cx) (pins:List (Addr × Obj)) (σ:St) (Q:List V->Hp->Prop) (us:List ae) (s':ai):Prop:=∃ vs H',Inv X pins σ H' s'/\Vals vs us/\Q vs H'
def SP (X:Cx) (pins:List (Addr × Obj)) (D:Ends) (f:Flow) (s':ai):Prop :=
 match f with
 | .next=>∃ σ' H',Inv X pins σ' H' s'/\D.nx σ' H'
 | .brk=>∃ σ' H',Inv X pins σ' H' s'/\D.bk σ' H'
 | .cont=>∃ σ' H',Inv X pins σ' H' s'/\D.ct σ' H'
 | .ret u=>∃ v σ' H',Inv X pins σ' H' s'/\RelV v u/\D.rt v H'
def PE (X:Cx) (e:Expr) (t:TE):Prop :=
 ∀ (pins:List (Addr × Obj)) (s:ai) (σ:St) (H:Hp) (Q:VK),Inv X pins σ H s->t σ H Q->ay (az X.prog X.w) X.A (eval e X.env) (EP X pins σ Q) X.xe s
def PT (X:Cx) (e:Expr) (t:TT):Prop :=
 ∀ (pins:List (Addr × Obj)) (s:ai) (σ:St) (H:Hp) (Q:Bool->Hp->Prop),Inv X pins σ H s->t σ H Q->ay (az X.prog X.w) X.A (isTrue e X.env (eval e X.env)) (TP X pins σ Q) X.xe s
def PW (X:Cx) (e:Expr) (t:TT):Prop :=
 ∀ (whole:Sem ae) (pins:List (Addr × Obj)) (s:ai) (σ:St) (H:Hp) (Q:Bool->Hp->Prop),Inv X pins σ H s->t σ H Q->ay (az X.prog X.w) X.A (isTrue e X.env whole) (TP X pins σ Q) X.xe s
theorem PW.pt {X:Cx} {e:Expr} {t:TT} (h:PW X e t):PT X e t:=h _
def PA (X:Cx) (es:List Expr) (t:TA):Prop :=
 ∀ (pos:Pos) (pins:List (Addr × Obj)) (s:ai) (σ:St) (H:Hp) (Q:List V->Hp->Prop),Inv X pins σ H s->t σ H Q->ay (az X.prog X.w) X.A (spliced (bn pos (am es X.env))) (AP X pins σ Q) X.xe s
def PS (X:Cx) (st:Stmt) (t:TS):Prop :=
 ∀ (pins:List (Addr × Obj)) (s:ai) (σ:St) (H:Hp) (D:Ends),Inv X pins σ H s->t D σ H->ay (az X.prog X.w) X.A (exec st X.env) (SP X pins D) X.xe s
def PSs (X:Cx) (st:List Stmt) (t:TS):Prop :=
 ∀ (pins:List (Addr × Obj)) (s:ai) (σ:St) (H:Hp) (D:Ends),Inv X pins σ H s->t D σ H->ay (az X.prog X.w) X.A (execs st X.env) (SP X pins D) X.xe s
theorem thn {α:Type} {t:Sem α} {Q Q':α->ai->Prop} {M:Model} {A:aQ} {E:ae->ai->Prop} {s:ai} (h:ay M A t Q E s) (hQ:∀ a s,Q a s->Q' a s):ay M A t Q' E s:=c6 h hQ λ_ _ x=>x
section
variable {X:Cx}
def tVar (i:Nat):TE:=fun σ H Q=>∃ v,σ[i]?=some (some v)/\Q v H
def tC (v:V):TE:=λ_ H Q=>Q v H
abbrev dbg(x:PySem.Str):Bool:=x == ("__debug__":PySem.Str)
theorem fZu {i:Nat} {x:Str} {pos:Pos} (hN:X.N[i]?=some x) (hv:Vis X.env.scope x) (hd:dbg x=false:=by decide) (hcd:(x == ("__classdict__":Str))=false:=by decide):PE X (.Name x pos) (tVar i):=by
 intro pins s σ H Q I h;obtain⟨v,e,h⟩:=h;obtain⟨m,G,hl⟩:=I.loc;obtain⟨u,r,l⟩:=hl i x v hN e hv;have fin:EP X pins σ Q u s:=⟨v,H,I,r,h⟩;rcases l with⟨hk,hm⟩ | ⟨hk,c,B,y⟩
 ·exact wpAny_Name (wpAny_loadName_local I.ok.kind hk G hm fin) hd
 ·rcases hk with hk | hk
  ·exact wpAny_Name (wpAny_loadName_cell I.ok.kind hk B y fin) hd
  ·exact wpAny_Name (wpAny_loadName_free I.ok.kind hk B y fin hcd) hd
theorem eZf {i j pos}:PE X (.Constant (.int i) j pos) (tC (.int i)):=λ_ _ _ H _ I h=>wpAny_Constant_int ⟨.int i,H,I.tok _,⟨_,rfl⟩,h⟩
theorem gZk {b j pos}:PE X (.Constant (.bool b) j pos) (tC (.bl b)):=λ_ _ _ H _ I h=>Constant_bool ⟨.bl b,H,I,rfl,h⟩
theorem fZv {j pos}:PE X (.Constant .none j pos) (tC .non):=λ_ _ _ H _ I h=>Constant_none ⟨.non,H,I,rfl,h⟩
theorem cJv {x j pos}:PE X (.Constant (.str x) j pos) (tC (.str x)):=λ_ _ _ H _ I h=>Calls.Constant_str ⟨.str x,H,I.tok _,⟨_,rfl⟩,h⟩
def Gl (X:Cx) (x:Str):Prop:=X.env.kindOf x=some .globalImplicit
theorem ld_glob {E:ae->ai->Prop} {pins:List (Addr × Obj)} {s:ai} {σ:St} {H:Hp} {x:Str} {u:ae} {pos:Pos} {Q:ae->ai->Prop} (I:Inv X pins σ H s) (hg:Gl X x) (hm:X.mg x=some u) (h:Q u s)
  (hd:dbg x=false:=by decide):ay (az X.prog X.w) X.A (eval (.Name x pos) X.env) Q E s :=
 jb I.ok.kind hg (Calls.loadGlobal_global (by rw[I.ok.glob];exact I.mod.glob.keeps I.bk) hm h) hd
theorem ld_blt {E:ae->ai->Prop} {pins:List (Addr × Obj)} {s:ai} {σ:St} {H:Hp} {x:Str} {u:ae} {pos:Pos} {Q:ae->ai->Prop} (I:Inv X pins σ H s) (hg:Gl X x) (hm:X.mg x=none) (hv:bz x=some u) (h:Q u s)
  (hn:x ≠ "__name__":=by decide) (hd:dbg x=false:=by decide):ay (az X.prog X.w) X.A (eval (.Name x pos) X.env) Q E s:=by
 obtain⟨i,h1,h2⟩:=I.mod.blt;exact jb I.ok.kind hg (Calls.loadGlobal_builtin (by rw[I.ok.glob];exact I.mod.glob.keeps I.bk) hm (by rw[I.ok.blt];exact h1.keeps I.bk) ((h2 x hn).trans hv) h) hd
theorem eXn {x:Str} {v:V} {u:ae} {pos:Pos} (hg:Gl X x) (hm:X.mg x=none) (hv:bz x=some u) (r:RelV v u) (hn:x ≠ "__name__":=by decide) (hd:dbg x=false:=by decide):PE X (.Name x pos) (tC v) :=
 λ_ _ _ H _ I h=>ld_blt I hg hm hv ⟨v,H,I,r,h⟩ hn hd
variable {a b:Expr} {ta tb:TE} {pos:Pos}
variable {tA tB':TT} {rest:List Expr}
def tAnd (t u:TT):TT:=fun σ H Q=>t σ H λc H1=>if c=true then u σ H1 Q else Q false H1
def tOr (t u:TT):TT:=fun σ H Q=>t σ H λc H1=>if c=true then Q true H1 else u σ H1 Q
def tNot (t:TT):TT:=fun σ H Q=>t σ H λc H1=>Q (!c) H1
theorem eXo (ha:PT X a tA):PW X (.BoolOp .And [a] pos) tA:=by
 intro i pins s σ H Q I h;refine isTrue_and (thn (ha pins s σ H Q I h) λc s1 e=>?_);cases c with
 | true=>exact isTrue_and_nil e
 | false=>exact e
theorem fZw (ha:PT X a tA):PW X (.BoolOp .Or [a] pos) tA:=by
 intro i pins s σ H Q I h;refine isTrue_or (thn (ha pins s σ H Q I h) λc s1 e=>?_);cases c with
 | false=>exact isTrue_or_nil e
 | true=>exact e
theorem fZx (ha:PT X a tA) (hb:PW X (.BoolOp .And (b::rest) pos) tB'):PW X (.BoolOp .And (a::b::rest) pos) (tAnd tA tB'):=by
 intro B pins s σ H Q I h;refine isTrue_and (thn (ha pins s σ H _ I h) λc s1 ⟨H1,y,i⟩=>?_);cases c with
 | true=>exact hb B pins s1 σ H1 Q y i
 | false=>exact⟨H1,y,i⟩
theorem gZl (ha:PT X a tA) (hb:PW X (.BoolOp .Or (b::rest) pos) tB'):PW X (.BoolOp .Or (a::b::rest) pos) (tOr tA tB'):=by
 intro B pins s σ H Q I h;refine isTrue_or (thn (ha pins s σ H _ I h) λc s1 ⟨H1,y,i⟩=>?_);cases c with
 | true=>exact⟨H1,y,i⟩
 | false=>exact hb B pins s1 σ H1 Q y i
theorem fZy (ha:PT X a tA):PT X (.UnaryOp .Not a pos) (tNot tA):=by
 intro pins s σ H Q I h;exact isTrue_not (ha pins s σ H (λc H1=>Q (!c) H1) I h)
def gZm (ta tb:TE):TE:=fun σ H Q=>ta σ H λx H1=>∃ c,x=.bl c/\if c=true then tb σ H1 Q else Q (.bl false) H1
def gZn (ta:TE):TE:=fun σ H Q=>ta σ H λx H1=>∃ c,x=.bl c/\Q (.bl (!c)) H1
theorem fZz {op} {t:TE} (h:PE X a t):PE X (.BoolOp op [a] pos) t:=λpins s σ H Q I hw=>BoolOp_one (h pins s σ H Q I hw)
theorem fX0 (ha:PE X a ta) (hb:PE X (.BoolOp .And (b::rest) pos) tb):PE X (.BoolOp .And (a::b::rest) pos) (gZm ta tb):=by
 intro pins s σ H Q I h;refine BoolOp_and (thn (ha pins s σ H _ I h) λv s1 ⟨x,H1,y,r1,i⟩=>?_);obtain⟨c,rfl,i⟩:=i;cases r1;refine da ?_;cases c with
 | true=>exact hb pins s1 σ H1 Q y i
 | false=>exact⟨.bl false,H1,y,rfl,i⟩
theorem fX1 (ha:PE X a ta):PE X (.UnaryOp .Not a pos) (gZn ta):=by
 intro pins s σ H Q I h;refine UnaryOp_ (thn (ha pins s σ H _ I h) λv s1 ⟨x,H1,y,r1,i⟩=>?_);obtain⟨c,rfl,i⟩:=i;cases r1;exact not_of (da ⟨.bl (!c),H1,y,rfl,i⟩)
def tIf (t:TT) (ta tb:TE):TE:=fun σ H Q=>t σ H λc H1=>if c=true then ta σ H1 Q else tb σ H1 Q
theorem dJi {c:Expr} (hc:PT X c tA) (ha:PE X a ta) (hb:PE X b tb):PE X (.IfExp c a b pos) (tIf tA ta tb):=by
 intro pins s σ H Q I h;refine wpAny_IfExp (thn (hc pins s σ H _ I h) λd s1 ⟨H1,y,i⟩=>?_);cases d with
 | true=>exact ha pins s1 σ H1 Q y i
 | false=>exact hb pins s1 σ H1 Q y i
end
def SqL (K:aq) (H:Hp) (a:Addr) (xs:List V):Prop :=
 Rd H a (.lst xs) \/
  ∃ (o:Obj) (its:Array ae) (n:Nat),K.lookup a=some o/\o.cls=.type "list"/\o.dict=none/\o.data=.seq its n/\its.size<=sizeLine/\Vals xs its.toList
def SqT (K:aq) (H:Hp) (a:Addr) (xs:List V):Prop :=
 Rd H a (.tup xs) \/
  ∃ (o:Obj) (its:Array ae) (n:Nat),K.lookup a=some o/\o.cls=.type "tuple"/\o.dict=none/\o.data=.seq its n/\its.size<=sizeLine/\Vals xs its.toList
def absV:ae->Option V
 | .none=>some .non
 | .bool b=>some (.bl b)
 | .int i _=>some (.int i)
 | .str x _=>some (.str x)
 | .bytes b _=>some (.byt b)
 | .float b _=>some (.flt b)
 | .ref a=>some (.ref a)
 | .type n=>some (.ty n)
 | _=>none
theorem RelV.abs {x:V} {u:ae} (r:RelV x u):absV u=some x:=by
 cases x with
 | non=>cases r;rfl
 | bl _=>cases r;rfl
 | int _=>obtain⟨t,rfl⟩:=r;rfl
 | str _=>obtain⟨t,rfl⟩:=r;rfl
 | byt _=>obtain⟨t,rfl⟩:=r;rfl
 | flt _=>obtain⟨t,rfl⟩:=r;rfl
 | ref _=>cases r;rfl
 | ty _=>cases r;rfl
theorem RelV.inj {x y:V} {u:ae} (r:RelV x u) (q:RelV y u):x=y:=aK (r.abs.symm.trans q.abs)
theorem Vals.inj:∀ {xs ys:List V} {us:List ae},Vals xs us->Vals ys us->xs=ys
 | _,_,_,.nil,.nil=>rfl
 | _,_,_,.cons r t,.cons y i=>by rw[r.inj y,Vals.inj t i]
section
variable {X:Cx} {pins:List (Addr × Obj)} {σ:St} {H:Hp} {s:ai} {a:Addr} {xs ys:List V}
theorem SqL.of {K:aq} (h:H a=some (.lst xs)):SqL K H a xs:=.inl (.inl h)
theorem Inv.list (I:Inv X pins σ H s) (h:SqL X.K H a xs):∃ its:List ae,Vals xs its/\PlainL s.heap a its.toArray/\xs.length<=sizeLine:=by
 rcases h with h | ⟨o,its,n,hk,y,hd,i,B,r⟩
 ·obtain⟨z,its,n,r,e⟩:=h.ok I.hok;exact⟨its,r,⟨_,n,e,rfl,rfl,rfl⟩,z⟩
 ·refine⟨its.toList,r,⟨o,n,I.kIn a o hk,y,hd,by simpa using i⟩,?_⟩
  have e:=r.length;simp only[cy] at e;omega
theorem Inv.tuple (I:Inv X pins σ H s) (h:SqT X.K H a xs):∃ its:List ae,Vals xs its/\iF s.heap a its.toArray/\xs.length<=sizeLine:=by
 rcases h with h | ⟨o,its,n,hk,y,_,i,B,r⟩
 ·obtain⟨z,its,r,p,_⟩:=h.ok I.hok;exact⟨its,r,p,z⟩
 ·refine⟨its.toList,r,⟨o,I.kIn a o hk,y,n,by simpa using i⟩,?_⟩
  have e:=r.length;simp only[cy] at e;omega
theorem Inv.list_inj (I:Inv X pins σ H s) (h:SqL X.K H a xs) (h':SqL X.K H a ys):xs=ys:=by
 obtain⟨i,r,⟨o,n,e,_,_,d⟩,_⟩:=I.list h;obtain⟨its',B,⟨o',L,e',_,_,y⟩,_⟩:=I.list h';rw[e] at e';cases e';rw[d] at y;injection y with G _
 have:i=its':=by simpa using congrArg Array.toList G
 subst this;exact r.inj B
theorem Inv.tuple_inj (I:Inv X pins σ H s) (h:SqT X.K H a xs) (h':SqT X.K H a ys):xs=ys:=by
 obtain⟨i,r,⟨o,e,_,n,d⟩,_⟩:=I.tuple h;obtain⟨its',B,⟨o',e',_,L,y⟩,_⟩:=I.tuple h';rw[e] at e';cases e';rw[d] at y;injection y with G _
 have:i=its':=by simpa using congrArg Array.toList G
 subst this;exact r.inj B
end
abbrev Cx.wish (X:Cx) (E:ae->ai->Prop):Cx:={ X with xe:=E }
abbrev Cx.nox (X:Cx):Cx:=X.wish λ_ _=>False
theorem Cx.Ok.wish {X:Cx} (ok:X.Ok) (E:ae->ai->Prop):(X.wish E).Ok :=
 ⟨ok.mod,ok.kind,ok.glob,ok.blt,ok.above,ok.inj,ok.has,ok.cab,ok.hd,ok.frames,ok.gd,ok.stk,ok.exf,ok.bs,ok.bsz,ok.noex,ok.exfs,ok.funs,ok.frf⟩
theorem Cx.Ok.unwish {X:Cx} {E:ae->ai->Prop} (ok:(X.wish E).Ok):X.Ok :=
 ⟨ok.mod,ok.kind,ok.glob,ok.blt,ok.above,ok.inj,ok.has,ok.cab,ok.hd,ok.frames,ok.gd,ok.stk,ok.exf,ok.bs,ok.bsz,ok.noex,ok.exfs,ok.funs,ok.frf⟩
section
variable {X:Cx} {pins:List (Addr × Obj)} {σ:St} {H:Hp} {s:ai} {E:ae->ai->Prop}
theorem Inv.wish (I:Inv X pins σ H s) (E:ae->ai->Prop):Inv (X.wish E) pins σ H s:=⟨I.ok.wish E,I.os,I.bare,I.base,I.loc,I.cell,I.free,I.freeC,I.pin,I.hok,I.len⟩
theorem Inv.unwish (I:Inv (X.wish E) pins σ H s):Inv X pins σ H s:=⟨I.ok.unwish,I.os,I.bare,I.base,I.loc,I.cell,I.free,I.freeC,I.pin,I.hok,I.len⟩
theorem SP.unwish {D:Ends} {f:Flow} {s':ai} (h:SP (X.wish E) pins D f s'):SP X pins D f s':=by
 cases f with
 | next=>obtain⟨σ',H',I,q⟩:=h;exact⟨σ',H',I.unwish,q⟩
 | brk=>obtain⟨σ',H',I,q⟩:=h;exact⟨σ',H',I.unwish,q⟩
 | cont=>obtain⟨σ',H',I,q⟩:=h;exact⟨σ',H',I.unwish,q⟩
 | ret u=>obtain⟨v,σ',H',I,r,q⟩:=h;exact⟨v,σ',H',I.unwish,r,q⟩
theorem PT.nox {e:Expr} {t:TT} (h:PT X.nox e t):PT X e t:=λpins s σ H Q I hw =>
 c6 (h pins s σ H Q (I.wish _) hw) (λ_ _ ⟨H',i,q⟩=>⟨H',i.unwish,q⟩) λ_ _ z=>cI z
theorem PSs.nox {st:List Stmt} {t:TS} (h:PSs X.nox st t):PSs X st t:=λpins s σ H D I hw =>
 c6 (h pins s σ H D (I.wish _) hw) (λ_ _ q=>q.unwish) λ_ _ z=>cI z
end
section
variable {X:Cx} {st:Stmt} {rest:List Stmt} {t u:TS} {e:Expr} {te:TE} {pos:Pos}
def gZo:TS:=λD σ H=>D.nx σ H
def tSeq (t u:TS):TS:=λD σ H=>t { D with nx:=u D } σ H
theorem cJw:PSs X [] gZo:=λ_ _ σ H _ I h=>dq ⟨σ,H,I,h⟩
theorem bXi (h1:PS X st t) (h2:PSs X rest u):PSs X (st::rest) (tSeq t u):=by
 intro pins s σ H D I h;refine f9 (thn (h1 pins s σ H { D with nx:=u D } I h) λf s1 q=>?_)
 cases f with
 | next =>
  obtain⟨σ',H',i,q⟩:=q;exact h2 pins s1 σ' H' D i q
 | ret v=>exact q
 | brk=>exact q
 | cont=>exact q
theorem cJx (h1:PS X st t):PSs X [st] t:=by
 intro pins s σ H D I h;refine f9 (thn (h1 pins s σ H D I h) λf s1 q=>?_);cases f with
 | next=>exact dq q
 | ret v=>exact q
 | brk=>exact q
 | cont=>exact q
theorem Inv.quiet {pins:List (Addr × Obj)} {σ:St} {H:Hp} {s:ai} (I:Inv X pins σ H s):interactive X.env=false:=by simp[interactive,I.ok.kind]
def gZp (te:TE):TS:=λD σ H=>te σ H λ_ H1=>D.nx σ H1
theorem eXp (he:PE X e te) (hs:gc e none pos.line X.env=pure false:=by rfl):PS X (.Expr e pos) (gZp te):=by
 intro pins s σ H D I h;exact wpAny_Expr_any (thn (he pins s σ H _ I h) λv s1 ⟨x,H1,y,B,i⟩=>⟨σ,H1,y,i⟩) I.quiet hs
def tRet (te:TE):TS:=λD σ H=>te σ H D.rt
theorem fX2 (he:PE X e te):PS X (.Return (some e) pos) (tRet te):=by
 intro pins s σ H D I h;exact wpAny_Return_some (thn (he pins s σ H _ I h) λv s1 ⟨x,H1,B,i,y⟩=>⟨x,σ,H1,B,i,y⟩)
def tIfS (c:TT) (t u:TS):TS:=λD σ H=>c σ H λb H1=>if b=true then t D σ H1 else u D σ H1
theorem fX3 {c:Expr} {a b:List Stmt} {tc:TT} (hc:PT X c tc) (ha:PSs X a t) (hb:PSs X b u):PS X (.If c a b pos) (tIfS tc t u):=by
 intro pins s σ H D I h;refine wpAny_If (thn (hc pins s σ H _ I h) λd s1 ⟨H1,y,i⟩=>?_);cases d with
 | true=>exact ha pins s1 σ H1 D y i
 | false=>exact hb pins s1 σ H1 D y i
end
abbrev TG:=V->St->Hp->(St->Hp->Prop)->Prop
abbrev TGs:=List V->St->Hp->(St->Hp->Prop)->Prop
def PG (X:Cx) (target:Expr) (t:TG):Prop :=
 ∀ (pins:List (Addr × Obj)) (s:ai) (σ:St) (H:Hp) (v:V) (u:ae) (Q:St->Hp->Prop),Inv X pins σ H s->RelV v u->t v σ H Q ->
  ay (az X.prog X.w) X.A (kb target X.env u) (λ_ s'=>∃ σ' H',Inv X pins σ' H' s'/\Q σ' H') X.xe s
def PGs (X:Cx) (ts:List Expr) (t:TGs):Prop :=
 ∀ (pins:List (Addr × Obj)) (s:ai) (σ:St) (H:Hp) (vs:List V) (us:List ae) (Q:St->Hp->Prop),Inv X pins σ H s->Vals vs us->t vs σ H Q ->
  ay (az X.prog X.w) X.A (assignInOrder ((fm ts X.env).map (·.2)) us) (λ_ s'=>∃ σ' H',Inv X pins σ' H' s'/\Q σ' H') X.xe s
abbrev TSet:=V->V->V->Hp->(Hp->Prop)->Prop
def PSet (X:Cx) (t:TSet):Prop :=
 ∀ (pins:List (Addr × Obj)) (s:ai) (σ:St) (H:Hp) (o i v:V) (ov iv u:ae) (Q:Hp->Prop),Inv X pins σ H s->RelV o ov->RelV i iv->RelV v u->t o i v H Q ->
  ay (az X.prog X.w) X.A (setItem ov iv u) (λ_ s'=>∃ H',Inv X pins σ H' s'/\Q H') X.xe s
section
variable {X:Cx} {pos:Pos}
def cQm (i:Nat):TG:=λv σ H Q=>Q (σ.set i (some v)) H
theorem aQe {i:Nat} {x:Str} (hN:X.N.Nodup) (hi:X.N[i]?=some x) (hx:Loc X.env.scope x) (hf:X.fn x=true\/X.env.scope.names.lookup x=some .local:=by first | exact .inl rfl | exact .inr rfl | assumption):PG X (.Name x pos) (cQm i):=by
 intro pins s σ H v u Q I r h;exact wpAny_assign_Name (store_ok I hN hi hx r (λs' y=>⟨_,H,y,h⟩) hf)
def gNil:TGs:=λvs σ H Q=>vs=[]/\Q σ H
def eXq (t:TG) (u:TGs):TGs:=λvs σ H Q=>∃ v r,vs=v::r/\t v σ H fun σ' H'=>u r σ' H' Q
theorem cJy:PGs X [] gNil:=by
 intro pins s σ H vs us Q I r h;obtain⟨e,h⟩:=h;subst e;cases r;exact assignInOrder_nil ⟨σ,H,I,h⟩
theorem bXj {e:Expr} {es:List Expr} {t:TG} {u:TGs} (h1:PG X e t) (h2:PGs X es u)
  (hs:(fm (e::es) X.env).map (·.2)=kb e X.env::(fm es X.env).map (·.2):=by rfl):PGs X (e::es) (eXq t u):=by
 intro pins s σ H vs us Q I r h;obtain⟨v,L,B,h⟩:=h;subst B;cases r with
 | cons r i =>
  rw[hs];refine assignInOrder_cons (thn (h1 pins s σ H _ _ _ I r h) λ_ s1 ⟨σ1,H1,G,y⟩=>?_);exact h2 pins s1 σ1 H1 _ _ Q G i y
def gTup (K:aq) (n:Nat) (t:TGs):TG:=λv σ H Q=>∃ a xs,v=.ref a/\SqT K H a xs/\xs.length=n/\t xs σ H Q
theorem eZg {es:List Expr} {k:Nat} {t:TGs} {n:Nat} (hc:X.calm=true) (h:PGs X es t)
  (hn:(fm es X.env).length=n:=by rfl) (hst:(fm es X.env).findIdx? (·.1)=none:=by rfl):PG X (.Tuple es k pos) (gTup X.K n t):=by
 intro pins s σ H v u Q I r hw;obtain⟨a,xs,O,L,hl,hw⟩:=hw;subst O;cases r;obtain⟨y,i,G,Y⟩:=I.tuple L;refine assign_Tuple_tuple (I.ok.hd hc) G (by simp[hn,<- hl,i.length]) hst λh' B=>?_
 have U:Inv X pins σ H { s with heap:=h' }:=I.kept (t':=s.toks) λb o e=>B b o (aG (aw e)) e
 exact h pins _ σ H xs _ Q U (by simpa using i) hw
def gSub (to ti:TE) (t:TSet):TG:=λv σ H Q=>to σ H λo H1=>ti σ H1 λi H2=>t o i v H2 λH3=>Q σ H3
theorem fX4 {o i:Expr} {to ti:TE} {t:TSet} (ho:PE X o to) (hi:PE X i ti) (hs:PSet X t)
  (ha:∀ v,kb (.Subscript o i pos) X.env v=(do
   let ov <- dX [v] (eval o X.env)
   let iv <- dX [v,ov] (eval i X.env)
   fu pos
   dX [v,ov,iv] (setItem ov iv v)
   release [v,ov,iv] []):=by intro _;rfl):PG X (.Subscript o i pos) (gSub to ti t):=by
 intro pins s σ H v u Q I r h;rw[ha];refine ad (bF (thn (ho pins s σ H _ I h) λov s1 ⟨x,H1,I1,G,U⟩=>?_));refine ad (bF (thn (hi pins s1 σ H1 _ I1 U) λiv s2 ⟨y,H2,Z,B,O⟩=>?_));refine ad (iz (ad (bF (thn (hs pins s2 σ H2 x y v ov iv u _ Z G B r O) λ_ s3 ⟨H3,Y,L⟩=>?_))));exact wpAny_release ⟨σ,H3,Y,L⟩
def tAsg (te:TE) (g:TG):TS:=λD σ H=>te σ H λx H1=>g x σ H1 D.nx
theorem fX5 {tg e:Expr} {te:TE} {g:TG} (he:PE X e te) (hg:PG X tg g) (hs:swapsWithSole [tg] e pos.line X.env=pure false:=by rfl) (hw:swappedStores [tg] e X.env=pure none:=by rfl)
  (h1:(fm [tg] X.env).map (·.2)=[kb tg X.env]:=by rfl):PS X (.Assign [tg] e pos) (tAsg te g):=by
 intro pins s σ H D I h;refine wpAny_Assign_stores (thn (he pins s σ H _ I h) λv s1 ⟨x,H1,B,i,y⟩=>?_) hs hw;rw[h1];exact thn (hg pins s1 σ H1 x v _ B i y) λ_ s2 q=>q
theorem fX6 {i:Nat} {x:Str} {e:Expr} {te:TE} {pos':Pos} (hN:X.N.Nodup) (hi:X.N[i]?=some x) (hx:Loc X.env.scope x) (he:PE X e te) (hs:gc e (some (.Name x pos')) pos.line X.env=pure false:=by rfl) (hf:X.fn x=true\/X.env.scope.names.lookup x=some .local:=by first | exact .inl rfl | exact .inr rfl | assumption) :
  PS X (.Assign [.Name x pos'] e pos) (tAsg te (cQm i)):=by
 intro pins s σ H D I h;refine wpAny_Assign_Name (thn (he pins s σ H _ I h) λv s1 ⟨y,H1,O,B,G⟩=>?_) hs;exact store_ok O hN hi hx B (λs2 L=>⟨_,H1,L,G⟩) hf
end
section
variable {X:Cx} {pos:Pos}
def fX7 (c:TT) (tb:TS):TS:=λD σ H=>∃ W:Nat->St->Hp->Prop,(∃ m,W m σ H)/\∀ m σ H,W m σ H ->
 c σ H λb H1=>if b=true then ∃ N:St->Hp->Prop,(∀ σ' H',N σ' H'->∃ m',m' < m/\W m' σ' H')/\tb { D with nx:=N,ct:=N,bk:=D.nx } σ H1 else D.nx σ H1
theorem dJj {c:Expr} {body:List Stmt} {tc:TT} {tb:TS} (hp:PassesOwn (az X.prog X.w) X.A X.env X.xe) (hc:PT X c tc) (hb:PSs X body tb):PS X (.While c body [] pos) (fX7 tc tb):=by
 intro pins s σ H D I h;obtain⟨W,⟨m0,w0⟩,turn⟩:=h;refine wpAny_While (codeAny_whileLoop (λn s'=>∃ σ' H',Inv X pins σ' H' s'/\W n σ' H') ?_ m0 ⟨σ,H,I,w0⟩);rintro n s1 ⟨σ1,H1,I1,w1⟩;refine eU hp (thn (hc pins s1 σ1 H1 _ I1 (turn n σ1 H1 w1)) λb s2 ⟨H2,Z,B⟩=>?_);cases b with
 | true =>
  obtain⟨N,Y,B⟩:=B;rw[if_pos rfl];refine eU hp (thn (hb pins s2 σ1 H2 _ Z B) λf s3 y=>?_);cases f with
  | next =>
   obtain⟨σ3,i,U,L⟩:=y;obtain⟨O,hm,G⟩:=Y σ3 i L;exact⟨O,hm,σ3,i,U,G⟩
  | cont =>
   obtain⟨σ3,i,U,L⟩:=y;obtain⟨O,hm,G⟩:=Y σ3 i L;exact⟨O,hm,σ3,i,U,G⟩
  | brk=>exact y
  | ret v=>exact y
 | false =>
  rw[if_neg bo];exact dq ⟨σ1,H2,Z,B⟩
end
structure It where
 go:Nat->Hp->Prop
 yld:Nat->Hp->V->Hp->Prop
 stop:Nat->Hp->Prop
def FpOk (X:Cx) (pins:List (Addr × Obj)) (H:Hp) (b:Addr):Prop :=
 H b=none/\b≠X.env.locals/\b∉X.fs/\(b∈X.ex\/X.s₀.heap.objs.size<=b)/\(∀ x c,X.env.cells.lookup x=some c->c≠b)/\∀ p∈X.pn++pins,p.1≠b
theorem Inv.fpOk {X:Cx} {pins:List (Addr × Obj)} {σ:St} {H H':Hp} {s:ai} {b:Addr} (I:Inv X pins σ H s) (hb:s.heap.objs.size<=b) (hn:H' b=none):FpOk X pins H' b:=by
 refine⟨hn,dD (aT I.lt hb),I.nofs hb,.inr (bc I.sz hb),λx c e z=>?_,λp hp z=>?_⟩
 ·obtain⟨v,q⟩:=I.cell x c e;exact absurd (aT q.lt (by rw[z];exact hb)) (cE _)
 ·exact absurd (aT (aw (I.pin p hp).1) (by rw[z];exact hb)) (cE _)
structure Turn (P:aC) (w:aH) (K:aq) (tg:Expr) (J:It) (fp:List Addr) (it:Addr) (tn:Nat->aO->Prop):Prop where
 mem:it∈fp
 obj:∀ i h,tn i h->∀ b∈fp,∃ o,h.get? b=some o/\∀ v,o.data≠.cell v
 keep:∀ i h h',tn i h->(∀ b∈fp,∀ o,h.get? b=some o->h'.get? b=some o)->tn i h'
 item:∀ (X:Cx),X.prog=P->X.w=w->X.K=K->X.calm=true->∀ (i:Nat) (pins:List (Addr × Obj)) (s:ai) (σ:St) (H:Hp) (E:ae->ai->Prop),Inv X pins σ H s->(∀ b∈fp,FpOk X pins H b)->tn i s.heap->J.go i H ->
  ay (az P w) X.A (eP (.ref it)) (λr s1=>∃ u,r=some u /\
   ay (az P w) X.A (fF tg (.ref it) u) (λ_ s2=>∃ x H',Inv X pins σ H' s2/\RelV x u/\J.yld i H x H'/\tn (i + 1) s2.heap/\∀ b∈fp,H' b=none) E s1) E s
 done:∀ (X:Cx),X.prog=P->X.w=w->X.K=K->X.calm=true->∀ (i:Nat) (pins:List (Addr × Obj)) (s:ai) (σ:St) (H:Hp) (E:ae->ai->Prop),Inv X pins σ H s->(∀ b∈fp,FpOk X pins H b)->tn i s.heap->J.stop i H ->
  ay (az P w) X.A (eP (.ref it)) (λr s1=>r=none/\Inv X pins σ H s1) E s
 self:∀ (A:aQ) (i:Nat) (s:ai) (Q:ae->ai->Prop) (E:ae->ai->Prop),tn i s.heap->Q (.ref it) s->ay (az P w) A (jJ (.ref it)) Q E s
abbrev TI:=St->Hp->(It->Hp->Prop)->Prop
def PIE (X:Cx) (pins:List (Addr × Obj)) (σ:St) (tg:Expr) (R:It->Hp->Prop) (itv:ae) (s2:ai):Prop :=
 ∃ (it:Addr) (fp:List Addr) (tn:Nat->aO->Prop) (J:It) (H':Hp),itv=.ref it/\Inv X pins σ H' s2/\Turn X.prog X.w X.K tg J fp it tn/\tn 0 s2.heap/\(∀ b∈fp,FpOk X pins H' b)/\R J H'
def PI (X:Cx) (tg iter:Expr) (wi:TI):Prop :=
 ∀ (pins:List (Addr × Obj)) (s:ai) (σ:St) (H:Hp) (R:It->Hp->Prop),Inv X pins σ H s->wi σ H R ->
  ay (az X.prog X.w) X.A (eval iter X.env) (λv s1=>ay (az X.prog X.w) X.A (jJ v) (PIE X pins σ tg R) X.xe s1) X.xe s
theorem eXr {M:Model} {A:aQ} {E:ae -> ai -> Prop} {s:ai} {tg:Expr} {it:Addr} {u:ae} {o:Obj} {n:String} {vs:Array ae} {Q:Unit -> ai -> Prop} (ho:s.heap.get? it=some o) (hc:o.cls=.type n) (hd:o.data=.fields vs)
    (hn:["enumerate", "zip", "dict_itemiterator", "dict_reverseitemiterator", "odict_iterator", "itertools.zip_longest", "itertools.pairwise"].contains n=false) (hQ:Q () s):ay M A (fF tg (.ref it) u) Q E s:=by
  unfold fF;cases tg <;> first
    | exact af hQ
    | (cases u <;> first
        | exact af hQ
        | (refine ad (wpAny_load ho ?_)
           rw [hc,hd];show ay M A (if (["enumerate", "zip", "dict_itemiterator", "dict_reverseitemiterator", "odict_iterator", "itertools.zip_longest", "itertools.pairwise"].contains n && vs[0]? == some (eG _))=true then _ else _) Q E s
           rw [if_neg (by intro h; rw [hn, Bool.false_and] at h; cases h)]
           exact af hQ))
def Itl (K:aq) (a:Addr):It :=
 ⟨λi H=>∃ xs x,SqL K H a xs/\xs[i]?=some x,λi H x H'=>H'=H/\∀ xs,SqL K H a xs->xs[i]?=some x,λi H=>∃ xs,SqL K H a xs/\xs.length<=i⟩
def Itt (K:aq) (a:Addr):It :=
 ⟨λi H=>∃ xs x,SqT K H a xs/\xs[i]?=some x,λi H x H'=>H'=H/\∀ xs,SqT K H a xs->xs[i]?=some x,λi H=>∃ xs,SqT K H a xs/\xs.length<=i⟩
def Itr (lo:Int) (n:Nat):It:=⟨λi _=>i < n,λi H x H'=>H'=H/\x=.int (lo + i),λi _=>n<=i⟩
theorem cJz {P:aC} {w:aH} {K:aq} {tg:Expr} (a it:Addr):Turn P w K tg (Itl K a) [it] it (λi h=>h.IsListIter it a i) where
 mem:=by simp
 obj:=λi h st b y=>by
  have e:b=it:=by simpa using y
  subst e;obtain⟨o,e,c,d⟩:=st;exact⟨o,e,λv z=>by rw[d] at z;cases z⟩
 keep:=λi h h' st k=>st.at λo e=>k it (by simp) o e
 item:=by
  intro X Z hw hK hc i pins s σ H E I hf st Y;subst Z hw hK;obtain⟨xs,x,G,U⟩:=Y;obtain⟨O,L,p,hz⟩:=I.list G;obtain⟨u,hu,ru⟩:=L.get U;obtain⟨f0,f1,f2,f3,f4,f5⟩:=hf it (by simp)
  refine wpAny_pyNext_list_item st p.isList (x:=u) (by simpa using hu) λh' B sb=>?_
  have I1:Inv X pins σ H { s with heap:=h' }:=I.turned (t':=s.toks) (λb o y e=>(sb.2 b y).trans e) f0 f1 f3 f4 f5
  obtain⟨o,e,c,d⟩:=id B;exact⟨u,rfl,eXr (s:={ s with heap:=h' }) e c d (by decide) ⟨x,H,I1,ru,⟨rfl,λys hy=>by rw[I.list_inj hy G];exact U⟩,B,λb y=>(hf b y).1⟩⟩
 done:=by
  intro X Z hw hK hc i pins s σ H E I hf st Y;subst Z hw hK;obtain⟨xs,G,U⟩:=Y;obtain⟨O,L,p,hz⟩:=I.list G;obtain⟨f0,f1,f2,f3,f4,f5⟩:=hf it (by simp)
  have hl:=L.length;exact wpAny_pyNext_list_end (I.ok.hd hc) st p.isList (by simp;omega) λh' eb=>⟨rfl,I.turned (t':=s.toks) (λb o y e=>eb b o y e) f0 f1 f3 f4 f5⟩
 self:=λ_ _ _ _ _ st h=>wpAny_pyIter_listiter st h
theorem cXz {P:aC} {w:aH} {K:aq} {tg:Expr} (a it:Addr):Turn P w K tg (Itt K a) [it] it (λi h=>h.IsTupleIter it a i) where
 mem:=by simp
 obj:=λi h st b B=>by
  have e:b=it:=by simpa using B
  subst e;obtain⟨o,e,c,d⟩:=st;exact⟨o,e,λv z=>by rw[d] at z;cases z⟩
 keep:=λi h h' st k=>st.at λo e=>k it (by simp) o e
 item:=by
  intro X Z hw hK hc i pins s σ H E I hf st Y;subst Z hw hK;obtain⟨xs,x,L,U⟩:=Y;obtain⟨y,O,p,hz⟩:=I.tuple L;obtain⟨u,hu,ru⟩:=O.get U;obtain⟨f0,f1,f2,f3,f4,f5⟩:=hf it (by simp)
  refine wpAny_pyNext_tuple_item st (show s.heap.IsTuple a y.toArray from p) (x:=u) (by simpa using hu) λh' G sb=>?_
  have I1:Inv X pins σ H { s with heap:=h' }:=I.turned (t':=s.toks) (λb o B e=>(sb.2 b B).trans e) f0 f1 f3 f4 f5
  obtain⟨o,e,c,d⟩:=id G;exact⟨u,rfl,eXr (s:={ s with heap:=h' }) e c d (by decide) ⟨x,H,I1,ru,⟨rfl,λys hy=>by rw[I.tuple_inj hy L];exact U⟩,G,λb B=>(hf b B).1⟩⟩
 done:=by
  intro X Z hw hK hc i pins s σ H E I hf st Y;subst Z hw hK;obtain⟨xs,L,U⟩:=Y;obtain⟨y,O,p,hz⟩:=I.tuple L;obtain⟨f0,f1,f2,f3,f4,f5⟩:=hf it (by simp)
  have hl:=O.length;exact wpAny_pyNext_tuple_end (I.ok.hd hc) st (show s.heap.IsTuple a y.toArray from p) (by simp;omega) λh' eb=>⟨rfl,I.turned (t':=s.toks) (λb o B e=>eb b o B e) f0 f1 f3 f4 f5⟩
 self:=λ_ _ _ _ _ st h=>wpAny_pyIter_tupleiter st h
theorem cJ0 {P:aC} {w:aH} {K:aq} {tg:Expr} (it:Addr) (lo:Int) (n:Nat):Turn P w K tg (Itr lo n) [it] it (λi h=>IsRangeIter h it (lo + (i:Nat) * 1) ((n:Int) - (i:Nat)) 1) where
 mem:=by simp
 obj:=λi h st b y=>by
  have e:b=it:=by simpa using y
  subst e;exact⟨_,st,λv z=>by
   have z':Data.fields _=Data.cell v:=z;cases z'⟩
 keep:=λi h h' st k=>k it (by simp) _ st
 item:=by
  intro X O hw U L i pins s σ H E I hf st G;subst O hw U;obtain⟨f0,f1,f2,Y,f4,f5⟩:=hf it (by simp)
  have W:=Walks.range (prog:=X.prog) (w:=X.w) (I.ok.hd L) it lo 1 n;refine W.item i s _ _ G st λv h' Z hv B kk=>?_;obtain⟨t,rfl⟩:=hv;have I1:Inv X pins σ H { s with heap:=h',toks:=Z }:=I.turned (λb o y e=>kk b o (by simpa using y) e) f0 f1 Y f4 f5
  refine⟨_,rfl,eXr (s:={ s with heap:=h',toks:=Z }) (n:="range_iterator") B rfl rfl (by decide) ⟨.int (lo + i),H,I1,⟨t,?_⟩,⟨rfl,rfl⟩,B,λb y=>(hf b y).1⟩⟩
  rw[Int.mul_one]
 done:=by
  intro X O hw U L i pins s σ H E I hf st G;subst O hw U;obtain⟨f0,f1,f2,Y,f4,f5⟩:=hf it (by simp)
  exact wpAny_pyNext_range_end (I.ok.hd L) st (by have:n<=i:=G;omega) λh' eb=>⟨rfl,I.turned (t':=s.toks) (λb o y e=>eb b o y e) f0 f1 Y f4 f5⟩
 self:=λ_ _ _ _ _ st h=>wpAny_pyIter_rangeiter st h
section
variable {X:Cx} {tg:Expr}
theorem cZj {pins:List (Addr × Obj)} {σ:St} {H:Hp} {s:ai} {R:It->Hp->Prop} {E:ae->ai->Prop} {lo hi:Int} {t u v:Tok} {tk:Nat} (I:Inv X pins σ H s) (h1:-(2 ^ 62)<=lo) (h2:lo < 2 ^ 62) (h3:-(2 ^ 62)<=hi) (h4:hi < 2 ^ 62)
  (q:R (Itr lo (hi - lo).toNat) H):ay (az X.prog X.w) X.A (jJ (.ref s.heap.objs.size)) (PIE X pins σ tg R) E { s with heap:=s.heap.push { cls:=.type "range",data:=.fields #[.int lo t,.int hi u,.int 1 v] },toks:=tk }:=by
 refine wpAny_pyIter_range (IsRange.new ..) (small_one h1 h2 h3 h4) ?_;have i:Inv X pins σ H { s with heap:=s.heap.push { cls:=.type "range",data:=.fields #[.int lo t,.int hi u,.int 1 v] },toks:=tk }:=I.kept λb o e=>ag _ e
 refine⟨(s.heap.push { cls:=.type "range",data:=.fields #[.int lo t,.int hi u,.int 1 v] }).objs.size,[(s.heap.push { cls:=.type "range",data:=.fields #[.int lo t,.int hi u,.int 1 v] }).objs.size],_,_,H,rfl,
  i.kept (t':=tk) λb o e=>ag _ e,cJ0 _ lo (hi - lo).toNat,?_,λb y=>?_,q⟩
 ·have B:lo + ((0:Nat):Int) * 1=lo:=by simp
  have e2:(((hi - lo).toNat:Nat):Int) - ((0:Nat):Int)=cu.Range.rangeSize lo hi 1:=by rw[rangeSize_one];split <;> omega
  show IsRangeIter _ _ (lo + ((0:Nat):Int) * 1) ((((hi - lo).toNat:Nat):Int) - ((0:Nat):Int)) 1;rw[B,e2];exact av _ rfl
 ·have e:b=(s.heap.push { cls:=.type "range",data:=.fields #[.int lo t,.int hi u,.int 1 v] }).objs.size:=by simpa using y
  subst e;exact i.fpOk (au _) (i.hok.fresh (au _))
def gZq (ta:TA):TI:=fun σ H R=>ta σ H λvs H1=>∃ j:Int,vs=[.int j]/\-(2 ^ 62)<=j/\j < 2 ^ 62/\R (Itr 0 j.toNat) H1
def gZr (ta:TA):TI:=fun σ H R=>ta σ H λvs H1=>∃ i j:Int,vs=[.int i,.int j]/\(-(2 ^ 62)<=i/\i < 2 ^ 62/\-(2 ^ 62)<=j/\j < 2 ^ 62)/\R (Itr i (j - i).toNat) H1
theorem dQ0 {a:Expr} {ta:TA} {p pos:Pos} (hg:Gl X "range") (hm:X.mg "range"=none) (ha:PA X [a] ta) (hs:am [a] X.env=[(false,eval a X.env)]:=by rfl):PI X tg (.Call (.Name "range" p) [a] [] pos) (gZq ta):=by
 intro pins s σ H R I h;refine Call_ (ld_blt I hg hm boot_range (dz (thn (ha pos pins s σ H _ I h) λus s1 ⟨vs,H1,B,r1,i⟩=>?_) hs rfl));obtain⟨j,e,i,y,q⟩:=i;subst e;cases r1 with
 | cons r rr =>
  cases rr;obtain⟨t,rfl⟩:=r;exact call_range_1 (cZj B (by omega) (by omega) i y (by simpa using q))
theorem dQ1 {a b:Expr} {ta:TA} {p pos:Pos} (hg:Gl X "range") (hm:X.mg "range"=none) (ha:PA X [a,b] ta) (hs:am [a,b] X.env=[(false,eval a X.env),(false,eval b X.env)]:=by rfl) (hs2:am [b] X.env=[(false,eval b X.env)]:=by rfl) :
  PI X tg (.Call (.Name "range" p) [a,b] [] pos) (gZr ta):=by
 intro pins s σ H R I h;refine Call_ (ld_blt I hg hm boot_range (dz (thn (ha pos pins s σ H _ I h) λus s1 ⟨vs,H1,U,r1,y⟩=>?_) (by rw[hs,hs2]) (by rw[hs2];rfl)))
 obtain⟨i,j,e,⟨y,O,L,G⟩,q⟩:=y;subst e;cases r1 with
 | cons r rr =>
  cases rr with
  | cons B rr =>
   cases rr;obtain⟨t,rfl⟩:=r;obtain⟨Y,rfl⟩:=B;exact call_range_2 (cZj U y O L G q)
def tFor (wi:TI) (g:TG) (tb:TS):TS:=λD σ H=>wi σ H λJ H1=>∃ W:Nat->Nat->St->Hp->Prop,(∃ m,W 0 m σ H1)/\∀ i m σ H,W i m σ H ->
 (J.stop i H/\D.nx σ H)\/(J.go i H/\∃ N:St->Hp->Prop,(∀ σ' H',N σ' H'->∃ m',m' < m/\W (i + 1) m' σ' H')/\∀ x H',J.yld i H x H'->g x σ H' fun σ2 H2=>tb { D with nx:=N,ct:=N,bk:=D.nx } σ2 H2)
def bJo (fp:List Addr) (h:aO):List (Addr × Obj):=fp.filterMap λb=>(h.get? b).map λo=>(b,o)
theorem aXr {fp:List Addr} {h:aO} {b:Addr} {o:Obj} (hb:b∈fp) (e:h.get? b=some o):(b,o)∈bJo fp h:=du.mpr ⟨b,hb,by rw[e];rfl⟩
theorem dQ2 {fp:List Addr} {h:aO} {p:Addr × Obj} (hp:p∈bJo fp h):p.1∈fp/\h.get? p.1=some p.2:=by
 obtain⟨b,i,e⟩:=du.mp hp;cases q:h.get? b with
 | none=>rw[q] at e;cases e
 | some o =>
  rw[q] at e;have y:(b,o)=p:=aK e;subst y;exact⟨i,q⟩
theorem Inv.pinned {pins:List (Addr × Obj)} {σ:St} {H:Hp} {s:ai} {fp:List Addr} (I:Inv X pins σ H s) (hf:∀ b∈fp,FpOk X pins H b) (ho:∀ b∈fp,∃ o,s.heap.get? b=some o/\∀ v,o.data≠.cell v):Inv X (pins++bJo fp s.heap) σ H s :=
 I.pins_of λp hp=>(aW.mp hp).elim (λz=>I.pin p (aS _ z)) λz=>by
  obtain⟨i,e⟩:=dQ2 z;obtain⟨f0,f1,f2,_⟩:=hf p.1 i;obtain⟨o,e',d⟩:=ho p.1 i;rw[e] at e';cases e';exact⟨e,f0,f1,f2,d⟩
theorem Inv.unpinned {pins pl:List (Addr × Obj)} {σ:St} {H:Hp} {s:ai} (I:Inv X (pins++pl) σ H s):Inv X pins σ H s:=I.pins_of λp hp=>I.pin p (aS _ (bh _ hp))
theorem fX8 {iter:Expr} {body:List Stmt} {wi:TI} {g:TG} {tb:TS} {pos:Pos} (hp:PassesOwn (az X.prog X.w) X.A X.env X.xe) (hc:X.calm=true) (hi:PI X tg iter wi) (hg:PG X tg g) (hb:PSs X body tb)
  (hs:∀ x,db iter X.env x=pure x:=by intro _;rfl):PS X (.For tg iter body [] pos) (tFor wi g tb):=by
 intro pins s σ H D I h;refine wpAny_For (thn (hi pins s σ H _ I h) λv s1 h1=>thn h1 λitv s2 h2=>?_) hs;obtain⟨it,fp,tn,J,H2,e,I2,T,st2,f2,W,⟨m0,w0⟩,turn⟩:=h2;subst e;have y:∀ {H':Hp},(∀ b∈fp,H' b=none)->∀ b∈fp,FpOk X pins H' b:=λhn b hb=>⟨hn b hb,(f2 b hb).2⟩;refine codeAny_forLoop_any (λn s'=>∃ i σ' H',Inv X pins σ' H' s'/\tn i s'.heap/\(∀ b∈fp,H' b=none)/\W i n σ' H') ?_ m0 ⟨0,σ,H2,I2,st2,λb hb=>(f2 b hb).1,w0⟩;rintro n s3 ⟨i,σ3,H3,I3,U,Z,w3⟩;rcases turn i n σ3 H3 w3 with⟨stop,qn⟩ | ⟨go,N,hN,step⟩
 ·refine eU hp (thn (T.done X rfl rfl rfl hc i pins s3 σ3 H3 X.xe I3 (y Z) U stop) λr s4 ⟨hr,I4⟩=>?_);subst hr;exact dq ⟨σ3,H3,I4,qn⟩
 ·refine eU hp (thn (T.item X rfl rfl rfl hc i pins s3 σ3 H3 X.xe I3 (y Z) U go) λr s4 ⟨u,hr,h4⟩=>?_);subst hr;refine eU hp (thn h4 λ_ s5 ⟨x,H5,I5,r5,y5,O,fr5⟩=>?_);have I5':=I5.pinned (y fr5) (T.obj _ _ O);refine eU hp (thn (hg _ s5 σ3 H5 x u _ I5' r5 (step x H5 y5)) λ_ s6 ⟨σ6,H6,I6,q6⟩=>?_);refine eU hp (thn (hb _ s6 σ6 H6 _ I6 q6) λf s7 L=>?_);have again:∀ {σ7:St} {G:Hp},Inv X (pins++bJo fp s5.heap) σ7 G s7->N σ7 G->∃ m,m < n/\∃ i σ' H',Inv X pins σ' H' s7/\tn i s7.heap/\(∀ b∈fp,H' b=none)/\W i m σ' H':=λ{σ7 G} B Y=>by
   obtain⟨m',hm,w7⟩:=hN σ7 G Y;refine⟨m',hm,i + 1,σ7,G,B.unpinned,T.keep _ _ _ O λb hb o e=>(B.pin (b,o) (aS _ (aS _ (aXr hb e)))).1,λb hb=>?_,w7⟩;obtain⟨o,e,d⟩:=T.obj _ _ O b hb;exact(B.pin (b,o) (aS _ (aS _ (aXr hb e)))).2.1
  cases f with
  | next=>obtain⟨σ7,G,B,Y⟩:=L;exact again B Y
  | cont=>obtain⟨σ7,G,B,Y⟩:=L;exact again B Y
  | brk=>obtain⟨σ7,G,B,L⟩:=L;exact⟨σ7,G,B.unpinned,L⟩
  | ret v=>obtain⟨x7,σ7,G,B,r7,L⟩:=L;exact⟨x7,σ7,G,B.unpinned,r7,L⟩
end
abbrev R2:=V->V->Hp->VK->Prop
def OpR (X:Cx) (f:ae->ae->Sem ae) (r:R2):Prop :=
 ∀ (pins:List (Addr × Obj)) (s:ai) (σ:St) (H:Hp) (x y:V) (v u:ae) (Q:VK),Inv X pins σ H s->RelV x v->RelV y u->r x y H Q ->
  ay (az X.prog X.w) X.A (f v u) (EP X pins σ Q) X.xe s
def UnR (X:Cx) (f:ae->Sem ae) (r:V->Hp->VK->Prop):Prop :=
 ∀ (pins:List (Addr × Obj)) (s:ai) (σ:St) (H:Hp) (x:V) (v:ae) (Q:VK),Inv X pins σ H s->RelV x v->r x H Q ->
  ay (az X.prog X.w) X.A (f v) (EP X pins σ Q) X.xe s
def CallR (X:Cx) (f:ae) (r:List V->Hp->VK->Prop):Prop :=
 ∀ (pins:List (Addr × Obj)) (s:ai) (σ:St) (H:Hp) (xs:List V) (us:List ae) (Q:VK),Inv X pins σ H s->Vals xs us->r xs H Q ->
  ay (az X.prog X.w) X.A (call f us) (EP X pins σ Q) X.xe s
def TruR (X:Cx) (r:V->Hp->(Bool->Hp->Prop)->Prop):Prop :=
 ∀ (pins:List (Addr × Obj)) (s:ai) (σ:St) (H:Hp) (x:V) (v:ae) (Q:Bool->Hp->Prop),Inv X pins σ H s->RelV x v->r x H Q ->
  ay (az X.prog X.w) X.A (truthy v) (TP X pins σ Q) X.xe s
def tOp (r:R2) (ta tb:TE):TE:=fun σ H Q=>ta σ H λx H1=>tb σ H1 λy H2=>r x y H2 Q
def tUn (r:V->Hp->VK->Prop) (ta:TE):TE:=fun σ H Q=>ta σ H λx H1=>r x H1 Q
def rI (C:Int->Int->Prop) (g:Int->Int->V):R2:=λx y H Q=>∃ i j,x=.int i/\y=.int j/\C i j/\Q (g i j) H
def rI0 (g:Int->Int->V):R2:=λx y H Q=>∃ i j,x=.int i/\y=.int j/\Q (g i j) H
def rU (g:Int->V):V->Hp->VK->Prop:=λx H Q=>∃ i,x=.int i/\Q (g i) H
section
variable {X:Cx} {a b c:Expr} {ta tb tc:TE} {pos:Pos}
theorem binT (ha:PE X a ta) (hb:PE X b tb) {pins:List (Addr × Obj)} {s:ai} {σ:St} {H:Hp} {R:V->V->Hp->Prop} (I:Inv X pins σ H s)
  (h:ta σ H λx H1=>tb σ H1 λy H2=>R x y H2) {Q:ae->ai->Prop} {f:ae->ae->Sem ae}
  (hf:∀ v u s2 x y H2,Inv X pins σ H2 s2->RelV x v->RelV y u->R x y H2->ay (az X.prog X.w) X.A (f v u) Q X.xe s2) :
  ay (az X.prog X.w) X.A (eval a X.env) (λv s₁=>ay (az X.prog X.w) X.A (eval b X.env) (λu s₂=>ay (az X.prog X.w) X.A (f v u) Q X.xe s₂) X.xe s₁) X.xe s:=by
 refine thn (ha pins s σ H _ I h) λv s1 ⟨x,H1,U,B,L⟩=>?_;refine thn (hb pins s1 σ H1 _ U L) λu s2 ⟨y,H2,O,i,G⟩=>?_;exact hf v u s2 x y H2 O B i G
theorem gZs {op:Operator} {r:R2} (ho:OpR X (eX op) r) (ha:PE X a ta) (hb:PE X b tb):PE X (.BinOp a op b pos) (tOp r ta tb):=by
 intro pins s σ H Q I h;exact wpAny_BinOp (binT ha hb I h λv u s2 x y H2 G B i q=>ho pins s2 σ H2 x y v u Q G B i q)
theorem fX9 {op:UnaryOp} {r:V->Hp->VK->Prop} (ho:UnR X (unaryOp op) r) (ha:PE X a ta):PE X (.UnaryOp op a pos) (tUn r ta):=by
 intro pins s σ H Q I h;exact UnaryOp_ (thn (ha pins s σ H _ I h) λv s1 ⟨x,H1,B,i,y⟩=>ho pins s1 σ H1 x v Q B i y)
theorem opI {f:ae->ae->Sem ae} {C:Int->Int->Prop} {g:Int->Int->Int}
  (rule:∀ (i j:Int) (t u:Tok) (s:ai) (Q:ae->ai->Prop) (E:ae->ai->Prop),C i j->Q (.int (g i j) s.toks) { s with toks:=s.toks + 1 }->ay (az X.prog X.w) X.A (f (.int i t) (.int j u)) Q E s) :
  OpR X f (rI C λi j=>.int (g i j)):=by
 intro pins s σ H x y v u Q I L G h;obtain⟨i,j,rfl,rfl,O,q⟩:=h;obtain⟨t,rfl⟩:=L;obtain⟨B,rfl⟩:=G;exact rule i j t B s _ _ O ⟨.int (g i j),H,I.tok _,⟨_,rfl⟩,q⟩
theorem opI0 {f:ae->ae->Sem ae} {g:Int->Int->Int}
  (rule:∀ (i j:Int) (t u:Tok) (s:ai) (Q:ae->ai->Prop) (E:ae->ai->Prop),Q (.int (g i j) s.toks) { s with toks:=s.toks + 1 }->ay (az X.prog X.w) X.A (f (.int i t) (.int j u)) Q E s) :
  OpR X f (rI0 λi j=>.int (g i j)):=by
 intro pins s σ H x y v u Q I L G h;obtain⟨i,j,rfl,rfl,q⟩:=h;obtain⟨t,rfl⟩:=L;obtain⟨B,rfl⟩:=G;exact rule i j t B s _ _ ⟨.int (g i j),H,I.tok _,⟨_,rfl⟩,q⟩
theorem opB0 {f:ae->ae->Sem ae} {g:Int->Int->Bool}
  (rule:∀ (i j:Int) (t u:Tok) (s:ai) (Q:ae->ai->Prop) (E:ae->ai->Prop),Q (.bool (g i j)) s->ay (az X.prog X.w) X.A (f (.int i t) (.int j u)) Q E s) :
  OpR X f (rI0 λi j=>.bl (g i j)):=by
 intro pins s σ H x y v u Q I L G h;obtain⟨i,j,rfl,rfl,q⟩:=h;obtain⟨t,rfl⟩:=L;obtain⟨B,rfl⟩:=G;exact rule i j t B s _ _ ⟨.bl (g i j),H,I,rfl,q⟩
def CDiv (i j:Int):Prop:=0 < j/\j < 1073741824
def CMul (i j:Int):Prop:=(-(2 ^ 64) < i/\i < 2 ^ 64)\/(-(2 ^ 64) < j/\j < 2 ^ 64)
theorem CMul.ok {i j:Int} (h:CMul i j):IntMulOk i j:=by
 rcases h with⟨h1,h2⟩ | ⟨h1,h2⟩
 ·exact .of_left (intBits_le_64 h1 h2)
 ·exact .of_right (intBits_le_64 h1 h2)
theorem op_add:OpR X (eX .Add) (rI0 λi j=>.int (i + j)):=opI0 λ_ _ _ _ _ _ _ q=>add_int q
theorem fXa:OpR X (eX .Sub) (rI0 λi j=>.int (i - j)):=opI0 λ_ _ _ _ _ _ _ q=>sub_int q
theorem fXb:OpR X (eX .Mult) (rI CMul λi j=>.int (i * j)):=opI λ_ _ _ _ _ _ _ y q=>mul_int q y.ok
theorem eXs:OpR X (eX .FloorDiv) (rI CDiv λi j=>.int (i / j)):=opI λi j _ _ _ _ _ y q=>by
 have h1:(0:Int) < j:=y.1;have h2:j < 1073741824:=y.2;exact floordiv_int (by omega) (by rw[Int.fdiv_eq_ediv_of_nonneg i (by omega)];exact q) (.inl (PyProof.noPylong_small (by omega)))
theorem fXc:OpR X (eX .Mod) (rI (λ_ j=>0 < j) λi j=>.int (i % j)):=opI λi j _ _ _ _ _ y q=>by
 have h1:(0:Int) < j:=y;exact mod_int' (by omega) (by rw[Int.fmod_eq_emod_of_nonneg i (by omega)];exact q)
theorem unI {f:ae->Sem ae} {g:Int->Int}
  (rule:∀ (i:Int) (t:Tok) (s:ai) (Q:ae->ai->Prop) (E:ae->ai->Prop),Q (.int (g i) s.toks) { s with toks:=s.toks + 1 }->ay (az X.prog X.w) X.A (f (.int i t)) Q E s) :
  UnR X f (rU λi=>.int (g i)):=by
 intro pins s σ H x v Q I y h;obtain⟨i,rfl,q⟩:=h;obtain⟨t,rfl⟩:=y;exact rule i t s _ _ ⟨.int (g i),H,I.tok _,⟨_,rfl⟩,q⟩
theorem eZh:UnR X (unaryOp .USub) (rU λi=>.int (-i)):=unI λ_ _ _ _ _ q=>neg_int q
end
section
variable {X:Cx} {a b c:Expr} {ta tb tc:TE} {pos:Pos}
theorem dQ3 {pins:List (Addr × Obj)} {σ:St} {H:Hp} {s:ai} {Q:VK} {k k':Bool} (I:Inv X pins σ H s) (q:Q (.bl k) H) (e:k=k'):EP X pins σ Q (.bool k') s:=by
 subst e;exact⟨.bl k,H,I,rfl,q⟩
theorem op_lt:OpR X (bM .Lt) (rI0 λi j=>.bl (decide (i < j))):=opB0 λ_ _ _ _ _ _ _ q=>lt_int q
theorem gZt:OpR X (bM .LtE) (rI0 λi j=>.bl (decide (i<=j))):=opB0 λ_ _ _ _ _ _ _ q=>le_int q
theorem fXd:OpR X (bM .Gt) (rI0 λi j=>.bl (decide (j < i))):=opB0 λ_ _ _ _ _ _ _ q=>gt_int q
theorem op_lt_str:OpR X (bM .Lt) (λx y H Q=>∃ i j,x=.str i/\y=.str j/\Q (.bl (decide (i.cps.toList < j.cps.toList))) H):=by
 intro pins s σ H x y v u Q I G B h;obtain⟨i,j,rfl,rfl,q⟩:=h;obtain⟨t,rfl⟩:=G;obtain⟨L,rfl⟩:=B;exact lt_str (dQ3 I q rfl)
theorem fXe:OpR X (bM .Is) (λx y H Q=>y=.non/\Q (.bl (decide (x=.non))) H):=by
 intro pins s σ H x y v u Q I rx ry h;obtain⟨rfl,q⟩:=h;cases ry;refine is_none_gen (dQ3 I q ?_);cases x <;> first
  | (cases rx;rfl)
  | (obtain⟨t,rfl⟩:=rx;rfl)
theorem eXt:OpR X (bM .IsNot) (λx y H Q=>y=.non/\Q (.bl (!decide (x=.non))) H):=by
 intro pins s σ H x y v u Q I rx ry h;obtain⟨rfl,q⟩:=h;cases ry;refine isnot_none_gen (dQ3 I q ?_);cases x <;> first
  | (cases rx;rfl)
  | (obtain⟨t,rfl⟩:=rx;rfl)
theorem OpR.or {f:ae->ae->Sem ae} {r r':R2} (h:OpR X f r) (h':OpR X f r'):OpR X f (λx y H Q=>r x y H Q\/r' x y H Q):=by
 intro pins s σ H x y v u Q I B i q;rcases q with q | q
 ·exact h pins s σ H x y v u Q I B i q
 ·exact h' pins s σ H x y v u Q I B i q
theorem nomark (b:Expr) {op:CmpOp} (h:op≠.In:=by decide) (h2:op≠.NotIn:=by decide):dW op b=false:=by
 have i:(op == CmpOp.In)=false:=by cases op <;> first | rfl | exact absurd rfl h
 have e2:(op == CmpOp.NotIn)=false:=by cases op <;> first | rfl | exact absurd rfl h2
 cases b <;> simp[dW,i,e2]
theorem eXu {op:CmpOp} {r:R2} (ho:OpR X (bM op) r) (ha:PE X a ta) (hb:PE X b tb) (hm:dW op b=false):PE X (.Compare a [op] [b] pos) (tOp r ta tb):=by
 intro pins s σ H Q I h;exact wpAny_Compare1 (binT ha hb I h λv u s2 x y H2 G B i q=>ho pins s2 σ H2 x y v u Q G B i q) hm
def eXv (t:TE):TT:=fun σ H Q=>t σ H λx H'=>∃ k,x=.bl k/\Q k H'
theorem eXw {op:CmpOp} {r:R2} (ho:OpR X (bM op) r) (ha:PE X a ta) (hb:PE X b tb) (hm:dW op b=false):PT X (.Compare a [op] [b] pos) (eXv (tOp r ta tb)):=by
 intro pins s σ H Q I h;refine wpAny_isTrue_Compare1 (thn (ha pins s σ H _ I h) λv s1 ⟨x,H1,Z,B,O⟩=>thn (hb pins s1 σ H1 _ Z O) λu s2 ⟨y,H2,Y,i,L⟩ =>
  thn (ho pins s2 σ H2 x y v u _ Y B i L) λc s3 ⟨z,H3,U,r3,k,e,G⟩=>?_) hm
 subst e;cases r3;exact da ⟨H3,U,G⟩
def eZi (r r':R2) (ta tb tc:TE):TE:=fun σ H Q=>ta σ H λx H1=>tb σ H1 λy H2=>r x y H2 λz H3=>∃ k,z=.bl k /\
 (if k=true then tc σ H3 λw' H4=>r' y w' H4 Q else Q (.bl false) H3)
theorem dJk {op op':CmpOp} {r r':R2} (ho:OpR X (bM op) r) (ho':OpR X (bM op') r') (ha:PE X a ta) (hb:PE X b tb) (hc:PE X c tc)
  (hm:lastMarks [op,op'] [b,c]=false:=by with_unfolding_all rfl):PT X (.Compare a [op,op'] [b,c] pos) (eXv (eZi r r' ta tb tc)):=by
 intro pins s σ H Q I h;refine isTrue_chain (thn (ha pins s σ H _ I h) λv s1 ⟨x,H1,I1,Z,q1⟩=>test_link (thn (hb pins s1 σ H1 _ I1 q1) λu s2 ⟨y,H2,I2,i,q2⟩ =>
  thn (ho pins s2 σ H2 x y v u _ I2 Z i q2) λd s3 ⟨z,L,G,r3,k,e,B⟩=>?_)) hm
 subst e;cases r3;refine da ?_;cases k with
 | false =>
  obtain⟨k',e',q'⟩:=B;cases e';exact ite_ff ⟨L,G,q'⟩
 | true =>
  refine ite_tt (test_last (thn (hc pins s3 σ L _ G B) λU s4 ⟨O,H4,I4,Y,q4⟩=>thn (ho' pins s4 σ H4 y O u U _ I4 i Y q4) λd' s5 ⟨z2,H5,I5,r5,k2,e2,q5⟩=>?_));subst e2;cases r5;exact da ⟨H5,I5,q5⟩
def TruV (K:aq) (x:V) (H:Hp) (k:Bool):Prop :=
 match x with
 | .non=>k=false
 | .bl b=>k=b
 | .int i=>k=(i != 0)
 | .str y=>y.length<=sizeLine/\k=((y.length:Int) != 0)
 | .byt y=>y.size<=sizeLine/\k=((y.size:Int) != 0)
 | .ref p=>(∃ xs,SqL K H p xs/\k=!xs.isEmpty)\/(∃ xs,SqT K H p xs/\k=!xs.isEmpty)\/∃ kvs,H p=some (.dK kvs)/\k=!kvs.isEmpty
 | _=>False
theorem cJ1 {κ:Type} {kvs:List (κ × V)} {vs:List (κ × ae)} (r:KV kvs vs):(!vs.isEmpty)=!kvs.isEmpty:=by
 cases r <;> rfl
theorem bX5 {xs:List V} {its:List ae} (r:Vals xs its):(!its.toArray.isEmpty)=!xs.isEmpty:=by
 cases r <;> simp
theorem bX6:(sizeLine:Nat) < 2 ^ 63:=by rw[bD];decide
theorem fXf:TruR X (λx H Q=>∃ k,TruV X.K x H k/\Q k H):=by
 intro pins s σ H x v Q I rx h;obtain⟨k,e,q⟩:=h;have hl:=bX6;have Z:sizeLine=16777216:=bD;cases x with
 | non =>
  cases rx;have B:k=false:=e;subst B;exact truthy_none ⟨H,I,q⟩
 | bl b =>
  cases rx;have B:k=b:=e;subst B;exact da ⟨H,I,q⟩
 | int i =>
  obtain⟨t,rfl⟩:=rx;have B:k=(i != 0):=e;subst B;exact PySem.P.truthy_int ⟨H,I,q⟩
 | str y =>
  obtain⟨t,rfl⟩:=rx;obtain⟨U,B⟩:y.length<=sizeLine/\k=((y.length:Int) != 0):=e;subst B;exact PySem.P.truthy_str (by omega) ⟨H,I.tok _,q⟩
 | byt y =>
  obtain⟨t,rfl⟩:=rx;obtain⟨U,B⟩:y.size<=sizeLine/\k=((y.size:Int) != 0):=e;subst B;exact PySem.W.truthy_bytes (by omega) ⟨H,I.tok _,q⟩
 | ref p =>
  cases rx;have B:(∃ xs,SqL X.K H p xs/\k=!xs.isEmpty)\/(∃ xs,SqT X.K H p xs/\k=!xs.isEmpty)\/∃ kvs,H p=some (.dK kvs)/\k=!kvs.isEmpty:=e;rcases B with⟨xs,G,B⟩ | ⟨xs,G,B⟩ | ⟨kvs,G,B⟩
  ·subst B;obtain⟨L,r,pl,O⟩:=I.list G;have hlen:=r.length;exact wpAny_truthy_list pl.isList (by simp only[ar];omega) ⟨H,I.tok _,by rw[bX5 r];exact q⟩
  ·subst B;obtain⟨L,r,pl,O⟩:=I.tuple G;have hlen:=r.length;exact truthy_tuple pl (by simp only[ar];omega) ⟨H,I.tok _,by rw[bX5 r];exact q⟩
  ·subst B;obtain⟨O,Y,vs,r,m⟩:kvs.length<=sizeLine/\(p == sysModules)=false/\∃ vs,KV kvs vs/\s.heap.DictOf (bQq X.prog X.w) p vs:=I.hok p _ G;have hlen:kvs.length=vs.length:=b7 r;exact wpAny_truthy_dict Y m (by omega) ⟨H,I.tok _,by rw[cJ1 r];exact q⟩
 | _=>exact(show False from e).elim
theorem dJl (ha:PE X a ta) (he:∀ whole,isTrue a X.env whole=(do let v <- whole;fu a.pos;dX [v] (truthy v))) :
  PT X a (fun σ H Q=>ta σ H λx H'=>∃ k,TruV X.K x H' k/\Q k H'):=by
 intro pins s σ H Q I h;exact isTrue_plain (thn (ha pins s σ H _ I h) λv s1 ⟨x,H1,B,i,y⟩=>fXf pins s1 σ H1 x v Q B i y) (he _)
theorem op_add_str:OpR X (eX .Add) (λx y H Q=>∃ i j,x=.str i/\y=.str j/\i.length + j.length<=sizeLine/\Q (.str (i++j)) H):=by
 intro pins s σ H x y v u Q I L G h;obtain⟨i,j,rfl,rfl,O,q⟩:=h;obtain⟨t,rfl⟩:=L;obtain⟨B,rfl⟩:=G;exact add_str (λB U=>⟨.str (i++j),H,I.tok _,⟨_,rfl⟩,q⟩) O
theorem aXd {x:V} {us:List ae} (r:Vals [x] us):∃ u,us=[u]/\RelV x u:=by
 cases r with
 | cons i r2=>cases r2;exact⟨_,rfl,i⟩
theorem fXg {x y:V} {us:List ae} (r:Vals [x,y] us):∃ u w',us=[u,w']/\RelV x u/\RelV y w':=by
 cases r with
 | cons B r2 =>
  cases r2 with
  | cons i r4=>cases r4;exact⟨_,_,rfl,B,i⟩
theorem dQ4 (hc:X.calm=true):CallR X (.builtin "min") (λxs H Q=>∃ i j,xs=[.int i,.int j]/\Q (.int (if j < i then j else i)) H):=by
 intro pins s σ H xs us Q I r h;obtain⟨i,j,rfl,q⟩:=h;obtain⟨u,B,rfl,⟨t,rfl⟩,⟨L,rfl⟩⟩:=fXg r;refine min_two_ints (I.ok.hd hc) λh' G k=>⟨_,H,I.kept k,?_,q⟩
 by_cases y:j < i
 ·rw[if_pos y,if_pos y];exact⟨_,rfl⟩
 ·rw[if_neg y,if_neg y];exact⟨_,rfl⟩
theorem dQ5:CallR X (.type "int") (λxs H Q=>(∃ i,xs=[.int i]/\Q (.int i) H)\/∃ k,xs=[.bl k]/\Q (.int (if k then 1 else 0)) H):=by
 intro pins s σ H xs us Q I r h;rcases h with⟨i,rfl,q⟩ | ⟨k,rfl,q⟩
 ·obtain⟨u,rfl,t,rfl⟩:=aXd r;exact call_int_int ⟨.int i,H,I,⟨_,rfl⟩,q⟩
 ·obtain⟨u,rfl,r1⟩:=aXd r;cases r1;exact call_int_bool ⟨.int (if k then 1 else 0),H,I.tok _,⟨_,rfl⟩,q⟩
def LenV (K:aq) (x:V) (H:Hp) (n:Nat):Prop :=
 match x with
 | .str y=>y.length<=sizeLine/\n=y.length
 | .byt y=>y.size<=sizeLine/\n=y.size
 | .ref p=>(∃ xs,SqL K H p xs/\n=xs.length)\/∃ xs,SqT K H p xs/\n=xs.length
 | _=>False
theorem dJm:CallR X (.builtin "len") (λxs H Q=>∃ x n,xs=[x]/\LenV X.K x H n/\Q (.int n) H):=by
 intro pins s σ H xs us Q I r h;obtain⟨x,n,rfl,e,q⟩:=h;obtain⟨u,rfl,rx⟩:=aXd r;have hl:=bX6;have Y:sizeLine=16777216:=bD;cases x with
 | str y =>
  obtain⟨t,rfl⟩:=rx;obtain⟨U,i⟩:y.length<=sizeLine/\n=y.length:=e;subst i;exact len_str (by omega) ⟨.int _,H,I.tok _,⟨_,rfl⟩,q⟩
 | byt y =>
  obtain⟨t,rfl⟩:=rx;obtain⟨U,i⟩:y.size<=sizeLine/\n=y.size:=e;subst i;exact PySem.W.len_bytes (by omega) ⟨.int _,H,I.tok _,⟨_,rfl⟩,q⟩
 | ref p =>
  cases rx;have i:(∃ xs,SqL X.K H p xs/\n=xs.length)\/∃ xs,SqT X.K H p xs/\n=xs.length:=e;rcases i with⟨xs,L,i⟩ | ⟨xs,L,i⟩
  ·subst i;obtain⟨G,B,pl,O⟩:=I.list L;have hlen:=B.length;exact Calls.call_len_list pl.isList (by simp only[ar];omega) ⟨.int xs.length,H,I.tok _,⟨_,by simp only[ar];rw[hlen]⟩,q⟩
  ·subst i;obtain⟨G,B,pl,O⟩:=I.tuple L;have hlen:=B.length;exact len_tuple pl (by simp only[ar];omega) ⟨.int xs.length,H,I.tok _,⟨_,by simp only[ar];rw[hlen]⟩,q⟩
 | _=>exact(show False from e).elim
end
structure ObjM (h:aO) (x dx C:Addr) (mA:Str->Option ae):Prop where
 obj:h.get? x=some (d4 C dx)
 ns:h.Ns1 dx mA
 ne:dx≠x
theorem dQ6 {h:aO} {dx:Addr} {mA:Str->Option ae} (n:h.Ns1 dx mA):∃ od,h.get? dx=some od/\∀ name,jc name od=some (mA name):=by
 obtain⟨o,es,O,G,hd,hk,_,hm⟩:=n;refine⟨o,G,λname=>?_⟩;have e:=hm name;unfold nsFind findBy at e;rw[<- Array.find?_toList] at e;unfold jc;rw[hd];dsimp only
 split
 ·rename_i y q;rw[q] at e;exact congrArg some e
 ·rename_i q;rw[q] at e;have a:es.toList.any (·.refKey)=false:=by
   rw[List.any_eq_false];intro y B;obtain⟨z,t,i⟩:=hk y (dy.mp B);simp[DictEntry.refKey,i]
  have L:¬ es.toList.any (·.refKey)=true:=by rw[a];exact bo
  rw[if_neg L];exact congrArg some e
theorem ObjM.look {h:aO} {x dx C:Addr} {mA:Str->Option ae} (I:ObjM h x dx C mA):∃ od,PySem.W.InstAt h x (d4 C dx) C (some od)/\∀ name,jc name od=some (mA name) :=
 let ⟨od,i,hl⟩:=dQ6 I.ns
 ⟨od,⟨I.obj,rfl,rfl,i⟩,hl⟩
section
variable {prog:aC} {w:aH} {A:aQ} {E:ae->ai->Prop} {s:ai} {K:aq} {x dx C f:Addr} {mA:Str->Option ae} {name:Str} {v:ae}
theorem eXx {expr:Bool} {Q:ae->ai->Prop} (X:K.In s.heap) (I:ObjM s.heap x dx C mA) (hg:ig K C name=true) (hh:jD K C=true)
  (ha:di K (.ref C) name=some none) (hv:mA name=some v) (hv':PySem.W.handedIn v=true) (h:Q v { s with toks:=s.toks + 1 }) :
  ay (az prog w) A (getAttr (.ref x) name expr) Q E s:=by
 obtain⟨i,J,hl⟩:=I.look;exact PySem.W.get_value X J (iS hg).1 (PySem.W.findObj_own hh ha rfl (by rw[hl,hv])) hv' h
theorem dJn {pl:Sem Bool} {Q:ae × List ae->ai->Prop} (X:K.In s.heap) (I:ObjM s.heap x dx C mA) (hg:ig K C name=true)
  (hf:di K (.ref C) name=some (some (.ref f))) (ht:kc K (.ref f)=true) (hv:mA name=none) (h:Q (.ref f,[.ref x]) s) :
  ay (az prog w) A (gI (.ref x) name pl) Q E s:=by
 obtain⟨i,J,hl⟩:=I.look;exact PySem.W.method_fn X J (iS hg).1 (iS hg).2 hf (beq_iff_eq.mp ht) (by show(jc name i).map (·.isSome)=some false;rw[hl,hv];rfl) h
theorem eXy {ns:List Str} {Q:Unit->ai->Prop} (X:K.In s.heap) (I:ObjM s.heap x dx C mA)
  (hs:di K (.ref C) "__setattr__"=some (some (.builtin "object.__setattr__"))) (hp:PySem.W.plainOver K C=true) (ht:kB K C name=some none) (hh:jD K C=true)
  (hw:ka mA ns) (hsz:ns.length<=sizeLine)
  (h:∀ h',ObjM h' x dx C (λy=>if y=name then some v else mA y)->dA dx s.heap h'->Q () { s with heap:=h',toks:=s.toks + 2 }) :
  ay (az prog w) A (setAttr (.ref x) name v) Q E s:=by
 obtain⟨od,J,hl⟩:=I.look;refine PySem.W.set_plain X J hs (PySem.W.osa_open (s:={ s with toks:=s.toks + 1 }) (r:=none) X J hp ht λb=>?_)
 obtain⟨cd,Z,O⟩:=PySem.W.any_some hh;have Y:s.heap.get? x=some ⟨.ref C,some dx,.plain,#[]⟩:=I.obj;refine ad (af (ad (ad (wpAny_loadPart Y (ad (PySem.W.Looks.here (s:={ s with toks:=s.toks + 1 }) (PySem.W.looks_clsIn X Z) ?_))))))
 rw[O];refine af (a:=some dx) (ad (af (ad ?_)));refine wpAny_nsSet1 (s:={ s with toks:=s.toks + 1 }) I.ns λh' B i=>?_
 obtain⟨oD,esD,epD,G,L,U⟩:=B.count (ka.cons name v hw);refine ad (wpAny_lookBehind G (by rw[L];exact pastItsLine_dict (bc U (by rw[aF];omega))) ?_)
 exact af (h _ ⟨(i.2 _ (bj I.ne)).trans I.obj,B,I.ne⟩ i)
theorem dJo {R:jK->ai->Prop} {vs:List ae} {kw:List (Str × ae)} (X:K.In s.heap) (hm:fG K C=true)
  (hi:di K (.ref C) "__init__"=some (some (.ref f))) (hf:PySem.W.typeIn K (.ref f)=some (.type "function"))
  (h:d9 (az prog w) (A.under (.builtin "type.__call__" ⟨.ref C::vs,kw⟩)) (.call (.ref f) ⟨.ref (s.heap.objs.size + 1)::vs,kw⟩) (PySem.W.InitBack (s.heap.objs.size + 1) R)
   { s with heap:=(s.heap.push de).push (d4 C s.heap.objs.size) }) :
  d9 (az prog w) A (.call (.ref C) ⟨vs,kw⟩) R s:=by
 obtain⟨i,g,d,t,os⟩:=s;exact PySem.W.make_core (PySem.W.makes_of X hm) (PySem.W.looks_findIn X hi) (λself=>PySem.W.bind_fn X self hf) (.inl rfl) h
end
def putF (f:Str) (v:V):List (Str × V)->List (Str × V)
 | []=>[(f,v)]
 | (g,x)::r=>if g=f then (g,v)::r else (g,x)::putF f v r
theorem bQr (f g:Str) (v:V):∀ fs:List (Str × V),(putF f v fs).lookup g=if g=f then some v else fs.lookup g
 | []=>by
  show eY g [(f,v)]=_
  by_cases h:g=f
  ·have i:(g == f)=true:=beq_iff_eq.mpr h;simp only[eY,i,if_pos h]
  ·have i:(g == f)=false:=beq_eq_false_iff_ne.mpr h;simp only[eY,i,if_neg h]
 | (k,x)::r=>by
  have y:=bQr f g v r;rw[show putF f v ((k,x)::r)=(if k=f then (k,v)::r else (k,x)::putF f v r) from rfl]
  by_cases hk:k=f
  ·rw[if_pos hk]
   by_cases h:g=k
   ·have i:(g == k)=true:=beq_iff_eq.mpr h;simp only[eY,i,if_pos (h.trans hk)]
   ·have i:(g == k)=false:=beq_eq_false_iff_ne.mpr h;simp only[eY,i,if_neg (λe:g=f=>h (e.trans hk.symm))]
  ·rw[if_neg hk]
   by_cases h:g=k
   ·have i:(g == k)=true:=beq_iff_eq.mpr h;simp only[eY,i,if_neg (λe:g=f=>hk (h.symm.trans e))]
   ·have i:(g == k)=false:=beq_eq_false_iff_ne.mpr h;simp only[eY,i];exact y
theorem bQs (f:Str) (v:V):∀ fs:List (Str × V),f∈(putF f v fs).map (·.1)/\∀ g,g∈fs.map (·.1)->g∈(putF f v fs).map (·.1)
 | []=>⟨by simp[putF],λg h=>by simp at h⟩
 | (k,x)::r=>by
  obtain⟨y,i⟩:=bQs f v r;rw[show putF f v ((k,x)::r)=(if k=f then (k,v)::r else (k,x)::putF f v r) from rfl]
  by_cases hk:k=f
  ·rw[if_pos hk];subst hk;exact⟨by simp,λg h=>by simpa using h⟩
  ·rw[if_neg hk];refine⟨?_,λg h=>?_⟩
   ·rw[a9];exact ao _ y
   ·rw[a9] at h ⊢;rcases aA.mp h with e | e
    ·exact aA.mpr (.inl e)
    ·exact ao _ (i g e)
theorem bQt (f:Str) (v:V):∀ fs:List (Str × V),(putF f v fs).length<=fs.length + 1
 | []=>by simp[putF]
 | (k,x)::r=>by
  have i:=bQt f v r;rw[show putF f v ((k,x)::r)=(if k=f then (k,v)::r else (k,x)::putF f v r) from rfl]
  by_cases hk:k=f
  ·rw[if_pos hk,aF,aF];omega
  ·rw[if_neg hk,aF,aF];omega
theorem RelO.some_of {v:V} {o:Option ae} (r:RelO (some v) o):∃ u,o=some u/\RelV v u:=by
 cases o with
 | none=>exact(show False from r).elim
 | some u=>exact⟨u,rfl,r⟩
theorem RelO.none_of {o:Option ae} (r:RelO none o):o=none:=by
 cases o with
 | none=>rfl
 | some u=>exact(show False from r).elim
theorem dQ7 {v:V} {u:ae} (r:RelV v u):PySem.W.handedIn u=true:=by
 cases v with
 | non=>cases (show u=ci from r);rfl
 | bl b=>cases (show u=gF b from r);rfl
 | int i=>obtain⟨t,e⟩:=(show ∃ t,u=jS i t from r);cases e;rfl
 | str x=>obtain⟨t,e⟩:=(show ∃ t,u=ic x t from r);cases e;rfl
 | byt b=>obtain⟨t,e⟩:=(show ∃ t,u=ae.bytes b t from r);cases e;rfl
 | flt b=>obtain⟨t,e⟩:=(show ∃ t,u=ae.float b t from r);cases e;rfl
 | ref a=>cases (show u=bI a from r);rfl
 | ty n=>cases (show u=cU n from r);rfl
section
variable {P:aC} {w:aH} {H H':Hp} {h h':aO} {a C dx:Addr} {fs fs':List (Str × V)}
theorem bXk (hok:HOk P w H h) (e:H a=some (.ins C dx fs)):∃ mA,ObjM h a dx C mA/\(∀ f,RelO (fs.lookup f) (mA f))/\ka mA (fs.map (·.1))/\fs.length<=1000/\H dx=some (.own a):=by
 obtain⟨d,z,ne,ob,mA,n,r,q⟩:=(show ObjOk P w H h a (.ins C dx fs) from hok a _ e)
 exact⟨mA,⟨ob,n,ne⟩,r,q,z,d⟩
end
structure Cls (K:aq) (C:Addr):Prop where
 pg:ig K C Str.empty=true
 hd:jD K C=true
 po:PySem.W.plainOver K C=true
 sa:di K (.ref C) "__setattr__"=some (some (.builtin "object.__setattr__"))
theorem Cls.get {K:aq} {C:Addr} (c:Cls K C) (f:Str):ig K C f=true:=c.pg
def NoAttr (K:aq) (C:Addr) (f:Str):Prop:=di K (.ref C) f=some none
theorem NoAttr.taker {K:aq} {C:Addr} {f:Str} (n:NoAttr K C f):kB K C f=some none:=by
 unfold kB;rw[show di K (.ref C) f=some none from n]
 rfl
structure Meth (K:aq) (C:Addr) (m:Str) (f:Addr):Prop where
 at_:di K (.ref C) m=some (some (.ref f))
 fn:kc K (.ref f)=true
 kp:cB K (.ref f)=true
section
variable {X:Cx} {pins:List (Addr × Obj)} {σ:St} {H:Hp} {s:ai} {a C dx:Addr} {fs:List (Str × V)} {f:Str} {v:V} {A:aQ} {E:ae->ai->Prop}
theorem cJ2 {b:Bool} {Q:ae->ai->Prop} (I:Inv X pins σ H s) (e:H a=some (.ins C dx fs)) (c:Cls X.K C) (n:NoAttr X.K C f) (l:fs.lookup f=some v)
  (h:∀ u s',Inv X pins σ H s'->RelV v u->Q u s'):ay (az X.prog X.w) A (getAttr (.ref a) f b) Q E s:=by
 obtain⟨mA,O,r,_,_,_⟩:=bXk I.hok e;obtain⟨u,y,i⟩:=RelO.some_of (v:=v) (o:=mA f) (by rw[<- l];exact r f)
 exact eXx I.kIn O (c.get f) c.hd n y (dQ7 i) (h u _ (I.tok _) i)
theorem aJm {m:Str} {g:Addr} {pl:Sem Bool} {Q:ae × List ae->ai->Prop} (I:Inv X pins σ H s) (e:H a=some (.ins C dx fs)) (c:Cls X.K C) (k:Meth X.K C m g) (l:fs.lookup m=none)
  (h:Q (.ref g,[.ref a]) s):ay (az X.prog X.w) A (gI (.ref a) m pl) Q E s:=by
 obtain⟨mA,O,r,_,_,_⟩:=bXk I.hok e;have i:mA m=none:=RelO.none_of (by rw[<- l];exact r m)
 exact dJn I.kIn O (c.get m) k.at_ k.fn i h
theorem cJ3 {y:V} {u:ae} {Q:Unit->ai->Prop} (I:Inv X pins σ H s) (e:H a=some (.ins C dx fs)) (c:Cls X.K C) (n:NoAttr X.K C f) (hl:fs.length < 1000) (ry:RelV y u)
  (h:∀ s',Inv X pins σ (upd H a (.ins C dx (putF f y fs))) s'->Q () s'):ay (az X.prog X.w) A (setAttr (.ref a) f u) Q E s:=by
 obtain⟨mA,O,r,wi,_,B⟩:=bXk I.hok e;have L:(fs.map (·.1)).length<=sizeLine:=by rw[aj,bD];omega
 refine eXy I.kIn O c.sa c.po n.taker c.hd wi L λh' i G=>h _ ?_;have hd:∃ o,h'.get? dx=some o:=let ⟨o,_,_,Z,_⟩:=i.ns;⟨o,Z⟩
 refine I.write (x:=a) (e:=dx) (by rw[e];exact ij) (.inr B) (λb q Y z=>(G.2 b Y).trans z) hd ?_
 refine⟨by rw[upd_ne O.ne];exact B,?_,O.ne,i.obj,_,i.ns,λg=>?_,λg U=>?_⟩
 ·have:=bQt f y fs;omega
 ·show RelO ((putF f y fs).lookup g) (if g=f then some u else mA g)
  rw[bQr]
  by_cases q:g=f
  ·rw[if_pos q,if_pos q];exact ry
  ·rw[if_neg q,if_neg q];exact r g
 ·by_cases q:g=f
  ·rw[q];exact(bQs f y fs).1
  ·refine(bQs f y fs).2 g (wi g λz=>U ?_);show(if g=f then some u else mA g)=none
   rw[if_neg q];exact z
theorem Inv.made (I:Inv X pins σ H s):Inv X pins σ (upd (upd H s.heap.objs.size (.own (s.heap.objs.size + 1))) (s.heap.objs.size + 1) (.ins C s.heap.objs.size []))
  { s with heap:=(s.heap.push de).push (d4 C s.heap.objs.size) }:=by
 have i:(s.heap.push de).get? s.heap.objs.size=some de:=av s.heap rfl;have e2:((s.heap.push de).push (d4 C s.heap.objs.size)).get? (s.heap.objs.size + 1)=some (d4 C s.heap.objs.size):=by
  have:=av (s.heap.push de) (o:=d4 C s.heap.objs.size) rfl
  rwa [bv] at this
 have G:(s.heap.push de).Ns s.heap.objs.size (λ_=>none):=⟨de,#[],_,i,rfl,(λe he=>absurd he (by simp)),λ_=>rfl⟩
 have L:=I.laid (a:=s.heap.objs.size) (o:=.own (s.heap.objs.size + 1)) (h':=s.heap.push de) (t':=s.toks) (λb u q=>ag _ q) (au _) ⟨_,i⟩;refine L.laid (a:=s.heap.objs.size + 1) (o:=.ins C s.heap.objs.size []) (t':=s.toks) (λb u q=>ag _ q) (Nat.le_of_eq (bv _ _)) ?_;have ne:s.heap.objs.size≠s.heap.objs.size + 1:=aG (dN _);refine⟨by rw[upd_ne ne,aQc],bL _,ne,e2,λ_=>none,(aO.Ns1.of_empty G).at λo q=>ag _ q,λ_=>ij,λy B=>absurd rfl B⟩
theorem attr_of {prog:aC} {w:aH} {env:Env} {e:Expr} {f:Str} {pos:Pos} {s:ai} {Q:ae->ai->Prop} (hb:cX e f env (eval e env)=eval e env)
  (h:ay (az prog w) A (eval e env) (λo s₁=>ay (az prog w) A (getAttr o f true) Q E s₁) E s):ay (az prog w) A (eval (.Attribute e f pos) env) Q E s :=
 Attribute_any_ h (by rw[arm_eval_Attribute,hb])
end
def tFld (K:aq) (ta:TE) (f:Str):TE:=fun σ H Q=>ta σ H λx H1=>∃ a C dx fs v,x=.ref a/\H1 a=some (.ins C dx fs)/\Cls K C/\NoAttr K C f/\fs.lookup f=some v/\Q v H1
def sFld (K:aq) (ta tv:TE) (f:Str):TS:=λD σ H=>tv σ H λy H1=>ta σ H1 λx H2=>∃ a C dx fs,x=.ref a/\H2 a=some (.ins C dx fs)/\Cls K C/\NoAttr K C f/\fs.length < 1000 /\
 D.nx σ (upd H2 a (.ins C dx (putF f y fs)))
section
variable {X:Cx} {o e value:Expr} {f:Str} {pos pos' tpos:Pos} {ta tv:TE}
theorem fXh (he:PE X e ta) (hb:cX e f X.env (eval e X.env)=eval e X.env):PE X (.Attribute e f pos) (tFld X.K ta f):=by
 intro pins s σ H Q I h;refine attr_of hb (thn (he pins s σ H _ I h) λu s1 ⟨x,H1,G,i,a,C,dx,fs,v,ex,ea,c,n,l,q⟩=>?_);subst ex;obtain rfl:u=bI a:=i;exact cJ2 G ea c n l λL s2 B y=>⟨v,H1,B,y,q⟩
theorem fXi (ha:PE X o ta) (hv:PE X value tv) (hs:gc value (some (.Attribute o f pos')) pos.line X.env=pure false):PS X (.Assign [.Attribute o f pos'] value pos) (sFld X.K ta tv f):=by
 intro pins s σ H D I h;refine plainObj_wpAny_Assign_Attribute (thn (hv pins s σ H _ I h) λu s1 ⟨y,H1,Y,i,q⟩=>thn (ha pins s1 σ H1 _ Y q) λL s2 ⟨x,H2,U,B,a,C,dx,fs,ex,ea,c,n,l,G⟩=>?_) hs;subst ex;obtain rfl:L=bI a:=B;exact cJ3 U ea c n l i λs3 O=>⟨σ,_,O,G⟩
end
section
variable {X:Cx} {pins:List (Addr × Obj)} {σ:St} {H:Hp} {s:ai} {A:aQ} {E:ae->ai->Prop} {Q:ae->ai->Prop} {c:ae} {b:Bool}
inductive TyOf (K:aq) (H:Hp):V->ae->Prop where
 | non:TyOf K H .non (.type "NoneType")
 | bl (x:Bool):TyOf K H (.bl x) (.type "bool")
 | int (i:Int):TyOf K H (.int i) (.type "int")
 | str (x:Str):TyOf K H (.str x) (.type "str")
 | flt (x:UInt64):TyOf K H (.flt x) (.type "float")
 | lst {a:Addr} {xs:List V} (e:H a=some (.lst xs)):TyOf K H (.ref a) (.type "list")
 | frz {a:Addr} {o:Obj} {xs:List V} (e:H a=some (.frz o (.lst xs))):TyOf K H (.ref a) (.type "list")
 | tup {a:Addr} {xs:List V} (e:H a=some (.tup xs)):TyOf K H (.ref a) (.type "tuple")
 | dK {a:Addr} {kvs:List (Key × V)} (e:H a=some (.dK kvs)):TyOf K H (.ref a) (.type "dict")
 | dT {a:Addr} {kvs:List (List Key × V)} (e:H a=some (.dT kvs)):TyOf K H (.ref a) (.type "dict")
 | ins {a C dx:Addr} {fs:List (Str × V)} (e:H a=some (.ins C dx fs)) (cl:Cls K C) (ha:di K (.ref C) "__class__"=some (some (.builtin "object.__class__")))
   (hn:PySem.W.specialIn K (.builtin "object.__class__") "__get__"=some (some (.builtin "getset_descriptor.__get__"))) (htk:PySem.W.takesIn K (.builtin "object.__class__")=some true)
   (hm:PySem.W.mroIn K C (.type "object")=some true):TyOf K H (.ref a) (.ref C)
theorem dQ8 {x:V} {u t:ae} (I:Inv X pins σ H s) (rx:RelV x u) (ty:TyOf X.K H x t) (e:bH X.K t c=some b) (h:∀ tk,Q (.bool b) { s with toks:=tk }) :
  ay (az X.prog X.w) A (call (.builtin "isinstance") [u,c]) Q E s:=by
 cases ty with
 | non=>cases (show u=ci from rx);exact ce PySem.W.kitx_none I.kIn ij e (λz=>nomatch z) h
 | bl y=>cases (show u=gF y from rx);exact ce PySem.W.kitx_bool I.kIn ij e (λz=>nomatch z) h
 | int i=>obtain⟨t,q⟩:=(show ∃ t,u=jS i t from rx);cases q;exact ce PySem.W.kitx_int I.kIn ij e (λz=>nomatch z) h
 | str y=>obtain⟨t,q⟩:=(show ∃ t,u=ic y t from rx);cases q;exact ce PySem.W.kitx_str I.kIn ij e (λz=>nomatch z) h
 | flt y=>obtain⟨t,q⟩:=(show ∃ t,u=ae.float y t from rx);cases q;exact ce PySem.W.kitx_float I.kIn ij e (λz=>nomatch z) h
 | @lst a xs ea =>
  cases (show u=bI a from rx)
  obtain⟨_,_,n,_,h1⟩:=(show ObjOk X.prog X.w H s.heap a (.lst xs) from I.hok a _ ea)
  exact ce jE I.kIn ⟨_,h1,rfl⟩ e (λz=>nomatch z) h
 | @frz a ob xs ea =>
  cases (show u=bI a from rx)
  obtain⟨_,_,_,n,_,h1⟩:=(show ObjOk X.prog X.w H s.heap a (.frz ob (.lst xs)) from I.hok a _ ea)
  exact ce jE I.kIn ⟨_,h1,rfl⟩ e (λz=>nomatch z) h
 | @tup a xs ea =>
  cases (show u=bI a from rx)
  obtain⟨_,_,_,p,_⟩:=(show ObjOk X.prog X.w H s.heap a (.tup xs) from I.hok a _ ea)
  obtain⟨o,h1,h2,_⟩:=p;exact ce PySem.W.kitx_tuple I.kIn ⟨o,h1,h2⟩ e (λz=>nomatch z) h
 | @dK a B ea =>
  cases (show u=bI a from rx)
  obtain⟨_,_,vs,_,p⟩:=(show ObjOk X.prog X.w H s.heap a (.dK B) from I.hok a _ ea)
  obtain⟨o,es,Y,h1,h2,_⟩:=p;exact ce PySem.W.kitx_dict I.kIn ⟨o,h1,h2.1⟩ e (λz=>nomatch z) h
 | @dT a B ea =>
  cases (show u=bI a from rx)
  obtain⟨_,_,xs,_,o,es,Y,h1,h2,_⟩:=(show ObjOk X.prog X.w H s.heap a (.dT B) from I.hok a _ ea)
  exact ce PySem.W.kitx_dict I.kIn ⟨o,h1,h2.1⟩ e (λz=>nomatch z) h
 | @ins a C dx fs ea cl U L G hm =>
  cases (show u=bI a from rx)
  obtain⟨mA,O,_⟩:=bXk I.hok ea;obtain⟨Z,J,_⟩:=O.look;exact ce (PySem.W.kitx_own (cl.get _) cl.hd U L G hm) I.kIn J e (λz=>nomatch z) h
end
structure Room (k:Nat) (A:aQ):Prop where
 hd:A.handled=none
 dp:A.depth + 3 * k + 5 < recursionLimit
 un:A.units + 16 * k + 200 < bU
theorem Room.mono {j k:Nat} {A:aQ} (r:Room k A) (h:j<=k):Room j A:=⟨r.hd,by have:=r.dp;omega,by have:=r.un;omega⟩
theorem Room.deeper {k:Nat} {A:aQ} (r:Room (k + 1) A) (env:Env):Room k (A.deeper env) :=
 ⟨r.hd,by have:=r.dp;show A.depth + 1 + 3 * k + 5 < _;omega,by have:=r.un;show A.units + 3 + 16 * k + 200 < _;omega⟩
theorem cJ4 {A:aQ} {C:Addr} {us:List ae} {kw:List (Str × ae)}:(A.under (.builtin "type.__call__" ⟨.ref C::us,kw⟩)).depth=A.depth + 1:=by
 first | rfl | simp[kd,Code.weight,Code.isCreation,Code.isGuard,Code.isCaller,Code.frames,Code.isFrame,guardIds]
theorem cJ5 {A:aQ} {C:Addr} {us:List ae} {kw:List (Str × ae)}:(A.under (.builtin "type.__call__" ⟨.ref C::us,kw⟩)).units=A.units + 1:=by
 first | rfl | simp[kd,Code.cUnits,Code.frames,Code.isFrame]
theorem Room.make {k:Nat} {A:aQ} (r:Room (k + 1) A) (C:Addr) (us:List ae) (kw:List (Str × ae)):Room k (A.under (.builtin "type.__call__" ⟨.ref C::us,kw⟩)) :=
 ⟨r.hd,by have:=r.dp;rw[cJ4];omega,by have:=r.un;rw[cJ5];omega⟩
theorem Room.depth {k:Nat} {A:aQ} (r:Room k A):A.depth < recursionLimit:=by have:=r.dp;omega
theorem Room.units {k:Nat} {A:aQ} (r:Room k A):A.units + 64 < bU:=by have:=r.un;omega
theorem Room.units0 {k:Nat} {A:aQ} (r:Room k A):A.units < bU:=by have:=r.un;omega
def tNil:TA:=λ_ H Q=>Q [] H
def gZu (ta:TE) (tr:TA):TA:=fun σ H Q=>ta σ H λx H1=>tr σ H1 λxs H2=>Q (x::xs) H2
section
variable {X:Cx} {e:Expr} {es:List Expr} {te:TE} {t:TA} {pos:Pos}
theorem aJb:PA X [] tNil:=λ_ _ _ _ H Q I h=>gR ⟨[],H,I,.nil,h⟩
theorem aX1 (ha:PE X e te) (hr:PA X es t) (hs:am (e::es) X.env=(false,eval e X.env)::am es X.env:=by rfl):PA X (e::es) (gZu te t):=by
 intro pos pins s σ H Q I h;rw[hs];show ay _ _ (spliced ((false,eval e X.env)::bn pos (am es X.env))) _ _ s;refine eI (thn (ha pins s σ H _ I h) λu s1 ⟨x,H1,O,y,G⟩=>?_);exact thn (hr pos pins s1 σ H1 _ O G) λus s2 ⟨xs,H2,L,i,B⟩=>⟨x::xs,H2,L,.cons y i,B⟩
def tTup (t:TA):TE:=fun σ H Q=>t σ H λxs H1=>xs.length<=sizeLine/\∀ p,H1 p=none->Q (.ref p) (upd H1 p (.tup xs))
def tLst (t:TA):TE:=fun σ H Q=>t σ H λxs H1=>xs.length<=sizeLine/\∀ p,H1 p=none->Q (.ref p) (upd H1 p (.lst xs))
theorem fXj {x1} (h:PA X es t):PE X (.Tuple es x1 pos) (tTup t):=by
 intro pins s σ H Q I y;refine wpAny_Tuple_spliced (thn (h pos pins s σ H _ I y) λus s1 ⟨xs,H1,i,r,z,q⟩=>⟨by rw[<- r.length];exact z,?_⟩)
 have hf:H1 s1.heap.objs.size=none:=i.hok.fresh (au _);refine⟨.ref s1.heap.objs.size,upd H1 s1.heap.objs.size (.tup xs),i.laid (t':=s1.toks) (λb u e=>ag _ e) (au _) ?_,rfl,q _ hf⟩;exact⟨z,us,r,⟨_,av _ rfl,rfl,_,rfl⟩,bJm⟩
theorem fXk (h:PA X es t):PE X (.List es pos) (tLst t):=by
 intro pins s σ H Q I y;refine wpAny_List_spliced (thn (h pos pins s σ H _ I y) λus s1 ⟨xs,H1,i,r,z,q⟩=>⟨by rw[<- r.length];exact z,?_⟩)
 have hf:H1 s1.heap.objs.size=none:=i.hok.fresh (au _);refine⟨.ref s1.heap.objs.size,upd H1 s1.heap.objs.size (.lst xs),i.laid (t':=s1.toks) (λb u e=>ag _ e) (au _) ?_,rfl,q _ hf⟩;exact⟨z,us,0,r,av _ rfl⟩
end
abbrev Sp:=List V->Hp->VK->XK->Prop
abbrev CXT:=List Env->Hp->ai->XK->ae->ai->Prop
structure Env0 (P:aC) (w:aH) (K:aq) (mg:Str->Option ae) (base:aO) (A:aQ) (outer:List Env) (s:ai) (H:Hp):Prop where
 frames:A.frames=some outer
 gd:A.guards=some []
 mod:Mod K mg base
 bs:∀ b o,base.get? b=some o->s.heap.get? b=some o/\H b=none
 bsz:base.objs.size<=s.heap.objs.size
 funs:s.heap.FunFrames base outer
 frf:∀ b∈frs outer,H b=none
 hok:HOk P w H s.heap
 bare:i0 s.gens
def CE (outer:List Env) (P:aC) (w:aH) (H:Hp) (s:ai) (Q:VK) (u:ae) (s':ai):Prop :=
 ∃ v H',s'.os=s.os/\i0 s'.gens/\Un (frs outer) [] H H' s.heap s'.heap/\HOk P w H' s'.heap/\RelV v u/\Q v H'
def CR (CX:CXT) (outer:List Env) (P:aC) (w:aH) (H:Hp) (s:ai) (Q:VK) (E:XK) (r:jK) (s':ai):Prop :=
 match r with
 | .ok (.ret u)=>CE outer P w H s Q u s'
 | .ok _=>False
 | .error e=>CX outer H s E e s'
structure FnOk (P:aC) (w:aH) (K:aq) (mg:Str->Option ae) (base:aO) (CX:CXT) (k:Nat) (f:Addr) (fd:cT) (ps:List Str) (sp:Sp):Prop where
 len:∀ vs H Q E,sp vs H Q E->vs.length=ps.length
 run:∀ (A:aQ) (outer:List Env) (s:ai) (H:Hp) (args:Args) (us:List ae) (vs:List V) (Q:VK) (E:XK),Room k A->Env0 P w K mg base A outer s H->BindsTo s fd args (ps.zip us)->Vals vs us->sp vs H Q E ->
  d9 (az P w) A (.call (.ref f) args) (CR CX outer P w H s Q E) s
theorem FnOk.mono {P:aC} {w:aH} {K:aq} {mg:Str->Option ae} {base:aO} {CX:CXT} {j k:Nat} {f:Addr} {fd:cT} {ps:List Str} {sp:Sp} (F:FnOk P w K mg base CX j f fd ps sp) (h:j<=k) :
  FnOk P w K mg base CX k f fd ps sp:=⟨F.len,λA outer s H args us vs Q E i=>F.run A outer s H args us vs Q E (i.mono h)⟩
theorem Env0.make {P:aC} {w:aH} {K:aq} {mg:Str->Option ae} {base:aO} {A:aQ} {outer:List Env} {s:ai} {H:Hp} (e:Env0 P w K mg base A outer s H) (C:Addr) (us:List ae) (kw:List (Str × ae)) :
  Env0 P w K mg base (A.under (.builtin "type.__call__" ⟨.ref C::us,kw⟩)) outer s H:=⟨by first | exact e.frames | (simpa [kd,Code.envs,Code.isFrame,pushEnvs] using e.frames),by first | exact e.gd | (simpa [kd,Code.guards,Code.isGuard,pushGuards,guardIds] using e.gd),e.mod,e.bs,e.bsz,e.funs,e.frf,e.hok,e.bare⟩
section
variable {X:Cx} {pins:List (Addr × Obj)} {σ:St} {H:Hp} {s s':ai}
theorem Inv.env0 (I:Inv X pins σ H s):Env0 X.prog X.w X.K X.mg X.base X.A X.stack s H :=
 ⟨I.ok.frames,I.ok.gd,I.ok.mod,I.bs,bc I.ok.bsz I.sz,I.stack,I.stkFree,I.hok,I.bare⟩
theorem Inv.after {Q:VK} {u:ae} (I:Inv X pins σ H s) (h:CE X.stack X.prog X.w H s Q u s'):EP X pins σ Q u s':=by
 obtain⟨v,H',os,bare,un,hok,r,q⟩:=h;obtain⟨y,g,d,t,i⟩:=s';obtain rfl:i=s.os:=os;exact⟨v,H',I.call (h':=y) (g':=g) (d':=d) (t':=t) (ch:=[]) un hok bare (λb z=>absurd z (by simp)),r,q⟩
end
def eXz (sp:Sp) (dvs:List V) (E:XK) (t:TA):TE:=fun σ H Q=>t σ H λvs H1=>sp (vs++dvs) H1 Q E
def fXl (C:Addr) (m:Str) (sp:Sp) (dvs:List V) (E:XK) (ta:TE) (t:TA):TE:=fun σ H Q=>ta σ H λx H1=>∃ a dx fs,x=.ref a/\H1 a=some (.ins C dx fs)/\fs.lookup m=none /\
 t σ H1 λvs H2=>sp (x::(vs++dvs)) H2 Q E
def gZv (C:Addr) (sp:Sp) (dvs:List V) (E:XK) (t:TA):TE:=fun σ H Q=>t σ H λvs H1=>∀ x dx,H1 x=none->H1 dx=none->dx≠x ->
 sp (.ref x::(vs++dvs)) (upd (upd H1 dx (.own x)) x (.ins C dx [])) (λv H2=>v=.non/\Q (.ref x) H2) E
def Binds (K:aq) (fd:cT) (ps:List Str) (ds:List ae):Prop :=
 ∀ (s:ai) (us:List ae),K.In s.heap->(us++ds).length=ps.length->BindsTo s fd ⟨us,[]⟩ (ps.zip (us++ds))
theorem Binds.all {K:aq} {fd:cT} {ps:List Str} (h:∀ us:List ae,us.length=ps.length->bindArgs fd ⟨us,[]⟩=pure (ps.zip us)):Binds K fd ps []:=λs us _ hl=>by
 rw[bA] at hl ⊢;exact .of_eq (h us hl)
def bQ3 (CX:CXT) (X:Cx) (E:XK):Prop:=∀ (pins:List (Addr × Obj)) (σ:St) (H:Hp) (s:ai) (e:ae) (s':ai),Inv X pins σ H s->CX X.stack H s E e s'->X.xe e s'
section
variable {X:Cx} {CX:CXT} {k:Nat} {f C:Addr} {fd:cT} {ps:List Str} {sp:Sp} {dvs:List V} {ds:List ae} {E:XK} {x m:Str} {p pos apos:Pos} {e o:Expr} {es:List Expr} {ta:TE} {t:TA}
theorem run_fn {pins:List (Addr × Obj)} {σ:St} {H:Hp} {s:ai} {Q:VK} {us:List ae} {vs:List V} (F:FnOk X.prog X.w X.K X.mg X.base CX k f fd ps sp) (hr:Room k X.A) (hb:Binds X.K fd ps ds) (hd:Vals dvs ds) (hx:bQ3 CX X E)
  (I:Inv X pins σ H s) (r:Vals vs us) (h:sp (vs++dvs) H Q E):ay (az X.prog X.w) X.A (call (.ref f) us) (EP X pins σ Q) X.xe s:=by
 have y:Vals (vs++dvs) (us++ds):=r.append hd;have hl:(us++ds).length=ps.length:=by rw[<- y.length];exact F.len _ _ _ _ h
 refine ke (ec (F.run X.A X.stack s H ⟨us,[]⟩ (us++ds) (vs++dvs) Q E hr I.env0 (hb s us I.kIn hl) y h) λr s' i=>?_);cases r with
 | error e=>exact hx pins σ H s e s' I i
 | ok fl =>
  cases fl with
  | ret u=>exact I.after i
  | next=>exact cI i
  | brk=>exact cI i
  | cont=>exact cI i
theorem eJ0 (F:FnOk X.prog X.w X.K X.mg X.base CX k f fd ps sp) (hr:Room k X.A) (hg:Gl X x) (hm:X.mg x=some (.ref f)) (hk:cB X.K (.ref f)=true) (hb:Binds X.K fd ps ds) (hd:Vals dvs ds) (hx:bQ3 CX X E)
  (ha:PA X (e::es) t) (hdb:dbg x=false:=by decide) (he:am (e::es) X.env=(false,eval e X.env)::am es X.env:=by rfl) (hpl:(bn pos (am es X.env)).any (·.1)=false:=by rfl) :
  PE X (.Call (.Name x p) (e::es) [] pos) (eXz sp dvs E t):=by
 intro pins s σ H Q I h;refine dw (ld_glob I hg hm ?_ hdb);refine gG (h₀:=X.base) I.ok.mod.kin hk (thn (ha pos pins s σ H _ I h) λus s1 ⟨vs,H1,i,r,q⟩=>⟨i.kIn,?_⟩) he hpl;exact run_fn F hr hb hd hx i r q
theorem dJp (F:FnOk X.prog X.w X.K X.mg X.base CX k f fd ps sp) (hr:Room k X.A) (hg:Gl X x) (hm:X.mg x=some (.ref f)) (hk:cB X.K (.ref f)=true) (hb:Binds X.K fd ps ds) (hd:Vals dvs ds) (hx:bQ3 CX X E)
  (hdb:dbg x=false:=by decide):PE X (.Call (.Name x p) [] [] pos) (eXz sp dvs E tNil):=by
 intro pins s σ H Q I h;refine dw (ld_glob I hg hm ?_ hdb);exact PySem.W.callWith_K0 I.kIn hk (run_fn (us:=[]) F hr hb hd hx I .nil h)
theorem eJ1 {pl:Sem Bool} (he:PE X o ta) (c:Cls X.K C) (hm:Meth X.K C m f) (F:FnOk X.prog X.w X.K X.mg X.base CX k f fd ps sp) (hr:Room k X.A) (hb:Binds X.K fd ps ds) (hd:Vals dvs ds) (hx:bQ3 CX X E) (ha:PA X (e::es) t)
  (hst:am (e::es) X.env=(false,eval e X.env)::am es X.env:=by rfl) (hpl:(bn pos (am es X.env)).any (·.1)=false:=by rfl)
  (ht:eval (.Call (.Attribute o m apos) (e::es) [] pos) X.env=(do
   let ov <- eval o X.env
   fu apos.atName
   let (f,first) <- dX [ov] (gI ov m pl)
   jT pos f first (bn pos (am (e::es) X.env)) (eJ pos (cV [] X.env))):=by rfl) :
  PE X (.Call (.Attribute o m apos) (e::es) [] pos) (fXl C m sp dvs E ta t):=by
 intro pins s σ H Q I h;refine ia (pl:=pl) (thn (he pins s σ H _ I h) λu s1 ⟨x,H1,y,B,a,dx,fs,ex,ea,l,q⟩=>?_) ht;subst ex;obtain rfl:u=bI a:=B;refine aJm y ea c hm l ?_;refine gG (first:=[.ref a]) (h₀:=X.base) I.ok.mod.kin hm.kp (thn (ha pos pins s1 σ H1 _ y q) λus s2 ⟨vs,H2,i,r,G⟩=>⟨i.kIn,?_⟩) hst hpl;exact run_fn (us:=.ref a::us) (vs:=.ref a::vs) F hr hb hd hx i (.cons rfl r) G
theorem dJq {pl:Sem Bool} (he:PE X o ta) (c:Cls X.K C) (hm:Meth X.K C m f) (F:FnOk X.prog X.w X.K X.mg X.base CX k f fd ps sp) (hr:Room k X.A) (hb:Binds X.K fd ps ds) (hd:Vals dvs ds) (hx:bQ3 CX X E)
  (ht:eval (.Call (.Attribute o m apos) [] [] pos) X.env=(do
   let ov <- eval o X.env
   fu apos.atName
   let (f,first) <- dX [ov] (gI ov m pl)
   jT pos f first (bn pos (am [] X.env)) (eJ pos (cV [] X.env))):=by rfl) :
  PE X (.Call (.Attribute o m apos) [] [] pos) (fXl C m sp dvs E ta tNil):=by
 intro pins s σ H Q I h;refine ia (pl:=pl) (thn (he pins s σ H _ I h) λu s1 ⟨x,H1,i,y,a,dx,fs,ex,ea,l,q⟩=>?_) ht;subst ex;obtain rfl:u=bI a:=y;refine aJm i ea c hm l ?_;exact PySem.W.callWith_K0 (first:=[.ref a]) i.kIn hm.kp (run_fn (us:=[.ref a]) (vs:=[.ref a]) F hr hb hd hx i (.cons rfl .nil) q)
structure Mk (K:aq) (C f:Addr):Prop where
 makes:fG K C=true
 init:di K (.ref C) "__init__"=some (some (.ref f))
 fn:kc K (.ref f)=true
 kp:cB K (.ref C)=true
theorem dJr {pins:List (Addr × Obj)} {σ:St} {H:Hp} {s:ai} {Q:VK} {us:List ae} {vs:List V} (M:Mk X.K C f) (F:FnOk X.prog X.w X.K X.mg X.base CX k f fd ps sp) (hr:Room (k + 1) X.A) (hb:Binds X.K fd ps ds) (hd:Vals dvs ds)
  (hx:bQ3 CX X E) (I:Inv X pins σ H s) (r:Vals vs us)
  (h:∀ x dx,H x=none->H dx=none->dx≠x->sp (.ref x::(vs++dvs)) (upd (upd H dx (.own x)) x (.ins C dx [])) (λv H2=>v=.non/\Q (.ref x) H2) E) :
  ay (az X.prog X.w) X.A (call (.ref C) us) (EP X pins σ Q) X.xe s:=by
 have G:=h (s.heap.objs.size + 1) s.heap.objs.size (I.hok.fresh (dJ _)) (I.hok.fresh (au _)) (aG (dN _));have y:=Inv.made (C:=C) I;have B:Vals (V.ref (s.heap.objs.size + 1)::(vs++dvs)) (bI (s.heap.objs.size + 1)::(us++ds)):=.cons rfl (r.append hd);have hl:(bI (s.heap.objs.size + 1)::us++ds).length=ps.length:=by
  have e:=B.length;rw[F.len _ _ _ _ G] at e;exact e.symm
 refine ke (dJo (f:=f) I.kIn M.makes M.init (beq_iff_eq.mp M.fn) (ec (F.run _ X.stack _ _ ⟨bI (s.heap.objs.size + 1)::us,[]⟩ (bI (s.heap.objs.size + 1)::(us++ds)) _ _ E (hr.make C us [])
  (y.env0.make C us []) (hb _ (bI (s.heap.objs.size + 1)::us) y.kIn hl) B G) λr s' i=>?_))
 cases r with
 | error e=>exact hx pins σ _ _ e s' y i
 | ok fl =>
  cases fl with
  | ret u =>
   obtain⟨v,H',U,L,ev,O⟩:=y.after i;subst ev;exact⟨L,⟨V.ref (s.heap.objs.size + 1),H',U,rfl,O⟩⟩
  | next=>exact cI i
  | brk=>exact cI i
  | cont=>exact cI i
theorem eJ2 (M:Mk X.K C f) (F:FnOk X.prog X.w X.K X.mg X.base CX k f fd ps sp) (hr:Room (k + 1) X.A) (hg:Gl X x) (hm:X.mg x=some (.ref C)) (hb:Binds X.K fd ps ds) (hd:Vals dvs ds) (hx:bQ3 CX X E)
  (ha:PA X (e::es) t) (hdb:dbg x=false:=by decide) (he:am (e::es) X.env=(false,eval e X.env)::am es X.env:=by rfl) (hpl:(bn pos (am es X.env)).any (·.1)=false:=by rfl) :
  PE X (.Call (.Name x p) (e::es) [] pos) (gZv C sp dvs E t):=by
 intro pins s σ H Q I h;refine dw (ld_glob I hg hm ?_ hdb);refine gG (h₀:=X.base) I.ok.mod.kin M.kp (thn (ha pos pins s σ H _ I h) λus s1 ⟨vs,H1,i,r,q⟩=>⟨i.kIn,?_⟩) he hpl;exact dJr M F hr hb hd hx i r q
end
structure FnScope (N P:List Str) (sc:Scope):Prop where
 kind:sc.kind=.function
 co:sc.isCoroutine=false
 gen:sc.isGenerator=false
 nd:N.Nodup
 pre:N.take P.length=P
 par:∀ x∈P,sc.names.lookup x=some .local\/sc.names.lookup x=some .cell
 nofree:∀ y∈sc.names,y.2≠.free
theorem bJp {kindOf:Str->Option fH} {x:Str}:∀ {binds:List (Str × ae)} {m:Str->Option ae},(∀ v,(x,v)∉binds)->bindL kindOf binds m x=m x
 | [],_,_=>rfl
 | (n,v)::r,m,h=>by
  unfold bindL;rw[bJp λw hw=>h w (ao _ hw)]
  split
  ·have:x≠n:=by rintro rfl;exact h v ak
   simp[this]
  ·rfl
theorem bindC_out {kindOf:Str->Option fH} {x:Str}:∀ {binds:List (Str × ae)} {m:Str->Option ae},(∀ v,(x,v)∉binds)->bindC kindOf binds m x=m x
 | [],_,_=>rfl
 | (n,v)::r,m,h=>by
  unfold bindC;rw[bindC_out λw hw=>h w (ao _ hw)]
  split
  ·rfl
  ·have:x≠n:=by rintro rfl;exact h v ak
   simp[this]
theorem bindL_get {kindOf:Str->Option fH} {x:Str} {v:ae}:∀ {P:List Str} {vs:List ae} {i:Nat} {m:Str->Option ae},P.Nodup->P[i]?=some x->vs[i]?=some v->kindOf x=some .local ->
  bindL kindOf (P.zip vs) m x=some v
 | [],_,_,_,_,h,_,_=>by simp at h
 | _::_,[],_,_,_,_,h,_=>by simp at h
 | p::P,w::vs,0,m,nd,h1,h2,hk=>by
  simp at h1 h2;subst h1;subst h2;show bindL kindOf ((p,w)::P.zip vs) m p=_;unfold bindL;rw[bJp λv y=>(bX.mp nd).1 (kC y).1,if_pos hk];simp
 | p::P,w::vs,i + 1,m,nd,h1,h2,hk=>by
  show bindL kindOf ((p,w)::P.zip vs) m x=_;unfold bindL;exact bindL_get (i:=i) (bX.mp nd).2 (by simpa using h1) (by simpa using h2) hk
theorem bJq {kindOf:Str->Option fH} {x:Str} {v:ae}:∀ {P:List Str} {vs:List ae} {i:Nat} {m:Str->Option ae},P.Nodup->P[i]?=some x->vs[i]?=some v->kindOf x≠some .local ->
  bindC kindOf (P.zip vs) m x=some v
 | [],_,_,_,_,h,_,_=>by simp at h
 | _::_,[],_,_,_,_,h,_=>by simp at h
 | p::P,w::vs,0,m,nd,h1,h2,hk=>by
  simp at h1 h2;subst h1;subst h2;show bindC kindOf ((p,w)::P.zip vs) m p=_;unfold bindC;rw[bindC_out λv y=>(bX.mp nd).1 (kC y).1,if_neg hk];simp
 | p::P,w::vs,i + 1,m,nd,h1,h2,hk=>by
  show bindC kindOf ((p,w)::P.zip vs) m x=_;unfold bindC;exact bJq (i:=i) (bX.mp nd).2 (by simpa using h1) (by simpa using h2) hk
def start (N:List Str) (vs:List V):St:=vs.map some++jd (N.length - vs.length) none
def cxOf (CX:CXT) (P:aC) (w:aH) (K:aq) (mg:Str->Option ae) (base:aO) (N:List Str) (qual:Str) (scope:Scope) (f:Addr) (cd:ae) (A:aQ) (outer:List Env) (s:ai) (H:Hp) (E:XK):Cx where
 prog:=P
 w:=w
 K:=K
 mg:=mg
 base:=base
 A:=A.deeper (envOfC qual scope s.heap.objs.size f cd)
 N:=N
 s₀:=s
 H₀:=H
 env:=envOfC qual scope s.heap.objs.size f cd
 outer:=outer
 stack:=envOfC qual scope s.heap.objs.size f cd::outer
 ex:=[]
 calm:=true
 fn:=λ_=>true
 pn:=[]
 xe:=λe s'=>ay (az P w) (A.deeper (envOfC qual scope s.heap.objs.size f cd)) (leaving (envOfC qual scope s.heap.objs.size f cd) e) (λ_ s''=>CX outer H s E e s'') (λe' s''=>CX outer H s E e' s'') s'
theorem cZk {sc:Scope} {n:Nat} {x:Str} (h:sc.names.lookup x=some .cell):∃ c,(gJ n sc.names []).lookup x=some c:=by
 have q:=kf sc.names n [] (.inl h);exact cj.mp q
theorem dQ9 {CX:CXT} {P:aC} {w:aH} {K:aq} {mg:Str->Option ae} {base:aO} {N ps:List Str} {qual:Str} {scope:Scope} {f:Addr} {cd:ae} {A:aQ} {outer:List Env} {s s1:ai} {H:Hp} {E:XK} {us:List ae} {vs:List V}
  (S:FnScope N ps scope) (hd:A.handled=none) (e0:Env0 P w K mg base A outer s H) (hl:vs.length=ps.length) (r:Vals vs us)
  (x:InCallC s s.heap.objs.size (bindL (envOfC qual scope s.heap.objs.size f cd).kindOf (ps.zip us) λ_=>none) (gJ (s.heap.objs.size + 1) scope.names []) (bindC (envOfC qual scope s.heap.objs.size f cd).kindOf (ps.zip us) λ_=>none) s1) :
  Inv (cxOf CX P w K mg base N qual scope f cd A outer s H E) [] (start N vs) H s1:=by
 have Y:ps.length<=N.length:=by have:=congrArg gK S.pre;rw[bJ] at this;omega
 obtain⟨h1,tk,rfl,hk⟩:=x.done;have B:∀ b:Addr,b∉(cxOf CX P w K mg base N qual scope f cd A outer s H E).ex:=λb z=>absurd (show b∈([]:List Addr) from z) (by simp)
 refine⟨⟨e0.mod,S.kind,rfl,rfl,au _,λy z c h1 h2=>?_,λy G=>?_,λy c _ h=>?_,λ_=>hd,aQ.frames_deeper e0.frames,e0.gd,.inr ⟨rfl,rfl⟩,λb z=>absurd z (B b),e0.bs,e0.bsz,λb _ _=>B b,λb z=>absurd z (B b),e0.funs,e0.frf⟩,
  rfl,e0.bare,Un.kept hk,⟨_,x.toInCall.ns,λi y v h1 h2 h3=>?_⟩,λy c h=>⟨_,x.cell y c h⟩,e0.hok.fresh (au _),λy c h=>?_,λp hp=>absurd (show p∈([]:List (Addr × Obj)) from hp) (by simp),e0.hok.kept hk,?_⟩
 ·exact name_of_addr x.apart (fv h1) (fv h2)
 ·have G:scope.names.lookup y=some .cell\/scope.names.lookup y=some .free:=G;rcases G with G | G
  ·exact cZk G
  ·exact absurd rfl (S.nofree _ (fv G))
 ·exact gP (x.above y c (fv h))
 ·have hi:i < vs.length:=by
   unfold start at h2
   by_cases hi:i < vs.length
   ·exact hi
   ·rw[eK (by simpa using hi)] at h2
    rw[List.getElem?_replicate] at h2
    split at h2 <;> cases h2
  have Z:vs[i]?=some v:=by
   unfold start at h2;rw[eQ (by simpa using hi),br] at h2
   cases e:vs[i]? with
   | none=>rw[e] at h2;cases h2
   | some a=>rw[e] at h2;cases h2;rfl
  obtain⟨u,O,U⟩:=r.get Z;have hp:ps[i]?=some y:=by
   rw[<- S.pre,jL (by omega)];exact h1
  have L:ps.Nodup:=by rw[<- S.pre];exact S.nd.sublist (dY _ _)
  refine⟨u,U,?_⟩;rcases S.par y (bw hp) with k | k
  ·exact .inl ⟨k,bindL_get L hp O k⟩
  ·obtain⟨c,e⟩:=cZk (n:=s.heap.objs.size + 1) k;refine .inr ⟨.inl k,c,e,?_⟩;have q:=x.cell y c e;rw[bJq L hp O (by show scope.names.lookup y≠_;rw[k];decide)] at q
   exact q
 ·exact e0.hok.fresh (gP (x.above y c (fv h)))
 ·unfold start;show _=N.length;rw[ax,aj,List.length_replicate];omega
theorem fXm {CX:CXT} {P:aC} {w:aH} {K:aq} {mg:Str->Option ae} {base:aO} {k:Nat} {f:Addr} {name qual:Str} {params:Arguments} {body:List Stmt} {scope:Scope} {dV kV doc pm cdv ct oc:ae} {an od:Option Addr}
  {osl:Array (Option ae)} {N ps:List Str} {sp:Sp} (lk:K.lookup f=some ⟨oc,od,.func (eg name qual params body scope dV kV doc pm an cdv ct),osl⟩) (hcd:fX K cdv qual=true) (S:FnScope N ps scope)
  (len:∀ vs H Q E,sp vs H Q E->vs.length=ps.length)
  (hbody:∀ (A:aQ) (outer:List Env) (s:ai) (H:Hp) (vs:List V) (Q:VK) (E:XK),Room k (A.deeper (envOfC qual scope s.heap.objs.size f cdv))->sp vs H Q E ->
   ∃ t,PSs (cxOf CX P w K mg base N qual scope f cdv A outer s H E) body t/\t { nx:=λ_ H'=>Q .non H',rt:=Q } (start N vs) H) :
  FnOk P w K mg base CX (k + 1) f (eg name qual params body scope dV kV doc pm an cdv ct) ps sp:=by
 refine⟨len,λA outer s H args us vs Q E U L hb r G=>?_⟩;have hl:=len _ _ _ _ G;have Y:K.In s.heap:=L.mod.kin.keeps λb o e=>(L.bs b o e).1;have lim:s.heap.NoLimit:=L.mod.nolimit.keeps λb o e=>(L.bs b o e).1;have i:∀ y∈ps.zip us,scope.names.lookup y.1=some .local\/(scope.names.lookup y.1=some .cell/\((gJ (s.heap.objs.size + 1) scope.names []).lookup y.1).isSome=true):=λ⟨n,v⟩ Z=>by
  rcases S.par n (kC Z).1 with q | q
  ·exact .inl q
  ·exact .inr ⟨q,kf _ _ _ (.inl q)⟩
 refine codeAny_call_function U.depth (Y _ _ lk) rfl S.co S.gen rfl (PySem.W.codeRec_of Y hcd) (hb _ _ _ _ ?_);refine wpAny_newFunctionEnv_cells S.kind i λenv he s1 x=>?_;subst he;refine⟨lim.keeps x.toInCall.keep,codeAny_func ?_⟩;obtain⟨t,ht,hq⟩:=hbody A outer s H vs Q E (U.deeper _) G;have I:Inv (cxOf CX P w K mg base N qual scope f cdv A outer s H E) [] (start N vs) H s1:=dQ9 S U.hd L hl r x;refine c6 (ht [] s1 (start N vs) H _ I hq) (λfl s' B=>?_) λe s' B=>B;have fin:∀ {σ':St} {H':Hp} {v:V} {u:ae},Inv (cxOf CX P w K mg base N qual scope f cdv A outer s H E) [] σ' H' s'->RelV v u->Q v H'->CE outer P w H s Q u s' :=
  λ{σ' H' v u} J O q=>⟨v,H',J.os,J.bare,J.base,J.hok,O,q⟩
 cases fl with
 | ret u =>
  obtain⟨v,σ',H',J,O,q⟩:=B;exact fin J O q
 | next =>
  obtain⟨σ',H',J,q⟩:=B;exact fin (v:=V.non) (u:=ci) J rfl q
 | brk =>
  obtain⟨_,_,_,q⟩:=B;exact cI q
 | cont =>
  obtain⟨_,_,_,q⟩:=B;exact cI q
section
variable {X:Cx} {x:Str} {p pos:Pos} {e:Expr} {es:List Expr} {t:TA} {id T:String} {r:List V->Hp->VK->Prop}
def tCB (r:List V->Hp->VK->Prop) (t:TA):TE:=fun σ H Q=>t σ H λvs H1=>r vs H1 Q
theorem bQj (hc:CallR X (.builtin id) r) (hg:Gl X x) (hm:X.mg x=none) (hv:bz x=some (.builtin id)) (ha:PA X (e::es) t) (hn:x ≠ "__name__":=by decide) (hdb:dbg x=false:=by decide)
  (he:am (e::es) X.env=(false,eval e X.env)::am es X.env:=by rfl) (hpl:(bn pos (am es X.env)).any (·.1)=false:=by rfl):PE X (.Call (.Name x p) (e::es) [] pos) (tCB r t):=by
 intro pins s σ H Q I h;refine dw (ld_blt I hg hm hv ?_ hn hdb);exact fw (thn (ha pos pins s σ H _ I h) λus s1 ⟨vs,H1,B,i,y⟩=>hc pins s1 σ H1 vs us Q B i y) he hpl
theorem aJc (hc:CallR X (.type T) r) (hg:Gl X x) (hm:X.mg x=none) (hv:bz x=some (.type T)) (ha:PA X (e::es) t) (hn:x ≠ "__name__":=by decide) (hdb:dbg x=false:=by decide)
  (he:am (e::es) X.env=(false,eval e X.env)::am es X.env:=by rfl) (hpl:(bn pos (am es X.env)).any (·.1)=false:=by rfl):PE X (.Call (.Name x p) (e::es) [] pos) (tCB r t):=by
 intro pins s σ H Q I h;refine dw (ld_blt I hg hm hv ?_ hn hdb);exact dz (thn (ha pos pins s σ H _ I h) λus s1 ⟨vs,H1,B,i,y⟩=>hc pins s1 σ H1 vs us Q B i y) he hpl
end
end L2
namespace HT
open PySem PyProof.Rows
section
variable {prog:aC} {w:aH} {A:aQ} {E:ae->ai->Prop} {s:ai}
theorem cat_tup {t b:Addr} {vs ws:List ae} {Q:ae->ai->Prop} (ht:iF s.heap t vs.toArray) (hb:iF s.heap b ws.toArray) (hv:vs≠[])
  (h1:ws=[]->Q (.ref t) s) (h2:ws≠[]->Q (.ref s.heap.objs.size) { s with heap:=s.heap.push { cls:=.type "tuple",data:=.seq (vs++ws).toArray } })
  (hsz:vs.length + ws.length<=sizeLine):ay (az prog w) A (eX .Add (.ref t) (.ref b)) Q E s:=by
 obtain⟨⟨cls,dd,data,sl⟩,L,U,n,hd⟩:=id ht;obtain⟨⟨Y,G,data2,y⟩,i,B,O,hd2⟩:=id hb;simp only at U hd B hd2;subst U hd B hd2;have e:vs.toArray++ws.toArray=(vs++ws).toArray:=by simp
 by_cases hw:ws=[]
 ·exact i4 ⟨_,L,rfl⟩ ⟨_,i,rfl⟩ jU seq_tuple_add gS gL (gx _ _)
   (tuple_addW1 t b vs.toArray ws.toArray n O dd G sl y (by simpa using hv) (by simp[hw])) ⟨L,i,h1 hw⟩
 ·refine i4 ⟨_,L,rfl⟩ ⟨_,i,rfl⟩ jU seq_tuple_add gS gL (gx _ _)
   (tuple_addW2 t b vs.toArray ws.toArray n O dd G sl y (by simpa using hv) (by simpa using hw) (by rw[ar,ar];exact hsz)) ⟨L,i,?_⟩
  rw[e];exact h2 hw
def sIx (n d:Nat):Option Int->Nat
 | none=>d
 | some v=>if v < 0 then (v + (n:Int)).toNat else min v.toNat n
theorem sIx_none (n d:Nat):sIx n d none=d:=rfl
theorem sIx_nat (n d k:Nat):sIx n d (some (k:Int))=min k n:=by
 show(if (k:Int) < 0 then ((k:Int) + (n:Int)).toNat else min (k:Int).toNat n)=min k n
 rw[if_neg (by omega),bN]
theorem sIx_le (n d:Nat) (hd:d<=n) (o:Option Int):sIx n d o<=n:=by
 cases o with
 | none=>exact hd
 | some v =>
  show(if v < 0 then (v + (n:Int)).toNat else min v.toNat n)<=n
  by_cases i:v < 0
  ·rw[if_pos i];omega
  ·rw[if_neg i];exact Nat.min_le_right _ _
theorem dQa (v:Int) (n d:Nat):(if v < 0 then max (v + (n:Int)) 0 else min v (n:Int))=((sIx n d (some v):Nat):Int):=by
 show(if v < 0 then max (v + (n:Int)) 0 else min v (n:Int))=(((if v < 0 then (v + (n:Int)).toNat else min v.toNat n):Nat):Int)
 by_cases i:v < 0
 ·simp only[if_pos i];omega
 ·simp only[if_neg i];omega
theorem cJ6 (lo hi:Option Int) (n:Nat):gq lo hi 1 (n:Int)=(((sIx n 0 lo:Nat):Int),((sIx n n hi:Nat):Int)):=by
 have h1:¬ ((1:Int) < 0):=by omega
 unfold gq;simp only[h1,if_false];refine Prod.ext ?_ ?_
 ·cases lo with
  | none=>rfl
  | some v=>exact dQa v n 0
 ·cases hi with
  | none=>rfl
  | some v=>exact dQa v n n
theorem cJ7 (i j:Nat):cG (i:Int) (j:Int) 1=j - i:=by
 unfold cG;have h1:(1:Int) > 0:=by omega
 simp only[h1,if_true,kg]
 split <;> omega
theorem aJn {v:ae} {o:Option Int} {Q:Option Int->ai->Prop} (p:kh v o) (h:Q o s):ay (az prog w) A (cu.Slice.slicePartIndex v) Q E s:=by
 cases p with
 | none=>exact je h
 | int i t=>exact slicePart_int h
theorem sliceApplied_gen {sl:Addr} {vl vu:ae} {lo hi:Option Int} {n:Nat} {Q:Int × Int × Nat->ai->Prop} (hs:s.heap.IsSliceOf sl vl vu .none) (pl:kh vl lo) (pu:kh vu hi)
  (h:Q (((sIx n 0 lo:Nat):Int),1,sIx n n hi - sIx n 0 lo) s):ay (az prog w) A (dE (.ref sl) (pure (n:Int))) Q E s:=by
 obtain⟨os,i,B,y⟩:=id hs;unfold dE jy;refine ad (ad (cw i y (x:=vl) rfl (ad (cw i y (x:=vu) rfl (ad (cw i y (x:=.none) rfl (af ?_)))))));refine ad (je ?_);show ay _ _ (if ((1:Int) == 0)=true then _ else _) _ _ s
 rw[if_neg (by decide)]
 refine ad (aJn pl (ad (aJn pu (ad (af ?_)))));show ay _ _ (match gq lo hi 1 (n:Int) with | (lo,hi)=>pure (lo,(1:Int),cG lo hi 1)) _ _ s
 rw[cJ6 lo hi n];show ay _ _ (pure (((sIx n 0 lo:Nat):Int),(1:Int),cG ((sIx n 0 lo:Nat):Int) ((sIx n n hi:Nat):Int) 1)) _ _ s;rw[cJ7];exact af h
theorem dJs (xs:Array ae) (i k:Nat):((aP k).filterMap λ(m:Nat)=>xs[((i:Int) + (m:Int) * 1).toNat]?).toArray=((xs.toList.drop i).take k).toArray:=by
 have e:(λ(m:Nat)=>xs[((i:Int) + (m:Int) * 1).toNat]?)=λm=>xs[i + m]?:=by
  funext m
  have:((i:Int) + (m:Int) * 1).toNat=i + m:=by omega
  rw[this]
 rw[e]
 have:=pick_run xs i k
 rw[jf] at this;have e2:((λx=>xs[x]?) ∘ λx=>i + x)=λm=>xs[i + m]?:=rfl;rw[e2] at this;rw[this]
theorem getItem_tuple_cut {t sl:Addr} {items:Array ae} {vl vu:ae} {lo hi:Option Int} {Q:ae->ai->Prop} (ht:iF s.heap t items) (hs:s.heap.IsSliceOf sl vl vu .none) (pl:kh vl lo) (pu:kh vu hi)
  (hw:¬ (sIx items.size 0 lo=0/\sIx items.size items.size hi=items.size))
  (h:Q (.ref s.heap.objs.size) { s with heap:=s.heap.push { cls:=.type "tuple",data:=.seq ((items.toList.drop (sIx items.size 0 lo)).take (sIx items.size items.size hi - sIx items.size 0 lo)).toArray } })
  (hsz:items.size<=sizeLine):ay (az prog w) A (jF (.ref t) (.ref sl)) Q E s:=by
 have i:sizeOk (.seq ((items.toList.drop (sIx items.size 0 lo)).take (sIx items.size items.size hi - sIx items.size 0 lo)).toArray):=by
  show((items.toList.drop (sIx items.size 0 lo)).take (sIx items.size items.size hi - sIx items.size 0 lo)).toArray.size<=sizeLine;rw[ar,bJ,dO,cy];omega
 have hj:sIx items.size items.size hi<=items.size:=sIx_le _ _ (au _) hi;obtain⟨os,B,L,U⟩:=id hs;have O:s.TypeIs (.ref sl) "slice":=⟨os,B,L⟩;unfold jF
 try with_reducible refine bF ?_
 first | refine ad (af ?_) | skip
 refine ad (wpAny_sequenceKey ht.typeIs (by decide) ?_)
 refine ad (cC (name:=aN "__getitem__") ht.typeIs bT
  (cD bT ht.typeIs entry_tuple_getitem ?_ (args_tuple_getitem _ _)))
 show ay _ _ (jg (.ref t) >>= _) _ _ s;refine ad (tupleItemsOf_ ht ?_);refine ad (gT O ?_);rw[if_pos (by decide)]
 refine ad (sliceApplied_gen hs pl pu ?_);have G:¬ ((((sIx items.size 0 lo:Nat):Int) == 0 && (1:Int) == 1 && (sIx items.size items.size hi - sIx items.size 0 lo) == items.size)=true):=by
  intro q;rw[aI,aI] at q;have Z:((sIx items.size 0 lo:Nat):Int)=0:=fL q.1.1;have Y:sIx items.size items.size hi - sIx items.size 0 lo=items.size:=fL q.2;exact hw ⟨by omega,by omega⟩
 show ay _ _ (if (((sIx items.size 0 lo:Nat):Int) == 0 && (1:Int) == 1 && (sIx items.size items.size hi - sIx items.size 0 lo) == items.size)=true then _ else _) _ _ s
 rw[if_neg G,dJs]
 first
  | exact ad (m:=cr _) (bi (af ⟨_,rfl,af h⟩) i)
  | exact ad (m:=cr _) (bi (ad (af (af ⟨_,rfl,af h⟩))) i)
  | exact ad (ad (m:=cr _) (bi (af (af ⟨_,rfl,af h⟩)) i))
  | exact ad (ad (m:=cr _) (bi (af ⟨_,rfl,af h⟩) i))
end
end HT
namespace L2
open PySem PySem.Spec PyProof.Rows
abbrev TO:=St->Hp->(Option Int->Hp->Prop)->Prop
def PO (X:Cx) (e:Option Expr) (t:TO):Prop :=
 ∀ (pins:List (Addr × Obj)) (s:ai) (σ:St) (H:Hp) (Q:Option Int->Hp->Prop),Inv X pins σ H s->t σ H Q ->
  ay (az X.prog X.w) X.A (evalPart e X.env) (λu s'=>∃ o H',Inv X pins σ H' s'/\kh u o/\Q o H') X.xe s
def eJ3:TO:=λ_ H Q=>Q none H
def gZw (t:TE):TO:=fun σ H Q=>t σ H λx H1=>∃ i,x=.int i/\Q (some i) H1
theorem bX7 {ns:List Int}:∀ {us:List ae},Vals (ns.map V.int) us->ki us ns:=by
 induction ns with
 | nil=>intro us r;rw[eZ] at r;cases r;exact .nil
 | cons n ns B =>
  intro us r;rw[a9] at r;cases r with
  | cons y i =>
   obtain⟨t,e⟩:=y;subst e;exact .cons n t (B i)
section
variable {X:Cx} {e:Expr} {te:TE} {lo hi:Option Expr} {tl th:TO} {pos p2:Pos}
theorem eJ4:PO X none eJ3:=by
 intro pins s σ H Q I h;rw[evalPart_none];exact af ⟨none,H,I,.none,h⟩
theorem eJ5 (h:PE X e te):PO X (some e) (gZw te):=by
 intro pins s σ H Q I hw;rw[evalPart_some];refine thn (h pins s σ H _ I hw) λu s1 ⟨x,H1,G,y,B⟩=>?_;obtain⟨i,rfl,q⟩:=B;obtain⟨t,rfl⟩:=y;exact⟨some i,H1,G,.int i t,q⟩
def SlR (X:Cx) (r:V->Option Int->Option Int->Hp->VK->Prop):Prop :=
 ∀ (pins:List (Addr × Obj)) (s:ai) (σ:St) (H:Hp) (x:V) (v vl vu:ae) (lo hi:Option Int) (sl:Addr) (Q:VK),Inv X pins σ H s->RelV x v->s.heap.IsSliceOf sl vl vu .none->kh vl lo->kh vu hi->r x lo hi H Q ->
  ∃ T id,typeLookup (.type T) "__getitem__"=pure (some (.builtin id))/\s.TypeIs v T/\ay (az X.prog X.w) X.A (jF v (.ref sl)) (EP X pins σ Q) X.xe s
theorem SlR.or {r r':V->Option Int->Option Int->Hp->VK->Prop} (h:SlR X r) (h':SlR X r'):SlR X (λx lo hi H Q=>r x lo hi H Q\/r' x lo hi H Q):=by
 intro pins s σ H x v y i lo hi sl Q I B G pl pu q;rcases q with q | q
 ·exact h pins s σ H x v y i lo hi sl Q I B G pl pu q
 ·exact h' pins s σ H x v y i lo hi sl Q I B G pl pu q
def tSl (r:V->Option Int->Option Int->Hp->VK->Prop) (te:TE) (tl th:TO):TE:=fun σ H Q=>te σ H λx H1=>tl σ H1 λl H2=>th σ H2 λu H3=>r x l u H3 Q
theorem dJt {r:V->Option Int->Option Int->Hp->VK->Prop} (hr:SlR X r) (he:PE X e te) (hl:PO X lo tl) (hu:PO X hi th):PE X (.Subscript e (.Slice lo hi none p2) pos) (tSl r te tl th):=by
 intro pins s σ H Q I h;refine Subscript_ (thn (he pins s σ H _ I h) λv s1 ⟨x,H1,I1,L,Y⟩=>?_);refine wpAny_Slice (thn (hl pins s1 σ H1 _ I1 Y) λB s2 ⟨l,H2,I2,pl,U⟩=>thn (hu pins s2 σ H2 _ I2 U) λy s3 ⟨u,G,I3,pu,O⟩=>?_);rw[evalPart_none];refine af ?_;have I4:Inv X pins σ G { s3 with heap:=s3.heap.push { cls:=.type "slice",data:=.fields #[B,y,.none] } }:=I3.kept (t':=s3.toks) λb ob q=>ag _ q
 obtain⟨T,id,hT,Z,hg⟩:=hr pins { s3 with heap:=s3.heap.push { cls:=.type "slice",data:=.fields #[B,y,.none] } } σ G x v B y l u s3.heap.objs.size Q I4 L (lh ..) pl pu O;show ay (az X.prog X.w) X.A (subscriptTail e (.Slice lo hi none p2) v (.ref s3.heap.objs.size)) (EP X pins σ Q) X.xe { s3 with heap:=s3.heap.push { cls:=.type "slice",data:=.fields #[B,y,.none] } }
 exact tail_any (ops:=[.ref s3.heap.objs.size,v]) Z hT hg (by with_unfolding_all rfl)
def cutV (xs:List V) (lo hi:Option Int):List V:=(xs.drop (HT.sIx xs.length 0 lo)).take (HT.sIx xs.length xs.length hi - HT.sIx xs.length 0 lo)
theorem bQu (xs:List V) (lo hi:Option Int):(cutV xs lo hi).length<=xs.length:=by
 unfold cutV;rw[bJ,dO];omega
def rSlT (K:aq):V->Option Int->Option Int->Hp->VK->Prop:=λx lo hi H Q=>∃ a xs,x=.ref a/\SqT K H a xs /\
 ¬ (HT.sIx xs.length 0 lo=0/\HT.sIx xs.length xs.length hi=xs.length)/\∀ p,H p=none->Q (.ref p) (upd H p (.tup (cutV xs lo hi)))
theorem fXn:SlR X (rSlT X.K):=by
 intro pins s σ H x v U O lo hi sl Q I rx L pl pu h;obtain⟨a,xs,rfl,G,hw,q⟩:=h;cases rx;obtain⟨i,r,B,y⟩:=I.tuple G;have hlen:i.toArray.size=xs.length:=by rw[ar];exact r.length.symm
 refine⟨"tuple",_,bT.lookup,B.typeIs,?_⟩;refine HT.getItem_tuple_cut B L pl pu (by rw[hlen];exact hw) ?_ (by rw[hlen];exact y)
 rw[hlen];refine⟨.ref s.heap.objs.size,_,I.laid (t':=s.toks) (o:=.tup (cutV xs lo hi)) (λb ob q=>ag _ q) (au _) ?_,rfl,q _ (I.hok.fresh (au _))⟩;exact⟨bc (bQu xs lo hi) y,_,(r.drop (HT.sIx xs.length 0 lo)).take (HT.sIx xs.length xs.length hi - HT.sIx xs.length 0 lo),iF.new _ _,bJm⟩
def eJ6 (K:aq):R2:=λx y H Q=>∃ a b xs ys,x=.ref a/\y=.ref b/\SqT K H a xs/\SqT K H b ys/\xs≠[]/\xs.length + ys.length<=sizeLine /\
 (ys=[]->Q (.ref a) H)/\(ys≠[]->∀ p,H p=none->Q (.ref p) (upd H p (.tup (xs++ys))))
theorem Vals.nil_iff {xs:List V} {us:List ae} (r:Vals xs us):us=[]↔xs=[]:=by
 cases r with
 | nil=>simp
 | cons _ _=>simp
theorem eJ7:OpR X (eX .Add) (eJ6 X.K):=by
 intro pins s σ H x y v u Q I rx ry h;obtain⟨a,b,xs,ys,rfl,rfl,ha,hb,hx,L,U,O⟩:=h;cases rx;cases ry;obtain⟨Z,B,Y,_⟩:=I.tuple ha;obtain⟨G,i,p2,_⟩:=I.tuple hb;refine HT.cat_tup Y p2 (λz=>hx (B.nil_iff.mp z)) (λz=>⟨.ref a,H,I,rfl,U (i.nil_iff.mp z)⟩) (λz=>?_) (by rw[<- B.length,<- i.length];exact L)
 refine⟨.ref s.heap.objs.size,_,I.laid (t':=s.toks) (o:=.tup (xs++ys)) (λb ob q=>ag _ q) (au _) ?_,rfl,O (λw=>z (i.nil_iff.mpr w)) _ (I.hok.fresh (au _))⟩;exact⟨by rw[ax];exact L,_,B.append i,iF.new _ _,bJm⟩
end
def ixN (n:Nat) (i:Int):Option Nat:=if 0<=i then (if i < n then some i.toNat else none) else if -(n:Int)<=i then some (i + n).toNat else none
def atI {α:Type} (xs:List α) (i:Int):Option α:=(ixN xs.length i).bind λj=>xs[j]?
theorem cQn {n:Nat} {i:Int} {j:Nat} (h:ixN n i=some j):seqIndex? i n=some j/\j < n/\-(n:Int)<=i/\i < n:=by
 unfold ixN at h
 by_cases h0:0<=i
 ·rw[if_pos h0] at h
  by_cases h1:i < n
  ·rw[if_pos h1] at h;have e:i.toNat=j:=aK h;exact⟨by rw[seqIndex_of h0 h1,e],by omega,by omega,h1⟩
  ·rw[if_neg h1] at h;cases h
 ·rw[if_neg h0] at h
  by_cases h1:-(n:Int)<=i
  ·rw[if_pos h1] at h;have e:(i + n).toNat=j:=aK h;exact⟨by rw[seqIndex_neg (by omega) h1,e],by omega,h1,by omega⟩
  ·rw[if_neg h1] at h;cases h
theorem cQo {α:Type} {xs:List α} {i:Int} {v:α} (h:atI xs i=some v):∃ j,seqIndex? i xs.length=some j/\xs[j]?=some v/\j < xs.length/\-(xs.length:Int)<=i/\i < xs.length:=by
 unfold atI at h;cases e:ixN xs.length i with
 | none=>rw[e] at h;cases h
 | some j =>
  rw[e] at h;obtain⟨h1,h2,B,y⟩:=cQn e;exact⟨j,h1,h,h2,B,y⟩
theorem aZs {α:Type} {xs:List α} {j:Nat} {v:α} (h:xs[j]?=some v):atI xs (j:Int)=some v:=by
 have i:j < xs.length:=(bd.mp h).1;have e:ixN xs.length (j:Int)=some j:=by
  unfold ixN;rw[if_pos (by omega),if_pos (by omega)];simp
 unfold atI;rw[e];exact h
theorem dJu {α:Type} (xs:List α) (v:α):atI (xs++[v]) (-1)=some v:=by
 have hl:(xs++[v]).length=xs.length + 1:=by simp
 have e:ixN (xs++[v]).length (-1)=some xs.length:=by
  unfold ixN;rw[hl,if_neg (by decide),if_pos (by omega)]
  congr 1
  omega
 unfold atI;rw[e];show(xs++[v])[xs.length]?=some v;simp
def PlainIx (b:Expr):Prop:=∀ o i,subscripted b false o i=operate [o,i] (jF o i)
def IxR (X:Cx) (r:R2):Prop :=
 ∀ (value slice:Expr) (pins:List (Addr × Obj)) (s:ai) (σ:St) (H:Hp) (x y:V) (v u:ae) (Q:VK),Inv X pins σ H s->RelV x v->RelV y u->r x y H Q ->
  subscripted slice false v u=operate [v,u] (jF v u)->ay (az X.prog X.w) X.A (subscriptTail value slice v u) (EP X pins σ Q) X.xe s
def MtR (X:Cx) (id:String) (r:V->List V->Hp->VK->Prop):Prop :=
 ∀ (pins:List (Addr × Obj)) (s:ai) (σ:St) (H:Hp) (x:V) (xs:List V) (v:ae) (us:List ae) (Q:VK),Inv X pins σ H s->RelV x v->Vals xs us->r x xs H Q ->
  ay (az X.prog X.w) X.A (call (.builtin id) (v::us)) (EP X pins σ Q) X.xe s
section
variable {X:Cx} {a b:Expr} {ta tb:TE} {pos:Pos}
theorem IxR.or {r r':R2} (h:IxR X r) (h':IxR X r'):IxR X (λx y H Q=>r x y H Q\/r' x y H Q):=by
 intro value slice pins s σ H x y v u Q I B i q G;rcases q with q | q
 ·exact h value slice pins s σ H x y v u Q I B i q G
 ·exact h' value slice pins s σ H x y v u Q I B i q G
theorem pe_ix {r:R2} (hr:IxR X r) (ha:PE X a ta) (hb:PE X b tb) (hs:PlainIx b):PE X (.Subscript a b pos) (tOp r ta tb):=by
 intro pins s σ H Q I h;exact Subscript_ (binT ha hb I h λv u s2 x y H2 G B i q=>hr a b pins s2 σ H2 x y v u Q G B i q (hs _ _))
def rIxL (K:aq):R2:=λx y H Q=>∃ p xs i v,x=.ref p/\y=.int i/\SqL K H p xs/\atI xs i=some v/\Q v H
def rIxT (K:aq):R2:=λx y H Q=>∃ p xs i v,x=.ref p/\y=.int i/\SqT K H p xs/\atI xs i=some v/\Q v H
def rIxS:R2:=λx y H Q=>∃ z i c,x=.str z/\y=.int i/\z.length<=sizeLine/\atI z.cps.toList i=some c/\Q (.str ⟨#[c]⟩) H
theorem ix_list:IxR X (rIxL X.K):=by
 intro value slice pins s σ H x y v u Q I rx Y h O;obtain⟨p,xs,i,z,rfl,rfl,Z,he,q⟩:=h;cases rx;obtain⟨t,rfl⟩:=Y;obtain⟨G,r,pl,hz⟩:=I.list Z;obtain⟨j,h1,h2,h3,h4,h5⟩:=cQo he;obtain⟨w,U,B⟩:=r.get h2;have hl:=r.length;have hn:=bX6;have fin:EP X pins σ Q w s:=⟨z,H,I,B,q⟩
 by_cases h0:0<=i
 ·have L:i.toNat=j:=by
   rw[seqIndex_of h0 h5] at h1;exact aK h1
  exact item_listR pl.isList h0 (by omega) (by rw[L];simpa using U) fin O
 ·have L:(i + (G.toArray.size:Int)).toNat=j:=by
   rw[seqIndex_neg (by omega) h4] at h1
   rw[ar,<- hl];exact aK h1
  exact subscriptTail_builtinR (x:=w) pl.isList.typeIs jG.lookup
   (wpAny_getItem_list_neg (Q:=λr s'=>r=w/\EP X pins σ Q r s') pl.isList (by omega) (by rw[ar] <;> omega) (by omega) (by rw[L];simpa using U) ⟨rfl,fin⟩) O
theorem ix_tup:IxR X (rIxT X.K):=by
 intro value slice pins s σ H x y v u Q I rx G h O;obtain⟨p,xs,i,z,rfl,rfl,U,he,q⟩:=h;cases rx;obtain⟨t,rfl⟩:=G;obtain⟨L,r,pl,Z⟩:=I.tuple U;obtain⟨j,h1,h2,h3,h4,h5⟩:=cQo he;obtain⟨w,Y,B⟩:=r.get h2;have hl:=r.length;have hn:=bX6;have fin:EP X pins σ Q w s:=⟨z,H,I,B,q⟩;exact subscriptTail_builtinR (x:=w) pl.typeIs slot_tuple_getitem.lookup
  (getItem_tuple (j:=j) (Q:=λr s'=>r=w/\EP X pins σ Q r s') pl (by omega) (by omega) (by rw[ar,<- hl];exact h1) (by simpa using Y) ⟨rfl,fin⟩) O
theorem fXo:IxR X rIxS:=by
 intro value slice pins s σ H x y v u Q I G B h L;obtain⟨z,i,c,rfl,rfl,hz,he,q⟩:=h;obtain⟨t,rfl⟩:=G;obtain⟨Z,rfl⟩:=B;obtain⟨j,h1,h2,h3,U,O⟩:=cQo he;have hl:z.cps.toList.length=z.length:=by simp[Str.length]
 rw[hl] at h1 U O;have hn:=bX6;exact tail_any (typeIs_str s z t) slot_str_getitem.lookup (getItem_str (c:=c) (by
  have Y:decide (i < -(2 ^ 63:Int))=false:=decide_eq_false (by omega)
  have e2:decide (i >= 2 ^ 63)=false:=decide_eq_false (by omega)
  rw[Y,e2,Bool.or_false]) (by rw[h1];simpa using h2) ⟨.str ⟨#[c]⟩,H,I.tok _,⟨_,rfl⟩,q⟩) L
def rIx (K:aq):R2:=λx y H Q=>rIxL K x y H Q\/rIxT K x y H Q\/rIxS x y H Q
theorem fXp:IxR X (rIx X.K):=ix_list.or (ix_tup.or fXo)
theorem cJ8 (its:List ae) (n j:Nat) (u:ae):bQ (·.setIfInBounds j u) { cls:=.type "list",data:=.seq its.toArray n }={ cls:=.type "list",data:=.seq (its.set j u).toArray n }:=by
 simp[bQ]
theorem Inv.lst {pins:List (Addr × Obj)} {σ:St} {H:Hp} {s:ai} {p:Addr} {xs:List V} (I:Inv X pins σ H s) (h:H p=some (.lst xs)) :
  ∃ (its:List ae) (n:Nat),Vals xs its/\s.heap.get? p=some { cls:=.type "list",data:=.seq its.toArray n }/\xs.length<=sizeLine:=by
 obtain⟨z,its,n,r,e⟩:=I.hok p _ h;exact⟨its,n,r,e,z⟩
theorem Inv.lstUpd {pins:List (Addr × Obj)} {σ:St} {H:Hp} {s:ai} {p:Addr} {xs ys:List V} {its its':List ae} {n n':Nat} {f:Obj->Obj} (I:Inv X pins σ H s) (h:H p=some (.lst xs))
  (ho:s.heap.get? p=some { cls:=.type "list",data:=.seq its.toArray n }) (hf:f { cls:=.type "list",data:=.seq its.toArray n }={ cls:=.type "list",data:=.seq its'.toArray n' }) (r:Vals ys its') (hz:ys.length<=sizeLine) (t:Nat) :
  Inv X pins σ (upd H p (.lst ys)) { s with heap:=s.heap.update p f,toks:=t }:=by
 have e:(s.heap.update p f).get? p=some { cls:=.type "list",data:=.seq its'.toArray n' }:=by
  rw[bP f ho (by rw[hf] <;> rfl),hf]
 refine I.write (x:=p) (e:=p) (by rw[h];trivial) (.inl rfl) (λb u i q=>(aX _ _ (bj i)).trans q) ⟨_,e⟩ ?_
 exact⟨hz,its',n',r,e⟩
def gZx:V->V->V->Hp->(Hp->Prop)->Prop:=λo i v H Q=>∃ p xs k j,o=.ref p/\i=.int k/\H p=some (.lst xs)/\ixN xs.length k=some j/\Q (upd H p (.lst (xs.set j v)))
theorem dJv:PSet X gZx:=by
 intro pins s σ H o i v ov iv u Q I ro Y U h;obtain⟨p,xs,k,j,rfl,rfl,hp,hj,q⟩:=h;cases ro;obtain⟨t,rfl⟩:=Y;obtain⟨y,n,r,B,Z⟩:=I.lst hp;obtain⟨h1,h2,L,G⟩:=cQn hj;have hl:=r.length;have hn:=bX6;have O:Inv X pins σ (upd H p (.lst (xs.set j v))) { s with heap:=s.heap.update p (bQ (·.setIfInBounds j u)) } :=
  I.lstUpd hp B (cJ8 y n j u) (r.set U j) (by rw[fI];exact Z) s.toks
 by_cases h0:0<=k
 ·have hk:k.toNat=j:=by
   rw[seqIndex_of h0 G] at h1;exact aK h1
  exact PySem.W.ki_setAt B h0 (by omega) (by rw[ar,<- hl];exact G) (by rw[hk];exact⟨_,O,q⟩)
 ·have hk:(k + (y.toArray.size:Int)).toNat=j:=by
   rw[seqIndex_neg (by omega) L] at h1
   rw[ar,<- hl];exact aK h1
  exact PySem.W.ki_setBack B (by omega) (by rw[ar,<- hl];exact L) (by omega) (by rw[hk];exact⟨_,O,q⟩)
theorem bQ4 (lo hi:Option Int) (n:Nat):(e8 lo hi none n).1=((HT.sIx n 0 lo:Nat):Int)/\(e8 lo hi none n).2.1=((HT.sIx n n hi:Nat):Int)/\(e8 lo hi none n).2.2=1:=by
 refine⟨?_,?_,rfl⟩
 ·cases lo with
  | none=>simp[e8,HT.sIx]
  | some i =>
   simp only[e8,HT.sIx,jV,show(1:Int) > 0 by decide,if_true]
   by_cases h:i < 0
   ·simp only[h,if_true] <;> omega
   ·simp only[h,if_false] <;> omega
 ·cases hi with
  | none=>simp[e8,HT.sIx]
  | some i =>
   simp only[e8,HT.sIx,jV,show(1:Int) > 0 by decide,if_true]
   by_cases h:i < 0
   ·simp only[h,if_true] <;> omega
   ·simp only[h,if_false] <;> omega
theorem bXl (its:List ae) (lo hi:Option Int):slicePick its.toArray lo hi none=((its.drop (HT.sIx its.length 0 lo)).take (HT.sIx its.length its.length hi - HT.sIx its.length 0 lo)).toArray:=by
 obtain⟨h1,h2,i⟩:=bQ4 lo hi its.toArray.size;unfold slicePick;rw[h1,h2,i];simp only[sliceRange_one,pick_run,ar] <;> rfl
def rSlL (K:aq):V->Option Int->Option Int->Hp->VK->Prop:=λx lo hi H Q=>∃ a xs,x=.ref a/\SqL K H a xs/\∀ p,H p=none->Q (.ref p) (upd H p (.lst (cutV xs lo hi)))
theorem eJ8:SlR X (rSlL X.K):=by
 intro pins s σ H x v U O lo hi sl Q I rx L pl pu h;obtain⟨a,xs,rfl,G,q⟩:=h;cases rx;obtain⟨y,r,i,B⟩:=I.list G;have hlen:=r.length;refine⟨"list",_,jG.lookup,i.isList.typeIs,?_⟩;refine wpAny_getItem_list_slice i.isList L pl pu .none (by simp) ?_ (by rw[ar] <;> omega)
 rw[bXl,<- hlen];refine⟨.ref s.heap.objs.size,_,I.laid (t':=s.toks) (o:=.lst (cutV xs lo hi)) (λb ob q=>ag _ q) (au _) ?_,rfl,q _ (I.hok.fresh (au _))⟩;exact⟨bc (bQu xs lo hi) B,_,0,(r.drop (HT.sIx xs.length 0 lo)).take (HT.sIx xs.length xs.length hi - HT.sIx xs.length 0 lo),av _ rfl⟩
theorem CallR.or {f:ae} {r r':List V->Hp->VK->Prop} (h:CallR X f r) (h':CallR X f r'):CallR X f (λxs H Q=>r xs H Q\/r' xs H Q):=by
 intro pins s σ H xs us Q I rs q;rcases q with q | q
 ·exact h pins s σ H xs us Q I rs q
 ·exact h' pins s σ H xs us Q I rs q
theorem call_list_of:CallR X (.type "list") (λxs H Q=>∃ p ys,xs=[.ref p]/\(SqL X.K H p ys\/SqT X.K H p ys)/\∀ l,H l=none->Q (.ref l) (upd H l (.lst ys))):=by
 intro pins s σ H xs us Q I r h;obtain⟨p,ys,rfl,L,q⟩:=h;obtain⟨u,rfl,rx⟩:=aXd r;cases rx;have fin:∀ (i:List ae),Vals ys i->ys.length<=sizeLine->∀ (h':aO) (B:Nat),(∀ b o',s.heap.get? b=some o'->h'.get? b=some o') ->
   h'.get? s.heap.objs.size=some { cls:=.type "list",dict:=none,data:=.seq i.toArray B,slots:=#[] }->EP X pins σ Q (.ref s.heap.objs.size) { s with heap:=h' }:=λi y G h' B kp e =>
  ⟨.ref s.heap.objs.size,_,I.laid (t':=s.toks) kp (au _) (show ObjOk X.prog X.w _ h' _ (.lst ys) from⟨G,i,B,y,e⟩),rfl,q _ (I.hok.fresh (au _))⟩
 rcases L with L | L
 ·obtain⟨i,y,pl,G⟩:=I.list L;have hlen:=y.length;obtain⟨o,O,U,n,hd⟩:=pl.isList;exact call_list_seq p (.inl rfl) O U hd (λh' B kp e=>fin i y G h' B kp e) (by simp only[ar] <;> omega)
 ·obtain⟨i,y,pl,G⟩:=I.tuple L;have hlen:=y.length;obtain⟨o,O,U,n,hd⟩:=pl;exact call_list_seq p (.inr rfl) O U hd (λh' B kp e=>fin i y G h' B kp e) (by simp only[ar] <;> omega)
theorem bXm:CallR X (.type "tuple") (λxs H Q=>∃ p ys,xs=[.ref p]/\((SqL X.K H p ys/\∀ l,H l=none->Q (.ref l) (upd H l (.tup ys)))\/(SqT X.K H p ys/\Q (.ref p) H))):=by
 intro pins s σ H xs us Q I r h;obtain⟨p,ys,rfl,h⟩:=h;obtain⟨u,rfl,rx⟩:=aXd r;cases rx;rcases h with⟨B,q⟩ | ⟨B,q⟩
 ·obtain⟨i,y,pl,G⟩:=I.list B;have hlen:=y.length;refine call_tuple_list pl.isList (λh' kp=>?_) (by simp only[ar] <;> omega)
  have L:Inv X pins σ H { s with heap:=h' }:=I.kept (t':=s.toks) kp
  have O:Inv X pins σ (upd H h'.objs.size (.tup ys)) { s with heap:=h'.push { cls:=.type "tuple",data:=.seq i.toArray } } :=
   L.laid (t':=s.toks) (λb o e=>ag _ e) (au _) (show ObjOk X.prog X.w _ _ _ (.tup ys) from⟨G,i,y,iF.new _ _,bJm⟩)
  exact⟨.ref h'.objs.size,_,O,rfl,q _ (L.hok.fresh (au _))⟩
 ·obtain⟨i,y,pl,G⟩:=I.tuple B;exact call_tuple_same pl ⟨.ref p,H,I,rfl,q⟩
def tyV (K:aq) (T:String) (x:V) (H:Hp):Prop:=match x with
 | .str _=>T="str"
 | .int _=>T="int"
 | .ref p=>(T="list"/\∃ xs,SqL K H p xs)\/(T="tuple"/\∃ o,K.lookup p=some o/\o.cls=.type "tuple"/\o.dict=none) \/
   (T="dict"/\((∃ kvs,H p=some (.dK kvs))\/∃ kvs,H p=some (.dT kvs)))\/(T="set"/\∃ S n,H p=some (.set S n))
 | _=>False
theorem eZj {pins:List (Addr × Obj)} {σ:St} {H:Hp} {s:ai} {T:String} {x:V} {v:ae} (I:Inv X pins σ H s) (r:RelV x v) (ty:tyV X.K T x H) :
  s.TypeIs v T/\∀ a,v=.ref a->∃ ob,s.heap.get? a=some ob/\ob.dict=none:=by
 cases x with
 | str z =>
  obtain⟨t,rfl⟩:=r;cases (show T="str" from ty)
  exact⟨typeIs_str s z t,λ_ e=>nomatch e⟩
 | int i =>
  obtain⟨t,rfl⟩:=r;cases (show T="int" from ty)
  exact⟨typeIs_int s i t,λ_ e=>nomatch e⟩
 | ref p =>
  cases r;rcases ty with⟨rfl,xs,G⟩ | ⟨rfl,o,hk,L,hd⟩ | ⟨rfl,hk⟩ | ⟨rfl,S,n,hk⟩
  ·obtain⟨B,_,pl,_⟩:=I.list G;refine⟨pl.isList.typeIs,λa e=>?_⟩;cases e;obtain⟨o,n,e,c,hd,_⟩:=pl;exact⟨o,e,hd⟩
  ·refine⟨⟨o,I.kIn p o hk,L⟩,λa e=>?_⟩;cases e;exact⟨o,I.kIn _ o hk,hd⟩
  ·have z:∃ o,s.heap.get? p=some o/\o.ExactDict:=by
    rcases hk with⟨y,hk⟩ | ⟨y,hk⟩
    ·obtain⟨_,_,_,_,o,_,_,e,ex,_⟩:=I.hok p _ hk;exact⟨o,e,ex⟩
    ·obtain⟨_,_,_,_,o,_,_,e,ex,_⟩:=I.hok p _ hk;exact⟨o,e,ex⟩
   obtain⟨o,e,ex⟩:=z;refine⟨⟨o,e,ex.1⟩,λa e2=>?_⟩;cases e2;exact⟨o,e,ex.2.1⟩
  ·obtain⟨o,_,_,_,e,ex,_⟩:=I.hok p _ hk;refine⟨⟨o,e,ex.1⟩,λa e2=>?_⟩;cases e2;exact⟨o,e,ex.2.1⟩
 | _=>exact cI ty
def tBM0 (K:aq) (T:String) (r:V->List V->Hp->VK->Prop) (to:TE):TE:=fun σ H Q=>to σ H λx H1=>tyV K T x H1/\r x [] H1 Q
def tBM (K:aq) (T:String) (r:V->List V->Hp->VK->Prop) (to:TE) (t:TA):TE:=fun σ H Q=>to σ H λx H1=>tyV K T x H1/\t σ H1 λxs H2=>r x xs H2 Q
variable {o e:Expr} {es:List Expr} {to:TE} {t:TA} {name:Str} {apos cpos:Pos} {T id:String} {r:V->List V->Hp->VK->Prop}
theorem fXq (pa:PlainAttrs T) (slot:Slot T name id) (hty:typeOf (.builtin id)=pure (.type "method_descriptor")) (hm:MtR X id r) (ho:PE X o to)
  (hbase:cX o name X.env (eval o X.env)=eval o X.env:=by rfl) (hline:(apos.endLine == cpos.line)=true:=by rfl):PE X (.Call (.Attribute o name apos) [] [] cpos) (tBM0 X.K T r to):=by
 intro pins s σ H Q I h;refine wpAny_Call_method0_late hbase hline (thn (ho pins s σ H _ I h) λv s1 ⟨x,H1,y,i,ty,B⟩=>?_);obtain⟨h1,h2⟩:=eZj y i ty;exact⟨T,id,pa,slot,hty,h1,h2,kj rfl (PySem.evalArgs_none (hm pins s1 σ H1 x [] v [] Q y i .nil B))⟩
theorem gZy (pa:PlainAttrs T) (slot:Slot T name id) (hty:typeOf (.builtin id)=pure (.type "method_descriptor")) (hm:MtR X id r) (ho:PE X o to) (ha:PA X (e::es) t)
  (hbase:cX o name X.env (eval o X.env)=eval o X.env:=by rfl)
  (hfew:((bn cpos (am (e::es) X.env)).all (λx=>!x.1) && (eJ cpos (cV [] X.env)).all (λx=>x.1.isSome)
   && decide ((e::es).length + ([]:List gj).length + (if ([]:List gj).isEmpty then 0 else 1) < 30))=true:=by rfl)
  (hline:(apos.endLine == cpos.line)=true:=by rfl) (hs:am (e::es) X.env=(false,eval e X.env)::am es X.env:=by rfl) (hplain:(bn cpos (am es X.env)).any (·.1)=false:=by rfl) :
  PE X (.Call (.Attribute o name apos) (e::es) [] cpos) (tBM X.K T r to t):=by
 intro pins s σ H Q I h;refine wpAny_Call_method_late hbase hfew hline rfl (thn (ho pins s σ H _ I h) λv s1 ⟨x,H1,B,i,ty,O⟩=>?_);obtain⟨h1,h2⟩:=eZj B i ty;refine⟨T,id,pa,slot,hty,h1,h2,?_⟩;have y:=ha cpos pins s1 σ H1 _ B O;rw[hs] at y ⊢;refine kj (by show(false || (bn cpos (am es X.env)).any (·.1))=false;rw[hplain] <;> rfl) (Calls.evalArgs_plain ?_)
 exact thn y λus s2 ⟨vs,H2,U,G,L⟩=>hm pins s2 σ H2 x vs v us Q U i G L
end
def MtM (X:Cx) (id:String) (r:V->List V->Hp->VK->Prop):Prop :=
 ∀ (pins:List (Addr × Obj)) (s:ai) (σ:St) (H:Hp) (x:V) (xs:List V) (v:ae) (us:List ae) (Q:VK),Inv X pins σ H s->RelV x v->Vals xs us->r x xs H Q ->
  ay (az X.prog X.w) X.A (call (.builtin id) (v::us)) (EP X pins σ Q) X.xe s
theorem Vals.one:∀ {x:V} {us:List ae},Vals [x] us->∃ u,us=[u]/\RelV x u:=by
 intro x us h;cases h with
 | cons r t=>cases t;exact⟨_,rfl,r⟩
theorem Vals.two:∀ {x y:V} {us:List ae},Vals [x,y] us->∃ u v,us=[u,v]/\RelV x u/\RelV y v:=by
 intro x y us h;cases h with
 | cons r t =>
  cases t with
  | cons q t=>cases t;exact⟨_,_,rfl,r,q⟩
theorem Vals.zero:∀ {us:List ae},Vals [] us->us=[]
 | _,.nil=>rfl
theorem Vals.dropLast {xs:List V} {us:List ae} (h:Vals xs us):Vals xs.dropLast us.dropLast:=by
 induction h with
 | nil=>exact .nil
 | cons r t i =>
  cases t with
  | nil=>exact .nil
  | cons q y=>exact .cons r i
theorem Vals.eraseIdx:∀ {xs:List V} {us:List ae} (i:Nat),Vals xs us->Vals (xs.eraseIdx i) (us.eraseIdx i)
 | _,_,_,.nil=>.nil
 | _,_,0,.cons _ t=>t
 | _,_,i + 1,.cons r t=>.cons r (Vals.eraseIdx i t)
theorem Vals.reverse {xs:List V} {us:List ae} (h:Vals xs us):Vals xs.reverse us.reverse:=by
 induction h with
 | nil=>exact .nil
 | cons r t i=>rw[gU,gU];exact Vals.append i (.cons r .nil)
theorem cJ9 {α:Type} (l:List α):l.eraseIdx (l.length - 1)=l.dropLast:=by
 induction l with
 | nil=>rfl
 | cons a r i =>
  cases r with
  | nil=>rfl
  | cons b r =>
   have e:(a::b::r).length - 1=((b::r).length - 1) + 1:=by
    have h1:(a::b::r).length=r.length + 2:=rfl;have h2:(b::r).length=r.length + 1:=rfl;omega
   rw[e,List.eraseIdx_cons_succ,i]
   all_goals rfl
theorem bJr {α:Type}:∀ (l:List α) (i:Nat),(l.eraseIdx i).length<=l.length
 | [],_=>au _
 | _::_,0=>dJ _
 | _::r,i + 1=>Nat.succ_le_succ (bJr r i)
section
variable {X:Cx} {pins:List (Addr × Obj)} {σ:St} {H:Hp} {s:ai} {l b:Addr} {xs ys zs:List V}
theorem Inv.lset {its its':List ae} {n:Nat} {f:Array ae->Array ae} {t':Nat} (I:Inv X pins σ H s) (hH:H l=some (.lst xs))
  (e:s.heap.get? l=some { cls:=.type "list",data:=.seq its.toArray n }) (hf:f its.toArray=its'.toArray) (hv:Vals ys its') (hz:ys.length<=sizeLine) :
  Inv X pins σ (upd H l (.lst ys)) { s with heap:=s.heap.update l (bQ f),toks:=t' }:=by
 have q:=PySem.IsL.update e f;rw[hf] at q;refine I.write (x:=l) (e:=l) (by rw[hH];exact trivial) (.inl rfl) (λB u y i=>(aX s.heap (bQ f) (bj y)).trans i) ⟨_,q⟩ ?_
 exact⟨hz,its',_,hv,q⟩
theorem Inv.lnew {its:List ae} {t':Nat} (I:Inv X pins σ H s) (hv:Vals ys its) (hz:ys.length<=sizeLine) :
  Inv X pins σ (upd H s.heap.objs.size (.lst ys)) { s with heap:=s.heap.push { cls:=.type "list",data:=.seq its.toArray },toks:=t' } :=
 I.laid (λ_ _ q=>ag _ q) (au _) ⟨hz,its,0,hv,av _ rfl⟩
theorem Inv.fresh (I:Inv X pins σ H s):H s.heap.objs.size=none:=I.hok.fresh (au _)
theorem Inv.lstM (I:Inv X pins σ H s) (hH:H l=some (.lst xs)):xs.length<=sizeLine/\∃ (its:List ae) (n:Nat),Vals xs its/\xs.length=its.length/\s.heap.get? l=some { cls:=.type "list",data:=.seq its.toArray n }:=by
 obtain⟨z,its,n,r,e⟩:=I.hok l _ hH;exact⟨z,its,n,r,r.length,e⟩
theorem dJw {n:Nat} (h:n<=sizeLine):gy n=false:=by
 unfold gy;exact decide_eq_false (by omega)
end
section
variable {X:Cx}
def dQb:V->List V->Hp->VK->Prop:=λx vs H Q=>∃ l xs y,x=.ref l/\vs=[y]/\H l=some (.lst xs)/\xs.length < sizeLine/\Q .non (upd H l (.lst (xs++[y])))
theorem bJs:MtM X "list.append" dQb:=by
 intro pins s σ H x vs v us Q I rx G h;obtain⟨l,xs,y,rfl,rfl,B,O,q⟩:=h;cases rx;obtain⟨u,rfl,L⟩:=G.one;obtain⟨z,i,n,r,hl,e⟩:=I.lstM B;refine jh F.slot_list_append ⟨_,e,rfl⟩ F.entry_list_append (F.args_list_append_2 _ _) (PySem.list_append l i.toArray n u (by rw[ar];omega)) ⟨e,?_⟩
 refine⟨.non,_,I.lset (its':=i++[u]) B e (by simp) (r.append (.cons L .nil)) ?_,rfl,q⟩
 rw[ax,fM];omega
def dQc:V->List V->Hp->VK->Prop:=λx vs H Q=>∃ l b xs zs,x=.ref l/\vs=[.ref b]/\H l=some (.lst xs)/\H b=some (.lst zs)/\xs.length + zs.length<=sizeLine/\Q .non (upd H l (.lst (xs++zs)))
theorem dQd:MtM X "list.extend" dQc:=by
 intro pins s σ H x vs v us Q I rx O h;obtain⟨l,b,xs,zs,rfl,rfl,L,hB,hz,q⟩:=h;cases rx;obtain⟨u,rfl,ru⟩:=O.one;cases ru;obtain⟨z,y,n,r,hl,e⟩:=I.lstM L;obtain⟨z2,i,Y,U,Z,e2⟩:=I.lstM hB;have G:y.toArray.size + i.toArray.size<=sizeLine:=by rw[ar,ar];omega
 have B:¬ (!y.toArray.isEmpty && gy (y.toArray.size + i.toArray.size))=true:=by
  rw[dJw G,Bool.and_false];exact bo
 refine jh F.slot_list_extend ⟨_,e,rfl⟩ F.entry_list_extend (F.args_list_extend_2 _ _)
  (AutoSeq1.list_extend_list_list_0 l y.toArray n b i.toArray Y B (by rw[ar];omega) (by omega)) ⟨e,e2,?_⟩
 refine⟨.non,_,I.lset (its':=y++i) L e (by simp) (r.append U) ?_,rfl,q⟩
 rw[ax];omega
def rPop:V->List V->Hp->VK->Prop:=λx vs H Q=>∃ l xs y,x=.ref l/\vs=[]/\H l=some (.lst xs)/\xs[xs.length - 1]?=some y/\Q y (upd H l (.lst xs.dropLast))
theorem fXr:MtM X "list.pop" rPop:=by
 intro pins s σ H x vs v us Q I rx O h;obtain⟨l,xs,y,rfl,rfl,L,Y,q⟩:=h;cases rx;have G:=O.zero;subst G;obtain⟨z,i,n,r,hl,e⟩:=I.lstM L;obtain⟨u,Z,U⟩:=r.get Y;have B:i.toArray[i.toArray.size - 1]?=some u:=by
  show i.toArray[i.length - 1]?=some u;rw[<- b4,<- hl];exact Z
 refine jh F.slot_list_pop ⟨_,e,rfl⟩ F.entry_list_pop (F.args_list_pop_1 _) (MeetsSeq.list_pop_last l i.toArray n u B (by rw[ar];omega)) ⟨e,?_⟩
 refine⟨y,_,I.lset (its':=i.dropLast) L e ?_ r.dropLast ?_,U,q⟩
 ·show i.toArray.eraseIdxIfInBounds (i.toArray.size - 1)=i.dropLast.toArray;rw[ar,hX,cJ9]
 ·rw[List.length_dropLast];omega
def eZk:V->List V->Hp->VK->Prop:=λx vs H Q=>∃ l xs i k y,x=.ref l/\vs=[.int i]/\H l=some (.lst xs)/\-(2 ^ 63)<=i/\i < 2 ^ 63/\seqIndex? i xs.length=some k/\xs[k]?=some y/\Q y (upd H l (.lst (xs.eraseIdx k)))
theorem dJx:MtM X "list.pop" eZk:=by
 intro pins s σ H x vs v us Q I rx O h;obtain⟨l,xs,i,k,y,rfl,rfl,L,h1,h2,hk,Y,q⟩:=h;cases rx;obtain⟨u,rfl,U⟩:=O.one;obtain⟨t,rfl⟩:=U;obtain⟨z,B,n,r,hl,e⟩:=I.lstM L;obtain⟨w,hw,G⟩:=r.get Y;refine jh F.slot_list_pop ⟨_,e,rfl⟩ F.entry_list_pop (F.args_list_pop_2 _ _)
  (MeetsSeq.list_pop_at l B.toArray n i t k w (fitsIndex_both h1 h2) (by rw[ar,<- hl];exact hk) (by rw[<- b4];exact hw) (by rw[ar];omega)) ⟨e,?_⟩
 refine⟨y,_,I.lset (its':=B.eraseIdx k) L e ?_ (r.eraseIdx k) ?_,G,q⟩
 ·show B.toArray.eraseIdxIfInBounds k=(B.eraseIdx k).toArray;rw[hX]
 ·have:=bJr xs k
  omega
end
section
variable {prog:aC} {w:aH} {A:aQ} {E:ae->ai->Prop} {s:ai}
set_option maxRecDepth 100000 in
end
end L2
namespace Att
open PySem PySem.W PySem.Calls PyProof.Rows
theorem bQv {P:Params} {h:aO}:∀ (ns:List Int) (vs:List ae),WellAll P h vs (ns.map WData.int)->ki vs ns:=by
 intro ns
 induction ns with
 | nil =>
  intro vs w;rw[eZ] at w;cases w;exact .nil
 | cons n ns i =>
  intro vs w;rw[a9] at w;cases w with
  | cons a b =>
   cases a;exact .cons _ _ (i _ b)
theorem dQe {l:OpenLaw} {n:Nat} (hn:l.most=some n) {P:Params} {h:aO} {args:List WData} {vals:List ae}
  (hpre:l.row.toRowW.claim.pre args=true) (hwl:WellAll P h vals args) :
  ∃ a vs ns,vals=[bI a]/\args=[WData.list (ns.map WData.int)]/\h.get? a=some { cls:=.type "list",data:=.seq vs.toArray }/\ki vs ns/\ns.length<=n:=by
 have G:WShape.hasAll [] args [.list .int]=true:=(pre_splitW hpre).1;have L:l.pre.holds [] { args:=args }=true:=(pre_splitW hpre).2;obtain⟨d,r,rfl,h1,h2⟩:=hasAllW_cons G;obtain rfl:=hasAllW_nil h2;obtain⟨xs,rfl,Y⟩:=hasW_list h1;obtain⟨ns,rfl⟩:=items_int Y;have hlen:ns.length<=n:=by
  unfold OpenLaw.pre at L;have B:(WTm.not (.lt (.lit (.int (n:Int))) (.len (.arg 0)))).holds [] { args:=[.list (ns.map .int)] }=true:=by
   have B:=(holds_andW L).1;rw[hn] at B;exact B
  have y:=condW_of B (w_not (w_lt w_lit (w_len_list (w_arg rfl))));rw[aj] at y;refine Nat.le_of_not_lt λq=>?_;have O:(n:Int) < ((ns.length:Nat):Int):=by omega
  first
   | (rw[decide_eq_true O] at y;exact absurd y (by decide))
   | (simp at y;omega)
 cases hwl with
 | cons w1 w2 =>
  cases w2;cases w1 with
  | list U i=>exact⟨_,_,ns,rfl,rfl,U,bQv ns _ i,hlen⟩
theorem dQf (l:OpenLaw) (args:List WData):l.row.toRowW.claim.post args (.bool true) args=true :=
 postW_of (r:=l.row.toRowW) (X:=(true == true))
  (show WShape.has [] (.bool true) .bool=true by first | rfl | decide | simp[WShape.has,WShape.arms,WShape.armsAll])
  (show(WTm.eq .res (.lit (.bool true))).value [] { args:=args,res:=some (.bool true),after:=args }=some (.bool (true == true)) from w_eq_bool (w_res rfl) w_lit) rfl
theorem attach_call {l:OpenLaw} {n:Nat} {q:aC} {loose:List Str} {XP:(Str->Option ae)->aO->Prop} {YP:aH->aO->Prop} {d:DefRec}
  (hn:l.most=some n) (hdf:d.params.defaults=[])
  (call:∀ (w:aH) (s₀ s₁:ai) (mg mb:Str->Option ae) (fa:Addr) (o:Obj) (pm cd doc:ae) (a:Addr) (vs:List ae) (ns:List Int),
   Ground q loose [] XP w s₀ mg mb s₁.heap->YP w s₁.heap ->
   s₁.heap.get? fa=some o->o.data=.func (docDef d.name d.params d.body d.scope pm cd doc)->s₁.heap.CodeRec cd d.name->mg d.name=some (.ref fa) ->
   s₁.heap.get? a=some { cls:=.type "list",data:=.seq vs.toArray }->ki vs ns->ns.length<=n->s₁.gens=#[] ->
   d9 (az l.prog w) callerA (.call (.ref fa) ⟨[.ref a],[]⟩) (λr s'=>r=.ok (.ret (.bool true))/\OldK s₁.heap s'.heap/\s'.os=s₁.os/\i0 s'.gens) s₁) :
  WalkO q loose XP YP l.row.toRowW d [] (λf vs=>PySem.call f vs):=by
 intro w s₀ s₁ mg mb G Y fa o pm cd doc dV kV ho hd O Z L hg args vals as i U hrd B hlo;obtain rfl:dV=.none:=Dflts.none Z hdf;obtain rfl:kV=.none:=Dflts.noKw Z;obtain⟨a,vs,ns,rfl,rfl,y,hints,hlen⟩:=dQe hn i B;refine enter_call (ec (call w s₀ s₁ mg mb fa o pm cd doc a vs ns G Y ho (fd_plain hd) O L y hints hlen hg) λr s' hq=>?_);obtain⟨rfl,h2,h3,h4⟩:=hq;exact⟨.inl ⟨.bool true,.bool true,[],rfl,λ_=>rfl,.bool true,dQf l _,λ_=>⟨lq,λ_ hm=>(nomatch hm)⟩⟩,h2,h3,h4⟩
end Att
namespace L2
open PySem PySem.Spec PyProof.Rows
theorem bQw:∀ {vs:List ae} {ns:List Int},ki vs ns->Vals (ns.map V.int) vs
 | _,_,.nil=>.nil
 | _,_,.cons n t h=>.cons ⟨t,rfl⟩ (bQw h)
def Only (H:Hp):Prop:=∀ b,H b=none\/∃ o xs,H b=some (.frz o (.lst xs))
theorem dJy {P:aC} {w:aH} {K:aq} {mg mb:Str->Option ae} {CX:CXT} {k:Nat} {fa a:Addr} {fd:cT} {x:Str} {sp:Sp} {s₁:ai} {vs:List ae} {ns:List Int}
  (KX:K.In s₁.heap) (hns:s₁.heap.Ns aL mg) (hb:s₁.heap.Ns builtinsNs mb) (hbb:∀ x:Str,x ≠ "__name__"->mb x=bz x) (hlim:s₁.heap.NoLimit) (hg:s₁.gens=#[])
  (ha:s₁.heap.get? a=some { cls:=.type "list",data:=.seq vs.toArray }) (hi:ki vs ns) (hl:ns.length<=sizeLine) (hr:Room k callerA)
  (F:∀ base:aO,K.In base->base.Ns aL mg->FnOk P w K mg base CX k fa fd [x] sp) (hbind:∀ (s:ai) (u:ae),BindsTo s fd ⟨[u],[]⟩ [(x,u)])
  (hsp:∀ H:Hp,Only H->SqL K H a (ns.map V.int)->sp [.ref a] H (λv _=>v=.bl true) λ_ _ _=>False)
  (hCX:∀ H e s',CX [] H s₁ (λ_ _ _=>False) e s'->False) :
  d9 (az P w) callerA (.call (.ref fa) ⟨[.ref a],[]⟩) (λr s'=>r=.ok (.ret (.bool true))/\OldK s₁.heap s'.heap/\s'.os=s₁.os/\i0 s'.gens) s₁:=by
 have Y:=bQw hi;have B:=hi.length;have core:∀ H:Hp,Only H->SqL K H a (ns.map V.int)->HOk P w H s₁.heap->(∀ b,H b≠none->b=a)->(H a≠none->K.lookup a=none) ->
   d9 (az P w) callerA (.call (.ref fa) ⟨[.ref a],[]⟩) (λr s'=>r=.ok (.ret (.bool true))/\OldK s₁.heap s'.heap/\s'.os=s₁.os/\i0 s'.gens) s₁:=by
  intro H Z hS hok hA hK;have i:∀ {b:Addr} {o:Obj},s₁.heap.get? b=some o->H b=none->(hidT s₁.heap H).get? b=some o:=λe n=>dJh e n;have O:∀ {b:Addr} {o:Obj} {es:Array DictEntry} {ep:Nat},s₁.heap.get? b=some o->o.data=.dict es ep->H b=none:=λ{b o es ep} e d=>by
   cases q:H b with
   | none=>rfl
   | some u =>
    have U:b=a:=hA b (by rw[q];simp)
    subst U;rw[ha] at e;cases e;have d':Data.seq vs.toArray _=Data.dict es ep:=d;cases d'
  have y:∀ {b:Addr} {m:Str->Option ae},s₁.heap.Ns b m->(hidT s₁.heap H).Ns b m:=λ{b m} ⟨o,es,ep,e,d,r⟩=>⟨o,es,ep,i e (O e d),d,r⟩;have L:K.In (hidT s₁.heap H):=λb o e=>i (KX b o e) (by
   cases q:H b with
   | none=>rfl
   | some u =>
    have U:b=a:=hA b (by rw[q];simp)
    subst U;rw[hK (by rw[q];simp)] at e;cases e)
  have hM:Mod K mg (hidT s₁.heap H):=⟨L,y hns,⟨mb,y hb,hbb⟩,let ⟨mc,h1,h2⟩:=hlim;⟨mc,y h1,h2⟩⟩
  have e0:Env0 P w K mg (hidT s₁.heap H) callerA [] s₁ H:=⟨rfl,rfl,hM,λb o e=>eXm e,Nat.le_of_eq (cJu _ _),trivial,λb hb=>absurd (show b∈([]:List Addr) from hb) (by simp),hok,.of_eq hg⟩
  refine ec ((F _ L (y hns)).run callerA [] s₁ H ⟨[.ref a],[]⟩ [.ref a] [.ref a] _ _ hr e0 (hbind s₁ (.ref a)) (.cons rfl .nil) (hsp H Z hS)) λr s' h=>?_;cases r with
  | error e=>exact(hCX H e s' h).elim
  | ok fl =>
   cases fl with
   | next=>exact cI h
   | brk=>exact cI h
   | cont=>exact cI h
   | ret u =>
    obtain⟨v,H',os,bare,un,G,r',q⟩:=h;have q':v=.bl true:=q;subst q';obtain rfl:u=gF true:=r';refine⟨rfl,OldK.of_keep λb o e=>?_,os,bare⟩;cases q:H b with
    | none=>exact un.keep b o e q (by intro z;exact absurd (show b∈([]:List Addr) from z) (by simp)) (by simp)
    | some u =>
     rcases Z b with z | ⟨ob,xs,z⟩
     ·rw[q] at z;cases z
     ·have z2:=un.frzs b ob _ z;obtain⟨e1,_⟩:=hok b _ z;obtain⟨e2,_⟩:=G b _ z2;rw[e] at e1;cases e1;exact e2
 cases hk:K.lookup a with
 | some o =>
  have e:=KX a o hk;rw[ha] at e;cases e;refine core (λ_=>none) (λ_=>.inl rfl) (.inr ⟨_,vs.toArray,_,hk,rfl,rfl,rfl,by rw[ar,B];exact hl,by simpa using Y⟩) (λb u z=>by have z':(none:Option HO)=some u:=z;cases z') (λb z=>absurd rfl z) λz=>absurd rfl z
 | none =>
  refine core (λb=>if b=a then some (.frz { cls:=.type "list",data:=.seq vs.toArray } (.lst (ns.map V.int))) else none) (λb=>?_) (.inl (.inr ⟨{ cls:=.type "list",data:=.seq vs.toArray },if_pos rfl⟩)) (λb u z=>?_) (λb z=>?_) λ_=>hk
  ·by_cases hb:b=a
   ·exact .inr ⟨_,_,if_pos hb⟩
   ·exact .inl (if_neg hb)
  ·by_cases hb:b=a
   ·have z':=(if_pos hb).symm.trans z;cases z';subst hb;exact⟨ha,by rw[aj];exact hl,vs,_,Y,ha⟩
   ·have z':=(if_neg hb).symm.trans z;cases z'
  ·by_cases hb:b=a
   ·exact hb
   ·exact absurd (if_neg hb) z
abbrev KOf {K:aq} {h:aO} (_:K.In h):aq:=K
theorem walk_of {l:kD} {n k:Nat} {q:aC} {loose:List Str} {XP:(Str->Option ae)->aO->Prop} {YP:aH->aO->Prop} {d:DefRec} {K:Params->aq} {CX:aH->CXT} {sp:aH->Sp} {x:Str}
  (hn:l.most=some n) (hn2:n<=sizeLine) (hdf:d.params.defaults=[]) (hr:Room k callerA)
  (hY:∀ (w:aH) (h:aO),YP w h->(K w.params).In h)
  (F:∀ (w:aH) (mg:Str->Option ae) (fa:Addr) (h:aO),(K w.params).In h->h.Ns aL mg->mg d.name=some (.ref fa) ->
   ∃ fd:cT,(∀ (s:ai) (u:ae),BindsTo s fd ⟨[u],[]⟩ [(x,u)]) /\
    ∀ base:aO,(K w.params).In base->base.Ns aL mg->FnOk l.prog w (K w.params) mg base (CX w) k fa fd [x] (sp w))
  (hsp:∀ (w:aH) (H:Hp) (a:Addr) (ns:List Int),ns.length<=n->Only H->SqL (K w.params) H a (ns.map V.int)->sp w [.ref a] H (λv _=>v=.bl true) λ_ _ _=>False)
  (hCX:∀ (w:aH) (H:Hp) (s:ai) (e:ae) (s':ai),CX w [] H s (λ_ _ _=>False) e s'->False) :
  PySem.W.WalkO q loose XP YP l.row.toRowW d [] (λf vs=>PySem.call f vs):=by
 refine Att.attach_call hn hdf λw s₀ i mg mb fa o pm cd doc a vs ns G Y ho hd U B y hints hlen O=>?_;have L:=hY w _ Y;obtain⟨fd,Z,hF⟩:=F w mg fa _ L G.T.g B;exact dJy L G.T.g G.T.b G.T.builtins G.T.nolimit O y hints (bc hlen hn2) hr hF Z (λH hO hS=>hsp w H a ns hlen hO hS) λH e s'=>hCX w H i e s'
def aXg (s:Stmt):Arguments:=match s with
 | .FunctionDef _ a _ _ _ _ _ _ _ _=>a
 | _=>{ posonlyargs:=[],args:=[],vararg:=none,kwonlyargs:=[],kw_defaults:=[],kwarg:=none,defaults:=[] }
def aZ6 (s:Stmt):List Stmt:=match s with
 | .FunctionDef _ _ b _ _ _ _ _ _ _=>b
 | _=>[]
def aQ4 (s:Stmt):Scope:=match s with
 | .FunctionDef _ _ _ _ _ _ sc _ _ _=>sc
 | _=>{ kind:=.function,names:=[],isGenerator:=false,isCoroutine:=false }
abbrev CX0:CXT:=λ_ _ _ _ _ _=>False
abbrev E0:XK:=λ_ _ _=>False
theorem dQg {X:Cx}:bQ3 CX0 X E0:=λ_ _ _ _ _ _ _ h=>h.elim
structure Fun (K:aq) (x qual:Str) (st:Stmt) (f:Addr) (fd:cT):Prop where
 ex:∃ (oc:ae) (od:Option Addr) (kV doc pm:ae) (an:Option Addr) (cdv ct:ae) (osl:Array (Option ae)),
  fd=eg x qual (aXg st) (aZ6 st) (aQ4 st) .none kV doc pm an cdv ct/\K.lookup f=some ⟨oc,od,.func fd,osl⟩/\fX K cdv qual=true
 kp:cB K (.ref f)=true
section
variable {P:aC} {w:aH} {K:aq} {mg:Str->Option ae} {base:aO}
theorem Fun.ok {x qual:Str} {st:Stmt} {f:Addr} {fd:cT} {N ps:List Str} {k:Nat} {sp:Sp} (F:Fun K x qual st f fd) (S:FnScope N ps (aQ4 st)) (len:∀ vs H Q E,sp vs H Q E->vs.length=ps.length)
  (hbody:∀ (cdv:ae) (A:aQ) (outer:List Env) (s:ai) (H:Hp) (vs:List V) (Q:VK) (E:XK),Room k (A.deeper (envOfC qual (aQ4 st) s.heap.objs.size f cdv))->sp vs H Q E ->
   ∃ t,PSs (cxOf CX0 P w K mg base N qual (aQ4 st) f cdv A outer s H E).nox (aZ6 st) t/\t { nx:=λ_ H'=>Q .non H',rt:=Q } (start N vs) H):FnOk P w K mg base CX0 (k + 1) f fd ps sp:=by
 obtain⟨oc,L,kV,doc,pm,an,cdv,ct,B,rfl,lk,y⟩:=F.ex;refine fXm lk y S len λA outer s H vs Q E G i=>?_;obtain⟨t,h,q⟩:=hbody cdv A outer s H vs Q E G i;exact⟨t,h.nox,q⟩
theorem Fun.binds {x qual:Str} {st:Stmt} {f:Addr} {fd:cT} {ps:List Str} (F:Fun K x qual st f fd)
  (h:∀ (kV doc pm:ae) (an:Option Addr) (cdv ct:ae) (us:List ae),us.length=ps.length->bindArgs (eg x qual (aXg st) (aZ6 st) (aQ4 st) .none kV doc pm an cdv ct) ⟨us,[]⟩=pure (ps.zip us)):Binds K fd ps []:=by
 obtain⟨oc,B,kV,doc,pm,an,cdv,ct,i,rfl,lk,y⟩:=F.ex;exact .all (h kV doc pm an cdv ct)
theorem dQh {x qual:Str} {st:Stmt} {f:Addr} {oc:ae} {od an:Option Addr} {osl:Array (Option ae)} {kV doc pm cdv ct:ae} (l:K.lookup f=some ⟨oc,od,.func (eg x qual (aXg st) (aZ6 st) (aQ4 st) .none kV doc pm an cdv ct),osl⟩)
  (c:fX K cdv qual=true) (k:cB K (.ref f)=true):Fun K x qual st f (eg x qual (aXg st) (aZ6 st) (aQ4 st) .none kV doc pm an cdv ct):=⟨⟨oc,od,kV,doc,pm,an,cdv,ct,osl,rfl,l,c⟩,k⟩
end
theorem ite2 {c A B:Prop} [Decidable c] (h1:c->A) (h2:¬ c->B):if c then A else B:=by
 by_cases h:c
 ·rw[if_pos h];exact h1 h
 ·rw[if_neg h];exact h2 h
def Same (H H':Hp):Prop:=∀ b o,H b=some o->H' b=some o
end L2
set_option autoImplicit false
theorem hd {g:Prop} (h:∀ G:Prop,(g->G)->G):g:=h g id
set_option maxHeartbeats 4000000
namespace L2
open PySem PySem.Spec PyProof.Rows
theorem aJo (env:Env):∀ (names:List (Str × fH)) (acc:List (Str × Addr)),(∀ x,(x,aV)∈names->∃ c,env.cells.lookup x=some c)->(∀ x c,acc.lookup x=some c->env.cells.lookup x=some c) ->
  ∃ cl,(forIn names acc λ(y:Str × fH) (cs:List (Str × Addr))=>(if (y.2 == aV)=true then do let a <- cellOf env y.1;pure (cA ((y.1,a)::cs)) else pure (cA cs):Sem (ForInStep (List (Str × Addr)))))=pure cl /\
   (∀ x c,cl.lookup x=some c->env.cells.lookup x=some c)/\(∀ x,((x,aV)∈names\/(acc.lookup x).isSome=true)->(cl.lookup x).isSome=true)
 | [],acc,_,B=>⟨acc,by rfl,B,λx h=>by
   rcases h with h | h
   ·cases h
   ·exact h⟩
 | (n,k)::rest,acc,L,B=>by
  by_cases hk:(k == aV)=true
  ·have O:k=aV:=by cases k <;> first | rfl | cases hk
   subst O;refine hd λZ G=>?_;obtain⟨c,U⟩:=L n ak;refine G ?_;obtain⟨cl,e,h1,h2⟩:=aJo env rest ((n,c)::acc) (λx hx=>L x (ao _ hx)) (λx d hx=>by
    simp only[cY] at hx
    by_cases i:(x == n)=true
    ·rw[i] at hx;cases hx;rw[fL i];exact U
    ·rw[fb.mpr i] at hx;exact B x d hx)
   refine⟨cl,?_,h1,λx hx=>h2 x ?_⟩
   ·rw[d5];have Y:cellOf env n=pure c:=by unfold cellOf;rw[U]
    simp only[hk,if_true,Y,jW];exact e
   ·rcases hx with hx | hx
    ·rcases aA.mp hx with hx | hx
     ·cases hx;right;simp
     ·exact .inl hx
    ·right
     simp only[cY];cases x == n <;> simp[hx]
  ·refine hd λZ G=>?_;obtain⟨cl,e,h1,h2⟩:=aJo env rest acc (λx hx=>L x (ao _ hx)) B;refine G ?_;refine⟨cl,?_,h1,λx hx=>h2 x ?_⟩
   ·rw[d5];simp only[hk,if_false,jW,aE];exact e
   ·rcases hx with hx | hx
    ·rcases aA.mp hx with hx | hx
     ·cases hx;exact absurd rfl hk
     ·exact .inl hx
    ·exact .inr hx
inductive Cap (N:List Str) (sc:Scope):List Str->List (Option Nat)->Prop
 | nil:Cap N sc [] []
 | own {x xs is}:Cap N sc xs is->Cap N sc (x::xs) (none::is)
 | cap {x xs is i}:N[i]?=some x->(x,aV)∈sc.names->Cap N sc xs is->Cap N sc (x::xs) (some i::is)
theorem Cap.length {N:List Str} {sc:Scope} {xs:List Str} {is:List (Option Nat)} (c:Cap N sc xs is):xs.length=is.length:=by
 induction c with
 | nil=>rfl
 | own _ i=>simp[i]
 | cap _ _ _ i=>simp[i]
theorem Cap.get {N:List Str} {sc:Scope} {xs:List Str} {is:List (Option Nat)} (c:Cap N sc xs is):∀ {j i:Nat} {x:Str},xs[j]?=some x->is[j]?=some (some i)->N[i]?=some x/\(x,aV)∈sc.names:=by
 induction c with
 | nil=>intro j i x h;simp at h
 | own _ y =>
  intro j i x h1 h2;cases j with
  | zero=>simp at h2
  | succ j=>exact y (by simpa using h1) (by simpa using h2)
 | cap B hf _ y =>
  intro j i x h1 h2;cases j with
  | zero=>simp at h1 h2;subst h1;subst h2;exact⟨B,hf⟩
  | succ j=>exact y (by simpa using h1) (by simpa using h2)
def capt (is:List (Option Nat)) (σ:St):St:=is.map λo=>o.bind λi=>(σ[i]?).join
theorem aXh {sc:Scope} {env:Env}:∀ {names:List (Str × fH)} {x:Str},(names.lookup x=some .cell\/names.lookup x=some .free)->((names.map λ(n,k)=>if (k == aV && env.scope.kind == .function && env.kindOf n == some .cell) then (n,iA) else (n,k)).lookup x=some .cell\/(names.map λ(n,k)=>if (k == aV && env.scope.kind == .function && env.kindOf n == some .cell) then (n,iA) else (n,k)).lookup x=some .free)
 | [],x,h=>by simp at h
 | (n,k)::r,x,h=>by
  simp only[a9]
  by_cases i:(k == aV && env.scope.kind == .function && env.kindOf n == some .cell)=true
  ·rw[if_pos i];simp only[cY] at h ⊢;cases hx:x == n with
   | true=>exact .inl rfl
   | false=>rw[hx] at h;exact aXh (sc:=sc) h
  ·rw[if_neg i];simp only[cY] at h ⊢;cases hx:x == n with
   | true=>rw[hx] at h;exact h
   | false=>rw[hx] at h;exact aXh (sc:=sc) h
theorem aJp {sc:Scope} {env:Env}:∀ {names:List (Str × fH)} {x:Str},((names.map λ(n,k)=>if (k == aV && env.scope.kind == .function && env.kindOf n == some .cell) then (n,iA) else (n,k)).lookup x=some .cell\/(names.map λ(n,k)=>if (k == aV && env.scope.kind == .function && env.kindOf n == some .cell) then (n,iA) else (n,k)).lookup x=some .free)->names.lookup x=some .cell\/names.lookup x=some .free
 | [],x,h=>by simp at h
 | (n,k)::r,x,h=>by
  simp only[a9] at h
  by_cases i:(k == aV && env.scope.kind == .function && env.kindOf n == some .cell)=true
  ·rw[if_pos i] at h;simp only[cY] at h ⊢;cases hx:x == n with
   | true =>
    right
    have:k == aV:=by
     simp only[aI] at i;exact i.1.1
    cases k <;> first | rfl | cases this
   | false=>rw[hx] at h;exact aJp (sc:=sc) h
  ·rw[if_neg i] at h;simp only[cY] at h ⊢;cases hx:x == n with
   | true=>rw[hx] at h;exact h
   | false=>rw[hx] at h;exact aJp (sc:=sc) h
theorem bQx {α β:Type} [BEq α] [LawfulBEq α]:∀ {l:List (α × β)} {x:α} {k:β},l.lookup x=some k->(x,k)∈l
 | (n,i)::r,x,k,h=>by
  simp only[cY] at h;cases hx:x == n with
  | true=>rw[hx] at h;cases h;rw[fL hx];exact ak
  | false=>rw[hx] at h;exact ao _ (bQx h)
def PTs (X:Cx) (ifs:List Expr) (t:TT):Prop :=
 ∀ (pins:List (Addr × Obj)) (s:ai) (σ:St) (H:Hp) (Q:Bool->Hp->Prop),Inv X pins σ H s->t σ H Q ->
  ay (az X.prog X.w) X.A (forIn ifs true λc r=>if r=true then do let ok <- isTrue c X.env (eval c X.env);pure (cA ok) else pure (cA r)) (TP X pins σ Q) X.xe s
def tYes:TT:=λ_ H Q=>Q true H
theorem eJ9 {X:Cx}:PTs X [] tYes:=λpins s σ H Q I h=>wpAny_tests_nil ⟨H,I,h⟩
theorem eJa {X:Cx} {c:Expr} {t:TT} (h:PT X c t):PTs X [c] t:=λpins s σ H Q I q=>wpAny_tests_one (h pins s σ H Q I q)
def Wk (σ0 σ2:St):Prop:=σ2.length=σ0.length/\∀ (j:Nat) v,σ0[j]?=some (some v)->σ2[j]?=some (some v)
def okV (names outer:List (Str × fH)):Bool:=names.all λy=>match y.2 with
 | .free=>match outer.lookup y.1 with
  | some .cell=>true
  | some .free=>true
  | _=>false
 | _=>true
theorem fXs {names:List (Str × fH)} {sc:Scope} (h:okV names sc.names=true):∀ y∈names,y.2=.free->Vis sc y.1/\sc.names.lookup y.1≠some .local:=λy i hf=>by
 have:=bK.mp h y i
 rw[hf] at this;unfold Vis;cases q:sc.names.lookup y.1 with
 | none=>rw[q] at this;cases this
 | some k=>rw[q] at this;cases k <;> first | (simp;done) | cases this
structure Bs (mg:Str->Option ae):Prop where
 len:mg "len"=none
 range:mg "range"=none
 sorted:mg "sorted"=none
 tuple:mg "tuple"=none
 list:mg "list"=none
 set:mg "set"=none
 sum:mg "sum"=none
 min:mg "min"=none
 max:mg "max"=none
 all:mg "all"=none
 any:mg "any"=none
 isinstance:mg "isinstance"=none
 int:mg "int"=none
 str:mg "str"=none
 bool:mg "bool"=none
 zip:mg "zip"=none
 enumerate:mg "enumerate"=none
theorem eZl:bz "len"=some (.builtin "len"):=by decide +kernel
theorem bQy:bz "sorted"=some (.builtin "sorted"):=by decide +kernel
theorem eZm:bz "sum"=some (.builtin "sum"):=by decide +kernel
theorem fXt:bz "min"=some (.builtin "min"):=by decide +kernel
theorem fXu:bz "all"=some (.builtin "all"):=by decide +kernel
theorem bt_isinstance:bz "isinstance"=some (.builtin "isinstance"):=by decide +kernel
theorem bXn:bz "tuple"=some (.type "tuple"):=by decide +kernel
theorem eJb:bz "list"=some (.type "list"):=by decide +kernel
theorem dQi:bz "set"=some (.type "set"):=by decide +kernel
theorem eZn:bz "int"=some (.type "int"):=by decide +kernel
theorem dQj:bz "str"=some (.type "str"):=by decide +kernel
theorem dQk:bz "bool"=some (.type "bool"):=by decide +kernel
structure Df (P:aC) (w:aH) (K:aq) (mg:Str->Option ae) (base:aO) (k:Nat) (x:Str) (ps:List Str) (sp:Sp):Prop where
 ex:∃ (f:Addr) (fd:cT),FnOk P w K mg base CX0 k f fd ps sp/\Binds K fd ps []/\cB K (.ref f)=true/\mg x=some (.ref f)
theorem Df.mono {P:aC} {w:aH} {K:aq} {mg:Str->Option ae} {base:aO} {j k:Nat} {x:Str} {ps:List Str} {sp:Sp} (D:Df P w K mg base j x ps sp) (h:j<=k):Df P w K mg base k x ps sp:=by
 obtain⟨f,fd,a,b,c,d⟩:=D.ex;exact⟨f,fd,a.mono h,b,c,d⟩
theorem dJz {X:Cx} {k:Nat} {x:Str} {ps:List Str} {sp:Sp} {p pos:Pos} {e:Expr} {es:List Expr} {t:TA} (D:Df X.prog X.w X.K X.mg X.base k x ps sp) (hr:Room k X.A) (hg:Gl X x) (ha:PA X (e::es) t)
  (hdb:dbg x=false:=by decide) (he:am (e::es) X.env=(false,eval e X.env)::am es X.env:=by rfl) (hpl:(bn pos (am es X.env)).any (·.1)=false:=by rfl) :
  PE X (.Call (.Name x p) (e::es) [] pos) (eXz sp [] E0 t):=by
 obtain⟨f,fd,F,i,hk,hm⟩:=D.ex;exact eJ0 F hr hg hm hk i .nil dQg ha hdb he hpl
structure Tx (K:aq) (mg:Str->Option ae) (x:Str) (st:Stmt):Prop where
 ex:∃ (f:Addr) (fd:cT),Fun K x x st f fd/\mg x=some (.ref f)
theorem Tx.df {P:aC} {w:aH} {K:aq} {mg:Str->Option ae} {base:aO} {k:Nat} {x:Str} {st:Stmt} {ps:List Str} {sp:Sp} (T:Tx K mg x st)
  (b:∀ {f:Addr} {fd:cT},Fun K x x st f fd->Binds K fd ps []) (h:∀ {f:Addr} {fd:cT},Fun K x x st f fd->FnOk P w K mg base CX0 k f fd ps sp):Df P w K mg base k x ps sp:=by
 obtain⟨f,fd,F,m⟩:=T.ex;exact⟨f,fd,h F,b F,F.kp,m⟩
theorem tx_mk {K:aq} {h:aO} {mg:Str->Option ae} {x:Str} {st:Stmt} {f:Addr} {od an:Option Addr} {sl:Array (Option ae)} {oc kV dc pm cd ct:ae} (X:K.In h) (G:h.Ns aL mg)
  (a:a7 K aL x=some (some (.ref f))) (l:K.lookup f=some ⟨oc,od,.func (eg x x (aXg st) (aZ6 st) (aQ4 st) .none kV dc pm an cd ct),sl⟩) (c:fX K cd x=true) (k:cB K (.ref f)=true):Tx K mg x st :=
 ⟨f,_,dQh (st:=st) l c k,eB X G a⟩
theorem bs_mk {K:aq} {h:aO} {mg:Str->Option ae} (X:K.In h) (G:h.Ns aL mg) (a:∀ x∈(["len", "range", "sorted", "tuple", "list", "set", "sum", "min", "max", "all", "any", "isinstance", "int", "str", "bool", "zip", "enumerate"]:List Str),a7 K aL x=some none):Bs mg:=by
 have q:∀ x∈(["len", "range", "sorted", "tuple", "list", "set", "sum", "min", "max", "all", "any", "isinstance", "int", "str", "bool", "zip", "enumerate"]:List Str),mg x=none:=λx i=>PySem.W.mg_none_of X G (a x i);constructor <;> exact q _ (by decide +kernel)
theorem bs_all {K:aq} (z1:a7 K aL "len"=some none) (z2:a7 K aL "range"=some none) (z3:a7 K aL "sorted"=some none) (z4:a7 K aL "tuple"=some none) (z5:a7 K aL "list"=some none) (z6:a7 K aL "set"=some none)
  (z7:a7 K aL "sum"=some none) (z8:a7 K aL "min"=some none) (z9:a7 K aL "max"=some none) (z10:a7 K aL "all"=some none) (z11:a7 K aL "any"=some none) (z12:a7 K aL "isinstance"=some none)
  (z13:a7 K aL "int"=some none) (z14:a7 K aL "str"=some none) (z15:a7 K aL "bool"=some none) (z16:a7 K aL "zip"=some none) (z17:a7 K aL "enumerate"=some none) :
  ∀ x∈(["len", "range", "sorted", "tuple", "list", "set", "sum", "min", "max", "all", "any", "isinstance", "int", "str", "bool", "zip", "enumerate"]:List Str),a7 K aL x=some none:=λx i=>by
 simp only[aA,fx,or_false] at i;rcases i with rfl | rfl | rfl | rfl | rfl | rfl | rfl | rfl | rfl | rfl | rfl | rfl | rfl | rfl | rfl | rfl | rfl <;> assumption
theorem gZz {X:Cx} {x:Str} {n:String} {pos:Pos} (hg:Gl X x) (hm:X.mg x=none) (hv:bz x=some (.type n)) (hn:x ≠ "__name__":=by decide) (hd:dbg x=false:=by decide):PE X (.Name x pos) (tC (.ty n)) :=
 eXn hg hm hv (show RelV (.ty n) (.type n) from rfl) hn hd
def subT (t T:String):Option Bool:=if t=T then some true else
  (([("bool", "int", true), ("int", "bool", false), ("str", "int", false), ("str", "bool", false), ("str", "tuple", false), ("tuple", "str", false), ("tuple", "int", false), ("tuple", "bool", false), ("NoneType", "str", false), ("NoneType", "tuple", false), ("NoneType", "int", false), ("NoneType", "bool", false),
    ("int", "str",false),("int", "tuple",false),("bool", "str",false),("bool", "tuple",false),("list", "tuple",false),("list", "str",false),("tuple", "list",false),("int", "list",false),("str", "list",false),("list", "int",false),("list", "bool",false)]:List (String × String × Bool)).find? λr=>r.1 == t && r.2.1 == T).map (·.2.2)
theorem dQl {K:aq} {t T:String} {b:Bool} (h:subT t T=some b):bH K (.type t) (.type T)=some b:=by
 unfold subT at h
 by_cases e:t=T
 ·rw[if_pos e] at h;cases h;subst e;unfold bH;rw[if_pos (by exact beq_self_eq_true _)]
 ·rw[if_neg e] at h;rw[fC] at h;obtain⟨r,y,rfl⟩:=h;have h1:=List.find?_some y;have h2:=List.mem_of_find?_eq_some y;simp only[aI,beq_iff_eq] at h1;obtain⟨rfl,rfl⟩:=h1;simp only[aA,fx,or_false] at h2;rcases h2 with rfl | rfl | rfl | rfl | rfl | rfl | rfl | rfl | rfl | rfl | rfl | rfl | rfl | rfl | rfl | rfl | rfl | rfl | rfl | rfl | rfl | rfl | rfl <;> first | rfl | (unfold bH PySem.W.kitCls PySem.W.subIn;kernel_rfl) | kernel_rfl
def rIsi (K:aq):List V->Hp->VK->Prop:=λxs H Q=>∃ x T t b,xs=[x,.ty T]/\TyOf K H x (.type t)/\subT t T=some b/\Q (.bl b) H
theorem call_isi {X:Cx}:CallR X (.builtin "isinstance") (rIsi X.K):=by
 intro pins s σ H xs us Q I y h;obtain⟨x,T,t,b,rfl,ty,e,q⟩:=h;obtain⟨u,c,rfl,B,rc⟩:=y.two;cases rc;exact dQ8 I B ty (dQl e) λi=>⟨.bl b,H,I.tok i,rfl,q⟩
end L2
set_option maxHeartbeats 1000000
namespace L2
open PySem PySem.Spec PyProof.Rows
def bXo (ifs:List Expr) (env:Env):Sem Bool:=forIn ifs true λc r=>if r=true then do let ok <- isTrue c env (eval c env);pure (cA ok) else pure (cA r)
def aZm (target:Expr) (ifs:List Expr) (at0:Pos) (m:Sem Unit) (c:Code) (it:ae) (env:Env):Sem Fin :=
 fu at0 >>= λ_=>eP it >>= λr=>match r with
  | none=>pure (.done .next)
  | some v=>fF target it v >>= λ_=>kb target env v >>= λ_=>bXo ifs env >>= λok=>if ok=true then m >>= λ_=>again c else again c
def emitOf (elt:Expr) (acc:ae) (env:Env):Sem Unit:=eval elt env >>= λx=>call (.builtin "list.append") [acc,x] >>= λ_=>pure ()
def innerOf (e:Expr) (iter:Expr) (acc:ae) (env:Env):Sem Unit:=eval iter env >>= λx=>fu iter.pos >>= λ_=>db iter env x >>= λx=>dX [x] (jJ x) >>= λit=>runOwn (.compStart e 1 it acc env) env >>= λ_=>pure ()
theorem aQf (elt target iter:Expr) (ifs:List Expr) (scope:Scope) (pos:Pos) (it acc:ae) (env:Env) :
  gz (.ListComp elt [⟨target,iter,ifs,0⟩] scope pos) 0 it acc env=aZm target ifs iter.pos (emitOf elt acc env) (.compLoop (.ListComp elt [⟨target,iter,ifs,0⟩] scope pos) 0 it acc env) it env:=by
 rw[compTurn_list];unfold aZm bXo emitOf;refine congrArg _ (funext λ_=>congrArg _ (funext λr=>?_));cases r with
 | none=>rfl
 | some v =>
  refine congrArg _ (funext λ_=>congrArg _ (funext λ_=>congrArg _ (funext λok=>?_)));cases ok <;> rfl
theorem bJt (elt target iter t2 i2:Expr) (ifs ifs2:List Expr) (scope:Scope) (pos:Pos) (it acc:ae) (env:Env) :
  gz (.ListComp elt [⟨target,iter,ifs,0⟩,⟨t2,i2,ifs2,0⟩] scope pos) 0 it acc env=aZm target ifs iter.pos (innerOf (.ListComp elt [⟨target,iter,ifs,0⟩,⟨t2,i2,ifs2,0⟩] scope pos) i2 acc env) (.compLoop (.ListComp elt [⟨target,iter,ifs,0⟩,⟨t2,i2,ifs2,0⟩] scope pos) 0 it acc env) it env:=by
 unfold aZm bXo innerOf;show(fu iter.pos >>= λ_=>eP it >>= λr=>_)=_;refine bind_congr λ_=>bind_congr λr=>?_;cases r with
 | none=>rfl
 | some v =>
  show(fF target it v >>= λ_=>kb target env v >>= λ_=>(forIn ifs true _ >>= λok=>_))=_;refine bind_congr λ_=>bind_congr λ_=>bind_congr λok=>?_;cases ok with
  | false=>rfl
  | true =>
   simp only[bind_assoc,jW]
   rfl
theorem bJu (elt target iter t2 i2:Expr) (ifs ifs2:List Expr) (scope:Scope) (pos:Pos) (it acc:ae) (env:Env) :
  gz (.ListComp elt [⟨target,iter,ifs,0⟩,⟨t2,i2,ifs2,0⟩] scope pos) 1 it acc env=aZm t2 ifs2 i2.pos (emitOf elt acc env) (.compLoop (.ListComp elt [⟨target,iter,ifs,0⟩,⟨t2,i2,ifs2,0⟩] scope pos) 1 it acc env) it env:=by
 unfold aZm bXo emitOf;show(fu i2.pos >>= λ_=>eP it >>= λr=>_)=_;refine bind_congr λ_=>bind_congr λr=>?_;cases r with
 | none=>rfl
 | some v =>
  show(fF t2 it v >>= λ_=>kb t2 env v >>= λ_=>(forIn ifs2 true _ >>= λok=>_))=_;refine bind_congr λ_=>bind_congr λ_=>bind_congr λok=>?_;cases ok <;> rfl
abbrev TB:=St->Hp->(Hp->Prop)->Prop
def PB (X:Cx) (m:Sem Unit) (t:TB):Prop :=
 ∀ (pins:List (Addr × Obj)) (s:ai) (σ:St) (H:Hp) (N:Hp->Prop),Inv X pins σ H s->t σ H N ->
  ay (az X.prog X.w) X.A m (λ_ s'=>∃ σ' H',Inv X pins σ' H' s'/\Wk σ σ'/\N H') (λ_ _=>False) s
def fXv (D:Addr) (te:TE):TB:=fun σ H N=>te σ H λy H4=>∃ zs,H4 D=some (.lst zs)/\zs.length < sizeLine/\N (upd H4 D (.lst (zs++[y])))
def eQ0 (J:It) (σ0:St) (g:TG) (tt:TT) (tb:TB) (Q:Hp->Prop) (H:Hp):Prop :=
 ∃ W:Nat->Nat->Hp->Prop,(∃ m,W 0 m H)/\∀ i m H,W i m H ->
  (J.stop i H/\Q H)\/(J.go i H/\∃ N:Hp->Prop,(∀ H',N H'->∃ m',m' < m/\W (i + 1) m' H') /\
   ∀ x H',J.yld i H x H'->g x σ0 H' fun σ2 H2=>Wk σ0 σ2/\tt σ2 H2 λb H3=>if b=true then tb σ2 H3 N else N H3)
def eZo (wi:TI) (g:TG) (tt:TT) (tb:TB):TB:=fun σ H N=>wi σ H λJ H1=>eQ0 J σ g tt tb N H1
def cZl (is:List (Option Nat)) (wi:TI) (g:TG) (tt:TT) (tb:Addr->TB):TE:=fun σ H Q=>wi σ H λJ H1=>∀ D,H1 D=none->eQ0 J (capt is σ) g tt (tb D) (Q (.ref D)) (upd H1 D (.lst []))
theorem Wk.refl (σ:St):Wk σ σ:=⟨rfl,λ_ _ h=>h⟩
theorem Wk.trans {a b c:St} (h:Wk a b) (k:Wk b c):Wk a c:=⟨k.1.trans h.1,λj v e=>k.2 j v (h.2 j v e)⟩
theorem eJc {σ:St} {i:Nat} {v:V} (h:σ[i]?=some none):Wk σ (σ.set i (some v)):=by
 refine⟨fI,λj u e=>?_⟩
 by_cases y:j=i
 ·subst y;rw[h] at e;cases e
 ·rw[eV (bj y)];exact e
section
variable {X:Cx}
theorem aQg {elt:Expr} {te:TE} {D:Addr} (hxe:X.xe=λ_ _=>False) (he:PE X elt te):PB X (emitOf elt (.ref D) X.env) (fXv D te):=by
 intro pins s σ H N I h;unfold emitOf;have h1:=he pins s σ H _ I h;rw[hxe] at h1;refine ad (thn h1 λy s1 ⟨v,H1,U,B,zs,L,i,n⟩=>ad ?_);have h2:=bJs pins s1 σ H1 (.ref D) [v] (.ref D) [y] (λu Y=>u=.non/\N Y) U rfl (.cons B .nil) ⟨D,zs,v,rfl,rfl,L,i,rfl,n⟩;rw[hxe] at h2;exact thn h2 λ_ s2 ⟨u,H2,O,_,_,G⟩=>af ⟨σ,H2,O,Wk.refl σ,G⟩
theorem cZm {e target:Expr} {ifs:List Expr} {at0:Pos} {d:Nat} {acc:ae} {it:Addr} {m:Sem Unit} {g:TG} {tt:TT} {tb:TB} {J:It} {fp:List Addr} {tn:Nat->aO->Prop} {Q:Hp->Prop} {R:jK->ai->Prop} {pins:List (Addr × Obj)} {s:ai} {σ:St} {H:Hp}
  (hcalm:X.calm=true) (hxe:X.xe=λ_ _=>False) (hturn:gz e d (.ref it) acc X.env=aZm target ifs at0 m (.compLoop e d (.ref it) acc X.env) (.ref it) X.env)
  (hfr:(iB e d (.ref it) acc X.env).isFrame=false) (hA:X.A.under (iB e d (.ref it) acc X.env)=X.A)
  (T:Turn X.prog X.w X.K target J fp it tn) (hg:PG X target g) (ht:PTs X ifs tt) (hb:PB X m tb)
  (I:Inv X pins σ H s) (st:tn 0 s.heap) (f:∀ b∈fp,FpOk X pins H b) (h:eQ0 J σ g tt tb Q H)
  (fin:∀ H' s',Inv X pins σ H' s'->(∀ b∈fp,FpOk X pins H' b)->Q H'->R (.ok .next) s') :
  d9 (az X.prog X.w) X.A (.compLoop e d (.ref it) acc X.env) R s:=by
 obtain⟨W,⟨m0,w0⟩,turn⟩:=h;have y:∀ {H':Hp},(∀ b∈fp,H' b=none)->∀ b∈fp,FpOk X pins H' b:=λhn b hb=>⟨hn b hb,(f b hb).2⟩;refine codeAny_loop rfl (λn s'=>∃ i H',Inv X pins σ H' s'/\tn i s'.heap/\(∀ b∈fp,H' b=none)/\W i n H') ?_ m0 ⟨0,H,I,st,λb hb=>(f b hb).1,w0⟩;rintro n s3 ⟨i,H3,I3,Z,O,w3⟩;have eden:(az X.prog X.w).den (.compLoop e d (.ref it) acc X.env)=(gz e d (.ref it) acc X.env).onRaise (λx=>do noteFrame x X.env;theTreesLotGoes x):=by
  show(if (iB e d (.ref it) acc X.env).isFrame=true then _ else _)=_
  rw[hfr];rfl
 rw[eden,hturn,hA];refine wpAny_noted ?_;unfold aZm;refine ad (iz ?_);rcases turn i n H3 w3 with⟨stop,qn⟩ | ⟨go,N,hN,step⟩
 ·refine ad (thn (T.done X rfl rfl rfl hcalm i pins s3 σ H3 _ I3 (y O) Z stop) λr s4 G=>?_);obtain⟨hr,I4⟩:=G;subst hr;exact af (fin H3 s4 I4 (y O) qn)
 ·refine ad (thn (T.item X rfl rfl rfl hcalm i pins s3 σ H3 _ I3 (y O) Z go) λr s4 G=>?_);obtain⟨u,hr,h4⟩:=G;subst hr;refine ad (thn h4 λ_ s5 G=>?_);obtain⟨x,H5,I5,r5,y5,L,fr5⟩:=G;have I5':=I5.pinned (y fr5) (T.obj _ _ L);have q5:=hg _ s5 σ H5 x u _ I5' r5 (step x H5 y5);rw[hxe] at q5;refine ad (c6 q5 (λ_ s6 ⟨σ6,H6,I6,Y,q6⟩=>?_) λ_ _ z=>z.elim);have q7:=ht _ s6 σ6 H6 _ I6 q6;rw[hxe] at q7;refine ad (c6 q7 (λok s7 ⟨H7,I7,q7⟩=>?_) λ_ _ z=>z.elim);have B:∀ {σ8:St} {U:Hp} {s8:ai},Inv X (pins++bJo fp s5.heap) σ8 U s8->Wk σ σ8->N U->∃ m,m < n/\∃ i H',Inv X pins σ H' s8/\tn i s8.heap/\(∀ b∈fp,H' b=none)/\W i m H':=λ{σ8 U s8} I8 wk n8=>by
   obtain⟨m',hm,w8⟩:=hN U n8;refine⟨m',hm,i + 1,U,I8.unpinned.weak wk.1.symm wk.2,T.keep _ _ _ L λb hb o e=>(I8.pin (b,o) (aS _ (aS _ (aXr hb e)))).1,λb hb=>?_,w8⟩;obtain⟨o,e,_⟩:=T.obj _ _ L b hb;exact(I8.pin (b,o) (aS _ (aS _ (aXr hb e)))).2.1
  cases ok with
  | false=>exact af ⟨rfl,B I7 Y q7⟩
  | true =>
   refine ad (c6 (hb _ s7 σ6 H7 N I7 q7) (λ_ s8 ⟨σ8,U,I8,wk8,n8⟩=>?_) λ_ _ z=>z.elim);exact af ⟨rfl,B I8 (Y.trans wk8) n8⟩
end
section
variable {X:Cx}
theorem dQm {e target iter:Expr} {ifs:List Expr} {it acc:ae} {env:Env} {A:aQ} {prog:aC} {w:aH} {R:jK->ai->Prop} {s:ai} (hc:(clausesOf e)[1]?=some ⟨target,iter,ifs,0⟩) (hfr:(gV e 1 it acc env).isFrame=false) (hA:A.under (gV e 1 it acc env)=A)
  (h0:d9 (az prog w) A (.compLoop e 1 it acc env) R s)
  (h:ay (az prog w) A (jJ it) (λit' s'=>d9 (az prog w) A (.compLoop e 1 it' acc env) R s') (notedBy (az prog w) A env λx s'=>R (.error x) s') s) :
  d9 (az prog w) A (.compStart e 1 it acc env) R s:=by
 refine iM ?_;have i:(az prog w).den (.compStart e 1 it acc env)=(compStart e 1 it acc env).onRaise (λx=>do noteFrame x env;fu theWindowsPlace):=by
  show(if (gV e 1 it acc env).isFrame=true then _ else _)=_
  rw[hfr];rfl
 rw[i,hA];refine wpAny_notedAt ?_;unfold compStart;rw[hc];simp only[Option.elim,bne_self_eq_false,aE,if_false];refine ad (eE (wpAny_ite ?_))
 split
 ·first
   | exact ad (af (af (And.intro rfl h0)))
   | exact af (And.intro rfl h0)
 ·refine ad (fD ?_);refine ad (iz (ad (c6 h (λit' s' h'=>af (And.intro rfl h')) λ_ _ x=>x)))
theorem cZn {e t2 i2:Expr} {ifs2:List Expr} {acc:ae} {m:ae->Sem Unit} {wi:TI} {g:TG} {tt:TT} {tb:TB} (hcalm:X.calm=true) (hxe:X.xe=λ_ _=>False) (hc:(clausesOf e)[1]?=some ⟨t2,i2,ifs2,0⟩)
  (hturn:∀ it,gz e 1 (.ref it) acc X.env=aZm t2 ifs2 i2.pos (m acc) (.compLoop e 1 (.ref it) acc X.env) (.ref it) X.env)
  (hi:PI X t2 i2 wi) (hg:PG X t2 g) (ht:PTs X ifs2 tt) (hb:PB X (m acc) tb)
  (hs:∀ x,db i2 X.env x=pure x) (hfr:∀ it,(gV e 1 it acc X.env).isFrame=false) (hfr2:∀ it,(iB e 1 it acc X.env).isFrame=false)
  (hA:∀ it,X.A.under (gV e 1 it acc X.env)=X.A) (hA2:∀ it,X.A.under (iB e 1 it acc X.env)=X.A) :
  PB X (innerOf e i2 acc X.env) (eZo wi g tt tb):=by
 intro pins s σ H N I h;unfold innerOf;have h1:=hi pins s σ H _ I h;rw[hxe] at h1;refine ad (thn h1 λv s1 B=>ad (iz (ad (iG (hs v) (ad (bF (thn B λG s2 y=>?_)))))));obtain⟨it,fp,tn,J,H2,rfl,L,T,i,f2,y⟩:=y;refine ad (wpAny_runOwn ?_);have loop:d9 (az X.prog X.w) X.A (.compLoop e 1 (.ref it) acc X.env) (λr s'=>match r with
   | .ok f=>ay (az X.prog X.w) X.A (pure ()) (λ_ s'=>∃ σ' H',Inv X pins σ' H' s'/\Wk σ σ'/\N H') (λ_ _=>False) s'
   | .error x=>cameBackBy (az X.prog X.w) X.A X.env (λ_ _=>False) x s') s2 :=
  cZm hcalm hxe (hturn it) (hfr2 _) (hA2 _) T hg ht hb L i f2 y λH' s' O _ n=>af ⟨σ,H',O,Wk.refl σ,n⟩
 exact dQm hc (hfr _) (hA _) loop (T.self _ 0 _ _ _ i loop)
end
theorem aJq (env:Env):∀ (names:List (Str × fH)) (acc:List (Str × Addr)),(∀ x,(x,aV)∈names->∃ c,env.cells.lookup x=some c) ->
  ∃ cl,(forIn names acc λ(y:Str × fH) (cs:List (Str × Addr))=>(if (y.2 == aV)=true then do let a <- cellOf env y.1;pure (cA ((y.1,a)::cs)) else pure (cA cs):Sem (ForInStep (List (Str × Addr)))))=pure cl /\
   (∀ x c,cl.lookup x=some c->(x,aV)∈names\/acc.lookup x=some c)
 | [],acc,_=>⟨acc,by rfl,λ_ _ h=>.inr h⟩
 | (n,k)::rest,acc,B=>by
  by_cases hk:(k == aV)=true
  ·have G:k=aV:=by cases k <;> first | rfl | cases hk
   subst G;obtain⟨c,L⟩:=B n ak;obtain⟨cl,e,h1⟩:=aJq env rest ((n,c)::acc) (λx i=>B x (ao _ i));refine⟨cl,?_,λx d i=>?_⟩
   ·rw[d5];have O:cellOf env n=pure c:=by unfold cellOf;rw[L]
    simp only[hk,if_true,O,jW];exact e
   ·rcases h1 x d i with z | z
    ·exact .inl (ao _ z)
    ·simp only[cY] at z;cases hxn:x == n with
     | true=>rw[fL hxn];exact .inl ak
     | false=>rw[hxn] at z;exact .inr z
  ·obtain⟨cl,e,h1⟩:=aJq env rest acc (λx i=>B x (ao _ i));refine⟨cl,?_,λx d i=>?_⟩
   ·rw[d5];simp only[hk,if_false,jW,aE];exact e
   ·rcases h1 x d i with z | z
    ·exact .inl (ao _ z)
    ·exact .inr z
theorem bZv {env:Env} {scope:Scope} (hn:∀ x,(x,aV)∈scope.names->∃ c,env.cells.lookup x=some c) :
  ∃ cl,closureFor scope env=pure cl/\(∀ x c,cl.lookup x=some c->env.cells.lookup x=some c)/\(∀ x,(x,aV)∈scope.names->(cl.lookup x).isSome=true)/\∀ x c,cl.lookup x=some c->(x,aV)∈scope.names:=by
 obtain⟨cl,e,h1,h2⟩:=aJo env scope.names [] hn (λx c h=>by cases h)
 obtain⟨cl',L,B⟩:=aJq env scope.names [] hn;have G:cl=cl':=by
  have:=e.symm.trans L
  injection this
 subst G;refine⟨cl,?_,h1,λx i=>h2 x (.inl i),λx c i=>(B x c i).elim id λz=>by cases z⟩
 have q:closureFor scope env=(forIn scope.names ([]:List (Str × Addr)) λ(y:Str × fH) (cs:List (Str × Addr))=>(if (y.2 == aV)=true then do let a <- cellOf env y.1;pure (cA ((y.1,a)::cs)) else pure (cA cs):Sem (ForInStep (List (Str × Addr))))):=by
  unfold closureFor;exact bind_pure _
 rw[q,e]
def ocl (oc:Option Str) (c:Addr) (cl:List (Str × Addr)):List (Str × Addr):=match oc with
 | none=>cl
 | some x=>(x,c)::cl
def ohp (oc:Option Str) (h:aO):aO:=match oc with
 | none=>h
 | some _=>h.push { cls:=.type "cell",data:=.cell none }
theorem bQz {oc:Option Str} {c d:Addr} {cl:List (Str × Addr)} {x:Str} (h:(ocl oc c cl).lookup x=some d):(oc=some x/\d=c)\/cl.lookup x=some d:=by
 cases oc with
 | none=>exact .inr h
 | some z =>
  unfold ocl at h;simp only[cY] at h;cases hx:x == z with
  | true=>rw[hx] at h;cases h;rw[fL hx];exact .inl ⟨rfl,rfl⟩
  | false=>rw[hx] at h;exact .inr h
theorem cZo {oc:Option Str} {c:Addr} {cl:List (Str × Addr)} {x:Str} (h:(cl.lookup x).isSome=true):∃ d,(ocl oc c cl).lookup x=some d:=by
 cases oc with
 | none=>exact cj.mp h
 | some z =>
  unfold ocl;simp only[cY];cases hx:x == z with
  | true=>exact⟨_,rfl⟩
  | false=>exact cj.mp h
theorem eJd {c:Addr} {cl:List (Str × Addr)} {x:Str}:(ocl (some x) c cl).lookup x=some c:=by unfold ocl;simp
theorem bXp {oc:Option Str} {h:aO} {b:Addr} {o:Obj} (e:h.get? b=some o):(ohp oc h).get? b=some o:=by
 cases oc with
 | none=>exact e
 | some _=>exact ag _ e
def aQk (X:Cx) (N':List Str) (scope:Scope) (cl:List (Str × Addr)) (C:Addr) (fp:List Addr) (s:ai) (H:Hp) (oc:Option Str):Cx :=
 { X with N:=N',s₀:=s,H₀:=H,env:=kP scope cl C X.env,outer:=X.stack,ex:=fp,fn:=λx=>decide (oc=some x),pn:=[],xe:=λ_ _=>False }
theorem eJe {scope:Scope} {env:Env} {cl:List (Str × Addr)} {M:Model} {A:aQ} {E:ae->ai->Prop} {s:ai} {Q:Env->ai->Prop}
  (h:Q { scope:=scope,locals:=s.heap.objs.size,globals:=env.globals,cells:=gJ (s.heap.objs.size + 1) scope.names cl,qual:=env.qual,func:=none,code:=env.code,frame:=env.frame,builtins:=env.builtins } { s with heap:=jX (s.heap.push { cls:=.type "dict",data:=.dict #[] }) scope.names }) :
  ay M A (newFunctionEnv scope env.globals cl [] env.qual none .none (some env)) Q E s:=by
 unfold newFunctionEnv;simp only[Option.isSome_some,if_true];refine ad (wpAny_alloc ?_);refine ad (wpAny_layCells _ (λname kind cells=>by cases hkc:kind == iA <;> simp[hkc]) _ _ _ _ ?_)
 rw[show({ s with heap:=s.heap.push { cls:=.type "dict",data:=.dict #[] } }:ai).heap.objs.size=s.heap.objs.size + 1 from bv ..]
 exact ad (af (af h))
section
variable {X:Cx} {pins:List (Addr × Obj)} {σ:St} {H H':Hp} {s s2:ai}
theorem cJa {N':List Str} {scope:Scope} {cl:List (Str × Addr)} {fp:List Addr} {oc:Option Str} (I:Inv X pins σ H s) (hf:∀ b∈fp,FpOk X pins H b) (hfl:∀ b∈fp,b < s.heap.objs.size) (hkind:scope.kind=.function)
  (c1:∀ x c,cl.lookup x=some c->X.env.cells.lookup x=some c) (c2:∀ x,(x,aV)∈scope.names->(cl.lookup x).isSome=true) (hcell:∀ y∈scope.names,y.2=.cell->oc=some y.1) (hun:∀ x,oc=some x->cl.lookup x=none) :
  (aQk X N' scope (ocl oc (s.heap.objs.size + 1) cl) s.heap.objs.size fp s H oc).Ok where
 mod:=I.ok.mod
 kind:=hkind
 glob:=I.ok.glob
 blt:=I.ok.blt
 above:=au _
 inj:=λx y c h1 h2=>by
  have old:∀ z,cl.lookup z=some (s.heap.objs.size + 1)->False:=λz e=>by
   obtain⟨v,q⟩:=I.cell z _ (c1 z _ e);exact absurd (show s.heap.objs.size + 1 < s.heap.objs.size from q.lt) (gH.mpr (dJ _))
  rcases bQz h1 with⟨G,rfl⟩ | G <;> rcases bQz h2 with⟨e2,e⟩ | e2
  ·rw[G] at e2;exact aK e2
  ·exact(old y e2).elim
  ·subst e;exact(old x G).elim
  ·exact I.ok.inj x y c (c1 x c G) (c1 y c e2)
 has:=λx L=>by
  have i:scope.names.lookup x=some .cell\/scope.names.lookup x=some .free:=aJp (sc:=scope) L;rcases i with i | i
  ·have e:=hcell _ (bQx i) rfl;subst e;exact⟨_,eJd⟩
  ·exact cZo (c2 x (bQx i))
 cab:=λx c h O=>by
  have h':oc=some x:=of_decide_eq_true h;rcases bQz O with⟨_,rfl⟩ | e
  ·exact dJ _
  ·rw[hun x h'] at e;cases e
 hd:=I.ok.hd
 frames:=I.ok.frames
 gd:=I.ok.gd
 stk:=.inl rfl
 exf:=λb B=>⟨aG (hfl b B),λx c e=>by
  rcases bQz e with⟨_,rfl⟩ | e
  ·intro z;exact absurd (show s.heap.objs.size + 1 < s.heap.objs.size from z ▸ hfl b B) (gH.mpr (dJ _))
  ·exact(hf b B).2.2.2.2.1 x c (c1 x c e)⟩
 bs:=I.bs
 bsz:=bc I.ok.bsz I.sz
 noex:=λb o e B=>by
  rcases(hf b B).2.2.2.1 with z | z
  ·exact I.ok.noex b o e z
  ·have q:=I.ok.bs b o e;exact absurd (aT (aw q.1) z) (cE _)
 exfs:=λb B z=>by
  rcases aA.mp (I.stkSub b z) with e | e
  ·exact(hf b B).2.1 e
  ·exact(hf b B).2.2.1 e
 funs:=I.stack
 frf:=I.stkFree
theorem cQp {N':List Str} {is:List (Option Nat)} {scope:Scope} {cl:List (Str × Addr)} {fp:List Addr} {oc:Option Str} (I:Inv X pins σ H s) (ok:(aQk X N' scope (ocl oc (s.heap.objs.size + 1) cl) s.heap.objs.size fp s H oc).Ok) (hN:X.N.Nodup)
  (c1:∀ x c,cl.lookup x=some c->X.env.cells.lookup x=some c) (c2:∀ x,(x,aV)∈scope.names->(cl.lookup x).isSome=true) (hu:∀ x,(x,aV)∈scope.names->scope.names.lookup x=some .free) (cp:Cap X.N scope N' is)
  (hV:∀ x,(x,aV)∈scope.names->Vis X.env.scope x/\X.env.scope.names.lookup x≠some .local) (hun:∀ x,oc=some x->cl.lookup x=none) :
  Inv (aQk X N' scope (ocl oc (s.heap.objs.size + 1) cl) s.heap.objs.size fp s H oc) [] (capt is σ) H { s with heap:=ohp oc (s.heap.push { cls:=.type "dict",data:=.dict #[] }) }:=by
 have kp:∀ b o,s.heap.get? b=some o->(ohp oc (s.heap.push { cls:=.type "dict",data:=.dict #[] })).get? b=some o:=λb o e=>bXp (ag _ e);exact {
 ok:=ok
 os:=rfl
 bare:=I.bare
 base:=Un.kept kp
 loc:=by
  refine⟨_,(aO.Ns.new s.heap (.type "dict")).keeps λb o e=>bXp e,λj x v e1 e2 e3=>?_⟩;have Z:N'[j]?=some x:=e1;unfold capt at e2;rw[br] at e2;cases hi:is[j]? with
  | none=>rw[hi] at e2;cases e2
  | some o =>
   rw[hi] at e2;cases o with
   | none=>cases e2
   | some i =>
    obtain⟨hx,y⟩:=cp.get Z hi;have e2':(σ[i]?).join=some v:=aK e2;have e4:σ[i]?=some (some v):=by
     cases q:σ[i]? with
     | none=>rw[q] at e2';cases e2'
     | some z=>rw[q] at e2';cases z with
      | none=>cases e2'
      | some z=>cases e2';rfl
    obtain⟨m,hn,hl⟩:=I.loc;obtain⟨G,Y⟩:=hV x y;obtain⟨u,r,l⟩:=hl i x v hx e4 G;refine⟨u,r,.inr ⟨aXh (sc:=scope) (.inr (hu x y)),?_⟩⟩;rcases l with⟨k,_⟩ | ⟨k,c,e,z⟩
    ·exact absurd k Y
    ·obtain⟨L,e'⟩:=cZo (oc:=oc) (c:=s.heap.objs.size + 1) (c2 x y);have ee:L=c:=by
      rcases bQz e' with⟨O,_⟩ | O
      ·have:=c2 x y;rw[hun x O] at this;cases this
      ·have:=c1 x L O;rw[e] at this;exact(aK this).symm
     subst ee;obtain⟨B,U,hd⟩:=z;exact⟨L,e',B,kp L B U,hd⟩
 cell:=λx c e=>by
  rcases bQz (show(ocl oc (s.heap.objs.size + 1) cl).lookup x=some c from e) with⟨z,rfl⟩ | e
  ·subst z;refine⟨none,{ cls:=.type "cell",data:=.cell none },?_,rfl⟩;show((s.heap.push _).push _).get? _=_;rw[<- bv s.heap { cls:=.type "dict",data:=.dict #[] }];exact av _ rfl
  ·obtain⟨v,o,ho,hd⟩:=I.cell x c (c1 x c e);exact⟨v,o,kp c o ho,hd⟩
 free:=I.hok.fresh (au _)
 freeC:=λx c e=>by
  rcases bQz (show(ocl oc (s.heap.objs.size + 1) cl).lookup x=some c from e) with⟨z,rfl⟩ | e
  ·exact I.hok.fresh (dJ _)
  ·exact I.freeC x c (c1 x c e)
 pin:=λp hp=>absurd (show p∈([]:List (Addr × Obj)) from hp) (by simp)
 hok:=I.hok.kept kp
 len:=by
  show(capt is σ).length=N'.length;unfold capt;rw[aj,cp.length] }
def FrC (X:Cx) (pins:List (Addr × Obj)) (C:Addr) (H:Hp):Prop:=H C=none/\C≠X.env.locals/\X.s₀.heap.objs.size<=C/\(∀ x c,X.env.cells.lookup x=some c->c≠C)/\∀ p∈X.pn++pins,p.1≠C
theorem FrC.gone {C:Addr} {h':aO} (f:FrC X pins C H) (I:Inv X pins σ H s) (sb:dA C s.heap h'):Inv X pins σ H { s with heap:=h' } :=
 I.turned (t':=s.toks) (λb o i e=>(sb.2 b i).trans e) f.1 f.2.1 (.inr f.2.2.1) f.2.2.2.1 f.2.2.2.2
theorem comp_gen {elt target iter:Expr} {ifs:List Expr} {gs:List jM} {scope:Scope} {pos:Pos} {N':List Str} {is:List (Option Nat)} {wi:TI} {g:TG} {tt:TT} {tb:Addr->TB} {oc:Option Str} {m:ae->Env->Sem Unit} (hcalm:X.calm=true) (hN:X.N.Nodup)
  (hturn:∀ it acc env,gz (.ListComp elt (⟨target,iter,ifs,0⟩::gs) scope pos) 0 it acc env=aZm target ifs iter.pos (m acc env) (.compLoop (.ListComp elt (⟨target,iter,ifs,0⟩::gs) scope pos) 0 it acc env) it env)
  (cp:Cap X.N scope N' is) (hi:PI X target iter wi)
  (hg:∀ cl C fp s H,PG (aQk X N' scope cl C fp s H oc) target g) (ht:∀ cl C fp s H,PTs (aQk X N' scope cl C fp s H oc) ifs tt) (hb:∀ cl C fp s H D,PB (aQk X N' scope cl C fp s H oc) (m (.ref D) (kP scope cl C X.env)) (tb D))
  (hcf:∀ n acc,gJ n scope.names acc=ocl oc n acc) (hpc:∀ h,jX h scope.names=ohp oc h)
  (hkind:scope.kind=.function) (hcell:∀ y∈scope.names,y.2=.cell->oc=some y.1)
  (hu:∀ y∈scope.names,scope.names.lookup y.1=some y.2) (hoc:∀ x,oc=some x->scope.names.lookup x=some .cell)
  (hVb:okV scope.names X.env.scope.names=true)
  (hs:∀ x,db iter X.env x=pure x)
  {use:Option (ae->Sem Unit)} {Q:VK} {Qv:ae->ai->Prop} (I:Inv X pins σ H s) (h:cZl is wi g tt tb σ H Q)
  (fin:∀ D C H5 s6,Inv X pins σ H5 s6->(∃ m,s6.heap.Ns C m)->FrC X pins C H5->Q (.ref D) H5->compPost (az X.prog X.w) X.A X.xe use Qv (.ref D) C (.ok .next) s6) :
  ay (az X.prog X.w) X.A (comprehension (.ListComp elt (⟨target,iter,ifs,0⟩::gs) scope pos) scope X.env (firstIterPos (⟨target,iter,ifs,0⟩::gs) pos) (newList []) (firstAsync (⟨target,iter,ifs,0⟩::gs)) (firstIter (⟨target,iter,ifs,0⟩::gs) X.env) use) Qv X.xe s:=by
 have hV:=fXs hVb;have hV':∀ x,(x,aV)∈scope.names->Vis X.env.scope x/\X.env.scope.names.lookup x≠some .local:=λx i=>hV (x,.free) i rfl;have hu':∀ x,(x,aV)∈scope.names->scope.names.lookup x=some .free:=λx i=>hu (x,.free) i;have B:∀ x∈scope.names,x.2=.local->scope.names.lookup x.1=some .local:=λx i hl=>by rw[hu x i,hl]
 obtain⟨cl,L,c1,c2,c3⟩:=bZv (env:=X.env) (scope:=scope) λx i=>I.ok.has x (by
  obtain⟨v,n⟩:=hV' x i;rcases v with v | v | v
  ·exact absurd v n
  ·exact .inl v
  ·exact .inr v)
 have hun:∀ x,oc=some x->cl.lookup x=none:=λx i=>by
  cases e:cl.lookup x with
  | none=>rfl
  | some c =>
   have:=hu' x (c3 x c e)
   rw[hoc x i] at this;cases this
 refine wpAny_comprehension_free (use:=use) rfl hs L hkind B (thn (hi pins s σ H _ I h) λv s1 h1=>thn h1 λitv s2 h2=>?_);obtain⟨it,fp,tn,J,H2,rfl,I2,T,st2,f2,q2⟩:=h2;refine bi ?_;have hD:H2 s2.heap.objs.size=none:=I2.hok.fresh (au _);have fpl:∀ b∈fp,b < s2.heap.objs.size:=λb hb=>by obtain⟨o,e,_⟩:=T.obj _ _ st2 b hb;exact aw e
 have O:Inv X pins σ (upd H2 s2.heap.objs.size (.lst [])) { s2 with heap:=s2.heap.push { cls:=.type "list",dict:=none,data:=.seq ([]:List ae).toArray } } :=
  I2.laid (t':=s2.toks) (λb u e=>ag _ e) (au _) ⟨bL _,[],0,.nil,av _ rfl⟩
 have st3:tn 0 (s2.heap.push { cls:=.type "list",dict:=none,data:=.seq ([]:List ae).toArray }):=T.keep _ _ _ st2 λb hb o e=>ag _ e;have U:∀ b∈fp,FpOk X pins (upd H2 s2.heap.objs.size (.lst [])) b:=λb hb=>⟨by rw[upd_ne (aG (fpl b hb))];exact(f2 b hb).1,(f2 b hb).2⟩
 have G:∀ b∈fp,b < (s2.heap.push { cls:=.type "list",dict:=none,data:=.seq ([]:List ae).toArray }).objs.size:=λb hb=>by rw[bv];exact dg (fpl b hb)
 have q3:=q2 _ hD;generalize hDe:s2.heap.objs.size=D at *
 generalize hs3:({ s2 with heap:=s2.heap.push { cls:=.type "list",dict:=none,data:=.seq ([]:List ae).toArray } }:ai)=s3 at *
 have hsh:s3.heap=s2.heap.push { cls:=.type "list",dict:=none,data:=.seq ([]:List ae).toArray }:=by rw[<- hs3]
 rw[<- hsh] at st3 G;have ok:=cJa (N':=N') (cl:=cl) (oc:=oc) O U G hkind c1 c2 hcell hun;have I4:=cQp O ok hN c1 c2 hu' cp hV' hun;refine eJe ?_;rw[hcf,hpc];have kp:∀ b o,s3.heap.get? b=some o->(ohp oc (s3.heap.push { cls:=.type "dict",data:=.dict #[] })).get? b=some o:=λb o e=>bXp (ag _ e);have Z:tn 0 (ohp oc (s3.heap.push { cls:=.type "dict",data:=.dict #[] })):=T.keep _ _ _ st3 λb _ o e=>kp b o e;have f4:∀ b∈fp,FpOk (aQk X N' scope (ocl oc (s3.heap.objs.size + 1) cl) s3.heap.objs.size fp s3 (upd H2 D (.lst [])) oc) [] (upd H2 D (.lst [])) b:=λb hb =>
  ⟨(U b hb).1,(ok.exf b hb).1,ok.exfs b hb,.inl hb,(ok.exf b hb).2,λp hp=>absurd (show p∈([]:List (Addr × Obj)) from hp) (by simp)⟩
 have loop:=cZm (X:=aQk X N' scope (ocl oc (s3.heap.objs.size + 1) cl) s3.heap.objs.size fp s3 (upd H2 D (.lst [])) oc) (e:=.ListComp elt (⟨target,iter,ifs,0⟩::gs) scope pos) (d:=0) (acc:=.ref D)
  (R:=compPost (az X.prog X.w) X.A X.xe use Qv (.ref D) s3.heap.objs.size) hcalm rfl (hturn _ _ _) rfl rfl T (hg _ _ _ _ _) (ht _ _ _ _ _) (hb _ _ _ _ _ D) I4 Z f4 q3 (by
   intro H5 s6 Y _ qn;obtain⟨m6,n6,_⟩:=id Y.loc;have un:Un (frs X.stack) fp (upd H2 D (.lst [])) H5 s3.heap s6.heap:=Y.base;have hok':HOk X.prog X.w H5 s6.heap:=Y.hok;refine fin D s3.heap.objs.size H5 s6 (O.call' (s':=s6) (ch:=fp) Y.os un hok' Y.bare λb hb=>⟨(U b hb).2.2.2.1,(U b hb).2.1,(U b hb).2.2.2.2.1,(U b hb).2.2.2.2.2⟩) ⟨m6,n6⟩ ⟨Y.free,dD O.lt,O.sz,λx c e z=>?_,λp hp z=>?_⟩ qn
   ·obtain⟨v,q⟩:=O.cell x c e;exact absurd q.lt (by rw[z];exact cE _)
   ·exact absurd (aw (O.pin p hp).1) (by rw[z];exact cE _))
 exact codeAny_compStart_list loop (T.self _ 0 _ _ _ Z loop)
theorem eQ1 {elt target iter:Expr} {ifs:List Expr} {gs:List jM} {scope:Scope} {pos:Pos} {N':List Str} {is:List (Option Nat)} {wi:TI} {g:TG} {tt:TT} {tb:Addr->TB} {oc:Option Str} {m:ae->Env->Sem Unit} (hcalm:X.calm=true) (hN:X.N.Nodup)
  (hturn:∀ it acc env,gz (.ListComp elt (⟨target,iter,ifs,0⟩::gs) scope pos) 0 it acc env=aZm target ifs iter.pos (m acc env) (.compLoop (.ListComp elt (⟨target,iter,ifs,0⟩::gs) scope pos) 0 it acc env) it env)
  (cp:Cap X.N scope N' is) (hi:PI X target iter wi)
  (hg:∀ cl C fp s H,PG (aQk X N' scope cl C fp s H oc) target g) (ht:∀ cl C fp s H,PTs (aQk X N' scope cl C fp s H oc) ifs tt) (hb:∀ cl C fp s H D,PB (aQk X N' scope cl C fp s H oc) (m (.ref D) (kP scope cl C X.env)) (tb D))
  (hcf:∀ n acc,gJ n scope.names acc=ocl oc n acc:=by intro _ _;rfl) (hpc:∀ h,jX h scope.names=ohp oc h:=by intro _;rfl)
  (hkind:scope.kind=.function:=by rfl) (hcell:∀ y∈scope.names,y.2=.cell->oc=some y.1:=by decide +kernel)
  (hu:∀ y∈scope.names,scope.names.lookup y.1=some y.2:=by decide +kernel) (hoc:∀ x,oc=some x->scope.names.lookup x=some .cell:=by intro x h;cases h <;> rfl)
  (hVb:okV scope.names X.env.scope.names=true:=by first | rfl | kernel_rfl)
  (hs:∀ x,db iter X.env x=pure x:=by intro _;rfl) :
  PE X (.ListComp elt (⟨target,iter,ifs,0⟩::gs) scope pos) (cZl is wi g tt tb):=by
 intro pins s σ H Q I h;rw[eval_ListComp];refine comp_gen hcalm hN hturn cp hi hg ht hb hcf hpc hkind hcell hu hoc hVb hs I h λD C O U L ⟨m,n⟩ G B=>?_;exact⟨m,n,λh' i=>⟨.ref D,O,G.gone L i,rfl,B⟩⟩
theorem eJf {x:Str} {i:Nat} {pos' spos:Pos} (hix:X.N[i]?=some x) (hx:Loc X.env.scope x) {elt target iter:Expr} {ifs:List Expr} {gs:List jM} {scope:Scope} {pos:Pos} {N':List Str} {is:List (Option Nat)} {wi:TI} {g:TG} {tt:TT} {tb:Addr->TB} {oc:Option Str} {m:ae->Env->Sem Unit} (hcalm:X.calm=true) (hN:X.N.Nodup)
  (hturn:∀ it acc env,gz (.ListComp elt (⟨target,iter,ifs,0⟩::gs) scope pos) 0 it acc env=aZm target ifs iter.pos (m acc env) (.compLoop (.ListComp elt (⟨target,iter,ifs,0⟩::gs) scope pos) 0 it acc env) it env)
  (cp:Cap X.N scope N' is) (hi:PI X target iter wi)
  (hg:∀ cl C fp s H,PG (aQk X N' scope cl C fp s H oc) target g) (ht:∀ cl C fp s H,PTs (aQk X N' scope cl C fp s H oc) ifs tt) (hb:∀ cl C fp s H D,PB (aQk X N' scope cl C fp s H oc) (m (.ref D) (kP scope cl C X.env)) (tb D))
  (hcf:∀ n acc,gJ n scope.names acc=ocl oc n acc:=by intro _ _;rfl) (hpc:∀ h,jX h scope.names=ohp oc h:=by intro _;rfl)
  (hkind:scope.kind=.function:=by rfl) (hcell:∀ y∈scope.names,y.2=.cell->oc=some y.1:=by decide +kernel)
  (hu:∀ y∈scope.names,scope.names.lookup y.1=some y.2:=by decide +kernel) (hoc:∀ x,oc=some x->scope.names.lookup x=some .cell:=by intro x h;cases h <;> rfl)
  (hVb:okV scope.names X.env.scope.names=true:=by first | rfl | kernel_rfl)
  (hs:∀ x,db iter X.env x=pure x:=by intro _;rfl)
  (hsw:gc (.ListComp elt (⟨target,iter,ifs,0⟩::gs) scope pos) (some (.Name x pos')) spos.line X.env=pure true:=by first | rfl | kernel_rfl) (hf:X.fn x=true\/X.env.scope.names.lookup x=some .local:=by first | exact .inl rfl | exact .inr rfl | assumption) :
  PS X (.Assign [.Name x pos'] (.ListComp elt (⟨target,iter,ifs,0⟩::gs) scope pos) spos) (tAsg (cZl is wi g tt tb) (cQm i)):=by
 intro pins s σ H D I h;rw[exec_Assign_Name_used _ _ _ _ hsw];refine ad (iz (ad ?_));show ay _ _ (comprehension _ _ _ _ _ _ _ (some _) >>= λ_=>pure ()) _ _ _;refine ad (comp_gen (Qv:=λ_ s'=>ay (az X.prog X.w) X.A (pure ()) _ X.xe s') hcalm hN hturn cp hi hg ht hb hcf hpc hkind hcell hu hoc hVb hs I h λE C H5 s6 I6 ⟨m,n⟩ L U=>?_);refine wpAny_assign_Name (bJn I6 hN hix hx (show RelV (.ref E) (.ref E) from rfl) (λs7 Z ⟨a,O,Y⟩=>?_) hf)
 have G:C≠a:=by
  rintro rfl;rcases Y with z | z
  ·exact L.2.1 z
  ·exact L.2.2.2.1 x C z rfl
 refine⟨m,n.sameBut O G,λh' B=>af (af ?_)⟩;exact⟨_,H5,L.gone Z B,U⟩
end
end L2
set_option maxHeartbeats 4000000
namespace L2
open PySem PySem.Spec PyProof.Rows
abbrev Dn (α:Type):=Hp->V->α->Prop
abbrev Fg:=aq
def dS:Dn Str:=λ_ v x=>v=.str x
def dB:Dn Bool:=λ_ v b=>v=.bl b
def dT {α:Type} (K:Fg) (R:Dn α):Dn (List α):=λH v ds=>∃ a xs,v=.ref a/\SqT K H a xs/\aZ (R H) xs ds
def dL {α:Type} (K:Fg) (R:Dn α):Dn (List α):=λH v ds=>∃ a xs,v=.ref a/\SqL K H a xs/\aZ (R H) xs ds
def SameT (H H':Hp):Prop:=∀ a xs,Rd H a (.tup xs)->Rd H' a (.tup xs)
theorem Same.t {H H':Hp} (h:Same H H'):SameT H H':=λa xs r=>by
 rcases r with r | ⟨o,r⟩
 ·exact .inl (h _ _ r)
 ·exact .inr ⟨o,h _ _ r⟩
theorem aQm {H:Hp} {p:Addr} {o:HO} (h:H p=none):Same H (upd H p o):=λb o' e=>by
 rw[upd_ne (by rintro rfl;rw[h] at e;cases e)];exact e
theorem SqT.stay {K:Fg} {H H':Hp} {a:Addr} {xs:List V} (h:SqT K H a xs) (s:SameT H H'):SqT K H' a xs:=h.elim (λr=>.inl (s a xs r)) .inr
class Im {α:Type} (R:Dn α):Prop where
 im:∀ {H H' v d},SameT H H'->R H v d->R H' v d
class Mo {α:Type} (R:Dn α):Prop where
 mo:∀ {H H' v d},Same H H'->R H v d->R H' v d
instance (priority:=low) {α:Type} {R:Dn α} [Im R]:Mo R:=⟨λs r=>Im.im s.t r⟩
theorem Paired.imp {α β:Type} {F G:α->β->Prop} (h:∀ a b,F a b->G a b):∀ {l:List α} {m:List β},aZ F l m->aZ G l m
 | _,_,.nil=>.nil
 | _,_,.cons p q=>.cons (h _ _ p) (Paired.imp h q)
instance:Im dS:=⟨λ_ h=>h⟩
instance {α:Type} {K:Fg} {R:Dn α} [Im R]:Im (dT K R):=⟨λs ⟨a,xs,e,q,p⟩=>⟨a,xs,e,q.stay s,Paired.imp (λ_ _ r=>Im.im s r) p⟩⟩
theorem beq_dec {α:Type} [DecidableEq α] [BEq α] [LawfulBEq α] (a b:α):(a == b)=decide (a=b):=by
 by_cases h:a=b
 ·subst h;simp
 ·simp[h]
theorem Paired.get' {α β:Type} {F:α->β->Prop}:∀ {l:List α} {m:List β} {i:Nat} {a:α},aZ F l m->l[i]?=some a->∃ b,m[i]?=some b/\F a b
 | _,_,_,_,.nil,h=>by simp at h
 | _,_,0,_,.cons p _,h=>by simp at h;subst h;exact⟨_,rfl,p⟩
 | _,_,i + 1,a,.cons _ q,h=>by
  obtain⟨b,e,f⟩:=Paired.get' (i:=i) (a:=a) q (by simpa using h)
  exact⟨b,by simpa using e,f⟩
theorem fXw {α:Type} [DecidableEq α]:∀ (ds es:List α),((aP (min ds.length es.length)).all λj=>decide (ds[j]?=es[j]?))=true->ds.length=es.length->ds=es:=λds es h hl=>by
 apply List.ext_getElem?;intro i
 by_cases hi:i < ds.length
 ·have:=bK.mp h i (bu.mpr (by lia))
  exact of_decide_eq_true this
 ·rw[bB (by lia),bB (by lia)]
theorem dQn {α:Type} [DecidableEq α] (ds es:List α) (n m:Nat) (hn:n=ds.length) (hm:m=es.length):((aP (min n m)).all (λj=>decide (ds[j]?=es[j]?)) && (n == m))=decide (ds=es):=by
 subst hn;subst hm
 by_cases h:ds=es
 ·subst h;simp
 ·rw[decide_eq_false h,Bool.and_eq_false_iff]
  by_cases hl:ds.length=es.length
  ·left
   cases q:(aP (min ds.length es.length)).all λj=>decide (ds[j]?=es[j]?) with
   | false=>rfl
   | true=>exact absurd (fXw ds es q hl) h
  ·right;simpa using hl
variable {α β γ:Type}
end L2
namespace ST
open PySem PySem.SetTable
def step (mask:Nat) (p:Probe):Probe :=
 if p.more > 0 then { p with j:=p.j + 1,more:=p.more - 1 } else
 { p with j:=(leap mask p.i p.perturb).1,more:=runEnd mask (leap mask p.i p.perturb).1 - (leap mask p.i p.perturb).1,i:=(leap mask p.i p.perturb).1,perturb:=(leap mask p.i p.perturb).2 }
theorem aJr (t:aJ) (p:Probe):t.advance p=step t.mask p:=by
 unfold aJ.advance step
 split <;> rfl
def road (mask:Nat):Nat->Probe->Probe
 | 0,p=>p
 | m + 1,p=>road mask m (step mask p)
theorem bZ0 (mask:Nat):∀ (m:Nat) (p:Probe),road mask (m + 1) p=step mask (road mask m p)
 | 0,_=>rfl
 | m + 1,p=>by
  show road mask (m + 1) (step mask p)=step mask (road mask m (step mask p));exact bZ0 mask m (step mask p)
theorem aQv (mask:Nat):∀ (a b:Nat) (p:Probe),road mask (a + b) p=road mask b (road mask a p)
 | 0,b,p=>by rw[km];rfl
 | a + 1,b,p=>by
  rw[ji];show road mask (a + b) (step mask p)=road mask b (road mask a (step mask p));exact aQv mask a b _
theorem aJs (mask:Nat) (p:Probe):(step mask p).dummy=p.dummy:=by unfold step;split <;> rfl
theorem bZ1 (mask i:Nat) (h:i<=mask):i<=runEnd mask i/\runEnd mask i<=mask/\runEnd mask i<=i + 9:=by
 unfold runEnd;split <;> lia
structure PV (mask:Nat) (p:Probe):Prop where
 more:p.more<=9
 i:p.i<=mask
 j:p.j + p.more<=mask
 pt:p.perturb < 2 ^ 64
theorem cQq (mask i pt:Nat):(leap mask i pt).1<=mask:=by
 unfold leap
 have:=li (i * 5 + 1 + pt / 32) (show 0 < mask + 1 by lia)
 show(i * 5 + 1 + pt / 32) % (mask + 1)<=mask;lia
theorem PV.step {mask:Nat} {p:Probe} (v:PV mask p):PV mask (ST.step mask p):=by
 unfold ST.step;have h1:=v.more;have h2:=v.i;have B:=v.j;have y:=v.pt
 split
 ·exact⟨by dsimp only;lia,h2,by dsimp only;lia,y⟩
 ·have l:=cQq mask p.i p.perturb;have r:=bZ1 mask _ l;refine⟨by dsimp only;lia,l,by dsimp only;lia,?_⟩
  show p.perturb / 32 < 2 ^ 64;exact jj (Nat.div_le_self _ _) y
theorem PV.road {mask:Nat}:∀ (m:Nat) {p:Probe},PV mask p->PV mask (ST.road mask m p)
 | 0,_,v=>v
 | m + 1,_,v=>PV.road m v.step
theorem eJg (h:Int):bits h < 2 ^ 64:=by
 unfold bits;have h1:=Int.emod_nonneg h (show(2 ^ 64:Int)≠0 by decide)
 have h2:=Int.emod_lt_of_pos h (show(0:Int) < 2 ^ 64 by decide)
 have:(2:Int) ^ 64=18446744073709551616:=by decide
 have:(2:Nat) ^ 64=18446744073709551616:=by decide
 lia
def start (mask:Nat) (h:Int):Probe:={ j:=bits h % (mask + 1),more:=runEnd mask (bits h % (mask + 1)) - bits h % (mask + 1),i:=bits h % (mask + 1),perturb:=bits h,dummy:=none }
theorem aJd (mask:Nat) (h:Int):PV mask (start mask h):=by
 have l:bits h % (mask + 1)<=mask:=dF (li _ (i5 mask));have r:=bZ1 mask _ l;exact⟨by show _ - _<=9;lia,l,by show bits h % (mask + 1) + (runEnd mask (bits h % (mask + 1)) - bits h % (mask + 1))<=mask;lia,eJg h⟩
theorem dQo (mask:Nat):∀ (k:Nat) (p:Probe),k<=p.more->road mask k p={ p with j:=p.j + k,more:=p.more - k }
 | 0,p,_=>rfl
 | k + 1,p,h=>by
  show road mask k (step mask p)=_;have e:step mask p={ p with j:=p.j + 1,more:=p.more - 1 }:=by unfold step;rw[if_pos (by lia)]
  rw[e,dQo mask k _ (by show k<=p.more - 1;lia)]
  show({ j:=p.j + 1 + k,more:=p.more - 1 - k,i:=p.i,perturb:=p.perturb,dummy:=p.dummy }:Probe)={ j:=p.j + (k + 1),more:=p.more - (k + 1),i:=p.i,perturb:=p.perturb,dummy:=p.dummy };rw[show p.j + 1 + k=p.j + (k + 1) by lia,show p.more - 1 - k=p.more - (k + 1) by lia]
theorem dQp (mask:Nat) (p:Probe):road mask (p.more + 1) p={ p with j:=(leap mask p.i p.perturb).1,more:=runEnd mask (leap mask p.i p.perturb).1 - (leap mask p.i p.perturb).1,i:=(leap mask p.i p.perturb).1,perturb:=(leap mask p.i p.perturb).2 }:=by
 rw[bZ0,dQo mask p.more p (au _)];unfold step;rw[if_neg (by show ¬ p.more - p.more > 0;lia)]
def aZt (mask:Nat):Nat->Nat × Nat->Nat × Nat
 | 0,s=>s
 | l + 1,s=>aZt mask l (leap mask s.1 s.2)
theorem aZw (mask:Nat):∀ (l:Nat) (s:Nat × Nat),aZt mask (l + 1) s=leap mask (aZt mask l s).1 (aZt mask l s).2
 | 0,_=>rfl
 | l + 1,s=>by
  show aZt mask (l + 1) (leap mask s.1 s.2)=_;exact aZw mask l _
theorem bXq (mask:Nat):∀ (l:Nat) (s:Nat × Nat),(aZt mask l s).2=s.2 / 32 ^ l
 | 0,s=>by simp[aZt]
 | l + 1,s=>by
  rw[aZw];show(aZt mask l s).2 / 32=_;rw[bXq mask l s,Nat.div_div_eq_div_mul,Nat.pow_succ]
theorem far (mask:Nat):∀ (l:Nat) (p:Probe),PV mask p->∃ m,m<=10 * l/\(road mask m p).i=(aZt mask l (p.i,p.perturb)).1/\(road mask m p).perturb=(aZt mask l (p.i,p.perturb)).2/\(0 < l->(road mask m p).j=(road mask m p).i)
 | 0,p,_=>⟨0,au _,rfl,rfl,λh=>absurd h (cE _)⟩
 | l + 1,p,v=>by
  obtain⟨m,h1,h2,B,G⟩:=far mask l p v;have y:=PV.road m v;refine⟨m + ((road mask m p).more + 1),?_,?_⟩
  ·have:=y.more;lia
  ·rw[aQv,dQp,aZw,<- h2,<- B];exact⟨rfl,rfl,λ_=>rfl⟩
def f5 (N x:Nat):Nat:=(x * 5 + 1) % N
def f5s (N:Nat):Nat->Nat->Nat
 | 0,x=>x
 | a + 1,x=>f5s N a (f5 N x)
theorem bXr (N:Nat):∀ (a b x:Nat),f5s N (a + b) x=f5s N b (f5s N a x)
 | 0,b,x=>by rw[km];rfl
 | a + 1,b,x=>by rw[ji];exact bXr N a b _
def eJh (N:Nat):Nat->Nat->List Nat->List Nat
 | 0,_,acc=>acc
 | a + 1,x,acc=>eJh N a (f5 N x) (x::acc)
theorem bJv (N:Nat):∀ (a x:Nat) (acc:List Nat) (y:Nat),y∈eJh N a x acc->y∈acc\/∃ b,b < a/\f5s N b x=y
 | 0,_,_,_,h=>.inl h
 | a + 1,x,acc,y,h=>by
  rcases bJv N a (f5 N x) (x::acc) y h with h | ⟨b,i,e⟩
  ·rcases aA.mp h with h | h
   ·exact .inr ⟨0,i5 _,h.symm⟩
   ·exact .inl h
  ·exact .inr ⟨b + 1,Nat.succ_lt_succ i,e⟩
def Full (N:Nat):Prop:=f5s N N 0=0/\∀ y,y < N->∃ b,b < N/\f5s N b 0=y
theorem bXs {N:Nat} (h:(f5s N N 0 == 0 && (aP N).all λy=>(eJh N N 0 []).contains y)=true):Full N:=by
 simp only[aI,beq_iff_eq,bK,bu] at h;refine⟨h.1,λy i=>?_⟩;have q:=h.2 y i;rcases bJv N N 0 [] y (by simpa using q) with z | z
 ·cases z
 ·exact z
theorem Full.from {N:Nat} (F:Full N) {x y:Nat} (hx:x < N) (hy:y < N):∃ a,a < N/\f5s N a x=y:=by
 obtain⟨b,L,B⟩:=F.2 x hx;obtain⟨c,G,i⟩:=F.2 y hy
 by_cases h:b<=c
 ·refine⟨c - b,by lia,?_⟩
  rw[<- B,<- bXr,show b + (c - b)=c by lia,i]
 ·refine⟨N - b + c,by lia,?_⟩
  rw[<- B,<- bXr,show b + (N - b + c)=N + c by lia,bXr,F.1,i]
theorem gX0:Full 8:=bXs (by decide +kernel)
theorem fXx:Full 32:=bXs (by decide +kernel)
theorem eJi:Full 128:=bXs (by decide +kernel)
theorem eJj:Full 512:=bXs (by decide +kernel)
def Mask (mask:Nat):Prop:=mask=7\/mask=31\/mask=127\/mask=511
theorem Mask.full {mask:Nat} (h:Mask mask):Full (mask + 1):=by
 rcases h with rfl | rfl | rfl | rfl
 ·exact gX0
 ·exact fXx
 ·exact eJi
 ·exact eJj
theorem bXt {mask:Nat}:∀ (a:Nat) (s:Nat × Nat),s.2 < 32->(aZt mask a s).1=f5s (mask + 1) a s.1
 | 0,_,_=>rfl
 | a + 1,s,h=>by
  show(aZt mask a (leap mask s.1 s.2)).1=f5s (mask + 1) a (f5 (mask + 1) s.1);have e:s.2 / 32=0:=Nat.div_eq_of_lt h;have i:(leap mask s.1 s.2).1=f5 (mask + 1) s.1:=by
   show(s.1 * 5 + 1 + s.2 / 32) % (mask + 1)=_;rw[e];rfl
  rw[bXt a _ (by show s.2 / 32 < 32;lia),i]
theorem bZ2 (mask:Nat):∀ (a b:Nat) (s:Nat × Nat),aZt mask (a + b) s=aZt mask b (aZt mask a s)
 | 0,b,s=>by rw[km];rfl
 | a + 1,b,s=>by rw[ji];exact bZ2 mask a b _
theorem fXy {mask:Nat} (hm:Mask mask) {p:Probe} (v:PV mask p) {y:Nat} (hy:y<=mask):∃ m,m < 10 * (mask + 15)/\(road mask m p).j=y:=by
 have B:(aZt mask 12 (p.i,p.perturb)).1 < mask + 1:=by
  rw[aZw mask 11];exact dZ (cQq _ _ _)
 have hp:(aZt mask 12 (p.i,p.perturb)).2 < 32:=by
  rw[bXq]
  have:=v.pt
  show p.perturb / 32 ^ 12 < 32;have e:(2:Nat) ^ 64=18446744073709551616:=by decide
  have e2:(32:Nat) ^ 12=1152921504606846976:=by decide
  rw[e2];lia
 obtain⟨a,L,ea⟩:=hm.full.from B (dZ hy)
 obtain⟨m,h1,h2,_,G⟩:=far mask (12 + a) p v;refine⟨m,by lia,?_⟩
 rw[G (by lia),h2,bZ2,bXt a _ hp,ea]
def Ris (xs:List Nat):Prop:=xs.Pairwise (· < ·)
theorem bXu (xs:Array Nat) (j:Nat) (hr:Ris xs.toList):∀ (fuel lo hi:Nat),hi - lo<=fuel->lo<=hi->hi<=xs.size->(∀ i,i < lo->xs.getD i j < j)->(∀ i,hi<=i->i < xs.size->j<=xs.getD i j) ->
  below.go xs j fuel lo hi<=xs.size/\(∀ i,i < below.go xs j fuel lo hi->xs.getD i j < j)/\∀ i,below.go xs j fuel lo hi<=i->i < xs.size->j<=xs.getD i j
 | 0,lo,hi,hf,hl,G,h1,h2=>by
  have e:lo=hi:=by lia
  subst e;exact⟨G,h1,h2⟩
 | fuel + 1,lo,hi,hf,hl,G,h1,h2=>by
  unfold below.go
  by_cases y:lo < hi
  ·rw[if_pos y];have mlt:(lo + hi) / 2 < xs.size:=by lia
   have mono:∀ a b,a<=b->b < xs.size->xs.getD a j<=xs.getD b j:=λa b Y O=>by
    rcases eM Y with h | h
    ·have q:=(cZ.mp hr) a b (by simpa using fc h O) (by simpa using O) h
     simp only[cS,O,fc h O,dif_pos];simpa using gP q
    ·subst h;exact au _
   show(if xs.getD ((lo + hi) / 2) j < j then _ else _)<=_/\_
   by_cases L:xs.getD ((lo + hi) / 2) j < j
   ·simp only[L,if_true];exact bXu xs j hr fuel _ hi (by lia) (by lia) G (λi B=>jj (mono i ((lo + hi) / 2) (by lia) mlt) L) h2
   ·simp only[L,if_false];exact bXu xs j hr fuel lo _ (by lia) (by lia) (by lia) h1 (λi B U=>bc (Nat.le_of_not_lt L) (mono _ i B U))
  ·rw[if_neg y];have e:lo=hi:=by lia
   subst e;exact⟨G,h1,h2⟩
theorem aZx {xs:Array Nat} (hr:Ris xs.toList) (j:Nat):below xs j<=xs.size/\(∀ i,i < below xs j->xs.getD i j < j)/\∀ i,below xs j<=i->i < xs.size->j<=xs.getD i j :=
 bXu xs j hr xs.size 0 xs.size (by lia) (by lia) (au _) (λi h=>absurd h (cN _)) (λi h h'=>absurd h' (gH.mpr h))
theorem cZp {xs:Array Nat} (hr:Ris xs.toList) {i j:Nat} (h:xs[i]?=some j):below xs j=i:=by
 obtain⟨hi,e⟩:=cW.mp h;obtain⟨b1,L,G⟩:=aZx hr j;have Z:∀ k,k < xs.size->xs.getD k j=xs.getD k 0:=λk hk=>by simp[cS,hk]
 have Y:xs.getD i j=j:=by simp[cS,hi,e]
 have inc:∀ a b,a < b->b < xs.size->xs.getD a j < xs.getD b j:=λa b y B=>by
  have q:=(cZ.mp hr) a b (by simpa using fc y B) (by simpa using B) y
  simp only[cS,B,fc y B,dif_pos];simpa using q
 rcases gW (below xs j) i with h | h | h
 ·have U:=inc _ _ h hi;have O:=G _ (au _) (fc h hi);lia
 ·exact h
 ·have q:=L i h;lia
structure Tab (t:aJ):Prop where
 mask:Mask t.mask
 nodum:t.dummies=#[]
 ris:Ris t.place.toList
 top:∀ j∈t.place.toList,j<=t.mask
theorem cQr {t:aJ} (T:Tab t) {j i:Nat} (h:t.place[i]?=some j):t.slot j=.live i:=by
 unfold la;dsimp only;rw[cZp T.ris h,h];simp
theorem dQq {t:aJ} (T:Tab t) {j:Nat} (h:j∉t.place.toList):t.slot j=.empty:=by
 unfold la;dsimp only;have e:(t.place[below t.place j]? == some j)=false:=by
  cases q:t.place[below t.place j]? == some j with
  | false=>rfl
  | true =>
   have:=fL q
   obtain⟨hi,e⟩:=cW.mp this;exact absurd (by rw[<- e];simp) h
 rw[e];simp only[aE,if_false];have e2:has t.dummies j=false:=by rw[T.nodum];unfold has;simp
 rw[e2];simp
theorem cJb {t:aJ} (T:Tab t) (j:Nat):(∃ i,t.slot j=.live i/\t.place[i]?=some j)\/(t.slot j=.empty/\j∉t.place.toList):=by
 by_cases h:j∈t.place.toList
 ·obtain⟨i,hi,e⟩:=b9 h;have q:t.place[i]?=some j:=by
   rw[cW];exact⟨by simpa using hi,by simpa using e⟩
  exact .inl ⟨i,cQr T q,q⟩
 ·exact .inr ⟨dQq T h,h⟩
theorem dQr {t:aJ} (T:Tab t) (hashAt:Nat -> Int) (h:Int):∀ (fuel:Nat) (p:Probe),p.dummy=none -> (∃ m,m < fuel /\ (road t.mask m p).j ∉ t.place.toList) ->
    ∃ m,m < fuel /\ (∀ m',m' < m -> ∃ i,t.place[i]? = some (road t.mask m' p).j /\ hashAt i ≠ h) /\
      (((road t.mask m p).j ∉ t.place.toList /\ probe.go t hashAt h fuel p=some (.empty (road t.mask m p).j none)) \/
       ∃ i,t.place[i]? = some (road t.mask m p).j /\ t.slot (road t.mask m p).j=.live i /\ hashAt i=h /\ probe.go t hashAt h fuel p=some (.candidate (road t.mask m p).j i (road t.mask (m + 1) p)))
  | 0, p, _, ⟨m, hm, _⟩ => absurd hm (cN _)
  | fuel + 1, p, hd, ⟨m, hm, hf⟩ => by
    unfold probe.go;rcases cJb T p.j with⟨i, e, q⟩ | ⟨e, q⟩
    · rw [e]
      dsimp only
      by_cases y:hashAt i=h
      · refine⟨0, i5 _, λ_ h' => absurd h' (cN _), .inr ⟨i, q, e, y, ?_⟩⟩
        rw [if_pos (by simpa using y), aJr]
        rfl
      · rw [if_neg (by simpa using y), aJr]
        cases m with
        | zero => exact absurd (dy.mpr (fN q)) hf
        | succ m =>
          obtain⟨B,h1,h2,L⟩:=dQr T hashAt h fuel (step t.mask p) (by rw [aJs]; exact hd) ⟨m,by lia,hf⟩
          refine⟨B + 1, by lia, λm' G => ?_, L⟩
          cases m' with
          | zero => exact⟨i, q, y⟩
          | succ m' => exact h2 m' (by lia)
    · rw [e]
      exact⟨0, i5 _, λ_ h' => absurd h' (cN _), .inl ⟨q, by rw [hd]; rfl⟩⟩
theorem bX8 {t:aJ} (T:Tab t) (hn:t.place.size<=t.mask):∃ y,y<=t.mask/\y∉t.place.toList:=by
 apply aY;intro B;have all:∀ y,y < t.mask + 1->y∈t.place.toList:=λy i=>aY λh=>B ⟨y,dF i,h⟩;have hl:(aP (t.mask + 1)).length<=t.place.toList.length:=by
  apply List.Nodup.length_le_of_subset jY;intro y i;exact all y (bu.mp i)
 rw[d0] at hl
 have:t.place.toList.length=t.place.size:=by simp
 lia
theorem cJc {t:aJ} (T:Tab t) (hn:t.place.size <= t.mask) (hashAt:Nat -> Int) (h:Int) {p:Probe} (v:PV t.mask p) (hd:p.dummy=none) :
    ∃ m,(∀ m',m' < m -> ∃ i,t.place[i]? = some (road t.mask m' p).j /\ hashAt i ≠ h) /\
      (((road t.mask m p).j ∉ t.place.toList /\ t.probe hashAt h p=some (.empty (road t.mask m p).j none)) \/
       ∃ i,t.place[i]? = some (road t.mask m p).j /\ t.slot (road t.mask m p).j=.live i /\ hashAt i=h /\ t.probe hashAt h p=some (.candidate (road t.mask m p).j i (road t.mask (m + 1) p))):=by
  obtain⟨y,G,hf⟩:=bX8 T hn;obtain⟨m,hm,e⟩:=fXy T.mask v G;obtain⟨B,_,h2,L⟩:=dQr T hashAt h (10 * turns t.mask) p hd ⟨m,hm,by rw [e]; exact hf⟩
  exact⟨B, h2, L⟩
theorem aX2 {α:Type} (xs:Array α) (p:Nat) (x:α) (h:p<=xs.size):(insertAt xs p x).toList=xs.toList.take p++x::xs.toList.drop p:=by
 unfold insertAt;simp only[Array.toList_append,jH,Array.toList_extract,bY,fO];simp only[List.extract,fy,gX];rw[cf (l:=List.drop p xs.toList) (by simp)]
theorem aXs {α:Type} {l:List α} {p i:Nat} {x y:α} (hp:p<=l.length) (h:(l.take p++x::l.drop p)[i]?=some y):(i < p/\l[i]?=some y)\/(i=p/\y=x)\/(p < i/\l[i - 1]?=some y):=by
 have hl:(l.take p).length=p:=by rw[bJ];lia
 rcases gW i p with c | c | c
 ·left
  rw[eQ (by lia),jL c] at h
  exact⟨c,h⟩
 ·right;left
  subst c;rw[eK (by lia),hl,i6] at h
  simp at h;exact⟨rfl,h.symm⟩
 ·right;right
  rw[eK (by lia),hl] at h
  rw[show i - p=(i - 1 - p) + 1 by lia,gM,List.getElem?_drop] at h
  rw[show p + (i - 1 - p)=i - 1 by lia] at h
  exact⟨c,h⟩
structure SetI (es:Array (Int × ae)) (t:aJ):Prop where
 tab:Tab t
 size:t.place.size=es.size
 room:es.size * 5 < t.mask * 3
 reach:∀ (i j:Nat) (e:Int × ae),t.place[i]?=some j->es[i]?=some e->∃ r,(road t.mask r (start t.mask e.1)).j=j/\∀ r',r' < r->(road t.mask r' (start t.mask e.1)).j∈t.place.toList
theorem SetI.le {es:Array (Int × ae)} {t:aJ} (I:SetI es t):t.place.size<=t.mask:=by have:=I.size;have:=I.room;lia
theorem SetI.fits {es:Array (Int × ae)} {t:aJ} (I:SetI es t):t.fits es.size=true:=by
 unfold lc lf;rw[I.tab.nodum,I.size]
 have:=I.room
 simp only[aI,beq_iff_eq,decide_eq_true_eq];refine⟨trivial,?_⟩;simp;lia
theorem SetI.way {es:Array (Int × ae)} {t:aJ} (I:SetI es t):t.gaveWay=false:=by
 unfold aJ.gaveWay;rcases I.tab.mask with e | e | e | e <;> rw[e] <;> rfl
theorem eQ2 (f m:Nat) (led:Bool):SetI #[] (kQ f m led) where
 tab:=⟨.inl rfl,rfl,.nil,λj h=>by simp[kQ] at h⟩
 size:=rfl
 room:=by show 0 * 5 < 7 * 3;decide
 reach:=λi j e h=>by simp[kQ] at h
structure Put (t t':aJ) (j p:Nat):Prop where
 tab:Tab t'
 mask:t'.mask=t.mask
 le:p<=t.place.size
 place:t'.place.toList=t.place.toList.take p++j::t.place.toList.drop p
theorem fXz {t:aJ} (T:Tab t) {j:Nat} (hj:j <= t.mask) (hf:j ∉ t.place.toList):Put t (t.put j).1 j (t.put j).2:=by
  obtain⟨Y,b2,Z⟩:=aZx T.ris j;have e:(t.put j).1.place.toList=t.place.toList.take (below t.place j) ++ j :: t.place.toList.drop (below t.place j):=aX2 _ _ _ Y;have e2:(t.put j).1.dummies=#[]:=by
    show(if has t.dummies j=true then _ else t.dummies)=#[]
    have q:has t.dummies j=false:=by rw [T.nodum]; unfold has; simp
    rw [q]; simp [T.nodum]
  refine⟨⟨T.mask, e2, ?_, ?_⟩, rfl, Y, e⟩
  · unfold Ris
    rw [e,ff,aU];have O:=T.ris;unfold Ris at O;have G:∀ a ∈ t.place.toList.take (below t.place j),a < j:=λa y=>by
      obtain⟨i,hi,ea⟩:=b9 y;rw [bJ] at hi
      have B:i < t.place.size:=by
       have : t.place.toList.length=t.place.size:=by simp
       lia
      have q:=b2 i (by lia)
      simp only [cS, B, dif_pos] at q;rw [List.getElem_take] at ea;rw [<- ea];simpa using q
    have L:∀ a ∈ t.place.toList.drop (below t.place j),j < a:=λa y=>by
      obtain⟨i,hi,ea⟩:=b9 y;rw [dO] at hi;have hl:t.place.toList.length=t.place.size:=by simp
      have B:below t.place j + i < t.place.size:=by lia
      have q:=Z (below t.place j + i) (by lia) B
      simp only [cS,B,dif_pos] at q;rw [List.getElem_drop] at ea;have ne:a ≠ j:=λz=>hf (by rw [<- z]; exact iH y)
      have q':j <= a:=by rw [<- ea]; simpa using q
      lia
    refine⟨O.sublist (dY _ _), ⟨L, O.sublist (List.drop_sublist _ _)⟩, λa y b U => ?_⟩;rcases aA.mp U with rfl | U
    · exact G a y
    · exact fc (G a y) (L b U)
  · intro a y
    rw [e] at y;rcases aW.mp y with y | y
    · exact T.top a (fg y)
    · rcases aA.mp y with rfl | y
      · exact hj
      · exact T.top a (iH y)
theorem put_set {es:Array (Int × ae)} {t:aJ} (I:SetI es t) {j r:Nat} {h:Int} {x:ae} (hj:j<=t.mask) (hf:j∉t.place.toList) (e:(road t.mask r (start t.mask h)).j=j) (hr:∀ r',r' < r->(road t.mask r' (start t.mask h)).j∈t.place.toList) :
  ∀ b,(insertAt es (t.put j).2 (h,x)).toList=es.toList.take (t.put j).2++(h,x)::es.toList.drop (t.put j).2/\(insertAt es (t.put j).2 (h,x)).size=es.size + 1 /\
   Tab { (t.put j).1 with plain:=b }/\(t.put j).1.place.size=es.size + 1/\(t.put j).1.mask=t.mask /\
   ∀ (i j':Nat) (e':Int × ae),(t.put j).1.place[i]?=some j'->(insertAt es (t.put j).2 (h,x))[i]?=some e'->∃ r,(road t.mask r (start t.mask e'.1)).j=j'/\∀ r',r' < r->(road t.mask r' (start t.mask e'.1)).j∈(t.put j).1.place.toList:=by
 intro b;have P:=fXz I.tab hj hf;have hle:(t.put j).2<=es.size:=by rw[<- I.size];exact P.le
 have el:=aX2 es (t.put j).2 (h,x) hle;have sz:(insertAt es (t.put j).2 (h,x)).size=es.size + 1:=by
  have q:=congrArg gK el;rw[ax,aF,bJ,dO] at q
  have:es.toList.length=es.size:=by simp
  rw[show(insertAt es (t.put j).2 (h,x)).toList.length=(insertAt es (t.put j).2 (h,x)).size by simp] at q
  lia
 have Z:(t.put j).1.place.size=es.size + 1:=by
  have q:=congrArg gK P.place;rw[ax,aF,bJ,dO] at q
  have:t.place.toList.length=t.place.size:=by simp
  have:=I.size
  have:=P.le
  rw[show(t.put j).1.place.toList.length=(t.put j).1.place.size by simp] at q
  lia
 refine⟨el,sz,⟨P.tab.mask,P.tab.nodum,P.tab.ris,P.tab.top⟩,Z,P.mask,λi j' e' h1 h2=>?_⟩;have sub:∀ a∈t.place.toList,a∈(t.put j).1.place.toList:=λa U=>by
  rw[P.place];rw[<- eO (t.put j).2 t.place.toList] at U;rcases aW.mp U with U | U
  ·exact bh _ U
  ·exact aS _ (ao _ U)
 have old:∀ Y,t.place.toList[Y]?=some j'->es.toList[Y]?=some e'->∃ r,(road t.mask r (start t.mask e'.1)).j=j'/\∀ r',r' < r->(road t.mask r' (start t.mask e'.1)).j∈(t.put j).1.place.toList:=λY a b=>by
  obtain⟨r,G,y⟩:=I.reach Y j' e' (by rw[<- b4];exact a) (by rw[<- b4];exact b)
  exact⟨r,G,λr' L=>sub _ (y r' L)⟩
 have h1':(t.place.toList.take (t.put j).2++j::t.place.toList.drop (t.put j).2)[i]?=some j':=by rw[<- P.place];simpa using h1
 have O:(es.toList.take (t.put j).2++(h,x)::es.toList.drop (t.put j).2)[i]?=some e':=by rw[<- el];simpa using h2
 rcases aXs (by simpa using P.le) h1' with⟨c1,G⟩ | ⟨c1,G⟩ | ⟨c1,G⟩
 ·rcases aXs (by simpa using hle) O with⟨B,y⟩ | ⟨B,y⟩ | ⟨B,y⟩
  ·exact old i G y
  ·lia
  ·lia
 ·rcases aXs (by simpa using hle) O with⟨B,y⟩ | ⟨B,y⟩ | ⟨B,y⟩
  ·lia
  ·subst G y;exact⟨r,e,λr' L=>sub _ (hr r' L)⟩
  ·lia
 ·rcases aXs (by simpa using hle) O with⟨B,y⟩ | ⟨B,y⟩ | ⟨B,y⟩
  ·lia
  ·lia
  ·exact old (i - 1) G y
abbrev Own:=Array (Option Nat)
def liveOf (mask:Nat) (owner:Own):List (Nat × Nat):=(aP (mask + 1)).filterMap λj=>(owner.getD j none).map (j,·)
theorem aZc {α β:Type} {f g:α->Option β}:∀ {l:List α},(∀ a∈l,f a=g a)->l.filterMap f=l.filterMap g
 | [],_=>rfl
 | a::l,h=>by
  rw[b8,b8,h a ak,aZc λb i=>h b (ao _ i)]
theorem eQ3 {mask:Nat} {owner:Own} {j k:Nat} (hs:owner.size=mask + 1) (hj:j<=mask) (hn:owner.getD j none=none):(liveOf mask (owner.setIfInBounds j (some k))).Perm ((j,k)::liveOf mask owner):=by
 unfold liveOf;obtain⟨s,u,e⟩:=List.append_of_mem (bu.mpr (dZ hj));have nd:(aP (mask + 1)).Nodup:=jY;rw[e] at nd ⊢;have h1:j∉s:=λh=>by
  have:=cg.mp nd
  exact absurd rfl (this.2.2 j h j ak)
 have h2:j∉u:=λh=>by
  have:=cg.mp nd
  exact(bX.mp this.2.1).1 h
 have g:∀ a,a≠j->(owner.setIfInBounds j (some k)).getD a none=owner.getD a none:=λa i=>by
  rw[bV,bV,hZ (bj i)]
 have y:(owner.setIfInBounds j (some k)).getD j none=some k:=by
  rw[bV,fW (by lia)];rfl
 rw[ib,ib,b8,b8,y,hn];simp only[Option.map_some,Option.map_none];rw[aZc (l:=s) (g:=λj=>(owner.getD j none).map (j,·)) λa i=>by rw[g a λz=>h1 (z ▸ i)],aZc (l:=u) (g:=λj=>(owner.getD j none).map (j,·)) λa i=>by rw[g a λz=>h2 (z ▸ i)]]
 exact List.perm_middle
theorem cZq {owner:Own} {j:Nat} (h:j < owner.size) (d:Option Nat):owner.getD j d=owner[j]:=by simp[cS,h]
theorem bJw {mask:Nat} {owner:Own} (hs:owner.size=mask + 1):∀ (fuel:Nat) (p:Probe),PV mask p->p.j=p.i->p.more=runEnd mask p.i - p.i->(∃ l,l < fuel/\owner.getD (aZt mask l (p.i,p.perturb)).1 none=none) ->
  ∃ r j,layClean.free mask owner fuel p.i p.perturb=some j/\(road mask r p).j=j/\j<=mask/\owner.getD j none=none/\∀ r',r' < r->(owner.getD (road mask r' p).j none).isSome=true
 | 0,p,_,_,_,⟨l,h,_⟩=>absurd h (cN _)
 | fuel + 1,p,v,O,hm,⟨l,hl,hf⟩=>by
  have re:=bZ1 mask p.i v.i;have jm:=v.j;have y:∀ k,k<=p.more->p.i + k<=mask:=λk hk=>by lia
  have gd:∀ k,k<=p.more->owner.getD (p.i + k) (some 0)=owner.getD (p.i + k) none:=λk hk=>by
   have:p.i + k < owner.size:=by have:=y k hk;lia
   rw[cZq this,cZq this]
  have rd:∀ k,k<=p.more->(road mask k p).j=p.i + k:=λk hk=>by rw[dQo mask k p hk,<- O]
  unfold layClean.free;have Z:runEnd mask p.i + 1 - p.i=p.more + 1:=by lia
  rw[Z];cases hq:(aP (p.more + 1)).find? λk=>(owner.getD (p.i + k) (some 0)).isNone with
  | some k =>
   rw[List.find?_range_eq_some] at hq;obtain⟨h1,h2,U⟩:=hq;have hk:k<=p.more:=dF (bu.mp h2);refine⟨k,p.i + k,rfl,rd k hk,y k hk,?_,λr' B=>?_⟩
   ·rw[gd k hk] at h1;exact Option.isNone_iff_eq_none.mp h1
   ·have q:=U r' B;rw[gd r' (by lia)] at q
    rw[rd r' (by lia)]
    cases e:owner.getD (p.i + r') none with
    | none=>rw[e] at q;cases q
    | some z=>rfl
  | none =>
   rw[List.find?_eq_none] at hq;have taken:∀ k,k<=p.more->(owner.getD (p.i + k) none).isSome=true:=λk hk=>by
    have q:=hq k (bu.mpr (dZ hk));rw[gd k hk] at q;cases e:owner.getD (p.i + k) none with
    | none=>rw[e] at q;exact absurd rfl q
    | some z=>rfl
   cases l with
   | zero =>
    have q:=taken 0 (bL _);have G:owner.getD p.i none=none:=hf;rw[Nat.add_zero,G] at q;cases q
   | succ l =>
    have e:=dQp mask p;have L:PV mask (road mask (p.more + 1) p):=PV.road _ v;obtain⟨r,j,f1,f2,Y,f4,f5⟩:=bJw hs fuel (road mask (p.more + 1) p) L (by rw[e]) (by rw[e]) ⟨l,by lia,by rw[e];exact hf⟩
    refine⟨p.more + 1 + r,j,?_,by rw[aQv];exact f2,Y,f4,λr' B=>?_⟩
    ·rw[e] at f1;exact f1
    ·by_cases c:r'<=p.more
     ·rw[rd r' c];exact taken r' c
     ·have q:=f5 (r' - (p.more + 1)) (by lia)
      rw[<- aQv,show p.more + 1 + (r' - (p.more + 1))=r' by lia] at q
      exact q
structure OwnI (mask:Nat) (owner:Own) (hs:List Int):Prop where
 size:owner.size=mask + 1
 perm:((liveOf mask owner).map (·.2)).Perm (aP hs.length)
 reach:∀ (j k:Nat),owner.getD j none=some k->∃ h,hs[k]?=some h/\∃ r,(road mask r (start mask h)).j=j/\∀ r',r' < r->(owner.getD (road mask r' (start mask h)).j none).isSome=true
theorem OwnI.free {mask:Nat} (hm:Mask mask) {owner:Own} {hs:List Int} (I:OwnI mask owner hs) (hl:hs.length<=mask):∃ y,y<=mask/\owner.getD y none=none:=by
 apply aY;intro B;have all:∀ y,y < mask + 1->(owner.getD y none).isSome=true:=λy i=>by
  cases e:owner.getD y none with
  | none=>exact absurd ⟨y,dF i,e⟩ B
  | some z=>rfl
 have len:((aP (mask + 1)).filterMap λj=>(owner.getD j none).map (j,·)).length=mask + 1:=by
  have gen:∀ l:List Nat,(∀ y∈l,(owner.getD y none).isSome=true)->(l.filterMap λj=>(owner.getD j none).map (j,·)).length=l.length:=by
   intro l
   induction l with
   | nil=>intro _;rfl
   | cons a l G =>
    intro h;obtain⟨z,e⟩:=cj.mp (h a ak);rw[b8,e];simp only[Option.map_some,aF];rw[G λy i=>h y (ao _ i)]
  rw[gen _ λy i=>all y (bu.mp i),d0]
 have q:=I.perm.length_eq;rw[aj,d0] at q;unfold liveOf at q;lia
theorem dQs {mask:Nat} (hm:Mask mask) {owner:Own} {y:Nat} (hy:y<=mask) (hf:owner.getD y none=none) (p:Probe) (v:PV mask p):∃ l,l < turns mask/\owner.getD (aZt mask l (p.i,p.perturb)).1 none=none:=by
 have B:(aZt mask 12 (p.i,p.perturb)).1 < mask + 1:=by rw[aZw mask 11];exact dZ (cQq _ _ _)
 have hp:(aZt mask 12 (p.i,p.perturb)).2 < 32:=by
  rw[bXq]
  have:=v.pt
  show p.perturb / 32 ^ 12 < 32;have e:(2:Nat) ^ 64=18446744073709551616:=by decide
  have e2:(32:Nat) ^ 12=1152921504606846976:=by decide
  rw[e2];lia
 obtain⟨a,G,ea⟩:=hm.full.from B (dZ hy)
 refine⟨12 + a,by unfold turns;lia,?_⟩
 rw[bZ2,bXt a _ hp,ea];exact hf
def dQt (mask:Nat) (acc:Option (Own × Nat)) (h:Int):Option (Own × Nat):=do
 let (owner,k) <- acc
 let j <- layClean.free mask owner (turns mask) (bits h % (mask + 1)) (bits h)
 pure (owner.setIfInBounds j (some k),k + 1)
theorem cZr {mask:Nat} (hm:Mask mask):∀ (hs done:List Int) (owner:Own),OwnI mask owner done->done.length + hs.length<=mask ->
  ∃ owner',hs.foldl (dQt mask) (some (owner,done.length))=some (owner',(done++hs).length)/\OwnI mask owner' (done++hs)
 | [],done,owner,I,_=>⟨owner,by rw[bA];rfl,by rw[bA];exact I⟩
 | h::hs,done,owner,I,hl=>by
  rw[aF] at hl;obtain⟨y,hy,hf⟩:=I.free hm (by lia)
  have v:=aJd mask h;obtain⟨r,j,f1,f2,f3,f4,f5⟩:=bJw I.size (turns mask) (start mask h) v rfl rfl (dQs hm hy hf _ v);have O:j < owner.size:=by have:=I.size;lia
  have i:∀ a,a≠j->(owner.setIfInBounds j (some done.length)).getD a none=owner.getD a none:=λa U=>by
   rw[bV,bV,hZ (bj U)]
  have Z:(owner.setIfInBounds j (some done.length)).getD j none=some done.length:=by
   rw[bV,fW O];rfl
  have more:∀ a,(owner.getD a none).isSome=true->((owner.setIfInBounds j (some done.length)).getD a none).isSome=true:=λa U=>by
   by_cases c:a=j
   ·rw[c,Z];rfl
   ·rw[i a c];exact U
  have I':OwnI mask (owner.setIfInBounds j (some done.length)) (done++[h]):=by
   refine⟨by rw[Array.size_setIfInBounds];exact I.size,?_,λa k e=>?_⟩
   ·have q:=(eQ3 (k:=done.length) I.size f3 f4).map (·.2);rw[a9] at q;refine q.trans ?_;rw[ax,fM,kE];exact(I.perm.cons _).trans (jn _ _).symm
   ·by_cases c:a=j
    ·subst c;rw[Z] at e;cases e;refine⟨h,by simp,r,f2,λG L=>more _ (f5 G L)⟩
    ·rw[i a c] at e;obtain⟨h',B,G,e2,e3⟩:=I.reach a k e;exact⟨h',by rw[eQ (bd.mp B).1];exact B,G,e2,λx hx=>more _ (e3 x hx)⟩
  obtain⟨owner',B,e2⟩:=cZr hm hs (done++[h]) _ I' (by rw[ax,fM];lia)
  refine⟨owner',?_,by rw[bY] at e2;exact e2⟩
  rw[List.foldl_cons];have es:dQt mask (some (owner,done.length)) h=some (owner.setIfInBounds j (some done.length),done.length + 1):=by
   show(do let j <- layClean.free mask owner (turns mask) (bits h % (mask + 1)) (bits h);pure (owner.setIfInBounds j (some done.length),done.length + 1))=_
   have Y:layClean.free mask owner (turns mask) (bits h % (mask + 1)) (bits h)=some j:=f1;rw[Y]
   rfl
  rw[es];rw[ax,fM,bY] at B;exact B
theorem dQu (mask:Nat):OwnI mask (gE (mask + 1) none) [] where
 size:=by simp
 perm:=by
  have e:liveOf mask (gE (mask + 1) none)=[]:=by
   unfold liveOf;rw[List.filterMap_eq_nil_iff];intro a i
   have:(gE (mask + 1) (none:Option Nat)).getD a none=none:=by
    rw[bV,jN];split <;> rfl
   rw[this];rfl
  rw[e];exact gY _
 reach:=λj k e=>by
  have:(gE (mask + 1) (none:Option Nat)).getD j none=none:=by
   rw[bV,jN];split <;> rfl
  rw[this] at e;cases e
theorem cQs {mask:Nat} (hm:Mask mask) (hs:Array Int) (hl:hs.size<=mask):∃ owner,layClean mask hs=some owner/\OwnI mask owner hs.toList:=by
 obtain⟨owner,i,e2⟩:=cZr hm hs.toList [] _ (dQu mask) (by simpa using hl)
 refine⟨owner,?_,by simpa using e2⟩
 unfold layClean
 have:hs.foldl (init:=some (gE (mask + 1) (none:Option Nat),0)) (λacc h=>do
  let (owner,k) <- acc
  let j <- layClean.free mask owner (turns mask) (bits h % (mask + 1)) (bits h)
  pure (owner.setIfInBounds j (some k),k + 1))=some (owner,hs.size):=by
  rw[<- Array.foldl_toList];have q:=i;simp only[bZ,dr] at q;rw[show hs.toList.length=hs.size by simp] at q
  exact q
 rw[this]
 rfl
theorem cZs {α β:Type} {f:α->Option β}:∀ {l:List α},(∀ a∈l,(f a).isSome=true)->(l.filterMap f).length=l.length/\∀ i:Nat,(l.filterMap f)[i]?=(l[i]?).bind f
 | [],_=>⟨rfl,λi=>by simp⟩
 | a::l,h=>by
  obtain⟨z,e⟩:=cj.mp (h a ak);obtain⟨h1,h2⟩:=cZs (l:=l) (f:=f) λb y=>h b (ao _ y);rw[b8,e];refine⟨by simp[h1],λi=>?_⟩
  cases i with
  | zero=>simp[e]
  | succ i=>simpa using h2 i
theorem cZt {mask:Nat} {owner:Own} {j k:Nat} (h:(j,k)∈liveOf mask owner):j<=mask/\owner.getD j none=some k:=by
 unfold liveOf at h;obtain⟨a,i,e⟩:=du.mp h;cases q:owner.getD a none with
 | none=>rw[q] at e;cases e
 | some z=>rw[q] at e;cases e;exact⟨dF (bu.mp i),q⟩
theorem eQ4 {mask:Nat} {owner:Own} {j k:Nat} (h1:j<=mask) (h2:owner.getD j none=some k):(j,k)∈liveOf mask owner :=
 du.mpr ⟨j,bu.mpr (dZ h1),by rw[h2];rfl⟩
theorem cZu (mask:Nat) (owner:Own):Ris ((liveOf mask owner).map (·.1)):=by
 unfold Ris liveOf;rw[gZ];refine List.Pairwise.filterMap _ ?_ (g6 (n:=mask + 1));intro a y i b hb G hb';cases q:owner.getD a none with
 | none=>rw[q] at hb;cases hb
 | some z =>
  rw[q] at hb;cases hb;cases q':owner.getD y none with
  | none=>rw[q'] at hb';cases hb'
  | some B=>rw[q'] at hb';cases hb';exact i
theorem cZv {α:Type} (es:Array α):((aP es.size).filterMap λk=>es[k]?)=es.toList:=by
 apply List.ext_getElem?;intro i;have h:=cZs (l:=aP es.size) (f:=λk=>es[k]?) (λa y=>by
  have:=bu.mp y
  simp[this])
 rw[h.2 i]
 by_cases c:i < es.size
 ·rw[List.getElem?_range c];simp
 ·rw[bB (by simpa using c)];simp[c]
theorem dQv {es:Array (Int × ae)} {mask' wanted:Nat} (t:aJ) (hm:Mask mask') (hw:sizeAbove wanted - 1=mask') (hsz:es.size * 5 < mask' * 3) :
  ∃ t' order,t.relaid (es.map (·.1)) wanted=some (t',order)/\(order.filterMap (es[·]?)).size=es.size/\SetI (order.filterMap (es[·]?)) t'/\(order.filterMap (es[·]?)).toList.Perm es.toList:=by
 obtain⟨owner,e1,I⟩:=cQs hm (es.map (·.1)) (by rw[Array.size_map];lia)
 have el:(es.map (·.1)).toList.length=es.size:=by simp
 have hp:=I.perm;rw[el] at hp;have ks:∀ k∈(liveOf mask' owner).map (·.2),(es[k]?).isSome=true:=λk hk=>by
  have:=bu.mp (hp.mem_iff.mp hk)
  simp[this]
 obtain⟨f1,f2⟩:=cZs (f:=λk=>es[k]?) ks;have B:(kF (es[·]?) ((liveOf mask' owner).map (·.2)).toArray).toList=((liveOf mask' owner).map (·.2)).filterMap (λk=>es[k]?):=by simp
 have perm:(kF (es[·]?) ((liveOf mask' owner).map (·.2)).toArray).toList.Perm es.toList:=by
  rw[B,<- cZv es];exact hp.filterMap _
 have size:(kF (es[·]?) ((liveOf mask' owner).map (·.2)).toArray).size=es.size:=by
  have:=perm.length_eq
  simpa using this
 refine⟨{ mask:=mask',place:=((liveOf mask' owner).map (·.1)).toArray,dummies:=#[],finger:=t.finger,led:=t.led,moves:=t.movedTo mask',plain:=t.plain },((liveOf mask' owner).map (·.2)).toArray,?_,size,?_,perm⟩
 ·unfold relaid laid;rw[hw,e1]
  rfl
 ·refine⟨⟨hm,rfl,?_,λj hj=>?_⟩,?_,?_,λi j e h1 h2=>?_⟩
  ·show Ris ((liveOf mask' owner).map (·.1)).toArray.toList;exact cZu _ _
  ·have L:j∈(liveOf mask' owner).map (·.1):=hj;obtain⟨⟨a,k⟩,h,rfl⟩:=cJ.mp L;exact(cZt h).1
  ·rw[size];show((liveOf mask' owner).map (·.1)).toArray.size=es.size
   have:=hp.length_eq
   simpa using this
  ·rw[size];exact hsz
  ·have h1':((liveOf mask' owner).map (·.1))[i]?=some j:=by simpa using h1
   have y:(((liveOf mask' owner).map (·.2)).filterMap (λk=>es[k]?))[i]?=some e:=by
    rw[<- B,b4];exact h2
   rw[f2 i] at y;rw[br] at h1' y;cases q:(liveOf mask' owner)[i]? with
   | none=>rw[q] at h1';cases h1'
   | some jk =>
    obtain⟨a,k⟩:=jk;rw[q] at h1' y;have ea:a=j:=aK h1';subst ea;have ek:es[k]?=some e:=y;obtain⟨_,ow⟩:=cZt (bw q);obtain⟨h,Y,r,r1,Z⟩:=I.reach a k ow;have O:e.1=h:=by
     have:(es.map (·.1)).toList[k]?=some e.1:=by
      rw[b4,Array.getElem?_map,ek];rfl
     rw[this] at Y;exact aK Y
    rw[O];refine⟨r,r1,λU G=>?_⟩;obtain⟨z,ez⟩:=cj.mp (Z U G);have pv:=PV.road U (aJd mask' h)
    have:=pv.j
    show _∈((liveOf mask' owner).map (·.1)).toArray.toList;exact cJ.mpr ⟨_,eQ4 (by lia) ez,rfl⟩
theorem grow {mask n:Nat} (hm:Mask mask) (h1:n * 5 < mask * 3) (h2:(n + 1) * 5 >= mask * 3) (hn:n + 1<=300):∃ mask',Mask mask'/\sizeAbove (grown (n + 1)) - 1=mask'/\(n + 1) * 5 < mask' * 3/\¬ sizeAbove (grown (n + 1)) > sizeLine:=by
 rcases hm with rfl | rfl | rfl | rfl
 ·have e:n=4:=by lia
  subst e;exact⟨31,.inr (.inl rfl),by decide +kernel,by decide,by decide +kernel⟩
 ·have e:n=18:=by lia
  subst e;exact⟨127,.inr (.inr (.inl rfl)),by decide +kernel,by decide,by decide +kernel⟩
 ·have e:n=76:=by lia
  subst e;exact⟨511,.inr (.inr (.inr rfl)),by decide +kernel,by decide,by decide +kernel⟩
 ·lia
end ST
set_option maxHeartbeats 1000000
namespace ST
open PySem PySem.SetTable
def JT (t:aJ):Prop:=Ris t.place.toList/\t.dummies=#[]
theorem dQw (n:Nat):Ris (Array.range n).toList:=by
 rw[Array.toList_range];exact g6
theorem bQk (t:aJ) (n:Nat):JT (t.standIn n):=⟨dQw n,rfl⟩
theorem gX1 {t:aJ} (h:JT t) (n:Nat):JT (t.orStandIn n):=by
 unfold SetTable.orStandIn
 split
 ·exact h
 ·exact bQk t n
theorem eJk {xs:Array Nat} {j:Nat} (hr:Ris xs.toList) (hf:j∉xs.toList):Ris (insertAt xs (below xs j) j).toList:=by
 obtain⟨O,L,G⟩:=aZx hr j;have hl:xs.toList.length=xs.size:=by simp
 unfold Ris at *
 rw[aX2 _ _ _ O,ff,aU];have lo:∀ a∈xs.toList.take (below xs j),a < j:=λa y=>by
  obtain⟨i,hi,rfl⟩:=b9 y;rw[bJ] at hi;have q:=L i (by lia)
  rw[cS,dif_pos (show i < xs.size by lia)] at q
  simpa [List.getElem_take] using q
 have up:∀ a∈xs.toList.drop (below xs j),j < a:=λa y=>by
  have ne:a≠j:=λz=>hf (by rw[<- z];exact iH y)
  obtain⟨i,hi,rfl⟩:=b9 y;rw[dO] at hi;have q:=G (below xs j + i) (by lia) (by lia)
  rw[cS,dif_pos (show below xs j + i < xs.size by lia)] at q
  have U:j<=(xs.toList.drop (below xs j))[i]:=by simpa [List.getElem_drop] using q
  lia
 refine⟨hr.sublist (dY _ _),⟨up,hr.sublist (List.drop_sublist _ _)⟩,λa y b B=>?_⟩;rcases aA.mp B with rfl | B
 ·exact lo a y
 ·exact fc (lo a y) (up b B)
theorem eJl {t:aJ} (h:JT t) (j:Nat):t.slot j≠.dummy/\(t.slot j=.empty->j∉t.place.toList):=by
 have hd:has t.dummies j=false:=by rw[h.2];unfold has;simp
 unfold la;dsimp only;rw[hd]
 by_cases e:(t.place[below t.place j]? == some j)=true
 ·rw[if_pos e];exact⟨nofun,nofun⟩
 ·rw[if_neg e];refine⟨nofun,λ_ y=>e ?_⟩;obtain⟨i,hi,q⟩:=b9 y;have q:t.place[i]?=some j:=cW.mpr ⟨by simpa using hi,by simpa using q⟩
  rw[cZp h.1 q,q];simp
theorem fJ0 {t:aJ} (h:JT t) (f:Nat->Int) (x:Int):∀ (n:Nat) (p:Probe) (j:Nat) (d:Option Nat),p.dummy=none->probe.go t f x n p=some (.empty j d)->j∉t.place.toList/\d=none
 | 0,p,j,d,_,e=>by unfold probe.go at e;cases e
 | n + 1,p,j,d,hp,e=>by
  have y:(t.advance p).dummy=none:=by rw[aJr,aJs];exact hp
  unfold probe.go at e;obtain⟨s1,s2⟩:=eJl h p.j;cases hs:t.slot p.j with
  | empty=>rw[hs] at e;cases e;exact⟨s2 hs,hp⟩
  | dummy=>exact absurd hs s1
  | live i =>
   rw[hs] at e;dsimp only at e
   split at e
   ·cases e
   ·exact fJ0 h f x n _ j d y e
theorem fJ1 {t:aJ} (h:JT t) (es:Array (Int × ae)) (x:Int) (v:ae):JT (layNew t es x v).2.1:=by
 unfold layNew;cases hf:t.freeSlot x with
 | none=>exact bQk _ _
 | some q =>
  obtain⟨j,b⟩:=q;dsimp only;refine gX1 ?_ _;unfold aJ.freeSlot at hf
  split at hf
  ·rename_i i d hp;obtain⟨h1,h2⟩:=fJ0 h _ _ _ _ _ _ rfl hp;subst h2;cases hf;have hd:has t.dummies i=false:=by rw[h.2];unfold has;simp
   refine⟨eJk h.1 h1,?_⟩;show(if has t.dummies i=true then _ else t.dummies)=#[]
   rw[hd,if_neg bo];exact h.2
  ·cases hf
theorem fJ2 (t:aJ) (es:Array (Int × ae)) (n:Nat):JT (iI t es n).2.1:=by
 unfold iI
 split
 ·rename_i y order hq;dsimp only
  split
  ·unfold relaid laid at hq;cases hc:layClean (sizeAbove n - 1) (Array.map (·.1) es) with
   | none=>rw[hc] at hq;cases hq
   | some i =>
    rw[hc] at hq;cases hq;refine⟨?_,rfl⟩
    have:=cZu (sizeAbove n - 1) i
    simpa [liveOf] using this
  ·exact bQk _ _
 ·exact bQk _ _
theorem eQ5 (led:Bool):JT (.fresh 0 0 led):=⟨.nil,rfl⟩
end ST
set_option maxHeartbeats 4000000
namespace ST
open PySem PySem.SetTable PySem.Spec PyProof.Rows
section
variable {prog:aC} {w:aH} {A:aQ} {E:ae->ai->Prop} {s:ai}
def TK (prog:aC) (w:aH) (h:aO) (k:List Str) (v:ae):Prop:=∃ b,v=.ref b/\IsTupleKey (strKind prog w) h k b
theorem TK.inj {h:aO} {k k':List Str} {v:ae} (a:TK prog w h k v) (b:TK prog w h k' v):k=k':=by
 obtain⟨y,rfl,h1⟩:=a;obtain⟨i,e,h2⟩:=b;cases e;exact h1.inj h2
abbrev aZ4 (prog:aC) (w:aH) (k:List Str):Int:=tupleKeyHash (strKind prog w) k
theorem bXv {k:List Str} {vs:List ae} (h:ItemsAre (strKind prog w) k vs):∀ v∈vs,∃ x t,v=ic x t:=by
 induction h with
 | nil=>intro v hv;cases hv
 | cons h1 _ i =>
  intro v hv;rcases aA.mp hv with rfl | hv
  ·obtain⟨t,e⟩:=ft h1;exact⟨_,t,e⟩
  ·exact i v hv
theorem cZw {k:List Str} {v:ae} {Q:Bool->ai->Prop} (hk:TK prog w s.heap k v) (h:Q false s):ay (az prog w) A (fR 8 v) Q E s:=by
 obtain⟨b,rfl,hk⟩:=hk;have O:=hk.typeIs;obtain⟨o,items,n,L,_,hd,hi⟩:=hk;unfold fR;refine ad (gT O ?_);dsimp only;simp only[beq_self_eq_true,if_true];refine ad (af ?_);simp only[gA,aE,if_false];refine ad (bR L hd ?_);dsimp only;refine ad ?_;show ay _ _ (forIn items _ _) _ _ s;rw[<- Array.forIn_toList];refine gk _ (λrest r s'=>r.1=none/\s'=s/\∀ v∈rest,∃ x t,v=ic x t) _ ?_ ?_ _ _ ⟨rfl,rfl,bXv hi⟩
 ·rintro x rest r s' ⟨B,rfl,i⟩;obtain⟨y,t,rfl⟩:=i x ak;unfold fR;refine ad (af ?_);simp only[aE,if_false];exact af ⟨rfl,rfl,λu G=>i u (ao _ G)⟩
 ·rintro⟨Y,U⟩ s' ⟨B,rfl,_⟩;simp only at B;subst B;exact af h
theorem eZp {k:List Str} {v:ae} {Q:Bool->ai->Prop} (hk:TK prog w s.heap k v) (h:Q true s):ay (az prog w) A (eqIsQuiet 8 v) Q E s:=by
 obtain⟨b,rfl,hk⟩:=hk;exact wpAny_eqIsQuiet_tuple hk h
theorem eJm {k:List Str} {x:ae} {stored:List ae} {Q:Bool->ai->Prop} (hx:TK prog w s.heap k x) (hs:∀ y∈stored,∃ k',TK prog w s.heap k' y) (h:Q false s) :
  ay (az prog w) A (searchCouldBeSeen x stored) Q E s:=by
 unfold searchCouldBeSeen;refine ad (gk _ (λrest r s'=>r.1=none/\s'=s/\∀ y∈rest,∃ k',TK prog w s.heap k' y) _ ?_ ?_ _ _ ⟨rfl,rfl,hs⟩)
 ·rintro y rest r s' ⟨U,rfl,i⟩;obtain⟨k',O⟩:=i y ak;have fin:∀ y∈rest,∃ k',TK prog w s'.heap k' y:=λz Z=>i z (ao _ Z);obtain⟨Y,ex,_⟩:=id hx;obtain⟨G,ey,_⟩:=id O
  have main:∀ c:Bool,ay (az prog w) A (if c=true then pure (cA ((none,()):Option Bool × Unit)) else do
    if !(<- eqIsQuiet 8 x) then pure (g7 (some true,())) else
    if !(<- eqIsQuiet 8 y) then pure (g7 (some true,())) else
    if <- fR 8 x then pure (g7 (some true,())) else
    if <- fR 8 y then pure (g7 (some true,())) else pure (cA (none,())))
    (λr B=>match r with
     | cA L=>L.fst=none/\B=s'/\∀ (y:ae),y∈rest->∃ k',TK prog w s'.heap k' y
     | g7 L=>False) E s':=by
   intro c;cases c with
   | true=>exact af ⟨rfl,rfl,fin⟩
   | false =>
    simp only[aE,if_false];refine ad (eZp hx ?_);simp only[gA,aE,if_false];refine ad (eZp O ?_);simp only[gA,aE,if_false];refine ad (cZw hx ?_);simp only[aE,if_false];refine ad (cZw O ?_);simp only[aE,if_false];exact af ⟨rfl,rfl,fin⟩
  rw[ex,ey] at main ⊢;dsimp only;refine c6 (main ((Y == G) || (carriedByValue (.ref Y) && carriedByValue (.ref G)))) (λr s1 h=>?_) (λ_ _ e=>e)
  cases r with
  | yield L=>exact h
  | done L=>exact h.elim
 ·rintro⟨r1,r2⟩ s' ⟨U,rfl,_⟩;simp only at U;subst U;exact af h
def ElT (prog:aC) (w:aH) (h:aO) (es:List (Int × ae)):Prop:=∀ e∈es,∃ k,TK prog w h k e.2/\e.1=aZ4 prog w k
structure SetAt (h:aO) (a:Addr) (es:Array (Int × ae)) (ep:Nat) (t:aJ):Prop where
 obj:h.get? a=some { cls:=.type "set",dict:=none,data:=.set es ep t }
 inv:SetI es t
theorem SetAt.state {a:Addr} {es:Array (Int × ae)} {ep:Nat} {t:aJ} {Q:(Array (Int × ae) × Nat × aJ)->ai->Prop} (S:SetAt s.heap a es ep t) (h:Q (es,ep,t) s):ay (az prog w) A (setState a) Q E s :=
 dG S.obj rfl S.inv.fits h
theorem cQt {a:Addr} {es:Array (Int × ae)} {ep:Nat} {t:aJ} {k:List Str} {x:ae} {adding:Bool} (S:SetAt s.heap a es ep t) (hu:A.units < bU) (hel:ElT prog w s.heap es.toList) (hx:TK prog w s.heap k x)
  {M0:Nat} (hM:(road t.mask M0 (start t.mask (aZ4 prog w k))).j∉t.place.toList) {Q:SetFound->ai->Prop}
  (hfound:∀ i?,(adding=true\/i?.isSome=true)->(∃ e∈es.toList,TK prog w s.heap k e.2)->Q (.there i?) s)
  (hfree:∀ j r,j<=t.mask->j∉t.place.toList->(road t.mask r (start t.mask (aZ4 prog w k))).j=j->(∀ r',r' < r->(road t.mask r' (start t.mask (aZ4 prog w k))).j∈t.place.toList)->(¬ ∃ e∈es.toList,TK prog w s.heap k e.2)->Q (.free j false) s) :
  ∀ (fuel m:Nat) (stand:Option Probe),M0 < fuel + m->stand.getD (t.probeStart (aZ4 prog w k))=road t.mask m (start t.mask (aZ4 prog w k)) ->
   (∀ m',m' < m->∃ (i:Nat) (e:Int × ae),t.place[i]?=some (road t.mask m' (start t.mask (aZ4 prog w k))).j/\es[i]?=some e/\¬ TK prog w s.heap k e.2)->m<=M0 ->
   ay (az prog w) A (setSearchFrom a x (aZ4 prog w k) adding fuel stand) Q E s
 | 0,m,stand,hf,_,_,hm=>by lia
 | fuel + 1,m,stand,hf,hst,hpast,hm=>by
  unfold setSearchFrom;refine ad (S.state ?_);dsimp only;rw[S.inv.way];simp only[aE,if_false];have v:=PV.road m (aJd t.mask (aZ4 prog w k));have dn:∀ m,(road t.mask m (start t.mask (aZ4 prog w k))).dummy=none:=λm=>by
   induction m with
   | zero=>rfl
   | succ m ih=>rw[bZ0,aJs];exact ih
  obtain⟨O,p1,p2⟩:=cJc S.inv.tab S.inv.le (λi=>(es[i]?.map (·.1)).getD 0) (aZ4 prog w k) v (dn m);rw[hst];have ahead:∀ r,r < m + O->∃ (i:Nat) (e:Int × ae),t.place[i]?=some (road t.mask r (start t.mask (aZ4 prog w k))).j/\es[i]?=some e/\¬ TK prog w s.heap k e.2:=λr hr=>by
   by_cases c:r < m
   ·exact hpast r c
   ·obtain⟨i,L,q2⟩:=p1 (r - m) (by lia)
    rw[<- aQv,show m + (r - m)=r by lia] at L
    obtain⟨hi,_⟩:=cW.mp L;have Y:i < es.size:=by rw[<- S.inv.size];exact hi
    have Z:es[i]?=some es[i]:=by simp[Y]
    refine⟨i,es[i],L,Z,λz=>q2 ?_⟩;obtain⟨U,z',eh⟩:=hel es[i] (by simp)
    rw[Z];show es[i].1=_;rw[eh,z'.inj z]
  have inplace:∀ r,r < m + O->(road t.mask r (start t.mask (aZ4 prog w k))).j∈t.place.toList:=λr hr=>by
   obtain⟨i,e,q,_⟩:=ahead r hr;exact dy.mpr (fN q)
  have hmM:m + O<=M0:=by
   rcases bO M0 (m + O) with c | c
   ·exact absurd (inplace M0 c) hM
   ·exact c
  rcases p2 with⟨L,q2⟩ | ⟨i,L,q2,q3,q4⟩
  ·generalize hP:aJ.probe t _ (aZ4 prog w k) (road t.mask m (start t.mask (aZ4 prog w k)))=pr;have e2:pr=some (.empty (road t.mask O (road t.mask m (start t.mask (aZ4 prog w k)))).j none):=by rw[<- hP];exact q2
   rw[e2];dsimp only;rw[<- aQv] at L ⊢;have pv:=(PV.road (m + O) (aJd t.mask (aZ4 prog w k))).j;refine af (hfree _ (m + O) (by lia) L rfl inplace ?_)
   rintro⟨e,he,hke⟩;obtain⟨i,hi,ei⟩:=b9 he;have Z:es[i]?=some e:=by
    have h2:i < es.size:=by simpa using hi
    rw[<- ei];simp[h2]
   have Y:i < t.place.size:=by rw[S.inv.size];simpa using hi
   obtain⟨r,r1,r2⟩:=S.inv.reach i t.place[i] e (by simp[Y]) Z
   obtain⟨U,z',eh⟩:=hel e he;have hk':U=k:=z'.inj hke;rw[eh,hk'] at r1 r2;rcases bO r (m + O) with c | c
   ·obtain⟨i',e',a1,a2,a3⟩:=ahead r c;rw[r1] at a1;have s1:=cQr S.inv.tab a1;have s2:=cQr (j:=t.place[i]) (i:=i) S.inv.tab (by simp[Y])
    rw[s1] at s2;cases s2;rw[Z] at a2;cases a2;exact a3 hke
   ·rcases eM c with c | c
    ·exact L (r2 _ c)
    ·rw[c,r1] at L;exact L (by simp)
  ·generalize hP:aJ.probe t _ (aZ4 prog w k) (road t.mask m (start t.mask (aZ4 prog w k)))=pr;have e2:pr=some (.candidate (road t.mask O (road t.mask m (start t.mask (aZ4 prog w k)))).j i (road t.mask (O + 1) (road t.mask m (start t.mask (aZ4 prog w k))))):=by rw[<- hP];exact q4
   rw[e2];dsimp only;have Y:i < es.size:=by
    obtain⟨hi,_⟩:=cW.mp L;rw[<- S.inv.size];exact hi
   have Z:es[i]?=some es[i]:=by simp[Y]
   obtain⟨U,hy,eh⟩:=hel es[i] (by simp)
   by_cases hled:t.led=true
   ·rw[hled];simp only[gA,aE,if_false];rw[Z];obtain⟨b,eb,hb⟩:=hy;obtain⟨bx,ex,hbx⟩:=id hx;have G:es[i]=(es[i].1,bI b):=by rw[<- eb]
    rw[G];dsimp only;refine ad (bF ?_);rw[ex];refine wpAny_eqBool_tuple hu hb hbx ?_;refine ad (S.state ?_);dsimp only;have yes:U=k->∃ e∈es.toList,TK prog w s.heap k e.2:=λc=>⟨es[i],by simp,⟨b,eb,c ▸ hb⟩⟩
    by_cases B:(adding && decide (U=k))=true
    ·rw[if_pos B];have c:U=k:=by
      simp only[aI,decide_eq_true_eq] at B;exact B.2
     exact af (hfound none (.inl (by simp only[aI] at B;exact B.1)) (yes c))
    ·rw[if_neg B];have sm:t.sameMemory t.moves t.mask=some true:=by unfold sameMemory;rw[if_pos (by simp)]
     rw[sm];dsimp only;rw[if_pos rfl,q2];dsimp only;rw[Z,G];dsimp only;refine ad (wpAny_isSame_ref_self ?_);rw[if_pos rfl];refine ad (af ?_);dsimp only
     by_cases c:U=k
     ·rw[decide_eq_true c,if_pos rfl];exact af (hfound _ (.inr rfl) (yes c))
     ·rw[decide_eq_false c,if_neg bo];rw[<- ex];refine cQt S hu hel hx hM hfound hfree fuel (m + O + 1) _ (by lia) ?_ (λr hr=>?_) ?_
      ·show road t.mask (O + 1) (road t.mask m _)=_;rw[<- aQv,Nat.add_assoc]
      ·rcases eM (dF hr) with d | d
       ·exact ahead r d
       ·rw[d];rw[<- aQv] at L;refine⟨i,es[i],L,Z,λz=>c ?_⟩;exact TK.inj ⟨b,eb,hb⟩ z
      ·rcases eM hmM with d | d
       ·exact d
       ·rw[<- aQv] at L;rw[d] at L;exact absurd (dy.mpr (fN L)) hM
   ·have hled':t.led=false:=fb.mpr hled;rw[hled'];simp only[kR,if_true];refine ad (eJm hx (λy hy'=>?_) ?_)
    ·obtain⟨e,he,rfl⟩:=cJ.mp hy';have he':e∈es.toList:=by
      have:=dy.mp he
      exact dy.mpr (Array.mem_filter.mp this).1
     obtain⟨U,z,_⟩:=hel e he';exact⟨U,z⟩
    ·simp only[aE,if_false];rw[Z];obtain⟨b,eb,hb⟩:=hy;obtain⟨bx,ex,hbx⟩:=id hx;have G:es[i]=(es[i].1,bI b):=by rw[<- eb]
     rw[G];dsimp only;refine ad (bF ?_);rw[ex];refine wpAny_eqBool_tuple hu hb hbx ?_;refine ad (S.state ?_);dsimp only;have yes:U=k->∃ e∈es.toList,TK prog w s.heap k e.2:=λc=>⟨es[i],by simp,⟨b,eb,c ▸ hb⟩⟩
     by_cases B:(adding && decide (U=k))=true
     ·rw[if_pos B];have c:U=k:=by
       simp only[aI,decide_eq_true_eq] at B;exact B.2
      exact af (hfound none (.inl (by simp only[aI] at B;exact B.1)) (yes c))
     ·rw[if_neg B];have sm:t.sameMemory t.moves t.mask=some true:=by unfold sameMemory;rw[if_pos (by simp)]
      rw[sm];dsimp only;rw[if_pos rfl,q2];dsimp only;rw[Z,G];dsimp only;refine ad (wpAny_isSame_ref_self ?_);rw[if_pos rfl];refine ad (af ?_);dsimp only
      by_cases c:U=k
      ·rw[decide_eq_true c,if_pos rfl];exact af (hfound _ (.inr rfl) (yes c))
      ·rw[decide_eq_false c,if_neg bo];rw[<- ex];refine cQt S hu hel hx hM hfound hfree fuel (m + O + 1) _ (by lia) ?_ (λr hr=>?_) ?_
       ·show road t.mask (O + 1) (road t.mask m _)=_;rw[<- aQv,Nat.add_assoc]
       ·rcases eM (dF hr) with d | d
        ·exact ahead r d
        ·rw[d];rw[<- aQv] at L;refine⟨i,es[i],L,Z,λz=>c ?_⟩;exact TK.inj ⟨b,eb,hb⟩ z
       ·rcases eM hmM with d | d
        ·exact d
        ·rw[<- aQv] at L;rw[d] at L;exact absurd (dy.mpr (fN L)) hM
end
section
variable {prog:aC} {w:aH} {A:aQ} {E:ae->ai->Prop} {s:ai}
theorem cQu (a:Addr) (wanted:Nat):setRelay a wanted=(do
 let (es,_,t) <- setState a
 if aJ.sizeAbove wanted > sizeLine then iJ "set:memory"
 let (es,t) <- (do
  let some (t,order):=t.relaid (es.map (·.1)) wanted | iJ "internal:set-table-without-room"
  let es':=order.filterMap (es[·]?)
  if es'.size != es.size then iJ "internal:set-table-lost-an-element"
  pure (es',t))
 storeSet a es t):=by rfl
theorem hbvT {k:List Str} {v:ae} {Q:Bool->ai->Prop} (hk:TK prog w s.heap k v) (h:Q (decide (k=[])) s):ay (az prog w) A (hashByValue 8 v) Q E s:=by
 obtain⟨b,rfl,hk⟩:=hk;have G:=hk.typeIs;refine hd λL i=>?_;obtain⟨o,items,n,B,_,hd,hi⟩:=hk;refine i ?_;unfold hashByValue;refine ad (wpAny_specialOf G PySem.F.slot_tuple_hash.lookup ?_);dsimp only;refine ad (bR B hd ?_);refine ad ?_;show ay _ _ (forIn items _ _) _ _ s;rw[<- Array.forIn_toList];generalize hits:items.toList=y at hi;cases hi with
 | nil =>
  rw[jp];exact af (af h)
 | cons h1 h2 =>
  obtain⟨t,e⟩:=ft h1;subst e;rw[d5];have e2:∀ n x t,hashByValue n (ic x t)=pure false:=λn x t=>by unfold hashByValue;rfl
  rw[e2];refine ad (ad (af ?_));simp only[kR,if_true];refine af ?_;exact af (af (by simpa using h))
def bX9 (prog:aC) (w:aH) (h:aO) (es:List (Int × ae)) (t:aJ):Prop:=t.plain=true->∀ e∈es,TK prog w h [] e.2
theorem addT {a:Addr} {es:Array (Int × ae)} {ep:Nat} {t:aJ} {k:List Str} {x:ae} (S:SetAt s.heap a es ep t) (hu:A.units < bU) (hel:ElT prog w s.heap es.toList) (hpl:bX9 prog w s.heap es.toList t) (hx:TK prog w s.heap k x) (hn:es.size + 1<=300) {Q:Bool->ai->Prop}
  (h:∀ h' es' ep' t' added,SetAt h' a es' ep' t'->dA a s.heap h'->bX9 prog w s.heap es'.toList t'->t'.led=t.led ->
   ((added=false/\es'=es/\∃ e∈es.toList,TK prog w s.heap k e.2)\/(added=true/\es'.toList.Perm ((aZ4 prog w k,x)::es.toList)/\¬ ∃ e∈es.toList,TK prog w s.heap k e.2))->Q added { s with heap:=h' }) :
  ay (az prog w) A (ko a x (aZ4 prog w k)) Q E s:=by
 unfold ko setAddHashedIn;refine bF (ad (S.state ?_));dsimp only;have hbs:byScan x es=false:=by
  obtain⟨b,rfl,_⟩:=hx
  rfl
 rw[hbs];simp only[aE,if_false];refine hd λGq U=>?_;obtain⟨y,hy,hf⟩:=bX8 S.inv.tab S.inv.le;refine U ?_;refine hd λGq U=>?_;obtain⟨m,hm,e⟩:=fXy S.inv.tab.mask (aJd t.mask (aZ4 prog w k)) hy;refine U ?_;have hm':m < 100000 + 0:=by
  have:=S.inv.tab.mask
  have:t.mask<=511:=by rcases this with z | z | z | z <;> lia
  lia
 refine ad ?_;unfold setSearch;refine cQt S hu hel hx (M0:=m) (by rw[e];exact hf) (λi? _ hyes=>?_) (λj r hj hfj ej hrj hno=>?_) 100000 0 none hm' rfl (λm' h'=>absurd h' (cN _)) (bL _)
 ·dsimp only;have q:=h s.heap es ep t false S (lr a s.heap) hpl rfl (.inl ⟨rfl,rfl,hyes⟩);exact af q
 ·dsimp only;refine ad (S.state ?_);dsimp only;have P:=put_set (x:=x) S.inv hj hfj ej hrj true;refine hd λGq U=>?_;obtain⟨p1,p2,p3,p4,p5,p6⟩:=P;refine U ?_;have p3d:(t.put j).1.dummies=#[]:=p3.nodum;have p3r:Ris (t.put j).1.place.toList:=p3.ris;have p3t:∀ a∈(t.put j).1.place.toList,a<=(t.put j).1.mask:=p3.top;generalize hes:aJ.insertAt es (t.put j).2 (aZ4 prog w k,x)=B at p1 p2 p6 ⊢;have G:B.toList.Perm ((aZ4 prog w k,x)::es.toList):=by
   rw[p1];refine List.perm_middle.trans ?_;rw[eO]
  have rest:∀ tt:aJ,tt.place=(t.put j).1.place->tt.dummies=#[]->tt.mask=t.mask->tt.led=t.led->(tt.plain=true->t.plain=true/\k=[])->ay (az prog w) A (do
    storeSet a B tt
    if (!false && tt.tooFull)=true then do
     setRelay a (dj (es.size + 1))
     pure true
    else pure true) Q E s:=by
   intro tt h1 h2 h3 h4 h5;have T':Tab tt:=⟨by rw[h3];exact S.inv.tab.mask,h2,by rw[h1];exact p3r,λa ha=>by rw[h1] at ha;rw[h3,<- p5];exact p3t a ha⟩
   have O:∀ Y:List (Int × ae),Y.Perm ((aZ4 prog w k,x)::es.toList)->∀ t2:aJ,t2.plain=tt.plain->bX9 prog w s.heap Y t2:=by
    intro Y hp t2 ht2 hpt ee hee;rw[ht2] at hpt;refine hd λGq U=>?_;obtain⟨q1,q2⟩:=h5 hpt;refine U ?_;rcases aA.mp (hp.mem_iff.mp hee) with q | q
    ·rw[q,<- q2];exact hx
    ·exact hpl q1 ee q
   have hz:B.size<=sizeLine:=by rw[p2,bD];lia
   refine ad (g8 S.obj rfl ?_ hz);have ho1:(s.heap.update a (dP B tt)).get? a=some { cls:=.type "set",dict:=none,data:=.set B (ep + 1) tt }:=by
    have:=bP (dP B tt) S.obj (by rw[ik _ _ rfl];rfl)
    rw[ik _ _ rfl] at this;exact this
   have hsb1:=cz s.heap a (dP B tt);have tf:tt.tooFull=decide ((es.size + 1) * 5 >= t.mask * 3):=by
    unfold aJ.tooFull lf;rw[h2,h1,p4,h3]
    rfl
   have room:=S.inv.room
   by_cases L:(es.size + 1) * 5 >= t.mask * 3
   ·rw[tf,decide_eq_true L];simp only[kR,Bool.and_self,if_true];refine hd λGq U=>?_;obtain⟨mask',hm1,hm2,hm3,hm4⟩:=grow S.inv.tab.mask room L hn;refine U ?_;refine hd λGq U=>?_;obtain⟨t',order,r1,r2,r3,r4⟩:=dQv (es:=B) tt hm1 hm2 (by rw[p2];exact hm3);refine U ?_
    have hled:t'.led=tt.led/\t'.plain=tt.plain:=by
     unfold relaid laid at r1;cases hq:layClean (sizeAbove (grown (es.size + 1)) - 1) (Array.map (·.1) B) with
     | none=>rw[hq] at r1;cases r1
     | some ow=>rw[hq] at r1;cases r1;exact⟨rfl,rfl⟩
    have hfit1:tt.fits B.size=true:=by
     unfold lc lf
     have:t.mask >= 7:=by rcases S.inv.tab.mask with z | z | z | z <;> lia
     simp only[aI,beq_iff_eq,decide_eq_true_eq];rw[h2,h1,p4,p2,h3];refine⟨rfl,?_⟩;show es.size + 1 + 0<=t.mask;lia
    refine ad ?_;rw[cQu];refine ad (dG ho1 rfl hfit1 ?_);dsimp only;rw[if_neg hm4,r1];dsimp only;rw[r2];simp only[bne_self_eq_false,aE,if_false,jW];have hz2:(order.filterMap (B[·]?)).size<=sizeLine:=by rw[r2];exact hz
    refine g8 ho1 rfl ?_ hz2;have ho2:((s.heap.update a (dP B tt)).update a (dP (order.filterMap (B[·]?)) t')).get? a=some { cls:=.type "set",dict:=none,data:=.set (order.filterMap (B[·]?)) (ep + 1 + 1) t' }:=by
     have:=bP (dP (order.filterMap (B[·]?)) t') ho1 (by rw[ik _ _ rfl];rfl)
     rw[ik _ _ rfl] at this;exact this
    have hsb2:=hsb1.trans (cz (s.heap.update a (dP B tt)) a (dP (order.filterMap (B[·]?)) t'));exact af (h _ _ _ _ true ⟨ho2,r3⟩ hsb2 (O _ (r4.trans G) _ hled.2) (hled.1.trans h4) (.inr ⟨rfl,r4.trans G,hno⟩))
   ·rw[tf,decide_eq_false L];simp only[Bool.and_false,aE,if_false];have I':SetI B tt:=by
     refine⟨T',by rw[h1,p4,p2],by rw[h3,p2];lia,λi j' e' q1 q2=>?_⟩
     rw[h1] at q1;refine hd λGq U=>?_;obtain⟨r,r1,r2⟩:=p6 i j' e' q1 q2;refine U ?_;rw[h3,h1];exact⟨r,r1,r2⟩
    exact af (h _ _ (ep + 1) _ true ⟨ho1,I'⟩ hsb1 (O _ G _ rfl) h4 (.inr ⟨rfl,G,hno⟩))
  by_cases hp:t.plain=true
  ·have Z:(t.put j).1.plain=true:=hp;rw[Z];simp only[if_true];refine ad (hbvT hx ?_)
   by_cases hk:k=[]
   ·rw[decide_eq_true hk];simp only[if_true];exact rest (t.put j).1 rfl p3d p5 rfl (λ_=>⟨hp,hk⟩)
   ·rw[decide_eq_false hk];simp only[aE,if_false];exact rest { (t.put j).1 with plain:=false } rfl p3d p5 rfl (λz=>nomatch z)
  ·have Z:(t.put j).1.plain=false:=fb.mpr hp;rw[Z];simp only[aE,if_false];refine ad (af ?_);simp only[if_true];exact rest (t.put j).1 rfl p3d p5 rfl (λz=>by rw[Z] at z;cases z)
theorem eJn {a:Addr} {es:Array (Int × ae)} {ep:Nat} {t:aJ} {k:List Str} {x:ae} (S:SetAt s.heap a es ep t) (hu:A.units < bU) (hel:ElT prog w s.heap es.toList) (hpl:bX9 prog w s.heap es.toList t) (hx:TK prog w s.heap k x) (hn:es.size + 1<=300) {Q:Bool->ai->Prop}
  (h:∀ h' tk es' ep' t' added,SetAt h' a es' ep' t'->dA a s.heap h'->bX9 prog w s.heap es'.toList t'->t'.led=t.led->s.toks<=tk ->
   ((added=false/\es'=es/\∃ e∈es.toList,TK prog w s.heap k e.2)\/(added=true/\es'.toList.Perm ((aZ4 prog w k,x)::es.toList)/\¬ ∃ e∈es.toList,TK prog w s.heap k e.2))->Q added { s with heap:=h',toks:=tk }) :
  ay (az prog w) A (setAdd a x) Q E s:=by
 obtain⟨b,rfl,hk⟩:=id hx;unfold setAdd;refine bF (ad (wpAny_pyHash_tuple hu hk ?_));exact addT (s:={ s with toks:=s.toks + (k.length + 1) }) S hu hel hpl hx hn λh' es' ep' t' added h1 h2 B y i=>h h' _ es' ep' t' added h1 h2 B y (gn _ _) i
end
def TupKeep (h h':aO):Prop:=∀ b o,h.get? b=some o->o.cls=.type "tuple"->h'.get? b=some o
theorem TupKeep.trans {a b c:aO} (x:TupKeep a b) (y:TupKeep b c):TupKeep a c:=λd o e h=>y d o (x d o e h) h
def setOb (es:Array (Int × ae)) (ep:Nat) (t:aJ):Obj:={ cls:=.type "set",dict:=none,data:=.set es ep t }
structure SetKd (prog:aC) (w:aH) (κ:Type) where
 pk:Bool
 is:aO->κ->ae->Prop
 I:aO->Addr->Array (Int × ae)->Nat->aJ->Prop
 inj:∀ {h:aO} {k k':κ} {v:ae},is h k v->is h k' v->k=k'
 obj:∀ {h:aO} {a:Addr} {es:Array (Int × ae)} {ep:Nat} {t:aJ},I h a es ep t->h.get? a=some (setOb es ep t)
 fits:∀ {h:aO} {a:Addr} {es:Array (Int × ae)} {ep:Nat} {t:aJ},I h a es ep t->t.fits es.size=true
 few:pk=false->∀ {h:aO} {a:Addr} {es:Array (Int × ae)} {ep:Nat} {t:aJ} {ks:List κ},I h a es ep t->aZ (λ(e:Int × ae) k=>is h k e.2) es.toList ks->ks.Nodup->t.plain=true->es.size<=1
 fresh:∀ {h:aO} {a:Addr} {led:Bool},h.get? a=some (setOb #[] 0 (.fresh 0 0 led))->I h a #[] 0 (.fresh 0 0 led)
 keepIs:∀ {h h':aO} {k:κ} {v:ae},is h k v->TupKeep h h'->is h' k v
 keepI:∀ {h h':aO} {a:Addr} {es:Array (Int × ae)} {ep:Nat} {t:aJ},I h a es ep t->h'.get? a=h.get? a->TupKeep h h'->I h' a es ep t
 add:∀ {A:aQ} {E:ae->ai->Prop} {s:ai} {a:Addr} {es:Array (Int × ae)} {ep:Nat} {t:aJ} {k:κ} {x:ae} {Q:Bool->ai->Prop},A.units < bU->I s.heap a es ep t->is s.heap k x->es.size + 1<=300 ->
  (∀ h' tk es' ep' t' added,I h' a es' ep' t'->dA a s.heap h'->t'.led=t.led->s.toks<=tk ->
   ((added=false/\es'=es/\∃ e∈es.toList,is s.heap k e.2)\/(added=true/\(∃ hh,es'.toList.Perm ((hh,x)::es.toList))/\¬ ∃ e∈es.toList,is s.heap k e.2))->Q added { s with heap:=h',toks:=tk }) ->
  ay (az prog w) A (setAdd a x) Q E s
theorem aJ3 {h h':aO} {a:Addr} {es:Array (Int × ae)} {ep:Nat} {t:aJ} (ho:h.get? a=some (setOb es ep t)) (sb:dA a h h'):TupKeep h h':=λb o e c=>by
 refine(sb.2 b ?_).trans e;rintro rfl;rw[ho] at e;have y:o=setOb es ep t:=(aK e).symm;rw[y] at c;have B:cU "set"=cU "tuple":=c;injection B with i
 exact absurd i (by decide)
section
variable {prog:aC} {w:aH}
theorem TK.keep {h h':aO} {k:List Str} {v:ae} (x:TK prog w h k v) (kp:TupKeep h h'):TK prog w h' k v:=by
 obtain⟨b,rfl,o,items,n,y,i,hd,hi⟩:=x;exact⟨b,rfl,o,items,n,kp b o y i,i,hd,hi⟩
theorem bXa {α β:Type} {R:α->β->Prop}:∀ {l:List α} {m:List β},aZ R l m->∀ a∈l,∃ b∈m,R a b
 | _,_,.nil,a,h=>nomatch h
 | _,_,.cons r t,a,h=>by
  rcases aA.mp h with rfl | h
  ·exact⟨_,ak,r⟩
  ·obtain⟨b,i,q⟩:=bXa t a h;exact⟨b,ao _ i,q⟩
theorem bZ3 {α β:Type} {R:α->β->Prop}:∀ {l:List α} {m:List β},aZ R l m->∀ b∈m,∃ a∈l,R a b
 | _,_,.nil,a,h=>nomatch h
 | _,_,.cons r t,a,h=>by
  rcases aA.mp h with rfl | h
  ·exact⟨_,ak,r⟩
  ·obtain⟨b,i,q⟩:=bZ3 t a h;exact⟨b,ao _ i,q⟩
theorem paired_perm {α β:Type} {R:α->β->Prop} {l l':List α} (p:l'.Perm l):∀ {m:List β},aZ R l m->∃ m',m'.Perm m/\aZ R l' m':=by
 have gen:∀ {l l':List α},l.Perm l'->∀ {m:List β},aZ R l m->∃ m',m'.Perm m/\aZ R l' m':=by
  intro l l' p
  induction p with
  | nil=>intro m h;cases h;exact⟨[],gY _,.nil⟩
  | cons x _ O =>
   intro m h;cases h with
   | cons r t =>
    obtain⟨m',h1,h2⟩:=O t;exact⟨_,h1.cons _,.cons r h2⟩
  | swap x y l =>
   intro m h;cases h with
   | cons r t =>
    cases t with
    | cons G t2=>exact⟨_,kS _ _ _,.cons G (.cons r t2)⟩
  | trans _ _ B i =>
   intro m h;obtain⟨Z,a1,Y⟩:=B h;obtain⟨L,a2,U⟩:=i Y;exact⟨L,a2.trans a1,U⟩
 intro m h;exact gen p.symm h
theorem few_aux {α β:Type} {R:α->β->Prop} {k0:β} {l:List α} {m:List β} (hp:aZ R l m) (h0:∀ a∈l,R a k0) (inj:∀ a b b',R a b->R a b'->b=b') (nd:m.Nodup):l.length<=1:=by
 cases hp with
 | nil=>exact bL _
 | cons y t1 =>
  cases t1 with
  | nil=>exact au _
  | cons i t2 =>
   have G:=inj _ _ _ (h0 _ ak) y;have B:=inj _ _ _ (h0 _ (ao _ ak)) i
   have:=(bX.mp nd).1
   exact absurd (by rw[<- G,B];exact ak) this
theorem bXw {P:Int × ae->Prop}:∀ e∈(#[]:Array (Int × ae)).toList,P e:=λe he=>absurd he (by simp)
def tupKd (prog:aC) (w:aH):SetKd prog w (List Str) where
 pk:=false
 is:=TK prog w
 I:=λh a es ep t=>SetAt h a es ep t/\ElT prog w h es.toList/\bX9 prog w h es.toList t
 inj:=λa b=>a.inj b
 obj:=λx=>x.1.obj
 fits:=λx=>x.1.inv.fits
 few:=λ_ {h a es ep t ks} x hp nd hpl=>by
  have q:=few_aux hp (x.2.2 hpl) (λ_ _ _ r1 r2=>r1.inj r2) nd;simpa using q
 fresh:=λho=>⟨⟨ho,eQ2 _ _ _⟩,bXw,λ_=>bXw⟩
 keepIs:=λx kp=>x.keep kp
 keepI:=λx e kp=>⟨⟨by rw[e];exact x.1.obj,x.1.inv⟩,λe he=>by
  obtain⟨k,q1,q2⟩:=x.2.1 e he;exact⟨k,q1.keep kp,q2⟩,λhp e he=>(x.2.2 hp e he).keep kp⟩
 add:=λ{A E s a es ep t k x Q} hu hI hx hn h=>by
  obtain⟨S,hel,hpl⟩:=hI;refine eJn S hu hel hpl hx hn λh' tk es' ep' t' added h1 h2 h3 h4 h5 h6=>?_;have kp:=aJ3 S.obj h2;refine h h' tk es' ep' t' added ⟨h1,?_,λhp e he=>(h3 hp e he).keep kp⟩ h2 h4 h5 ?_
  ·intro e he;rcases h6 with⟨_,rfl,_⟩ | ⟨_,hp,_⟩
   ·obtain⟨k,q1,q2⟩:=hel e he;exact⟨k,q1.keep kp,q2⟩
   ·rcases aA.mp (hp.mem_iff.mp he) with q | q
    ·rw[q];exact⟨k,hx.keep kp,rfl⟩
    ·obtain⟨k,q1,q2⟩:=hel e q;exact⟨k,q1.keep kp,q2⟩
  ·rcases h6 with q | ⟨q1,q2,q3⟩
   ·exact .inl q
   ·exact .inr ⟨q1,⟨_,q2⟩,q3⟩
theorem cQv (t:aJ) (n:Nat):(t.orStandIn n).led=t.led:=by unfold SetTable.orStandIn;split <;> rfl
theorem addS {κ:Type} [DecidableEq κ] (kn:k9 prog w κ) (sc:∀ {k:κ} {x:ae},kn.is k x=true -> x.scannable=true) {A:aQ} {E:ae -> ai -> Prop} {s:ai} {a:Addr} {es:Array (Int × ae)} {ep:Nat} {t:aJ} {k:κ} {x:ae} {Q:Bool -> ai -> Prop} (ho:s.heap.get? a=some (setOb es ep t)) (hf:t.fits es.size=true) (hel:ElemsOf kn es.toList)
    (hpl:i9 x=false -> t.plain=true -> es=#[]) (hx:kn.is k x=true) (hn:es.size + 1 <= 300)
    (h:∀ h' es' ep' t' added,h'.get? a=some (setOb es' ep' t') -> t'.fits es'.size=true -> ElemsOf kn es'.toList -> (i9 x=false -> t'.plain=true -> es'=#[]) -> dA a s.heap h' -> (t'.led=t.led /\ (JT t -> JT t')) ->
      ((added=false /\ es'=es /\ ∃ e ∈ es.toList,kn.is k e.2=true) \/ (added=true /\ es'.toList.Perm ((kn.hash k,x) :: es.toList) /\ ¬ ∃ e ∈ es.toList,kn.is k e.2=true)) -> Q added { s with heap:=h' }) :
    ay (az prog w) A (ko a x (kn.hash k)) Q E s:=by
  have hb:es.size < scanBound:=by unfold scanBound; lia
  unfold ko setAddHashedIn;refine bF (ad (dG ho rfl hf ?_));dsimp only;rw [byScan_of (sc hx) hb hel];simp only [↓reduceIte];unfold setAddByScan;refine ad ?_;refine ad (fD ?_);refine ad (wpAny_setScan_of hx ho rfl hf hel ?_);cases hr:List.findIdx? (λe=>kn.is k e.2) es.toList with
  | some j =>
    dsimp only;obtain⟨hj,hpj,_⟩:=List.findIdx?_eq_some_iff_getElem.mp hr;refine af (af ?_);exact h s.heap es ep t false ho hf hel hpl (lr a s.heap) ⟨rfl,id⟩ (.inl ⟨rfl,rfl,es.toList[j],dQ hj,hpj⟩)
  | none =>
    dsimp only;have hno:¬ ∃ e ∈ es.toList,kn.is k e.2=true:=by
      rintro⟨e,he,hp⟩;have:=List.findIdx?_eq_none_iff.mp hr e he;rw [hp] at this; exact Bool.noConfusion this
    have hgw:∀ (b:Bool) {s1:ai} {Q':Unit -> ai -> Prop},Q' () s1 -> ay (az prog w) A (match b with | true=>rule "set.scan.the-table-gave-way" | false=>pure ()) Q' E s1 :=
      λb s1 Q' hq => by cases b <;> first | exact af hq | exact fD hq
    have i:=layNew_perm t es (kn.hash k) x;have B:=layNew_fits t es (kn.hash k) x;have hJ:JT t -> JT (layNew t es (kn.hash k) x).2.1:=λz=>fJ1 z es (kn.hash k) x;have O:(layNew t es (kn.hash k) x).2.1.led=t.led:=by
      unfold layNew
      split
      · exact cQv _ _
      · rfl
    generalize hL:layNew t es (kn.hash k) x=L at i B O hJ ⊢;obtain⟨es1,t1,U,gave⟩:=L;dsimp only at i B O hJ ⊢;rw [jH] at i;have G:es1.toList.Perm ((kn.hash k,x) :: es.toList):=i.trans (jn _ _);have hel1:ElemsOf kn es1.toList:=(hel.push hx (sc hx)).perm i;have hsz1:es1.size=es.size + 1:=by
      have:=G.length_eq;simpa using this
    have hz1:es1.size <= sizeLine:=by rw [hsz1,bD]; lia
    refine ad (hgw _ ?_)
    have rest:∀ t2:aJ,t2.fits es1.size=true -> (i9 x=false -> t2.plain=false) -> (t2.led=t.led /\ (JT t -> JT t2)) -> ay (az prog w) A (do
        storeSet a es1 t2
        if (!U && t2.tooFull)=true then do
            (match (iI t2 es1 (dj es1.size)).2.2 with | true => rule "set.scan.the-table-gave-way" | false => pure ())
            storeSet a (iI t2 es1 (dj es1.size)).1 (iI t2 es1 (dj es1.size)).2.1
            pure (some true)
          else pure (some true)) (λr s'=>ay (az prog w) A (match r with | some added=>pure added | none=>setAddHashedIn a x (kn.hash k) 99999) Q E s') E s:=by
      intro t2 q1 q2 q3;refine ad (g8 ho rfl ?_ hz1);have ho1:(s.heap.update a (dP es1 t2)).get? a=some (setOb es1 (ep + 1) t2):=by
        have:=bP (dP es1 t2) ho (by rw [ik _ _ rfl]; rfl)
        rw [ik _ _ rfl] at this; exact this
      have hsb1:=cz s.heap a (dP es1 t2)
      split
      · have hp:=relayAll_perm t2 es1 (dj es1.size)
        have hfr:=relayAll_fits t2 es1 (dj es1.size);have hJ2:=fJ2 t2 es1 (dj es1.size);have Z:(iI t2 es1 (dj es1.size)).2.1.led=t2.led /\ (i9 x=false -> (iI t2 es1 (dj es1.size)).2.1.plain=false):=by
          unfold iI
          split
          · rename_i t' order hq
            have : t'.led=t2.led /\ t'.plain=t2.plain:=by
              unfold relaid laid at hq;cases hc:layClean (sizeAbove (dj es1.size) - 1) (Array.map (·.1) es1) with
              | none => rw [hc] at hq; cases hq
              | some ow => rw [hc] at hq; cases hq; exact⟨rfl, rfl⟩
            dsimp only
            split
            · exact⟨this.1, λz => this.2.trans (q2 z)⟩
            · exact⟨rfl, λ_ => rfl⟩
          · exact⟨rfl, λ_ => rfl⟩
        generalize hRl:iI t2 es1 (dj es1.size)=Rl at hp hfr Z hJ2 ⊢;obtain⟨Y,t3,gave2⟩:=Rl;dsimp only at hp hfr Z hJ2 ⊢;have hsz2:Y.size=es1.size:=by
          have:=hp.length_eq;simpa using this
        refine ad (hgw _ ?_);refine ad (g8 ho1 rfl ?_ (by rw [hsz2]; exact hz1))
        have ho2:((s.heap.update a (dP es1 t2)).update a (dP Y t3)).get? a=some (setOb Y (ep + 1 + 1) t3):=by
          have:=bP (dP Y t3) ho1 (by rw [ik _ _ rfl]; rfl)
          rw [ik _ _ rfl] at this; exact this
        refine af (af ?_);exact h _ Y _ t3 true ho2 hfr (hel1.perm hp) (λy z => by rw [Z.2 y] at z; cases z) (hsb1.trans (cz _ a _)) ⟨Z.1.trans q3.1, λ_ => hJ2⟩ (.inr ⟨rfl, hp.trans G, hno⟩)
      · refine af (af ?_)
        exact h _ es1 _ t2 true ho1 q1 hel1 (λy z => by rw [q2 y] at z; cases z) hsb1 q3 (.inr ⟨rfl, G, hno⟩)
    split
    · refine ad ?_
      rw [hashByValue_scannable 8 (sc hx)];refine af ?_;cases hk:i9 x with
      | true =>
        simp only [↓reduceIte];exact rest _ B (λz => by rw [hk] at z; cases z) ⟨O, hJ⟩
      | false =>
        simp only [aE, ↓reduceIte];exact rest _ (aJ.fits_plain_off B) (λ_ => rfl) ⟨O, hJ⟩
    · rename_i hnp
      refine ad (af ?_);simp only [↓reduceIte];exact rest t1 B (λ_ => fb.mpr hnp) ⟨O, hJ⟩
end
section
variable {prog:aC} {w:aH}
def fJ3 {κ:Type} [DecidableEq κ] (prog:aC) (w:aH) (kn:k9 prog w κ) (sc:∀ {k:κ} {x:ae},kn.is k x=true->x.scannable=true) (pk:Bool) (hkp:∀ {k:κ} {x:ae},kn.is k x=true->pk=false->i9 x=false) (hpk:∀ {k:κ} {x:ae},kn.is k x=true->i9 x=false->pk=false):SetKd prog w κ where
 pk:=pk
 is:=λ_ k v=>kn.is k v=true
 I:=λh a es ep t=>h.get? a=some (setOb es ep t)/\t.fits es.size=true/\ElemsOf kn es.toList/\(pk=false->t.plain=true->es=#[])/\JT t
 inj:=λa b=>kn.inj _ _ _ a b
 obj:=λx=>x.1
 fits:=λx=>x.2.1
 few:=λz _ _ _ _ _ _ x _ _ hp=>by rw[x.2.2.2.1 z hp];exact bL _
 fresh:=λho=>⟨ho,rfl,bXw,λ_ _=>rfl,eQ5 _⟩
 keepIs:=λx _=>x
 keepI:=λx e _=>⟨by rw[e];exact x.1,x.2⟩
 add:=λ{A E s a es ep t k x Q} hu hI hx hn h=>by
  obtain⟨ho,hf,hel,hpl,hJ⟩:=hI;unfold setAdd;refine bF (ad (kn.pyHash hx ?_));exact addS kn sc (s:={ s with toks:=s.toks + 1 }) ho hf hel (λz=>hpl (hpk hx z)) hx hn λh' es' ep' t' added h1 h2 h3 h4 h5 h6 h7=>h h' _ es' ep' t' added ⟨h1,h2,h3,λz=>h4 (hkp hx z),h6.2 hJ⟩ h5 h6.1 (dJ _) (by
   rcases h7 with q | ⟨q1,q2,q3⟩
   ·exact .inl q
   ·exact .inr ⟨q1,⟨_,q2⟩,q3⟩)
abbrev strKd (prog:aC) (w:aH):SetKd prog w Str:=fJ3 prog w (eD prog w) (λh=>by obtain⟨t,rfl⟩:=ft h;rfl) false (λh _=>by obtain⟨t,rfl⟩:=ft h;rfl) λ_ _=>rfl
structure Mem {κ:Type} (D:SetKd prog w κ) (h:aO) (a:Addr) (done:List κ) (led:Bool) (ks:List κ):Prop where
 ex:∃ es ep t,D.I h a es ep t/\t.led=led/\aZ (λ(e:Int × ae) k=>D.is h k e.2) es.toList ks
 nd:ks.Nodup
 mem:∀ k,k∈ks↔k∈done
theorem Mem.keep {κ:Type} {D:SetKd prog w κ} {h h':aO} {a:Addr} {done:List κ} {led:Bool} {ks:List κ} (M:Mem D h a done led ks) (e:h'.get? a=h.get? a) (kp:TupKeep h h'):Mem D h' a done led ks:=by
 obtain⟨es,y,t,h1,h2,i⟩:=M.ex;exact⟨⟨es,y,t,D.keepI h1 e kp,h2,L2.Paired.mapP i λ_ _ q=>D.keepIs q kp⟩,M.nd,M.mem⟩
theorem Mem.size {κ:Type} {D:SetKd prog w κ} {h:aO} {a:Addr} {done:List κ} {led:Bool} {ks:List κ} (M:Mem D h a done led ks):ks.length<=done.length :=
 M.nd.length_le_of_subset λk hk=>(M.mem k).mp hk
theorem addM {κ:Type} [DecidableEq κ] (D:SetKd prog w κ) {A:aQ} {E:ae->ai->Prop} {s:ai} {a:Addr} {done:List κ} {led:Bool} {ks:List κ} {k:κ} {x:ae} {Q:Bool->ai->Prop} (hu:A.units < bU) (M:Mem D s.heap a done led ks) (hx:D.is s.heap k x) (hn:done.length + 1<=300)
  (h:∀ h' tk ks',Mem D h' a (done++[k]) led ks'->dA a s.heap h'->TupKeep s.heap h'->s.toks<=tk->Q (decide (k∉ks)) { s with heap:=h',toks:=tk }) :
  ay (az prog w) A (setAdd a x) Q E s:=by
 have hsz:=M.size;obtain⟨es,ep,t,h1,h2,L⟩:=M.ex;have hl:es.size=ks.length:=by have:=b7 L;simpa using this
 refine D.add hu h1 hx (by lia) λh' tk y B t' added q1 Z q3 q4 q5=>?_
 have kp:=aJ3 (D.obj h1) Z;have i:aZ (λ(e:Int × ae) k=>D.is h' k e.2) es.toList ks:=L2.Paired.mapP L λ_ _ q=>D.keepIs q kp;have isin:(∃ e∈es.toList,D.is s.heap k e.2)↔k∈ks:=by
  constructor
  ·rintro⟨e,he,q⟩;obtain⟨G,hk',q'⟩:=bXa L e he;rw[D.inj q q'];exact hk'
  ·intro hk;obtain⟨e,he,q⟩:=bZ3 L k hk;exact⟨e,he,q⟩
 rcases q5 with⟨Y,U,O⟩ | ⟨Y,⟨hh,U⟩,O⟩
 ·have hk:=isin.mp O;have q:=h h' tk ks ⟨⟨y,B,t',q1,q3.trans h2,by rw[U];exact i⟩,M.nd,λG=>by
   rw[M.mem G,aW,aB];exact⟨.inl,λz=>z.elim id λz=>by rw[z];exact(M.mem k).mp hk⟩⟩ Z kp q4
  rw[decide_eq_false (λz=>z hk)] at q;rw[Y];exact q
 ·have hk:k∉ks:=λz=>O (isin.mpr z);obtain⟨ks',p1,p2⟩:=paired_perm U (R:=λ(e:Int × ae) k=>D.is h' k e.2) (m:=k::ks) (.cons (D.keepIs hx kp) i);have q:=h h' tk ks' ⟨⟨y,B,t',q1,q3.trans h2,p2⟩,p1.nodup_iff.mpr (bX.mpr ⟨hk,M.nd⟩),λG=>by
   rw[p1.mem_iff,aA,aW,aB,M.mem G];exact⟨λz=>z.symm,λz=>z.symm⟩⟩ Z kp q4
  rw[decide_eq_true hk] at q;rw[Y];exact q
theorem eQ6 {κ:Type} [DecidableEq κ] (D:SetKd prog w κ) {A:aQ} {R:jK->ai->Prop} {I S l:Addr} {items:Array ae} {ks:List κ} {led:Bool} (hh:A.in1.handled=none) (hu:A.in1.units < bU) (hne:l≠I) (hSI:S≠I) (hSl:S≠l) (hn:items.size + 1<=300) :
  ∀ (j i:Nat) (s:ai),items.size - i=j->i<=items.size->s.heap.IsListIter I l i->s.heap.IsList l items->aZ (λv k=>D.is s.heap k v) items.toList ks->(∃ ms,Mem D s.heap S (ks.take i) led ms) ->
   (∀ h' tk ms,Mem D h' S ks led ms->TupKeep s.heap h'->(∀ b o,b≠S->b≠I->s.heap.get? b=some o->h'.get? b=some o)->R (.ok (.ret .none)) { s with heap:=h',toks:=tk }) ->
   d9 (az prog w) A (.builtin "set.update.loop" ⟨[.ref S,.ref I],[]⟩) R s:=by
 have Z:∀ {h h':aO} {i:Nat},h.IsListIter I l i->(∀ b o,b≠I->h.get? b=some o->h'.get? b=some o)->TupKeep h h':=λst k b o e c=>k b o (by
  rintro rfl;obtain⟨o',e',c',_⟩:=st;rw[e] at e';cases e';rw[c] at c';injection c' with c''
  exact absurd c'' (by decide)) e
 intro j
 induction j with
 | zero =>
  intro i s hj hi y hl hp hM hR;have hin:i=items.size:=by lia
  subst hin;refine bC c7 ?_;rw[a8 bS _];show ay _ A.in1 (eP (.ref I) >>= _) _ _ s;refine ad (wpAny_pyNext_list_end hh y hl (by simp) λh' eb=>?_)
  show ay _ A.in1 (ret ci) _ _ _;have kp:=Z y λb o hb e=>eb b o hb e;obtain⟨ms,M⟩:=hM;have hlen:ks.length=items.size:=by have:=b7 hp;simpa using this.symm
  rw[cf (by lia)] at M
  obtain⟨es,ep,t,h1,_⟩:=id M.ex;have hS:=D.obj h1;exact af (hR h' s.toks ms (M.keep (by rw[hS];exact eb S _ hSI hS) kp) kp λb o _ hb e=>eb b o hb e)
 | succ j ih =>
  intro i s hj hi y hl hp hM hR;have O:i < items.size:=by lia
  refine bC c7 ?_;rw[a8 bS _];show ay _ A.in1 (eP (.ref I) >>= _) _ _ s;refine ad (wpAny_pyNext_list_item y hl (x:=items[i]) (by simp[O]) λh1 st1 B=>?_)
  have G:=Z y λb o hb e=>(B.2 b hb).trans e;obtain⟨ms,M⟩:=hM;obtain⟨es,ep,t,q1,_⟩:=id M.ex;have hS:=D.obj q1;have M1:=M.keep (h':=h1) (by rw[B.2 S hSI]) G
  have hlen:ks.length=items.size:=by have:=b7 hp;simpa using this.symm
  have hki:ks[i]?=some ks[i]:=ah (by lia)
  have hx:D.is s.heap ks[i] items[i]:=by
   have gen:∀ {l:List ae} {m:List κ},aZ (λv k=>D.is s.heap k v) l m->∀ (n:Nat) (v:ae) (k:κ),l[n]?=some v->m[n]?=some k->D.is s.heap k v:=by
    intro l m hp
    induction hp with
    | nil=>intro n v k h;simp at h
    | cons r _ ih =>
     intro n v k h1 h2;cases n with
     | zero=>simp at h1 h2;subst h1;subst h2;exact r
     | succ n=>exact ih n v k (by simpa using h1) (by simpa using h2)
   exact gen hp i _ _ (by simp[O]) hki
  show ay _ A.in1 (dX [items[i]] (setAdd S items[i]) >>= _) _ _ _;refine ad (bF ?_);refine addM D (s:={ s with heap:=h1 }) hu M1 (D.keepIs hx G) (by rw[bJ];lia) λh2 tk ms' M2 L Y htk=>?_
  have hl2:h2.IsList l items:=by
   obtain⟨o,e,r⟩:=hl;exact⟨o,(L.2 l (bj hSl)).trans ((B.2 l hne).trans e),r⟩
  have st2:h2.IsListIter I l (i + 1):=by
   obtain⟨o,e,r⟩:=st1;exact⟨o,(L.2 I (bj hSI)).trans e,r⟩
  refine af ⟨cP bS _,ih (i + 1) _ (by lia) O st2 hl2 (L2.Paired.mapP hp λ_ _ q=>D.keepIs q (G.trans Y)) ⟨ms',?_⟩ λh' tk' U a1 a2 a3=>?_⟩
  ·have et:ks.take (i + 1)=ks.take i++[ks[i]]:=by rw[dH,hki];rfl
   rw[et];exact M2
  ·exact hR h' tk' U a1 ((G.trans Y).trans a2) λb o hb1 hb2 e=>a3 b o hb1 hb2 ((L.2 b hb1).trans ((B.2 b hb2).trans e))
abbrev ledOf (w:aH):Bool:=!(w.params.followText "set-order")
theorem cZx {A:aQ} {E:ae->ai->Prop} {s:ai} (a:ae) {Q1:ae->ai->Prop}
  (h:Q1 (.ref s.heap.objs.size) { s with heap:=s.heap.push (setOb #[] 0 (.fresh 0 0 (ledOf w))) }) :
  d9 (az prog w) A (.call (.builtin "set.__new__") ⟨[.type "set",a],[]⟩) (wants Q1 E) s:=by
 refine iM ?_;show ay _ A.in1 (do checkBuiltinCall "set.__new__" ⟨[.type "set",a],[]⟩;again (.builtin "set.__new__" ⟨[.type "set",a],[]⟩)) _ _ s
 refine ad (iG (PySem.F.newCall_set_1 a) (af ⟨cP kI _,bC PySem.F.entry_set_new ?_⟩));rw[a8 kI _];unfold cu.«set.__new__» cu.Frozenset.newClass;have y:=sub_set_self;obtain⟨hp,g,d,B,os⟩:=s;dsimp only
 wp_walk
 refine eE (af ?_);dsimp only;simp only[newObj];refine ad (wpAny_alloc (af ?_));exact af h
end
section
variable {prog:aC} {w:aH}
theorem call_setK {κ:Type} [DecidableEq κ] (D:SetKd prog w κ) {A:aQ} {E:ae->ai->Prop} {s:ai} {l:Addr} {items:Array ae} {ks:List κ} {Q:ae->ai->Prop}
  (hh:A.handled=none) (hu:A.units + 8 < bU) (hl:s.heap.IsList l items) (hi:aZ (λv k=>D.is s.heap k v) items.toList ks) (hb:items.size + 1<=300)
  (h:∀ (h':aO) (tk:Nat) ms,Mem D h' s.heap.objs.size ks (ledOf w) ms->TupKeep s.heap h' ->
   (∀ b o,b < s.heap.objs.size->s.heap.get? b=some o->h'.get? b=some o)->Q (.ref s.heap.objs.size) { s with heap:=h',toks:=tk }) :
  ay (az prog w) A (call (.type "set") [.ref l]) Q E s:=by
 obtain⟨c,tl,hmro⟩:=bq.mro;have hmade:=bq.made;have hsub:=bq.sub;refine ke (iM ?_);show ay _ _ (callAny (.type "set") _) _ _ _;refine af ⟨jq _ (by decide +kernel),bC jZ ?_⟩
 rw[Around.under_plain (weight_type_call_type "set" [.ref l] []) rfl];have h1:=bq.notType;have h2:=bq.canCreate;have hct:=kr (.ref l)
 repeat (any_goals (first | assumption | wp_step))
 refine ec (cZx (.ref l) (E:=E) (Q1:=λobj s1=>obj=.ref s.heap.objs.size/\s1={ s with heap:=s.heap.push (setOb #[] 0 (.fresh 0 0 (ledOf w))) }) ⟨rfl,rfl⟩) λr s1 hr=>?_
 cases r with
 | error e=>exact hr
 | ok fl =>
  cases fl with
  | ret obj =>
   obtain⟨rfl,rfl⟩:=hr;have hS:(s.heap.push (setOb #[] 0 (.fresh 0 0 (ledOf w)))).get? s.heap.objs.size=some (setOb #[] 0 (.fresh 0 0 (ledOf w))):=av _ rfl;have hT:ai.TypeIs { s with heap:=s.heap.push (setOb #[] 0 (.fresh 0 0 (ledOf w))) } (.ref s.heap.objs.size) "set":=⟨_,hS,rfl⟩
   have hli:=bq.init.lookup;have hbi:=bq.init.bind (.ref s.heap.objs.size)
   repeat (any_goals (first | assumption | wp_step))
   refine ec (fY (R:=wants (λr s2=>r=.none/\∃ h' tk ms,s2={ s with heap:=h',toks:=tk }/\Mem D h' s.heap.objs.size ks (ledOf w) ms/\TupKeep s.heap h' /\
     (∀ b o,b < s.heap.objs.size->s.heap.get? b=some o->h'.get? b=some o)) E) bq.init.plain kv (check_set_init_1 hT ?_)) λr2 s2 L=>?_
   ·obtain⟨ol,Z,hcl,nl,hdl⟩:=hl;obtain⟨ocls,B,odata,y⟩:=ol;simp only at hcl hdl;subst hcl;subst hdl;have Y:(s.heap.push (setOb #[] 0 (.fresh 0 0 (ledOf w)))).get? l=some { cls:=.type "list",dict:=B,data:=.seq items nl,slots:=y }:=ag _ Z;have hsls:=PySem.F.sub_list_set;have hslf:=PySem.F.sub_list_frozenset;have hne:(cU "list" == cU "dict")=false:=by decide
    have hl1:(s.heap.push (setOb #[] 0 (.fresh 0 0 (ledOf w)))).IsList l items:=⟨_,Y,rfl,nl,rfl⟩;unfold cu.«set.__init__» noKeywords iO;generalize hPI:jJ=PI;unfold setOb at *
    wp_walk
    subst hPI;refine fS hl1 ?_;refine ad (wpAny_runValue ?_);have hlS:l < s.heap.objs.size:=aw Z;have hh3:A.in1.in1.in1.handled=none:=by simp[hh]
    have hu3:A.in1.in1.in1.units < bU:=by show A.units + 1 + 1 + 1 < bU;lia
    have hneI:l≠(s.heap.push { cls:=.type "set",dict:=none,data:=.set #[] 0 (.fresh 0 0 (ledOf w)) }).objs.size:=by
     rw[bv];exact aG (dg hlS)
    have hSI:s.heap.objs.size≠(s.heap.push { cls:=.type "set",dict:=none,data:=.set #[] 0 (.fresh 0 0 (ledOf w)) }).objs.size:=by
     rw[bv];exact aG (dN _)
    have kp:TupKeep s.heap ((s.heap.push { cls:=.type "set",dict:=none,data:=.set #[] 0 (.fresh 0 0 (ledOf w)) }).push { cls:=.type "list_iterator",data:=.fields #[.ref l,.int 0 0] }):=λb o e _=>ag _ (ag _ e)
    have hget:((s.heap.push { cls:=.type "set",dict:=none,data:=.set #[] 0 (.fresh 0 0 (ledOf w)) }).push { cls:=.type "list_iterator",data:=.fields #[.ref l,.int 0 0] }).get? s.heap.objs.size
       = some (setOb #[] 0 (.fresh 0 0 (ledOf w))):=ag _ hS
    refine eQ6 D hh3 hu3 hneI hSI (bj (aG hlS)) hb (items.size - 0) 0 _ (by lia) (bL _) ⟨_,av _ rfl,rfl,rfl⟩ (hl1.push _) (L2.Paired.mapP hi λ_ _ q=>D.keepIs q kp)
     ⟨[],⟨⟨#[],0,.fresh 0 0 (ledOf w),D.fresh hget,rfl,.nil⟩,fZ,λk=>by simp⟩⟩ ?hR
    case hR =>
     intro h' tk' ms hM G O;show ay _ _ _ _ _ _;refine af ?_;show ay _ _ (ret ci) _ _ _;refine af ⟨rfl,h',tk',ms,rfl,hM,kp.trans G,λb o hb e=>?_⟩;exact O b o (aG hb) (by rw[bv];exact aG (dg hb)) (ag _ (ag _ e))
   ·cases r2 with
    | error e=>exact L
    | ok fl2 =>
     cases fl2 with
     | ret r =>
      obtain⟨rfl,h',tk,ms,rfl,hM,G,O⟩:=L
      repeat (any_goals (first | assumption | wp_step))
      exact h _ _ _ hM G O
     | _=>exact L.elim
  | _=>exact hr.elim
end
section
variable {prog:aC} {w:aH}
theorem dQx {κ:Type} [DecidableEq κ] (D:SetKd prog w κ) {A:aQ} {R:jK->ai->Prop} {I S l:Addr} {items:Array ae} {ks:List κ} {led:Bool} (hh:A.in1.handled=none) (hu:A.in1.units < bU) (hne:l≠I) (hSI:S≠I) (hSl:S≠l) (hn:items.size + 1<=300) :
  ∀ (j i:Nat) (s:ai),items.size - i=j->i<=items.size->s.heap.IsTupleIter I l i->s.heap.IsTuple l items->aZ (λv k=>D.is s.heap k v) items.toList ks->(∃ ms,Mem D s.heap S (ks.take i) led ms) ->
   (∀ h' tk ms,Mem D h' S ks led ms->TupKeep s.heap h'->(∀ b o,b≠S->b≠I->s.heap.get? b=some o->h'.get? b=some o)->R (.ok (.ret .none)) { s with heap:=h',toks:=tk }) ->
   d9 (az prog w) A (.builtin "set.update.loop" ⟨[.ref S,.ref I],[]⟩) R s:=by
 have Z:∀ {h h':aO} {i:Nat},h.IsTupleIter I l i->(∀ b o,b≠I->h.get? b=some o->h'.get? b=some o)->TupKeep h h':=λst k b o e c=>k b o (by
  rintro rfl;obtain⟨o',e',c',_⟩:=st;rw[e] at e';cases e';rw[c] at c';injection c' with c''
  exact absurd c'' (by decide)) e
 intro j
 induction j with
 | zero =>
  intro i s hj hi y hl hp hM hR;have hin:i=items.size:=by lia
  subst hin;refine bC c7 ?_;rw[a8 bS _];show ay _ A.in1 (eP (.ref I) >>= _) _ _ s;refine ad (wpAny_pyNext_tuple_end hh y hl (by simp) λh' eb=>?_)
  show ay _ A.in1 (ret ci) _ _ _;have kp:=Z y λb o hb e=>eb b o hb e;obtain⟨ms,M⟩:=hM;have hlen:ks.length=items.size:=by have:=b7 hp;simpa using this.symm
  rw[cf (by lia)] at M
  obtain⟨es,ep,t,h1,_⟩:=id M.ex;have hS:=D.obj h1;exact af (hR h' s.toks ms (M.keep (by rw[hS];exact eb S _ hSI hS) kp) kp λb o _ hb e=>eb b o hb e)
 | succ j ih =>
  intro i s hj hi y hl hp hM hR;have O:i < items.size:=by lia
  refine bC c7 ?_;rw[a8 bS _];show ay _ A.in1 (eP (.ref I) >>= _) _ _ s;refine ad (wpAny_pyNext_tuple_item y hl (x:=items[i]) (by simp[O]) λh1 st1 B=>?_)
  have G:=Z y λb o hb e=>(B.2 b hb).trans e;obtain⟨ms,M⟩:=hM;obtain⟨es,ep,t,q1,_⟩:=id M.ex;have hS:=D.obj q1;have M1:=M.keep (h':=h1) (by rw[B.2 S hSI]) G
  have hlen:ks.length=items.size:=by have:=b7 hp;simpa using this.symm
  have hki:ks[i]?=some ks[i]:=ah (by lia)
  have hx:D.is s.heap ks[i] items[i]:=by
   have gen:∀ {l:List ae} {m:List κ},aZ (λv k=>D.is s.heap k v) l m->∀ (n:Nat) (v:ae) (k:κ),l[n]?=some v->m[n]?=some k->D.is s.heap k v:=by
    intro l m hp
    induction hp with
    | nil=>intro n v k h;simp at h
    | cons r _ ih =>
     intro n v k h1 h2;cases n with
     | zero=>simp at h1 h2;subst h1;subst h2;exact r
     | succ n=>exact ih n v k (by simpa using h1) (by simpa using h2)
   exact gen hp i _ _ (by simp[O]) hki
  show ay _ A.in1 (dX [items[i]] (setAdd S items[i]) >>= _) _ _ _;refine ad (bF ?_);refine addM D (s:={ s with heap:=h1 }) hu M1 (D.keepIs hx G) (by rw[bJ];lia) λh2 tk ms' M2 L Y htk=>?_
  have hl2:h2.IsTuple l items:=by
   obtain⟨o,e,r⟩:=hl;exact⟨o,(L.2 l (bj hSl)).trans ((B.2 l hne).trans e),r⟩
  have st2:h2.IsTupleIter I l (i + 1):=by
   obtain⟨o,e,r⟩:=st1;exact⟨o,(L.2 I (bj hSI)).trans e,r⟩
  refine af ⟨cP bS _,ih (i + 1) _ (by lia) O st2 hl2 (L2.Paired.mapP hp λ_ _ q=>D.keepIs q (G.trans Y)) ⟨ms',?_⟩ λh' tk' U a1 a2 a3=>?_⟩
  ·have et:ks.take (i + 1)=ks.take i++[ks[i]]:=by rw[dH,hki];rfl
   rw[et];exact M2
  ·exact hR h' tk' U a1 ((G.trans Y).trans a2) λb o hb1 hb2 e=>a3 b o hb1 hb2 ((L.2 b hb1).trans ((B.2 b hb2).trans e))
theorem call_setT {κ:Type} [DecidableEq κ] (D:SetKd prog w κ) {A:aQ} {E:ae->ai->Prop} {s:ai} {l:Addr} {items:Array ae} {ks:List κ} {Q:ae->ai->Prop}
  (hh:A.handled=none) (hu:A.units + 8 < bU) (hl:s.heap.IsTuple l items) (hi:aZ (λv k=>D.is s.heap k v) items.toList ks) (hb:items.size + 1<=300)
  (h:∀ (h':aO) (tk:Nat) ms,Mem D h' s.heap.objs.size ks (ledOf w) ms->TupKeep s.heap h' ->
   (∀ b o,b < s.heap.objs.size->s.heap.get? b=some o->h'.get? b=some o)->Q (.ref s.heap.objs.size) { s with heap:=h',toks:=tk }) :
  ay (az prog w) A (call (.type "set") [.ref l]) Q E s:=by
 obtain⟨c,tl,hmro⟩:=bq.mro;have hmade:=bq.made;have hsub:=bq.sub;refine ke (iM ?_);show ay _ _ (callAny (.type "set") _) _ _ _;refine af ⟨jq _ (by decide +kernel),bC jZ ?_⟩
 rw[Around.under_plain (weight_type_call_type "set" [.ref l] []) rfl];have h1:=bq.notType;have h2:=bq.canCreate;have hct:=kr (.ref l)
 repeat (any_goals (first | assumption | wp_step))
 refine ec (cZx (.ref l) (E:=E) (Q1:=λobj s1=>obj=.ref s.heap.objs.size/\s1={ s with heap:=s.heap.push (setOb #[] 0 (.fresh 0 0 (ledOf w))) }) ⟨rfl,rfl⟩) λr s1 hr=>?_
 cases r with
 | error e=>exact hr
 | ok fl =>
  cases fl with
  | ret obj =>
   obtain⟨rfl,rfl⟩:=hr;have hS:(s.heap.push (setOb #[] 0 (.fresh 0 0 (ledOf w)))).get? s.heap.objs.size=some (setOb #[] 0 (.fresh 0 0 (ledOf w))):=av _ rfl;have hT:ai.TypeIs { s with heap:=s.heap.push (setOb #[] 0 (.fresh 0 0 (ledOf w))) } (.ref s.heap.objs.size) "set":=⟨_,hS,rfl⟩
   have hli:=bq.init.lookup;have hbi:=bq.init.bind (.ref s.heap.objs.size)
   repeat (any_goals (first | assumption | wp_step))
   refine ec (fY (R:=wants (λr s2=>r=.none/\∃ h' tk ms,s2={ s with heap:=h',toks:=tk }/\Mem D h' s.heap.objs.size ks (ledOf w) ms/\TupKeep s.heap h' /\
     (∀ b o,b < s.heap.objs.size->s.heap.get? b=some o->h'.get? b=some o)) E) bq.init.plain kv (check_set_init_1 hT ?_)) λr2 s2 L=>?_
   ·obtain⟨ol,Z,hcl,nl,hdl⟩:=hl;obtain⟨ocls,B,odata,y⟩:=ol;simp only at hcl hdl;subst hcl;subst hdl;have Y:(s.heap.push (setOb #[] 0 (.fresh 0 0 (ledOf w)))).get? l=some { cls:=.type "tuple",dict:=B,data:=.seq items nl,slots:=y }:=ag _ Z;have hsls:=PySem.F.sub_tuple_set;have hslf:=PySem.F.sub_tuple_frozenset;have hne:(cU "tuple" == cU "dict")=false:=by decide
    have hl1:(s.heap.push (setOb #[] 0 (.fresh 0 0 (ledOf w)))).IsTuple l items:=⟨_,Y,rfl,nl,rfl⟩;unfold cu.«set.__init__» noKeywords iO;generalize hPI:jJ=PI;unfold setOb at *
    wp_walk
    subst hPI;refine dR hl1 ?_;refine ad (wpAny_runValue ?_);have hlS:l < s.heap.objs.size:=aw Z;have hh3:A.in1.in1.in1.handled=none:=by simp[hh]
    have hu3:A.in1.in1.in1.units < bU:=by show A.units + 1 + 1 + 1 < bU;lia
    have hneI:l≠(s.heap.push { cls:=.type "set",dict:=none,data:=.set #[] 0 (.fresh 0 0 (ledOf w)) }).objs.size:=by
     rw[bv];exact aG (dg hlS)
    have hSI:s.heap.objs.size≠(s.heap.push { cls:=.type "set",dict:=none,data:=.set #[] 0 (.fresh 0 0 (ledOf w)) }).objs.size:=by
     rw[bv];exact aG (dN _)
    have kp:TupKeep s.heap ((s.heap.push { cls:=.type "set",dict:=none,data:=.set #[] 0 (.fresh 0 0 (ledOf w)) }).push { cls:=.type "tuple_iterator",data:=.fields #[.ref l,.int 0 0] }):=λb o e _=>ag _ (ag _ e)
    have hget:((s.heap.push { cls:=.type "set",dict:=none,data:=.set #[] 0 (.fresh 0 0 (ledOf w)) }).push { cls:=.type "tuple_iterator",data:=.fields #[.ref l,.int 0 0] }).get? s.heap.objs.size
       = some (setOb #[] 0 (.fresh 0 0 (ledOf w))):=ag _ hS
    refine dQx D hh3 hu3 hneI hSI (bj (aG hlS)) hb (items.size - 0) 0 _ (by lia) (bL _) ⟨_,av _ rfl,rfl,rfl⟩ (hl1.push _) (L2.Paired.mapP hi λ_ _ q=>D.keepIs q kp)
     ⟨[],⟨⟨#[],0,.fresh 0 0 (ledOf w),D.fresh hget,rfl,.nil⟩,fZ,λk=>by simp⟩⟩ ?hR
    case hR =>
     intro h' tk' ms hM G O;show ay _ _ _ _ _ _;refine af ?_;show ay _ _ (ret ci) _ _ _;refine af ⟨rfl,h',tk',ms,rfl,hM,kp.trans G,λb o hb e=>?_⟩;exact O b o (aG hb) (by rw[bv];exact aG (dg hb)) (ag _ (ag _ e))
   ·cases r2 with
    | error e=>exact L
    | ok fl2 =>
     cases fl2 with
     | ret r =>
      obtain⟨rfl,h',tk,ms,rfl,hM,G,O⟩:=L
      repeat (any_goals (first | assumption | wp_step))
      exact h _ _ _ hM G O
     | _=>exact L.elim
  | _=>exact hr.elim
end
end ST
namespace L2
open PySem PySem.Spec PyProof.Rows
variable {α β:Type}
theorem eJo {H:Hp} {xs:List V} {us:List ae} {bs:List Bool} (p:aZ (dB H) xs bs) (r:Vals xs us) {i:Nat} {v:ae} (h:us[i]?=some v):∃ b,bs[i]?=some b/\v=.bool b:=by
 have hl:=r.length;have hi:i < xs.length:=by
  rcases bO i us.length with z | z
  ·lia
  ·rw[bB z] at h;cases h
 refine hd λO B=>?_;obtain⟨b,e,L⟩:=Paired.get' p (ah hi);refine B ?_;refine hd λO B=>?_;obtain⟨u,eu,G⟩:=r.get (ah hi);refine B ?_;rw[h] at eu;cases eu;have y:xs[i]=V.bl b:=L;rw[y] at G;exact⟨b,e,G⟩
theorem eQ7 {h h':aO} {o:Obj} (hk:∀ b x,b∉[h.objs.size]->(h.push o).get? b=some x->h'.get? b=some x):∀ b x,h.get? b=some x->h'.get? b=some x:=λb x e =>
 hk b x (λz=>by have:=aB.mp z;subst this;exact cE _ (aw e)) (ag _ e)
theorem cJd (bs:List Bool):∀ n,n=bs.length->((aP n).all λi=>(bs[i]?).getD true)=bs.all id:=by
 rintro n rfl;rw[fJ,bK,bK];refine⟨λh b B=>?_,λh i hi=>?_⟩
 ·obtain⟨i,hi,rfl⟩:=b9 B
  have:=h i (bu.mpr hi)
  rwa [ah hi] at this
 ·have y:=bu.mp hi;rw[ah y];exact h _ (dQ y)
section
variable {X:Cx}
theorem dQy (hc:X.calm=true):CallR X (.builtin "all") (λxs H Q=>∃ x bs,xs=[x]/\dL X.K dB H x bs/\Q (.bl (bs.all id)) H):=by
 intro pins s σ H xs us Q I r h;obtain⟨x,bs,rfl,⟨a,ys,rfl,U,p⟩,q⟩:=h;obtain⟨u,rfl,rx⟩:=aXd r;cases rx;refine hd λGq B=>?_;obtain⟨y,G,pl,_⟩:=I.list U;refine B ?_;refine hd λGq B=>?_;obtain⟨o,Y,_⟩:=id pl.isList;refine B ?_;refine PySem.call_all_walk (fS pl.isList ⟨_,_,_,_,_,_,λi=>(bs[i]?).getD true,rfl,PySem.Walks.list (A:=X.A.in1) (by have:=I.ok.hd hc;simp[this]) _ a (aG (aw Y)) y.toArray,⟨⟨_,av _ rfl,rfl,rfl⟩,pl.isList.push _⟩,λi v s' Q' E' Z L=>?_,λh' O hk=>?_⟩)
 ·obtain⟨b,e,rfl⟩:=eJo p G (show y[i]?=some v by simpa using Z)
  simp only[e,Option.getD_some] at L;exact da L
 ·rw[cJd bs _ (by rw[ar,<- G.length,p.length])]
  exact⟨.bl _,H,I.kept (t':=O) (eQ7 hk),rfl,q⟩
def szO (a:Addr) (n:Nat):HO:=.ext λh=>∃ es ep t,h.get? a=some (ST.setOb es ep t)/\t.fits es.size=true/\es.size=n
def SzOk (ds:List α) (n:Nat):Prop:=n<=ds.length/\(n=ds.length↔ds.Nodup)
theorem bQ5 [DecidableEq α]:∀ (ds ms:List α),ms.Nodup->ms ⊆ ds->ds.length<=ms.length->ds.Nodup
 | [],_,_,_,_=>fZ
 | x::xs,ms,nd,sub,le=>by
  have y:x∉xs:=λy=>by
   have:ms ⊆ xs:=λk hk=>by
    rcases aA.mp (sub hk) with rfl | z
    ·exact y
    ·exact z
   have:=nd.length_le_of_subset this
   simp only[aF] at le;lia
  refine bX.mpr ⟨y,bQ5 xs (ms.erase x) (nd.erase x) (λk hk=>?_) ?_⟩
  ·have i:=(List.Nodup.mem_erase_iff nd).mp hk;exact(aA.mp (sub i.2)).resolve_left i.1
  ·simp only[aF] at le
   have:=List.length_erase (a:=x) (l:=ms)
   split at this <;> lia
theorem dQz [DecidableEq α] {ds ms:List α} (nd:ms.Nodup) (h:∀ k,k∈ms↔k∈ds):SzOk ds ms.length:=by
 have sub:ms ⊆ ds:=λk hk=>(h k).mp hk;have le:ms.length<=ds.length:=nd.length_le_of_subset sub;refine⟨le,λe=>?_,λi=>Nat.le_antisymm le (i.length_le_of_subset λk hk=>(h k).mpr hk)⟩;exact bQ5 ds ms nd sub (by lia)
theorem fJ4 {P:aC} {w:aH} {h:aO} {H:Hp} {K:Fg} {b:Addr} {xs:List V} {its:List ae} {k:List Str} (p:aZ (dS H) xs k) (r:Vals xs its) (t:iF h b its.toArray):ST.TK P w h k (.ref b):=by
 refine hd λO y=>?_;obtain⟨o,B,G,n,hd⟩:=t;refine y ?_;refine⟨b,rfl,o,its.toArray,n,B,G,hd,?_⟩;show ItemsAre (eD P w) k its;have go:∀ {xs:List V} {its:List ae} {k:List Str},aZ (dS H) xs k->Vals xs its->ItemsAre (eD P w) k its:=by
  intro xs its k p r
  induction p generalizing its with
  | nil=>cases r;first | exact trivial | exact .nil
  | cons e _ i =>
   cases r with
   | cons r t =>
    cases e;obtain⟨L,rfl⟩:=r
    first
     | exact⟨by simp[eD,iy],i t⟩
     | exact .cons (by simp[eD,iy]) (i t)
 exact go p r
theorem fJ5 {P:aC} {w:aH} {pins:List (Addr × Obj)} {σ:St} {H:Hp} {s:ai} (I:Inv X pins σ H s):∀ {xs:List V} {us:List ae} {ds:List (List Str)},aZ (dT X.K dS H) xs ds->Vals xs us->aZ (λv k=>ST.TK P w s.heap k v) us ds
 | _,_,_,.nil,.nil=>.nil
 | _,_,_,.cons p q,.cons r t=>by
  refine .cons ?_ (fJ5 I q t);obtain⟨b,ys,rfl,L,pp⟩:=p;cases r;refine hd λO B=>?_;obtain⟨G,y,i,_⟩:=I.tuple L;refine B ?_;exact fJ4 (K:=X.K) pp y i
theorem dZ0 {P:aC} {w:aH} {H:Hp} {h:aO}:∀ {xs:List V} {us:List ae} {ds:List Str},aZ (dS H) xs ds->Vals xs us->aZ (λv k=>(ST.strKd P w).is h k v) us ds
 | _,_,_,.nil,.nil=>.nil
 | _,_,_,.cons p q,.cons r t=>by
  refine .cons ?_ (dZ0 q t);cases p;obtain⟨i,rfl⟩:=r;exact(λb=>(by simp[eD,iy]:(eD P w).is b (ic b i)=true)) _
theorem eZq {κ:Type} [DecidableEq κ] {pins:List (Addr × Obj)} {σ:St} {H:Hp} {s:ai} {Q:VK} {D:ST.SetKd X.prog X.w κ} {ds:List κ} (I:Inv X pins σ H s) (q:∀ p n,H p=none->SzOk ds n->Q (.ref p) (upd H p (szO p n))) {h':aO} {tk:Nat} {ms:List κ} {led:Bool} (M:ST.Mem D h' s.heap.objs.size ds led ms)
  (hk:∀ b o,b < s.heap.objs.size->s.heap.get? b=some o->h'.get? b=some o):EP X pins σ Q (.ref s.heap.objs.size) { s with heap:=h',toks:=tk }:=by
 refine hd λU i=>?_;obtain⟨es,O,t,y,_,hp⟩:=M.ex;refine i ?_;have hl:es.size=ms.length:=by have:=b7 hp;simpa using this
 refine⟨.ref s.heap.objs.size,_,I.laid (t':=tk) (o:=szO s.heap.objs.size ms.length) (λb o e=>hk b o (aw e) e) (au _) ?_,rfl,q _ _ (I.hok.fresh (au _)) (dQz M.nd M.mem)⟩;refine⟨⟨es,O,t,D.obj y,D.fits y,hl⟩,⟨_,D.obj y⟩,?_⟩;intro h1 h2 L k;refine hd λU i=>?_;obtain⟨B,G,t',g,f,z⟩:=L;refine i ?_;exact⟨B,G,t',k _ g,f,z⟩
theorem cJe (hc:X.calm=true) (hu:X.A.units + 8 < bU):CallR X (.type "set") (λxs H Q=>∃ x ds,xs=[x]/\dT X.K (dT X.K dS) H x ds/\ds.length + 1<=300/\∀ p n,H p=none->SzOk ds n->Q (.ref p) (upd H p (szO p n))):=by
 intro pins s σ H xs us Q I r h;obtain⟨x,ds,rfl,⟨a,ys,rfl,G,p⟩,L,q⟩:=h;obtain⟨u,rfl,rx⟩:=aXd r;cases rx;refine hd λU y=>?_;obtain⟨B,i,pl,_⟩:=I.tuple G;refine y ?_;exact ST.call_setT (ST.tupKd X.prog X.w) (I.ok.hd hc) hu pl (fJ5 I p i) (by rw[ar,<- i.length,p.length];exact L) λh' O ms M _ hk=>eZq I q M hk
theorem cJf (hc:X.calm=true) (hu:X.A.units + 8 < bU):CallR X (.type "set") (λxs H Q=>∃ x ds,xs=[x]/\dL X.K dS H x ds/\ds.length + 1<=300/\∀ p n,H p=none->SzOk ds n->Q (.ref p) (upd H p (szO p n))):=by
 intro pins s σ H xs us Q I r h;obtain⟨x,ds,rfl,⟨a,ys,rfl,G,p⟩,L,q⟩:=h;obtain⟨u,rfl,rx⟩:=aXd r;cases rx;refine hd λU y=>?_;obtain⟨B,i,pl,_⟩:=I.list G;refine y ?_;exact ST.call_setK (ST.strKd X.prog X.w) (I.ok.hd hc) hu pl.isList (dZ0 p i) (by rw[ar,<- i.length,p.length];exact L) λh' O ms M _ hk=>eZq I q M hk
theorem dZ1:CallR X (.builtin "len") (λxs H Q=>∃ p n,xs=[.ref p]/\H p=some (szO p n)/\n < 1000000/\Q (.int n) H):=by
 intro pins s σ H xs us Q I r h;obtain⟨p,n,rfl,hp,y,q⟩:=h;obtain⟨u,rfl,rx⟩:=aXd r;cases rx;refine hd λG i=>?_;obtain⟨⟨es,B,t,g,f,z⟩,_⟩:=I.hok p _ hp;refine i ?_;refine call_len_set g ⟨rfl,rfl,rfl⟩ rfl f (by rw[z];lia) ⟨.int n,H,I.tok _,⟨_,by rw[z]⟩,q⟩
end
end L2
namespace L2
open PySem PySem.Spec PyProof.Rows
section
variable {prog:aC} {w:aH} {A:aQ} {E:ae->ai->Prop} {s:ai}
theorem bXx {it t:Addr} {i:Nat} {items:Array ae} {x:ae} {Q:ae->ai->Prop} (hit:s.heap.IsTupleIter it t i) (ht:s.heap.IsTuple t items) (hx:items[i]?=some x)
  (hQ:∀ h',h'.IsTupleIter it t (i + 1)->dA it s.heap h'->Q x { s with heap:=h' }):ay (az prog w) A (cH (.ref it)) Q E s:=by
 obtain⟨o,y,L,hd⟩:=id hit;obtain⟨ol,B,_,nl,G⟩:=ht;have ne:¬ ((bI t == ci)=true):=bo;refine ad (cC (name:=aN "__next__") hit.typeIs F.slot_tuple_iterator_next (cD F.slot_tuple_iterator_next hit.typeIs F.entry_tuple_iterator_next ?_ (F.args_tuple_iterator_next_1 _)));refine ad (m:=field (.ref it) 0) (cw y hd (x:=.ref t) rfl ?_);refine(if_neg ne).symm ▸ (ad (m:=field (.ref it) 1) (cw y hd (x:=.int i 0) rfl ?_));refine ad (m:=io (.ref t)) (bR B G ?_);simp only[bN,hx];refine ad (wpAny_setField y hd (by simp) (af ⟨x,rfl,af (hQ _ ⟨_,bP _ y (Obj.isFreed_of_fields (Obj.data_mapFields hd _)),(Obj.cls_mapFields ..).trans L,?_⟩ (cz ..))⟩))
 rw[Obj.data_mapFields hd];simp[eG]
theorem cZy {it t:Addr} {i:Nat} {items:Array ae} {Q:ae->ai->Prop} (hh:A.handled=none) (hit:s.heap.IsTupleIter it t i) (ht:s.heap.IsTuple t items) (hx:items[i]?=none)
  (hE:∀ h' e,aO.ExtBut it s.heap h'->(∃ o,h'.get? e=some o/\o.cls=.type "StopIteration")->E (.ref e) { s with heap:=h' }):ay (az prog w) A (cH (.ref it)) Q E s:=by
 obtain⟨o,G,O,hd⟩:=id hit;obtain⟨ol,B,_,nl,L⟩:=ht;have ne:¬ ((bI t == ci)=true):=bo;refine ad (cC (name:=aN "__next__") hit.typeIs F.slot_tuple_iterator_next (cD F.slot_tuple_iterator_next hit.typeIs F.entry_tuple_iterator_next ?_ (F.args_tuple_iterator_next_1 _)));refine ad (m:=field (.ref it) 0) (cw G hd (x:=.ref t) rfl ?_);refine(if_neg ne).symm ▸ (ad (m:=field (.ref it) 1) (cw G hd (x:=.int i 0) rfl ?_));refine ad (m:=io (.ref t)) (bR B L ?_);simp only[bN,hx];refine ad (fD (ad (wpAny_setField G hd (by simp) (ad (m:=newExc (.type "StopIteration") []) ?_))))
 simp only[newExc,newTuple];refine ad (bi (ad (m:=jr _ _) (iG (a:=ci) (by first | rfl | (simp only[jr];rfl)) (bi ?_ (by size_fits)))) (by size_fits))
 simp only[raiseNew];refine ad (wpAny_handled ?_)
 first | rw[show A.in1.handled=none from hh] | rw[hh]
 exact ad (af (wpAny_throw (hE _ _ (((cz ..).extBut.push _).push _) ⟨_,av _ rfl,rfl⟩)))
theorem dZ2 (hh:A.handled=none) (it l:Addr) (hne:l≠it) (items:Array ae):Draws prog w A it [it,l] items.size (λi v=>items[i]?=some v) (λi h=>h.IsTupleIter it l i/\h.IsTuple l items) where
 live:=λ_ _ st=>let ⟨o,B,_⟩:=st.1;⟨o,B⟩
 frame:=λ_ _ _ st hk=>⟨let ⟨o,B,r⟩:=st.1;⟨o,hk it (by simp) o B,r⟩,let ⟨o,B,r⟩:=st.2;⟨o,hk l (by simp) o B,r⟩⟩
 item:=λi s Q E hi st L=>bXx st.1 st.2 (x:=items[i]) (by simp[hi]) λh' G y=>L _ h' s.toks (by simp[hi]) ⟨G,st.2.extBut y.extBut hne⟩ y
 done:=λs Q E st O=>cZy hh st.1 st.2 (by simp) O
theorem fJ6 (l:Addr) (items:Array ae) (n:Nat) (dct:Option Addr) (sl:Array (Option ae)) :
  Meets (cu.«enumerate.__new__» ⟨[.type "enumerate",.ref l],[]⟩) (λ_ R s=>s.heap.get? l=some { cls:=.type "tuple",dict:=dct,data:=.seq items n,slots:=sl } /\
   R (.ok (.ret (.ref (s.heap.push { cls:=.type "tuple_iterator",data:=.fields #[.ref l,.int 0 0] }).objs.size)))
    { s with heap:=(s.heap.push { cls:=.type "tuple_iterator",data:=.fields #[.ref l,.int 0 0] }).push { cls:=.type "enumerate",data:=.fields #[.none,.bool false,.ref s.heap.objs.size,eG 0,.none,.none] } }) :=
 .of_wp λprog w A R s h=>by
  obtain⟨hp,g,d,G,os⟩:=s;obtain⟨hl,h⟩:=h;have y:=sub_enumerate;have B:kx (ai.heap ⟨hp,g,d,G,os⟩) l items:=⟨_,hl,rfl,n,rfl⟩
  wp_walk using bf hl
  refine wpAny_stack_any λst=>af ?_
  split
  ·rename_i c _ _ _ _ _;cases (c == cU "enumerate") <;>
   ·wp_walk using bf hl,dR B
    exact⟨_,rfl,h⟩
  ·wp_walk using bf hl,dR B
   exact⟨_,rfl,h⟩
theorem eJp {l:Addr} {items:Array ae} {Q:ae->ai->Prop} (hT:s.heap.IsTuple l items)
  (h:∀ h',IsEnum h' (s.heap.objs.size + 1) s.heap.objs.size 0 .none->h'.IsTupleIter s.heap.objs.size l 0->(∀ b o,s.heap.get? b=some o->h'.get? b=some o)->Q (.ref (s.heap.objs.size + 1)) { s with heap:=h' }) :
  ay (az prog w) A (call (.type "enumerate") [.ref l]) Q E s:=by
 obtain⟨⟨c,B,dt,sl⟩,hl,y,n,hd⟩:=hT;replace y:c=.type "tuple":=y;replace hd:dt=.seq items n:=hd;subst y hd;refine callType_new F.called_enumerate (by decide) (F.typeCall_enumerate_1 _) (F.newCall_enumerate_1 _) (λobj=>F.args_object_init_2 obj _) F.entry_enumerate_new (fJ6 l items n B sl) ⟨hl,?_⟩
 generalize i:({ cls:=.type "tuple_iterator",data:=.fields #[.ref l,.int 0 0] }:Obj)=o1;have G:(s.heap.push o1).objs.size=s.heap.objs.size + 1:=bv ..;have he:=av (s.heap.push o1) (o:={ cls:=.type "enumerate",data:=.fields #[.none,.bool false,.ref s.heap.objs.size,eG 0,.none,.none] }) rfl;have hi:(s.heap.push o1).get? s.heap.objs.size=some o1:=av _ (by rw[<- i];rfl)
 show _/\_;rw[G] at he ⊢;exact⟨⟨_,he,rfl⟩,h _ he ⟨o1,ag _ hi,by rw[<- i],by rw[<- i];rfl⟩ λb o x=>ag _ (ag _ x)⟩
end
def Ite (K:Fg) (a:Addr):It:=⟨λi H=>∃ xs x,SqT K H a xs/\xs[i]?=some x,λi H x H'=>∃ p y,H p=none/\x=.ref p/\H'=upd H p (.tup [.int i,y])/\∀ xs,SqT K H a xs->xs[i]?=some y,λi H=>∃ xs,SqT K H a xs/\xs.length<=i⟩
theorem eJq {P:aC} {w:aH} {K:Fg} {elts:List Expr} {x1:Nat} {pos:Pos} (a it e:Addr) (hei:e≠it) (hae:a≠e) (hai:a≠it):Turn P w K (.Tuple elts x1 pos) (Ite K a) [e,it] e (λi h=>(∃ old,IsEnum h e it i old)/\h.IsTupleIter it a i) where
 mem:=by simp
 obj:=λi h st b G=>by
  obtain⟨⟨old,he⟩,o,Z,hc,hd⟩:=st;rcases aA.mp G with rfl | G
  ·exact⟨_,he,λv z=>by cases z⟩
  ·have:=aB.mp G
   subst this;exact⟨o,Z,λv z=>by rw[hd] at z;cases z⟩
 keep:=λi h h' st k=>by
  obtain⟨⟨old,he⟩,o,Z,r⟩:=st;exact⟨⟨old,k e (by simp) _ he⟩,o,k it (by simp) _ Z,r⟩
 item:=by
  intro X hP hw hK hc i pins s σ H E I hf st hg;subst hP hw hK;obtain⟨xs,x,hq,hx⟩:=hg;obtain⟨its,rv,p,hz⟩:=I.tuple hq;obtain⟨u,hu,ru⟩:=rv.get hx;obtain⟨⟨old,he⟩,O⟩:=st;have hi:i < its.toArray.size:=by
   rcases bO i its.toArray.size with z | z
   ·exact z
   ·rw[ar] at z;rw[bB z] at hu;cases hu
  have hh:X.A.in1.handled=none:=by have:=I.ok.hd hc;simp[this]
  have hT:s.heap.IsTuple a its.toArray:=p;refine wpAny_pyNext_enum_itemD (dZ2 hh it a hai its.toArray) he ⟨O,hT⟩ hi hei (by simp;exact⟨hei,λz=>hae z.symm⟩) λy h' tk hy Z hs' hT' hsz hk=>⟨_,rfl,?_⟩
  have hy':y=u:=by
   have:its[i]?=some y:=by simpa using hy
   rw[hu] at this;exact(aK this).symm
  subst hy';refine wpAny_letOwnedTupleGo_enum Z λh2 he2 Y=>?_;have fe:=hf e (by simp)
  have fi:=hf it (by simp)
  have kk:∀ b o,b≠e->b≠it->s.heap.get? b=some o->h2.get? b=some o:=λb o n1 n2 g=>(Y.2 b n1).trans (hk b o n1 n2 g);have hel:e < s.heap.objs.size:=aw he;have B:H s.heap.objs.size=none:=I.hok.fresh (au _);have nT:∀ b o,s.heap.get? b=some o->b≠s.heap.objs.size:=λb o g=>aG (aw g);have nH:∀ b u,H b=some u->b≠e/\b≠it:=λb u g=>⟨λz=>(by rw[z,fe.1] at g;cases g),λz=>(by rw[z,fi.1] at g;cases g)⟩
  have U:h2.get? s.heap.objs.size=some { cls:=.type "tuple",data:=.seq #[.int i tk,y] }:=(Y.2 _ (dD hel)).trans hT';have hok:HOk X.prog X.w (upd H s.heap.objs.size (.tup [.int i,x])) h2:=λb ob g=>by
   by_cases G:b=s.heap.objs.size
   ·subst G;rw[aQc] at g;cases g;refine⟨by rw[bD];show 2<=_;decide,[.int i tk,y],.cons ⟨tk,rfl⟩ (.cons ru .nil),⟨_,U,rfl,0,rfl⟩,λo e=>by rw[U] at e;cases e;rfl⟩
   ·rw[upd_ne G] at g;refine(I.hok b ob g).stay (λc w' L q=>?_) (λc q=>?_) λc ys q=>?_
    ·rcases L with rfl | L
     ·exact kk _ _ (nH _ _ g).1 (nH _ _ g).2 q
     ·exact kk _ _ (nH _ _ L).1 (nH _ _ L).2 q
    ·rw[upd_ne (aQ9 q B)];exact q
    ·rw[upd_ne (aQ9 q B)];exact q
  have un:Un (frs X.stack) [e,it] H (upd H s.heap.objs.size (.tup [.int i,x])) s.heap h2:=by
   have ab:∀ {b:Addr},b∉[e,it]->b≠e/\b≠it:=λG=>⟨λz=>G (by simp[z]),λz=>G (by simp[z])⟩
   exact⟨λb o g _ _ G=>kk b o (ab G).1 (ab G).2 g,λb o g _ _ G=>⟨o.slots,kk b o (ab G).1 (ab G).2 g⟩,λb o g n _=>by rw[upd_ne (nT b o g)];exact n,λb o g G=>⟨o,kk b o (ab G).1 (ab G).2 g⟩,
    λb ys g=>by rw[upd_ne (aQ9 g B)];exact g,λb o v g=>by rw[upd_ne (aQ9 g B)];exact g,λb ps g=>⟨#[],by rw[upd_ne (aQ9 g B),g];simp⟩⟩
  have I2:Inv X pins σ (upd H s.heap.objs.size (.tup [.int i,x])) { s with heap:=h2,toks:=tk + 1 }:=I.call' (s':={ s with heap:=h2,toks:=tk + 1 }) rfl un hok I.bare λb G=>by
   rcases aA.mp G with rfl | G
   ·exact⟨fe.2.2.2.1,fe.2.1,fe.2.2.2.2.1,fe.2.2.2.2.2⟩
   ·have:=aB.mp G
    subst this;exact⟨fi.2.2.2.1,fi.2.1,fi.2.2.2.2.1,fi.2.2.2.2.2⟩
  refine⟨.ref s.heap.objs.size,_,I2,rfl,⟨_,x,B,rfl,rfl,λys hy=>by rw[I.tuple_inj hy hq];exact hx⟩,⟨⟨_,by simpa using he2⟩,?_⟩,λb G=>?_⟩
  ·obtain⟨o,g,r⟩:=hs'.1;exact⟨o,(Y.2 it (bj hei)).trans g,r⟩
  ·have hb':b < s.heap.objs.size:=by
    rcases aA.mp G with rfl | G
    ·exact hel
    ·have:=aB.mp G
     subst this;obtain⟨o,g,_⟩:=O;exact aw g
   rw[upd_ne (aG hb')];exact(hf b G).1
 done:=by
  intro X hP hw hK hc i pins s σ H E I hf st hg;subst hP hw hK;obtain⟨xs,hq,hx⟩:=hg;obtain⟨its,rv,p,hz⟩:=I.tuple hq;obtain⟨⟨old,he⟩,O⟩:=st;have hl:=rv.length;have hh:X.A.in1.handled=none:=by have:=I.ok.hd hc;simp[this]
  have hT:s.heap.IsTuple a its.toArray:=p;obtain⟨f0,f1,f2,f3,f4,f5⟩:=hf it (by simp)
  have hT2:s.TypeIs (.ref e) "enumerate":=⟨_,he,rfl⟩;unfold eP;refine ad (iC (cC (name:=aN "__next__") hT2 F.slot_enumerate_next (cD F.slot_enumerate_next hT2 F.entry_enumerate_next ?_ (F.args_enumerate_next_1 _))));refine ad (m:=field (.ref e) 2) (cw he rfl (x:=.ref it) rfl (ad (cZy hh O hT (by simp;lia) λh' x he' hx'=>?_)))
  obtain⟨o,Z,L⟩:=hx';refine ad (eF (T:="StopIteration") (b:=true) ⟨o,Z,L⟩ isSubtype_stop ?_);exact af ⟨rfl,I.turned (t':=s.toks) (λb o G g=>he' b o G g) f0 f1 f3 f4 f5⟩
 self:=λA i s Q E st h=>by
  obtain⟨⟨old,he⟩,_⟩:=st;exact wpAny_pyIter_enum he h
section
variable {X:Cx}
def iEnT (K:Fg) (ta:TA):TI:=fun σ H R=>ta σ H λvs H1=>∃ a,vs=[.ref a]/\(∃ xs,SqT K H1 a xs)/\R (Ite K a) H1
theorem gX2 {e:Expr} {ta:TA} {p pos:Pos} {elts:List Expr} {x1:Nat} {tpos:Pos} (hg:Gl X "enumerate") (hm:X.mg "enumerate"=none) (ha:PA X [e] ta) (hs:am [e] X.env=[(false,eval e X.env)]:=by rfl) :
  PI X (.Tuple elts x1 tpos) (.Call (.Name "enumerate" p) [e] [] pos) (iEnT X.K ta):=by
 intro pins s σ H R I h;refine Call_ (ld_blt I hg hm PyProof.Rows.boot_enumerate (dz (thn (ha pos pins s σ H _ I h) λus s1 ⟨vs,H1,i,L,O⟩=>?_) hs rfl));obtain⟨a,rfl,⟨xs,U⟩,q⟩:=O;obtain⟨u,rfl,rx⟩:=aXd L;cases rx;obtain⟨B,Y,pl,Z⟩:=i.tuple U;have y:a < s1.heap.objs.size:=by obtain⟨o,e,_⟩:=id pl;exact aw e
 refine eJp (show s1.heap.IsTuple a B.toArray from pl) λh' he hi hk=>wpAny_pyIter_enum he ?_
 refine⟨s1.heap.objs.size + 1,[s1.heap.objs.size + 1,s1.heap.objs.size],_,_,H1,rfl,i.kept (t':=s1.toks) hk,eJq a s1.heap.objs.size (s1.heap.objs.size + 1) (Nat.succ_ne_self _) (aG (dg y)) (aG y),⟨⟨_,he⟩,hi⟩,λb G=>?_,q⟩;rcases aA.mp G with rfl | G
 ·exact i.fpOk (dJ _) (i.hok.fresh (dJ _))
 ·have:=aB.mp G
  subst this;exact i.fpOk (au _) (i.hok.fresh (au _))
end
end L2
namespace HT
open PySem PyProof.Rows
def ltS (a b:Str):Bool:=decide (a.cps.toList < b.cps.toList)
def lexS:List Str->List Str->Bool
 | [],[]=>false
 | [],_::_=>true
 | _::_,[]=>false
 | x::xs,y::ys=>if x=y then lexS xs ys else ltS x y
theorem lexS_cons (x y:Str) (xs ys:List Str):lexS (x::xs) (y::ys)=if x=y then lexS xs ys else ltS x y:=rfl
theorem bQ6:lexS [] []=false:=rfl
theorem lexS_nil_cons (y:Str) (ys:List Str):lexS [] (y::ys)=true:=rfl
theorem lexS_cons_nil (x:Str) (xs:List Str):lexS (x::xs) []=false:=rfl
abbrev SAre:List ae->List Str->Prop:=aZ λv x=>∃ t,v=.str x t
theorem SAre.len {l:List ae} {m:List Str} (h:SAre l m):l.length=m.length:=b7 h
theorem dZ3 (A:aQ) (s:ai) (a:Str) (t:Tok) (c:Str) (u:Tok):∃ e,cR A s (.str a t) (.str c u) e/\(e=true↔a=c) :=
 ⟨(a == c),js a t c u,by simp⟩
theorem rcLt_st (A:aQ) (s:ai) (a:Str) (t:Tok) (c:Str) (u:Tok) (prog:aC) (w:aH) (E:ae->ai->Prop) (Q:ae->ai->Prop) (h:Q (.bool (ltS a c)) s) :
  ay (az prog w) A (richCompare .Lt (.str a t) (.str c u)) Q E s :=
 (kY h:ay (az prog w) A (bM .Lt (.str a t) (.str c u)) Q E s)
section
open PySem.SeqAt
open PySem.AutoSeq1 (wpAny_loadPart')
open PySem.MeetsSeq PySem.MeetsSeq2 PySem.MeetsSeq3
theorem tuple_lt_strs (l b:Addr) (items items2:Array ae) (n n2:Nat) (dd dd2:Option Addr) (sl sl2:Array (Option ae)) (ns ms:List Str) (hi:SAre items.toList ns) (hj:SAre items2.toList ms) :
  Meets (cu.«tuple.__lt__» ⟨[.ref l,.ref b],[]⟩)
   (λ_ R s=>s.heap.get? l=some { cls:=.type "tuple",dict:=dd,data:=.seq items n,slots:=sl }/\s.heap.get? b=some { cls:=.type "tuple",dict:=dd2,data:=.seq items2 n2,slots:=sl2 } /\
    R (.ok (.ret (.bool (lexS ns ms)))) s) :=
 .of_wp λprog w A R s h=>by
  obtain⟨hp,g,d,tk,os⟩:=s;obtain⟨hl,hb,h⟩:=h;have f2:=gB;have z1:items.size=ns.length:=by rw[<- hi.len];simp
  have z2:items2.size=ms.length:=by rw[<- hj.len];simp
  wp_walk using bf hl,bf hb,gk _ (λrest b s'=>b.1=none/\s'=⟨hp,g,d,tk,os⟩/\∃ (vs ws:List ae) (B G:List Str),rest=vs.zip ws /\
   SAre vs B/\SAre ws G/\B.length + items2.size=G.length + items.size/\R (.ok (.ret (.bool (lexS B G)))) ⟨hp,g,d,tk,os⟩) _
  case turn =>
   rintro⟨y,x⟩ rest b s' ⟨Y,rfl,vs,ws,B,G,hz,hvi,hwi,hlen,O⟩;cases hvi with
   | nil=>rw[fT] at hz;cases hz
   | @cons va a _ _ ha hvi' =>
    obtain⟨t,rfl⟩:=ha;cases hwi with
    | nil=>rw[b0] at hz;cases hz
    | @cons vc c _ _ hc Z =>
     obtain⟨u,rfl⟩:=hc;rw[cK] at hz;injection hz with hyx U
     injection hyx with hy hx
     subst hy hx;rw[lexS_cons] at O;simp only[aF] at hlen;obtain⟨e,he,L⟩:=dZ3 A.in1 ⟨hp,g,d,tk,os⟩ a t c u;refine ad (he prog w _ _ ?_);cases e with
     | true =>
      rw[if_pos (L.mp rfl)] at O
      wp_walk
      exact⟨rfl,rfl,_,_,_,_,U,hvi',Z,by lia,O⟩
     | false =>
      rw[if_neg (λq=>absurd (L.mpr q) bo)] at O;have hri:=rcLt_st A.in1 ⟨hp,g,d,tk,os⟩ a t c u prog w
      wp_walk using hri
      exact⟨_,rfl,by simpa using O⟩
  case fin =>
   rintro⟨b1,b2⟩ s' ⟨Y,rfl,vs,ws,B,G,hz,hvi,hwi,hlen,O⟩;simp only at Y;subst Y;have hv:lexS B G=decide (items.size < items2.size):=by
    cases hvi with
    | nil =>
     cases hwi with
     | nil =>
      simp only[dr] at hlen;rw[bQ6];exact(decide_eq_false (by lia)).symm
     | cons hc hw =>
      simp only[dr,aF] at hlen;rw[lexS_nil_cons];exact(decide_eq_true (by lia)).symm
    | cons ha hv =>
     cases hwi with
     | nil =>
      simp only[dr,aF] at hlen;rw[lexS_cons_nil];exact(decide_eq_false (by lia)).symm
     | cons hc hw =>
      rw[cK] at hz;cases hz
   rw[hv] at O
   wp_walk
   exact⟨_,rfl,by simpa [fq] using O⟩
  case h =>
   exact⟨rfl,rfl,items.toList,items2.toList,ns,ms,rfl,hi,hj,by lia,h⟩
end
section
variable {prog:aC} {w:aH} {A:aQ} {E:ae->ai->Prop} {s:ai}
theorem lt_tupStrs {l b:Addr} {items items2:Array ae} {ns ms:List Str} {Q:ae->ai->Prop} (hl:iF s.heap l items) (hb:iF s.heap b items2) (hi:SAre items.toList ns) (hj:SAre items2.toList ms)
  (hu:A.units < bU) (h:Q (.bool (lexS ns ms)) s):ay (az prog w) A (bM .Lt (.ref l) (.ref b)) Q E s:=by
 obtain⟨⟨cls,dd,data,sl⟩,L,O,n,hd⟩:=id hl;obtain⟨⟨U,G,data2,B⟩,i,y,Y,hd2⟩:=id hb;simp only at O hd y hd2;subst O hd y hd2;exact fE (op:=.Lt) ⟨_,L,rfl⟩ ⟨_,i,rfl⟩ fP g9 (gN _ _) (tuple_lt_strs l b items items2 n Y dd G sl B ns ms hi hj)
  ⟨L,i,show gF (lexS ns ms)≠f6/\Q (.bool (lexS ns ms)) s from⟨(λx=>nomatch x),h⟩⟩ hu
end
end HT
namespace L2
open PySem PySem.Spec PyProof.Rows
theorem aJ4 {H:Hp}:∀ {xs:List V} {us:List ae} {ds:List Str},aZ (dS H) xs ds->Vals xs us->HT.SAre us ds
 | _,_,_,.nil,.nil=>.nil
 | _,_,_,.cons p q,.cons r t=>by
  cases p;exact .cons r (aJ4 q t)
def rLtS (K:Fg):R2:=λx y H Q=>∃ d e,dT K dS H x d/\dT K dS H y e/\Q (.bl (HT.lexS d e)) H
theorem fJ7 {X:Cx} (hu:X.A.units < bU):OpR X (bM .Lt) (rLtS X.K):=by
 intro pins s σ H x y v u Q I rx ry h;obtain⟨d,e,⟨a,xs,rfl,ha,O⟩,⟨b,ys,rfl,Z,L⟩,q⟩:=h;cases rx;cases ry;obtain⟨Y,G,U,_⟩:=I.tuple ha;obtain⟨i,B,p2,_⟩:=I.tuple Z;exact HT.lt_tupStrs U p2 (aJ4 O G) (aJ4 L B) hu ⟨.bl (HT.lexS d e),H,I,rfl,q⟩
variable {α β γ:Type}
theorem fJ8 {X:Cx} {N':List Str} {scope:Scope} {cl:List (Str × Addr)} {C:Addr} {fp:List Addr} {s:ai} {H:Hp} {x:Str}:(aQk X N' scope cl C fp s H (some x)).fn x=true:=decide_eq_true rfl
theorem gX3 (l:List α) (h:l≠[]):atI l (-1)=some (l.getLast h):=by
 unfold atI ixN;have hl:0 < l.length:=c8.mpr h;have e:(-1 + (l.length:Int)).toNat=l.length - 1:=by lia
 rw[if_neg (by decide),if_pos (by lia),e]
 show l[l.length - 1]?=_;rw[j0,ah (by lia)]
theorem nd_ (l:List Str) (h:l.Nodup:=by decide +kernel):l.Nodup:=h
theorem lt64 {k n:Nat} {A:aQ} (r:Room k A) (h:n<=64:=by decide):A.units + n < bU:=by have:=r.units;lia
section
variable {X:Cx} {K:Fg} {tg:Expr} {a:Expr} {ta:TE}
theorem eJr (hK:X.K=K:=by rfl):SlR X (rSlT K):=hK ▸ fXn
theorem eQ8 (hK:X.K=K:=by rfl):SlR X (rSlL K):=hK ▸ eJ8
theorem eQ9 (hK:X.K=K:=by rfl):OpR X (eX .Add) (eJ6 K):=hK ▸ eJ7
theorem cQw (hK:X.K=K:=by rfl):CallR X (.type "tuple") (λxs H Q=>∃ p ys,xs=[.ref p]/\((SqL K H p ys/\∀ l,H l=none->Q (.ref l) (upd H l (.tup ys)))\/(SqT K H p ys/\Q (.ref p) H))):=hK ▸ bXm
theorem cJg (hK:X.K=K:=by rfl):CallR X (.type "list") (λxs H Q=>∃ p ys,xs=[.ref p]/\(SqL K H p ys\/SqT K H p ys)/\∀ l,H l=none->Q (.ref l) (upd H l (.lst ys))):=hK ▸ call_list_of
theorem dZ4 (hK:X.K=K:=by rfl) (hc:X.calm=true:=by rfl):CallR X (.builtin "all") (λxs H Q=>∃ x bs,xs=[x]/\dL K dB H x bs/\Q (.bl (bs.all id)) H):=hK ▸ dQy hc
theorem cQx (hu:X.A.units + 8 < bU) (hK:X.K=K:=by rfl) (hc:X.calm=true:=by rfl):CallR X (.type "set") (λxs H Q=>∃ x ds,xs=[x]/\dT K (dT K dS) H x ds/\ds.length + 1<=300/\∀ p n,H p=none->SzOk ds n->Q (.ref p) (upd H p (szO p n))):=hK ▸ cJe hc hu
theorem cQy (hu:X.A.units + 8 < bU) (hK:X.K=K:=by rfl) (hc:X.calm=true:=by rfl):CallR X (.type "set") (λxs H Q=>∃ x ds,xs=[x]/\dL K dS H x ds/\ds.length + 1<=300/\∀ p n,H p=none->SzOk ds n->Q (.ref p) (upd H p (szO p n))):=hK ▸ cJf hc hu
theorem eJs (hu:X.A.units < bU) (hK:X.K=K:=by rfl):OpR X (bM .Lt) (rLtS K):=hK ▸ fJ7 hu
theorem dZ5 (ha:PE X a ta) (he:∀ whole,isTrue a X.env whole=(do let v <- whole;fu a.pos;dX [v] (truthy v))) (hK:X.K=K:=by rfl):PT X a (fun σ H Q=>ta σ H λx H'=>∃ k,TruV K x H' k/\Q k H'):=by subst hK;exact dJl ha he
theorem fJ9 {e:Expr} {ta:TA} {p pos:Pos} {elts:List Expr} {x1:Nat} {tpos:Pos} (hg:Gl X "enumerate") (hm:X.mg "enumerate"=none) (ha:PA X [e] ta) (hs:am [e] X.env=[(false,eval e X.env)]:=by rfl) (hK:X.K=K:=by rfl) :
  PI X (.Tuple elts x1 tpos) (.Call (.Name "enumerate" p) [e] [] pos) (iEnT K ta):=by subst hK;exact gX2 hg hm ha hs
end
end L2
namespace KS
open PySem PySem.W PyProof.Rows
def run {α:Type} (lt:Nat->Nat->Bool):KasT α->α
 | .ret a=>a
 | .ask i j k=>run lt (k (lt i j))
theorem aXt {α β:Type} {lt:Nat->Nat->Bool} {f:α->KasT β}:∀ t:KasT α,run lt (t.bind f)=run lt (f (run lt t))
 | .ret _=>rfl
 | .ask i j k=>aXt (k (lt i j))
structure Ord (lt:Nat->Nat->Bool) (n:Nat):Prop where
 tot:∀ i j,i < n->j < n->i≠j->lt i j=false->lt j i=true
 asy:∀ i j,lt i j=true->lt j i=false
 tr:∀ i j k,lt i j=true->lt j k=true->lt i k=true
variable {lt:Nat->Nat->Bool} {n:Nat}
abbrev at' (p:Array Nat) (k:Nat):Nat:=p.getD k 0
theorem bJx (p:Array Nat) (k:Nat):at' p k=(p[k]?).getD 0:=by
 unfold at'
 by_cases h:k < p.size
 ·simp[cS,h]
 ·simp[cS,h]
structure Vd (n:Nat) (p:Array Nat):Prop where
 sz:p.size=n
 pm:p.toList.Perm (aP n)
theorem Vd.low {p:Array Nat} (v:Vd n p) {a:Nat} (h:a < n):at' p a < n:=by
 have i:a < p.size:=by rw[v.sz];exact h
 have e:at' p a=p[a]:=by simp[at',cS,i]
 rw[e]
 have:p[a]∈p.toList:=by simp
 exact bu.mp (v.pm.mem_iff.mp this)
theorem Vd.ne {p:Array Nat} (v:Vd n p) {a b:Nat} (ha:a < n) (hb:b < n) (hab:a≠b):at' p a≠at' p b:=by
 have nd:p.toList.Nodup:=v.pm.nodup_iff.mpr jY;have y:a < p.size:=by rw[v.sz];exact ha
 have i:b < p.size:=by rw[v.sz];exact hb
 have e:at' p a=p[a]:=by simp[at',cS,y]
 have G:at' p b=p[b]:=by simp[at',cS,i]
 rw[e,G];intro z;have B:p.toList[a]'(by simpa using y)=p.toList[b]'(by simpa using i):=by simpa using z
 exact hab ((ie nd).mp B)
theorem Vd.perm {p q:Array Nat} (v:Vd n p) (h:q.Perm p):Vd n q:=⟨by
 have:=h.toList.length_eq
 simp only[cy] at this;rw[this,v.sz],h.toList.trans v.pm⟩
def Asc (lt:Nat->Nat->Bool) (p:Array Nat) (m:Nat):Prop:=∀ a b,a < b->b < m->lt (at' p a) (at' p b)=true
def Dsc (lt:Nat->Nat->Bool) (p:Array Nat) (m:Nat):Prop:=∀ a b,a < b->b < m->lt (at' p b) (at' p a)=true
theorem Asc.up (o:Ord lt n) {p:Array Nat} {m:Nat} (h:Asc lt p m) (h1:1<=m) (hl:lt (at' p (m - 1)) (at' p m)=true):Asc lt p (m + 1):=λa b i B=>by
 rcases bO b m with z | z
 ·exact h a b i z
 ·have e:b=m:=by lia
  subst e;rcases bO a (b - 1) with y | y
  ·exact o.tr _ _ _ (h a (b - 1) y (by lia)) hl
  ·have e:a=b - 1:=by lia
   rw[e];exact hl
theorem Dsc.up (o:Ord lt n) {p:Array Nat} {m:Nat} (h:Dsc lt p m) (h1:1<=m) (hl:lt (at' p m) (at' p (m - 1))=true):Dsc lt p (m + 1):=λa b i B=>by
 rcases bO b m with z | z
 ·exact h a b i z
 ·have e:b=m:=by lia
  subst e;rcases bO a (b - 1) with y | y
  ·exact o.tr _ _ _ hl (h a (b - 1) y (by lia))
  ·have e:a=b - 1:=by lia
   rw[e];exact hl
theorem cQz (o:Ord lt n) {p:Array Nat} (v:Vd n p):∀ (f m:Nat),1<=m->m + f<=n->Asc lt p m->m<=run lt (kas_asc p f m)/\run lt (kas_asc p f m)<=m + f/\Asc lt p (run lt (kas_asc p f m))/\(run lt (kas_asc p f m) < m + f->lt (at' p (run lt (kas_asc p f m))) (at' p (run lt (kas_asc p f m) - 1))=true)
 | 0,m,_,_,h=>⟨au _,au _,h,λz=>absurd z (cE _)⟩
 | f + 1,m,h1,hf,h=>by
  show _<=run lt (if lt (at' p m) (at' p (m - 1))=true then KasT.ret m else kas_asc p f (m + 1))/\run lt (if lt (at' p m) (at' p (m - 1))=true then KasT.ret m else kas_asc p f (m + 1))<=_/\Asc lt p (run lt (if lt (at' p m) (at' p (m - 1))=true then KasT.ret m else kas_asc p f (m + 1)))/\(run lt (if lt (at' p m) (at' p (m - 1))=true then KasT.ret m else kas_asc p f (m + 1)) < _->lt (at' p (run lt (if lt (at' p m) (at' p (m - 1))=true then KasT.ret m else kas_asc p f (m + 1)))) (at' p (run lt (if lt (at' p m) (at' p (m - 1))=true then KasT.ret m else kas_asc p f (m + 1)) - 1))=true)
  cases c:lt (at' p m) (at' p (m - 1)) with
  | true =>
   rw[if_pos rfl];exact⟨au _,by show m<=_;lia,h,λ_=>c⟩
  | false =>
   rw[if_neg (by simp)]
   obtain⟨a,b,i,d⟩:=cQz o v f (m + 1) (by lia) (by lia) (h.up o h1 (o.tot _ _ (v.low (by lia)) (v.low (by lia)) (v.ne (by lia) (by lia) (by lia)) c))
   exact⟨by lia,by lia,i,λz=>d (by lia)⟩
theorem cZz (o:Ord lt n) {p:Array Nat} (v:Vd n p):∀ (f m:Nat),1<=m->m + f<=n->Dsc lt p m->∃ m',run lt (kas_desc f p m 0)=(p,m',0)/\m<=m'/\m'<=m + f/\Dsc lt p m'
 | 0,m,_,_,h=>⟨m,rfl,au _,au _,h⟩
 | f + 1,m,h1,hf,h=>by
  cases c:lt (at' p m) (at' p (m - 1)) with
  | true =>
   obtain⟨m',e,a,b,d⟩:=cZz o v f (m + 1) (by lia) (by lia) (h.up o h1 c)
   refine⟨m',?_,by lia,by lia,d⟩
   show run lt (if lt (at' p m) (at' p (m - 1))=true then (if 0 > 0 then kas_desc f (kas_rev p (m - (0 + 1)) m) (m + 1) 0 else kas_desc f p (m + 1) 0) else _)=_
   rw[c,if_pos rfl,if_neg (by lia)]
   exact e
  | false =>
   have i:=o.tot _ _ (v.low (a:=m) (by lia)) (v.low (a:=m - 1) (by lia)) (v.ne (by lia) (by lia) (by lia)) c
   refine⟨m,?_,by lia,by lia,h⟩
   show run lt (if lt (at' p m) (at' p (m - 1))=true then _ else KasT.ask (p.getD (m - 1) 0) (p.getD m 0) λd=>if d=true then KasT.ret (p,m,0) else kas_desc f p (m + 1) (0 + 1))=_
   rw[c,if_neg (by simp)]
   show run lt (if lt (at' p (m - 1)) (at' p m)=true then KasT.ret (p,m,0) else kas_desc f p (m + 1) (0 + 1))=_
   rw[i,if_pos rfl]
   rfl
theorem cX0 {p:Array Nat} (v:Vd n p) (m:Nat):Vd n (kas_rev p 0 m):=v.perm (mirror_perm _ _ _ _)
theorem eZr {p:Array Nat} (v:Vd n p) {m:Nat} (hm:m<=n) {a:Nat} (ha:a < m):at' (kas_rev p 0 m) a=at' p (m - 1 - a):=by
 rw[bJx,bJx];unfold kas_rev;rw[getElem?_mirror_all (by rw[v.sz];exact hm),if_pos ⟨bL _,ha⟩,km]
theorem eJt {p:Array Nat} (v:Vd n p) {m:Nat} (hm:m<=n) (h:Dsc lt p m):Asc lt (kas_rev p 0 m) m:=λa b y i=>by
 rw[eZr v hm (by lia),eZr v hm i]
 exact h _ _ (by lia) (by lia)
theorem eQa (o:Ord lt n) {p:Array Nat} (v:Vd n p) {m:Nat} (h1:1<=m) (hm:m<=n) (h:Dsc lt p m):Vd n (run lt (kas_tail3 m n p)).2/\1<=(run lt (kas_tail3 m n p)).1/\(run lt (kas_tail3 m n p)).1<=n/\Asc lt (run lt (kas_tail3 m n p)).2 (run lt (kas_tail3 m n p)).1:=by
 unfold kas_tail3;rw[aXt];obtain⟨a,b,c,_⟩:=cQz o (cX0 v m) (n - m) m h1 (by lia) (eJt v hm h)
 exact⟨cX0 v m,by show 1<=run lt _;lia,by show run lt _<=n;lia,c⟩
theorem bJy (o:Ord lt n) {p:Array Nat} (v:Vd n p) (hn:1<=n):Vd n (run lt (kas_count n p)).2/\1<=(run lt (kas_count n p)).1/\(run lt (kas_count n p)).1<=n/\Asc lt (run lt (kas_count n p)).2 (run lt (kas_count n p)).1:=by
 unfold kas_count;rw[aXt];have one:Asc lt p 1:=λa b h1 h2=>by lia
 obtain⟨y,O,i,hd⟩:=cQz o v (n - 1) 1 (au _) (by lia) one
 generalize run lt (kas_asc p (n - 1) 1)=m at y O i hd
 by_cases e:(m == n)=true
 ·rw[if_pos e]
  have:m=n:=by simpa using e
  exact⟨v,y,by show m<=n;lia,i⟩
 ·rw[if_neg e];have G:m≠n:=by simpa using e
  by_cases h1:m > 1
  ·rw[if_pos h1];have c:lt (p.getD 0 0) (p.getD (m - 1) 0)=true:=i 0 (m - 1) (by lia) (by lia)
   show Vd n (run lt (if lt (p.getD 0 0) (p.getD (m - 1) 0)=true then KasT.ret (m,p) else kas_descPart m n (kas_rev p 0 m))).2/\1<=(run lt (if lt (p.getD 0 0) (p.getD (m - 1) 0)=true then KasT.ret (m,p) else kas_descPart m n (kas_rev p 0 m))).1/\(run lt (if lt (p.getD 0 0) (p.getD (m - 1) 0)=true then KasT.ret (m,p) else kas_descPart m n (kas_rev p 0 m))).1<=n/\Asc lt (run lt (if lt (p.getD 0 0) (p.getD (m - 1) 0)=true then KasT.ret (m,p) else kas_descPart m n (kas_rev p 0 m))).2 (run lt (if lt (p.getD 0 0) (p.getD (m - 1) 0)=true then KasT.ret (m,p) else kas_descPart m n (kas_rev p 0 m))).1
   rw[c,if_pos rfl];exact⟨v,y,by show m<=n;lia,i⟩
  ·rw[if_neg h1];have em:m=1:=by lia
   subst em;have d2:Dsc lt p 2:=λa b U L=>by
    have e1:a=0:=by lia
    have e2:b=1:=by lia
    subst e1 e2;exact hd (by lia)
   obtain⟨B,e',h2,h3,Y⟩:=cZz o v (n - 2) 2 (by lia) (by lia) d2
   have Z:run lt (kas_descPart 1 n p)=run lt (kas_tail3 B n p):=by
    unfold kas_descPart;rw[aXt];show run lt (if (run lt (kas_desc (n - 2) p 2 0)).2.2 > 0 then _ else kas_tail3 (run lt (kas_desc (n - 2) p 2 0)).2.1 n (run lt (kas_desc (n - 2) p 2 0)).1)=_
    rw[e',if_neg (by show ¬ 0 > 0;lia)]
   rw[Z];exact eQa o v (by lia) (by lia) Y
theorem bZ4 (o:Ord lt n) {p:Array Nat} (v:Vd n p) {k:Nat} (hk:k < n) (h:Asc lt p k):∀ (f l r:Nat),l<=r->r<=k->r - l<=f->(∀ a,a < l->lt (at' p a) (at' p k)=true)->(∀ b,r<=b->b < k->lt (at' p k) (at' p b)=true) ->
  ∃ z,run lt (kas_place p k f l r)=z/\z<=k/\(∀ a,a < z->lt (at' p a) (at' p k)=true)/\∀ b,z<=b->b < k->lt (at' p k) (at' p b)=true
 | 0,l,r,h1,h2,Y,B,y=>⟨l,rfl,by lia,B,λb L=>y b (by lia)⟩
 | f + 1,l,r,h1,h2,Y,B,y=>by
  show ∃ z,run lt (if l >= r then KasT.ret l else _)=z/\_
  by_cases i:l >= r
  ·rw[if_pos i];exact⟨l,rfl,by lia,B,λb L=>y b (by lia)⟩
  ·rw[if_neg i];show ∃ z,run lt (if lt (at' p k) (at' p ((l + r) / 2))=true then kas_place p k f l ((l + r) / 2) else kas_place p k f ((l + r) / 2 + 1) r)=z/\_
   have hm:(l + r) / 2 < k:=by lia
   cases c:lt (at' p k) (at' p ((l + r) / 2)) with
   | true =>
    rw[if_pos rfl];refine bZ4 o v hk h f l ((l + r) / 2) (by lia) (by lia) (by lia) B λb L G=>?_
    rcases Nat.eq_or_lt_of_le L with e | e
    ·rw[<- e];exact c
    ·exact o.tr _ _ _ c (h _ _ e G)
   | false =>
    rw[if_neg (by simp)]
    have O:=o.tot _ _ (v.low hk) (v.low (a:=(l + r) / 2) (by lia)) (v.ne hk (by lia) (by lia)) c
    refine bZ4 o v hk h f ((l + r) / 2 + 1) r (by lia) h2 (by lia) (λa U=>?_) y
    rcases Nat.eq_or_lt_of_le (dF U) with e | e
    ·rw[e];exact O
    ·exact o.tr _ _ _ (h _ _ e hm) O
theorem dZ6 (o:Ord lt n):∀ (f:Nat) {p:Array Nat} {k:Nat},Vd n p->k + f=n->Asc lt p k->Vd n (run lt (kas_bin f p k))/\Asc lt (run lt (kas_bin f p k)) n
 | 0,p,k,v,e,h=>by
  have:k=n:=by lia
  subst this;exact⟨v,h⟩
 | f + 1,p,k,v,e,h=>by
  have hk:k < n:=by lia
  show Vd n (run lt ((kas_place p k k 0 k).bind _))/\Asc lt (run lt ((kas_place p k k 0 k).bind _)) n;rw[aXt];obtain⟨z,U,Y,h1,h2⟩:=bZ4 o v hk h k 0 k (bL _) (au _) (by lia) (λa Z=>by lia) (λb L G=>by lia)
  rw[U];have B:Vd n (bubble p k (k - z)):=v.perm (bubble_perm _ _ _);refine dZ6 o f B (by lia) λa b O L=>?_
  have g:∀ j,at' (bubble p k (k - z)) j=if j=z then at' p k else if z < j/\j<=k then at' p (j - 1) else at' p j:=λj=>by
   rw[bJx,getElem?_bubble (by rw[v.sz];exact hk) (k - z) (by lia),show k - (k - z)=z by lia]
   split
   ·rw[bJx]
   ·split <;> rw[bJx]
  rw[g,g]
  by_cases ea:a=z
  ·rw[if_pos ea,if_neg (by lia),if_pos ⟨by lia,by lia⟩]
   exact h2 _ (by lia) (by lia)
  ·rw[if_neg ea]
   by_cases y:b=z
   ·rw[if_pos y,if_neg (by lia)]
    exact h1 _ (by lia)
   ·rw[if_neg y]
    by_cases ca:z < a/\a<=k <;> by_cases i:z < b/\b<=k
    ·rw[if_pos ca,if_pos i];exact h _ _ (by lia) (by lia)
    ·lia
    ·rw[if_neg ca,if_pos i];exact h _ _ (by lia) (by lia)
    ·rw[if_neg ca,if_neg i];exact h _ _ (by lia) (by lia)
theorem eQb (o:Ord lt n) (hn:1<=n):Vd n (run lt (kas_sort n))/\Asc lt (run lt (kas_sort n)) n:=by
 unfold kas_sort;rw[aXt];have v0:Vd n (gp (aP n)):=⟨by simp,by simp⟩
 obtain⟨a,b,c,d⟩:=bJy o v0 hn
 by_cases h:(run lt (kas_count n (gp (aP n)))).1 < n
 ·rw[if_pos h];have e:max (run lt (kas_count n (gp (aP n)))).1 1=(run lt (kas_count n (gp (aP n)))).1:=by lia
  rw[e];exact dZ6 o _ a (by lia) d
 ·rw[if_neg h];have e:(run lt (kas_count n (gp (aP n)))).1=n:=by lia
  rw[e] at d;exact⟨a,d⟩
def Okq {α:Type} (lt:Nat->Nat->Bool) (n:Nat):KasT α->Prop
 | .ret _=>True
 | .ask i j k=>i < n/\j < n/\Okq lt n (k (lt i j))
theorem aXu {α β:Type} {f:α->KasT β}:∀ t:KasT α,Okq lt n t->Okq lt n (f (run lt t))->Okq lt n (t.bind f)
 | .ret _,_,h=>h
 | .ask i j k,⟨a,b,c⟩,h=>⟨a,b,aXu (k (lt i j)) c h⟩
theorem Vd.any {p:Array Nat} (v:Vd n p) (hn:1<=n) (a:Nat):p.getD a 0 < n:=by
 by_cases h:a < n
 ·exact v.low h
 ·have:¬ a < p.size:=by rw[v.sz];exact h
  simp[cS,this];lia
theorem cZ0 {p:Array Nat} (v:Vd n p) (hn:1<=n):∀ f m,Okq lt n (kas_asc p f m)
 | 0,_=>trivial
 | f + 1,m=>⟨v.any hn _,v.any hn _,by
  dsimp only
  split
  ·trivial
  ·exact cZ0 v hn f (m + 1)⟩
theorem dZ7 {p:Array Nat} (v:Vd n p) (i j:Nat):Vd n (kas_rev p i j):=v.perm (mirror_perm _ _ _ _)
theorem bQl (hn:1<=n):∀ (f:Nat) {p:Array Nat} (m q:Nat),Vd n p->Okq lt n (kas_desc f p m q)/\Vd n (run lt (kas_desc f p m q)).1
 | 0,p,m,q,v=>⟨trivial,v⟩
 | f + 1,p,m,q,v=>by
  show(_/\_/\Okq lt n (if lt (p.getD m 0) (p.getD (m - 1) 0)=true then (if q > 0 then kas_desc f (kas_rev p (m - (q + 1)) m) (m + 1) 0 else kas_desc f p (m + 1) 0) else _))/\Vd n (run lt (if lt (p.getD m 0) (p.getD (m - 1) 0)=true then (if q > 0 then kas_desc f (kas_rev p (m - (q + 1)) m) (m + 1) 0 else kas_desc f p (m + 1) 0) else _)).1
  by_cases c:lt (p.getD m 0) (p.getD (m - 1) 0)=true
  ·rw[if_pos c]
   by_cases i:q > 0
   ·rw[if_pos i];obtain⟨a,b⟩:=bQl hn f (m + 1) 0 (dZ7 v (m - (q + 1)) m);exact⟨⟨v.any hn _,v.any hn _,a⟩,b⟩
   ·rw[if_neg i];obtain⟨a,b⟩:=bQl hn f (m + 1) 0 v;exact⟨⟨v.any hn _,v.any hn _,a⟩,b⟩
  ·rw[if_neg c];show(_/\_/\_/\_/\Okq lt n (if lt (p.getD (m - 1) 0) (p.getD m 0)=true then KasT.ret (p,m,q) else kas_desc f p (m + 1) (q + 1)))/\Vd n (run lt (if lt (p.getD (m - 1) 0) (p.getD m 0)=true then KasT.ret (p,m,q) else kas_desc f p (m + 1) (q + 1))).1
   by_cases d:lt (p.getD (m - 1) 0) (p.getD m 0)=true
   ·rw[if_pos d];exact⟨⟨v.any hn _,v.any hn _,v.any hn _,v.any hn _,trivial⟩,v⟩
   ·rw[if_neg d];obtain⟨a,b⟩:=bQl hn f (m + 1) (q + 1) v;exact⟨⟨v.any hn _,v.any hn _,v.any hn _,v.any hn _,a⟩,b⟩
theorem cX1 {p:Array Nat} (v:Vd n p) (hn:1<=n) (m k:Nat):Okq lt n (kas_tail3 m k p):=aXu _ (cZ0 (cX0 v m) hn _ _) trivial
theorem bQ7 {p:Array Nat} (v:Vd n p) (hn:1<=n) (m k:Nat):Okq lt n (kas_descPart m k p):=by
 obtain⟨a,b⟩:=bQl (lt:=lt) hn (k - (m + 1)) (m + 1) 0 v;refine aXu _ a ?_
 split
 ·exact cX1 (dZ7 b _ _) hn _ _
 ·exact cX1 b hn _ _
theorem dZ8 {p:Array Nat} (v:Vd n p) (hn:1<=n) (k:Nat):Okq lt n (kas_count k p):=by
 refine aXu _ (cZ0 v hn _ _) ?_
 split
 ·trivial
 ·split
  ·refine⟨v.any hn _,v.any hn _,?_⟩;dsimp only
   split
   ·trivial
   ·exact bQ7 (cX0 v _) hn _ _
  ·exact bQ7 v hn _ _
theorem bZ5 {p:Array Nat} (v:Vd n p) (hn:1<=n) (k:Nat):∀ f l r,Okq lt n (kas_place p k f l r)
 | 0,_,_=>trivial
 | f + 1,l,r=>by
  show Okq lt n (if l >= r then KasT.ret l else _)
  split
  ·trivial
  ·refine⟨v.any hn _,v.any hn _,?_⟩;dsimp only
   split
   ·exact bZ5 v hn k f _ _
   ·exact bZ5 v hn k f _ _
theorem dZ9 (hn:1<=n):∀ (f:Nat) {p:Array Nat} (k:Nat),Vd n p->Okq lt n (kas_bin f p k)
 | 0,_,_,_=>trivial
 | f + 1,p,k,v=>aXu _ (bZ5 v hn k _ _ _) (dZ9 hn f (k + 1) (v.perm (bubble_perm _ _ _)))
theorem eQc (o:Ord lt n) (hn:1<=n):Okq lt n (kas_sort n):=by
 have v0:Vd n (gp (aP n)):=⟨by simp,by simp⟩
 refine aXu _ (dZ8 v0 hn n) ?_
 split
 ·exact dZ9 hn _ _ (bJy o v0 hn).1
 ·trivial
theorem eZs {α:Type} {cmp:Nat->Nat->(Bool->ai->Prop)->ai->Prop} {s:ai} (hc:∀ i j C,i < n->j < n->C (lt i j) s->cmp i j C s) {Q:α->ai->Prop}:∀ t:KasT α,Okq lt n t->Q (run lt t) s->t.kasWp cmp Q s
 | .ret a,_,q=>q
 | .ask i j k,⟨a,b,c⟩,q=>hc i j _ a b (eZs hc (k (lt i j)) c q)
end KS
set_option maxHeartbeats 1000000
namespace ST
open PySem PySem.SetTable PySem.Spec PyProof.Rows
theorem bZw:entryFor table "set.__iter__"=some cu.«frozenset.__iter__»:=entryFor_alias (id':="frozenset.__iter__") (by kernel_rfl) rfl (by decide +kernel) (by kernel_rfl)
theorem slot_setit_next:Slot "set_iterator" "__next__" "set_iterator.__next__" :=
 .of (owner:="set_iterator") (n:="__next__") (by rw[typeLookup_type,builtinLookup_eq_fast];kernel_rfl) (by decide +kernel) (by decide +kernel) (by decide +kernel)
  (by first | exact .inl (by decide +kernel) | exact .inr (by decide +kernel)) (by rw[isSubtype_type];kernel_rfl)
theorem bQd:entryFor table "set_iterator.__next__"=some cu.«set_iterator.__next__»:=entryFor_of_tree (by kernel_rfl)
theorem bZ6 (a:ae):argsOk "set_iterator.__next__" ⟨[a],[]⟩:=by unfold argsOk;kernel_rfl
theorem eQd:typeLookup (.type "set") "__len__"=pure (some (.builtin "set.__len__")):=by rw[typeLookup_type,builtinLookup_eq_fast];kernel_rfl
section
variable {prog:aC} {w:aH} {A:aQ} {E:ae->ai->Prop} {s:ai}
theorem eJu {p:Addr} {es:Array (Int × ae)} {ep:Nat} {t:aJ} {Q:Bool->ai->Prop} (ho:s.heap.get? p=some (setOb es ep t)) (h:Q false s):ay (az prog w) A (i7 (.ref p)) Q E s:=by
 have y:s.TypeIs (.ref p) "set":=⟨_,ho,rfl⟩;unfold i7;refine ad (wpAny_specialOf y eQd ?_);dsimp only;have G:splitId "set.__len__"=some ("set", "__len__"):=by decide +kernel
 rw[G];dsimp only;refine ad (eF (b:=true) y (by rw[isSubtype_type];kernel_rfl) ?_)
 rw[if_neg (show ¬ ((!true)=true) by decide)]
 refine iP (λB=>?_) (λB=>absurd (by decide +kernel) B)
 refine ad (gT y ?_);exact af h
theorem bXb {α:Type} {l:List α} {i:Nat} (h:i < l.length):(l[i]::l.eraseIdx i).Perm l:=by
 have e:l=l.take i++l[i]::l.drop (i + 1):=by
  rw[<- eR h,eO]
 rw[List.eraseIdx_eq_take_drop_succ];refine List.perm_middle.symm.trans ?_;rw[<- e]
theorem eJv {n:Nat} {Q:Nat->ai->Prop} (hn:n≠0) (h:∀ i,i < n->Q i { s with drawn:=s.drawn.bump .order }):ay (az prog w) A (choose .order n) Q E s:=fun Γ p hΓ=>by
 show Sem.wp _ _ (.choose .order n .pure) _ _ _ _;rw[Sem.wp_choose];exact⟨hn,h _ (li _ (Nat.pos_of_ne_zero hn))⟩
theorem fJa {α:Type}:∀ (n:Nat) (xs:List α) {s:ai} {Q:List α->ai->Prop},xs.length=n->(∀ ys d,ys.Perm xs->Q ys { s with drawn:=d })->ay (az prog w) A (drawOrder n xs) Q E s
 | 0,xs,s,Q,hl,h=>by
  have e:xs=[]:=j3.mp hl;subst e;unfold drawOrder;exact af (h [] s.drawn (gY _))
 | n + 1,xs,s,Q,hl,h=>by
  cases xs with
  | nil=>cases hl
  | cons x r =>
   unfold drawOrder;refine ad ?_;have y:(x::r).length≠0:=by simp
   refine eJv y λi hi=>?_;have B:(x::r)[i]?=some (x::r)[i]:=ah hi;rw[B];dsimp only;refine ad (fJa n ((x::r).eraseIdx i) (s:={ s with drawn:=s.drawn.bump .order }) (by rw[jt hi];simp at hl ⊢;omega) λys d hp=>?_)
   refine af (h _ d ?_);refine(hp.cons _).trans ?_;exact bXb hi
theorem bJz {α:Type} (next:Nat->Nat):∀ (fuel k:Nat) (left:List α) (out:Array α),left.length=fuel->(lv next fuel k left out).toList.Perm (out.toList++left)
 | 0,k,left,out,hl=>by
  have e:left=[]:=j3.mp hl;subst e;unfold lv;rw[bA]
 | fuel + 1,k,left,out,hl=>by
  unfold lv;have hi:next k % left.length < left.length:=li _ (by omega)
  rw[ah hi];dsimp only;refine(bJz next fuel (k + 1) _ _ (by rw[jt hi];omega)).trans ?_
  rw[jH,bY];exact kJ _ (bXb hi)
theorem bZx {α:Type} (next:Nat->Nat) (xs:Array α):(ja next xs).toList.Perm xs.toList:=by
 have:=bJz next xs.size 0 xs.toList #[] (by simp)
 simpa [ja] using this
def itOb (first:ae) (i:Nat) (p:Addr) (n ep:Nat):Obj:={ cls:=.type "set_iterator",dict:=none,data:=.fields #[first,.int i 0,.ref p,.int n 0,.int ep 0],slots:=#[] }
theorem eJw {I:Addr} {Q:Option ae->ai->Prop} {s:ai} (hh:A.in1.handled=none) (h:∀ h',(∀ b o,s.heap.get? b=some o->h'.get? b=some o)->Q none { s with heap:=h' }) :
  ay (az prog w) A.in1 (newExc (.type "StopIteration") [] >>= λe=>(raiseNew e:Sem Fin)) (λfin s'=>∃ r,fin=.done (.ret r)/\ay (az prog w) A (pure (some r)) Q E s') (λe s'=>ay (az prog w) A (do if <- isInstance e (.type "StopIteration") then pure none else throw e) Q E s') s:=by
 refine ad ?_;simp only[newExc,newTuple];refine ad (bi ?_ (by size_fits))
 refine ad (m:=jr _ _) (iG (a:=ci) (by first | rfl | (simp only[jr];rfl)) ?_)
 refine bi ?_ (by size_fits)
 simp only[raiseNew];refine ad (wpAny_handled ?_);rw[hh];refine ad (af (wpAny_throw ?_));refine ad (eF (T:="StopIteration") (b:=true) ⟨_,av _ rfl,rfl⟩ isSubtype_stop ?_);exact af (h _ λb o e=>ag _ (ag _ e))
theorem aJt {I p:Addr} {es:Array (Int × ae)} {ep:Nat} {t:aJ} {first:ae} {i:Nat} {Q:Option ae->ai->Prop} (hp:s.heap.get? p=some (setOb es ep t)) (hf:t.fits es.size=true) (hI:s.heap.get? I=some (itOb first i p es.size ep))
  (h:ay (az prog w) A.in1 (if let .int slot _:=first then do
    match <- setNext p slot.toNat (i:Int).toNat (ep:Int).toNat with
    | some (x,next)=>do
     kU (.ref I) 0 (eG next)
     kU (.ref I) 1 (eG ((i:Int) + 1))
     ret x
    | none=>do kU (.ref I) 2 .none;raiseNew (<- newExc (.type "StopIteration") [])
   else do
    let some places <- io first | iJ "internal:set_iterator"
    match places[(i:Int).toNat]? with
    | some (.int place _)=>do
     let x <- setNextDrawn p place.toNat (ep:Int).toNat
     kU (.ref I) 1 (eG ((i:Int) + 1))
     ret x
    | some _=>iJ "internal:set_iterator"
    | none=>do kU (.ref I) 0 (eG 0);kU (.ref I) 2 .none;raiseNew (<- newExc (.type "StopIteration") []))
   (λfin s'=>∃ r,fin=.done (.ret r)/\ay (az prog w) A (pure (some r)) Q E s') (λe s'=>ay (az prog w) A (do if <- isInstance e (.type "StopIteration") then pure none else throw e) Q E s') s) :
  ay (az prog w) A (eP (.ref I)) Q E s:=by
 have y:s.TypeIs (.ref I) "set_iterator":=⟨_,hI,rfl⟩;unfold eP;refine ad (iC (cC (name:=aN "__next__") y slot_setit_next
  (cD slot_setit_next y bQd ?_ (bZ6 _))))
 unfold cu.«set_iterator.__next__» slotArgs;simp only[List.isEmpty_nil,gA,aE,↓reduceIte,bind_assoc,dr,bne_self_eq_false];refine ad (af ?_)
 try dsimp only
 refine ad (wpAny_fieldsOf hI rfl ?_);dsimp only;refine ad (wpAny_setEntries_of hp rfl hf ?_);rw[if_neg (by simp)]
 exact h
structure Gives (prog:aC) (w:aH) (A:aQ) (I:Addr) (fp:List Addr) (vals:List ae) (St:Nat->aO->Prop):Prop where
 mem:I∈fp
 frame:∀ i h h',St i h->(∀ b∈fp,∀ o,h.get? b=some o->h'.get? b=some o)->St i h'
 item:∀ (i:Nat) (s:ai) (v:ae) (Q:Option ae->ai->Prop) (E:ae->ai->Prop),vals[i]?=some v->St i s.heap ->
  (∀ h',St (i + 1) h'->(∀ b o,b≠I->s.heap.get? b=some o->h'.get? b=some o)->Q (some v) { s with heap:=h' })->ay (az prog w) A (eP (.ref I)) Q E s
 done:∀ (s:ai) (Q:Option ae->ai->Prop) (E:ae->ai->Prop),St vals.length s.heap ->
  (∀ h',(∀ b o,b≠I->s.heap.get? b=some o->h'.get? b=some o)->Q none { s with heap:=h' })->ay (az prog w) A (eP (.ref I)) Q E s
theorem cX2 {p:Addr} {es:Array (Int × ae)} {ep i:Nat} {t:aJ} {Q:Option (ae × Nat)->ai->Prop} (hp:s.heap.get? p=some (setOb es ep t)) (hf:t.fits es.size=true) (hw:w.params.followText "set-order"=true)
  (h:Q (((ja (w.params.setOrder p ep) es)[i]?).map λe=>(e.2,0)) s):ay (az prog w) A (setNext p (0:Int).toNat (i:Int).toNat (ep:Int).toNat) Q E s:=by
 unfold setNext;refine ad (dG hp rfl hf ?_);dsimp only;unfold setsByText;refine ad (ad (eE (af ?_)));have y:(az prog w).w.params.followText "set-order"=true:=hw;rw[y,if_pos rfl,if_neg (by simp)]
 unfold setWalk;refine ad (ad (dG hp rfl hf ?_));dsimp only;unfold setsByText;refine ad (ad (eE (af ?_)));rw[y,if_pos rfl];refine ad (eE ?_);refine af (af ?_);rw[bN];exact h
theorem fJb {p I T:Addr} {es:Array (Int × ae)} {ep:Nat} {t:aJ} {vals:List ae} {places:Array ae} (hh:A.in1.handled=none) (hTI:T≠I) (hpI:p≠I) (hl:places.size=vals.length)
  (hpl:∀ (j:Nat) (pl:ae),places[j]?=some pl->∃ q:Nat,pl=jS (q:Int) 0/\∃ e,es[q]?=some e/\vals[j]?=some e.2) :
  Gives prog w A I [I,p,T] vals (λi h=>h.get? p=some (setOb es ep t)/\t.fits es.size=true/\h.get? I=some (itOb (.ref T) i p es.size ep)/\∃ o c,h.get? T=some o/\o.data=.seq places c) where
 mem:=by simp
 frame:=λi h h' st k=>by
  refine hd λGq y=>?_;obtain⟨h1,h2,B,o,c,L,G⟩:=st;refine y ?_;exact⟨k p (by simp) _ h1,h2,k I (by simp) _ B,o,c,k T (by simp) _ L,G⟩
 item:=λi s v Q E hv st U=>by
  refine hd λGq y=>?_;obtain⟨h1,h2,B,o,c,L,G⟩:=st;refine y ?_;refine aJt h1 h2 B ?_;dsimp only;refine ad (bR L G ?_);dsimp only;have hi:i < places.size:=by rw[hl];exact(bd.mp hv).1
  refine hd λGq y=>?_;obtain⟨q,e1,e,e2,e3⟩:=hpl i places[i] (by simp[hi]);refine y ?_
  have Z:places[(i:Int).toNat]?=some (jS (q:Int) 0):=by rw[bN,<- e1];simp[hi]
  rw[Z];dsimp only;have ev:e.2=v:=by rw[hv] at e3;exact(aK e3).symm
  refine ad ?_;unfold setNextDrawn;refine ad (dG h1 rfl h2 ?_);dsimp only;rw[if_neg (by simp),bN,e2]
  dsimp only;refine af ?_;refine ad (bG B (by show 1 < 5;decide) λh' g1 g2=>?_)
  rw[ev];refine af ⟨v,rfl,af (U h' ⟨?_,h2,?_,o,c,?_,G⟩ λb o' O e=>(g2.2 b O).trans e)⟩
  ·exact(g2.2 p hpI).trans h1
  ·exact g1
  ·exact(g2.2 T hTI).trans L
 done:=λs Q E st U=>by
  refine hd λGq y=>?_;obtain⟨h1,h2,B,o,c,L,G⟩:=st;refine y ?_;refine aJt h1 h2 B ?_;dsimp only;refine ad (bR L G ?_);dsimp only;have Z:places[(vals.length:Int).toNat]?=none:=by rw[bN,<- hl];simp
  rw[Z];dsimp only;refine ad (bG B (by show 0 < 5;decide) λh' g1 g2=>?_)
  refine ad (bG g1 (by show 2 < 5;decide) λh'' g3 g4=>?_)
  exact eJw (I:=I) hh λY k=>U Y λb o' O e=>k b o' ((g4.2 b O).trans ((g2.2 b O).trans e))
theorem fJc {p I:Addr} {es:Array (Int × ae)} {ep:Nat} {t:aJ} {vals:List ae} (hh:A.in1.handled=none) (hpI:p≠I) (hw:w.params.followText "set-order"=true) (hv:vals=(ja (w.params.setOrder p ep) es).toList.map (·.2)) :
  Gives prog w A I [I,p] vals (λi h=>h.get? p=some (setOb es ep t)/\t.fits es.size=true/\h.get? I=some (itOb (.int 0 0) i p es.size ep)) where
 mem:=by simp
 frame:=λi h h' st k=>by
  refine hd λGq B=>?_;obtain⟨h1,h2,y⟩:=st;refine B ?_;exact⟨k p (by simp) _ h1,h2,k I (by simp) _ y⟩
 item:=λi s v Q E hv' st U=>by
  refine hd λGq B=>?_;obtain⟨h1,h2,y⟩:=st;refine B ?_;refine aJt h1 h2 y ?_;dsimp only;refine ad (cX2 h1 h2 hw ?_);have Z:((ja (w.params.setOrder p ep) es)[i]?).map (λe=>(e.2,0))=some (v,0):=by
   rw[hv,br,b4] at hv';cases q:(ja (w.params.setOrder p ep) es)[i]? with
   | none=>rw[q] at hv';cases hv'
   | some e=>rw[q] at hv';cases hv';rfl
  rw[Z];dsimp only;refine ad (bG y (by show 0 < 5;decide) λh' g1 g2=>?_)
  refine ad (bG g1 (by show 1 < 5;decide) λG g3 O=>?_)
  refine af ⟨v,rfl,af (U G ⟨?_,h2,g3⟩ λb o' L e=>(O.2 b L).trans ((g2.2 b L).trans e))⟩;exact(O.2 p hpI).trans ((g2.2 p hpI).trans h1)
 done:=λs Q E st U=>by
  refine hd λGq B=>?_;obtain⟨h1,h2,y⟩:=st;refine B ?_;refine aJt h1 h2 y ?_;dsimp only;refine ad (cX2 h1 h2 hw ?_);have Z:(ja (w.params.setOrder p ep) es)[vals.length]?=none:=by
   rw[hv];simp
  rw[Z];dsimp only[Option.map];refine ad (bG y (by show 2 < 5;decide) λG g3 O=>?_)
  exact eJw (I:=I) hh λY k=>U Y λb o' L e=>k b o' ((O.2 b L).trans e)
end
end ST
set_option maxHeartbeats 4000000
namespace ST
open PySem PySem.SetTable PySem.Spec PyProof.Rows
section
variable {prog:aC} {w:aH} {A:aQ} {E:ae->ai->Prop} {s:ai}
theorem cQ0 {p:Addr} {es:Array (Int × ae)} {ep i sl:Nat} {t:aJ} {Q:Option (ae × Nat)->ai->Prop} (hp:s.heap.get? p=some (setOb es ep t)) (hf:t.fits es.size=true) (hw:w.params.followText "set-order"=false) (hled:t.led=true) (h1:t.plain=true\/es.size<=1)
  (h:Q (match es[below t.place sl]?,t.place[below t.place sl]? with | some (_,x),some j=>some (x,j + 1) | _,_=>none) s):ay (az prog w) A (setNext p (sl:Int).toNat (i:Int).toNat (ep:Int).toNat) Q E s:=by
 unfold setNext;refine ad (dG hp rfl hf ?_);dsimp only;unfold setsByText;refine ad (ad (eE (af ?_)));have B:(az prog w).w.params.followText "set-order"=false:=hw;rw[B,if_neg bo];refine iP (λG=>?_) (λ_=>?_)
 ·have y:(!t.plain && decide (es.size > 1))=true:=G;simp only[aI,decide_eq_true_eq] at y;rcases h1 with h1 | h1
  ·rw[h1] at y;exact absurd y.1 (by decide)
  ·lia
 ·refine ad ?_;show ay _ _ (if (!t.led && !es.isEmpty)=true then iJ "set:maker-not-led" else pure ()) _ _ _
  rw[hled,if_neg (by simp)]
  refine af ?_;refine af ?_;rw[bN];exact h
theorem dZa {l:List Nat} (h:l.length<=1):Ris l:=by
 cases l with
 | nil=>exact .nil
 | cons a l =>
  cases l with
  | nil=>exact b5 _ _
  | cons b l=>simp at h
theorem eJx {xs:Array Nat} (hr:Ris xs.toList):below xs 0=0:=by
 obtain⟨_,b,_⟩:=aZx hr 0;cases e:below xs 0 with
 | zero=>rfl
 | succ n=>exact absurd (b 0 (by lia)) (cN _)
theorem eJy {xs:Array Nat} (hr:Ris xs.toList) {i:Nat} (hi:i < xs.size):below xs (xs[i] + 1)=i + 1:=by
 obtain⟨Y,U,O⟩:=aZx hr (xs[i] + 1);have inc:∀ a b (h:a < b) (B:b < xs.size),xs[a] < xs[b]:=λa b y B=>by
  have q:=(cZ.mp hr) a b (by simpa using fc y B) (by simpa using B) y
  simpa using q
 rcases gW (below xs (xs[i] + 1)) (i + 1) with h | h | h
 ·have q:=O i (by lia) hi
  rw[cS,dif_pos hi] at q;have L:xs[i] + 1<=xs[i]:=q;lia
 ·exact h
 ·have q:=U (i + 1) h;have G:i + 1 < xs.size:=by lia
  rw[cS,dif_pos G] at q;have L:xs[i + 1] < xs[i] + 1:=q
  have:=inc i (i + 1) (by lia) G
  lia
theorem bXy {es:Array (Int × ae)} {t:aJ} (hf:t.fits es.size=true):t.place.size=es.size:=by
 unfold lc at hf;simp only[aI,beq_iff_eq] at hf;exact hf.1
theorem fJd {p I:Addr} {es:Array (Int × ae)} {ep:Nat} {t:aJ} {vals:List ae} (hh:A.in1.handled=none) (hpI:p≠I) (hw:w.params.followText "set-order"=false) (hled:t.led=true) (h1s:t.plain=true\/es.size<=1) (hr:Ris t.place.toList) (hv:vals=es.toList.map (·.2)) :
  Gives prog w A I [I,p] vals (λi h=>h.get? p=some (setOb es ep t)/\t.fits es.size=true/\∃ sl:Nat,h.get? I=some (itOb (.int sl 0) i p es.size ep)/\below t.place sl=i) where
 mem:=by simp
 frame:=λi h h' st k=>by
  obtain⟨h1,h2,sl,B,L⟩:=st;exact⟨k p (by simp) _ h1,h2,sl,k I (by simp) _ B,L⟩
 item:=λi s v Q E y st Z=>by
  obtain⟨h1,h2,sl,B,L⟩:=st;refine aJt h1 h2 B ?_;dsimp only;refine ad (cQ0 h1 h2 hw hled h1s ?_);have hps:=bXy h2;have hi:i < es.size:=by
   have:=(bd.mp y).1
   rw[hv] at this;simpa using this
  have G:i < t.place.size:=by lia
  have e0:es[i].2=v:=by
   rw[hv,br,b4,eS hi] at y;exact aK y
  have e1:es[i]?=some (es[i].1,v):=by rw[eS hi,<- e0]
  rw[L,e1,eS G];dsimp only;refine ad (bG B (by show 0 < 5;decide) λh' g1 g2=>?_)
  refine ad (bG g1 (by show 1 < 5;decide) λO g3 Y=>?_)
  exact af ⟨v,rfl,af (Z O ⟨(Y.2 p hpI).trans ((g2.2 p hpI).trans h1),h2,t.place[i] + 1,g3,eJy hr G⟩ λb o' U e=>(Y.2 b U).trans ((g2.2 b U).trans e))⟩
 done:=λs Q E st Z=>by
  obtain⟨h1,h2,sl,B,L⟩:=st;refine aJt h1 h2 B ?_;dsimp only;refine ad (cQ0 h1 h2 hw hled h1s ?_);have nn:es[below t.place sl]?=none:=by
   rw[L,hv];simp
  rw[nn];dsimp only;refine ad (bG B (by show 2 < 5;decide) λO g3 Y=>?_)
  exact eJw (I:=I) hh λh3' k=>Z h3' λb o' U e=>k b o' ((Y.2 b U).trans e)
theorem gX4 {p:Addr} {es:Array (Int × ae)} {ep:Nat} {t:aJ} {Q:ae->ai->Prop} (hh:A.in1.handled=none) (hp:s.heap.get? p=some (setOb es ep t)) (hf:t.fits es.size=true) (hled:t.led=ledOf w) (hpl:t.plain=true->Ris t.place.toList) (hn:es.size<=300)
  (h:∀ I fp vals St h' d,vals.Perm (es.toList.map (·.2))->Gives prog w A I fp vals St->St 0 h'->s.heap.objs.size<=I->(∀ b∈fp,b=p\/s.heap.objs.size<=b)->(∀ b o,s.heap.get? b=some o->h'.get? b=some o)->Q (.ref I) { s with heap:=h',drawn:=d }) :
  ay (az prog w) A (jJ (.ref p)) Q E s:=by
 have hT:s.TypeIs (.ref p) "set":=⟨_,hp,rfl⟩;have hlt:p < s.heap.objs.size:=aw hp;refine wpAny_pyIter_slot hT kK (cD kK hT bZw ?_ (PySem.F.args_set_iter_1 _));unfold cu.«frozenset.__iter__» cu.Frozenset.slot0 slotArgs;simp only[List.isEmpty_nil,gA,aE,↓reduceIte,bind_assoc,dr,bne_self_eq_false];unfold cu.Frozenset.addrOf cu.Frozenset.sizeOf;refine ad (af ?_)
 try dsimp only
 refine ad (af ?_);refine ad (ad (wpAny_setEntries_of hp rfl hf (af ?_)));unfold setDrawn setsByText;refine ad (ad (dG hp rfl hf ?_));dsimp only;refine ad (ad (eE (af ?_)));refine af ?_;have fin:∀ (first:ae) (h1:aO) (d:Drawn) (Q':Fin->ai->Prop),h1.get? p=some (setOb es ep t) ->
   Q' (.done (.ret (.ref h1.objs.size))) { s with heap:=h1.push (itOb first 0 p es.size ep),drawn:=d } ->
   ay (az prog w) A.in1 (do
    let e <- setEpoch p
    let v <- newFields "set_iterator" [first,eG 0,.ref p,eG es.size,eG e]
    ret v) Q' E { s with heap:=h1,drawn:=d }:=by
  intro first h1 d Q' ho hQ';refine ad (wpAny_setEpoch_of (s:={ s with heap:=h1,drawn:=d }) ho rfl hf ?_)
  exact ad (bi (af hQ'))
 refine iP (λhc=>?_) (λhc=>?_)
 ·refine ad (fJa es.size (aP es.size) (by simp) λys d y=>?_)
  have yl:ys.length=es.size:=by have:=y.length_eq;simpa using this
  have yr:∀ q∈ys,q < es.size:=λq hq=>bu.mp (y.mem_iff.mp hq);obtain⟨f1,f2⟩:=cZs (l:=ys) (f:=λq=>(es[q]?).map (·.2)) (λq hq=>by have:=yr q hq;simp[this])
  refine ad (bi ?_ (by show(ys.map λ(i:Nat)=>eG i).toArray.size<=sizeLine;rw[ar,aj,yl,bD];lia))
  generalize U:s.heap.push _=h1;have B:h1.objs.size=s.heap.objs.size + 1:=by rw[<- U,bv]
  have old:∀ b o,s.heap.get? b=some o->h1.get? b=some o:=λb o e=>by rw[<- U];exact ag _ e
  have hTup:h1.get? s.heap.objs.size=some { cls:=.type "tuple",dict:=none,data:=.seq (ys.map λ(i:Nat)=>eG i).toArray }:=by rw[<- U];exact av _ rfl
  refine fin (.ref s.heap.objs.size) h1 d _ (old p _ hp) ?_;have G:=fJb (prog:=prog) (w:=w) (A:=A) (p:=p) (I:=h1.objs.size) (T:=s.heap.objs.size) (es:=es) (ep:=ep) (t:=t) (vals:=ys.filterMap λq=>(es[q]?).map (·.2)) (places:=(ys.map λ(i:Nat)=>eG i).toArray) hh (by rw[B];exact aG (dN _)) (by rw[B];exact aG (dg hlt)) (by simp[f1]) (λj pl hj=>by
   have hj':(ys.map λ(i:Nat)=>eG i)[j]?=some pl:=by simpa using hj
   rw[br] at hj';cases q:ys[j]? with
   | none=>rw[q] at hj';cases hj'
   | some z =>
    rw[q] at hj';have hz:=yr z (bw q);refine⟨z,(aK hj').symm,es[z],by simp[hz],?_⟩
    rw[f2 j,q];simp[hz])
  refine⟨_,rfl, "set_iterator",_,⟨_,av _ rfl,rfl⟩,slot_setit_next.lookup,h _ _ _ _ _ d ?_ G ⟨ag _ (old p _ hp),hf,av _ rfl,_,_,ag _ hTup,rfl⟩ (by rw[B];exact dJ _) (λb hb=>?_) λb o e=>ag _ (old b o e)⟩
  ·refine(y.filterMap _).trans ?_;have e:(aP es.size).filterMap (λq=>(es[q]?).map (·.2))=es.toList.map (·.2):=by
    rw[<- cZv es,List.map_filterMap]
   rw[e]
  ·simp only[aA,fx,or_false] at hb;rcases hb with e | e | e
   ·right;rw[e,B];exact dJ _
   ·exact .inl e
   ·right;rw[e];exact au _
 ·refine ad (af ?_);refine fin (eG 0) s.heap s.drawn _ hp ?_;have Y:p≠s.heap.objs.size:=aG hlt;have small:∀ b∈[s.heap.objs.size,p],b=p\/s.heap.objs.size<=b:=λb hb=>by
   simp only[aA,fx,or_false] at hb;rcases hb with e | e
   ·right;rw[e];exact au _
   ·exact .inl e
  by_cases hw:w.params.followText "set-order"=true
  ·have G:=fJc (prog:=prog) (w:=w) (A:=A) (p:=p) (I:=s.heap.objs.size) (es:=es) (ep:=ep) (t:=t) hh Y hw rfl;exact⟨_,rfl, "set_iterator",_,⟨_,av _ rfl,rfl⟩,slot_setit_next.lookup,h _ _ _ _ _ s.drawn ((bZx _ _).map _) G ⟨ag _ hp,hf,av _ rfl⟩ (au _) small λb o e=>ag _ e⟩
  ·have O:w.params.followText "set-order"=false:=fb.mpr hw;have h1:t.plain=true\/es.size<=1:=by
    have L:¬ ((!(w.params.followText "set-order") && (!t.plain && decide (es.size > 1)))=true):=hc;rw[O] at L
    by_cases Z:t.plain=true
    ·exact .inl Z
    ·have:t.plain=false:=fb.mpr Z
     rw[this] at L;simp at L;exact .inr L
   have hr:Ris t.place.toList:=by
    rcases h1 with h1 | h1
    ·exact hpl h1
    ·exact dZa (by rw[cy,bXy hf];exact h1)
   have hl':t.led=true:=by rw[hled];show(!(w.params.followText "set-order"))=true;rw[O];rfl
   have G:=fJd (prog:=prog) (w:=w) (A:=A) (p:=p) (I:=s.heap.objs.size) (es:=es) (ep:=ep) (t:=t) hh Y O hl' h1 hr rfl;exact⟨_,rfl, "set_iterator",_,⟨_,av _ rfl,rfl⟩,slot_setit_next.lookup,h _ _ _ _ _ s.drawn (gY _) G ⟨ag _ hp,hf,0,av _ rfl,eJx hr⟩ (au _) small λb o e=>ag _ e⟩
theorem eQe {I S:Addr} {fp:List Addr} {vals:List ae} {St:Nat->aO->Prop} {R:jK->ai->Prop} (G:Gives prog w A.in1 I fp vals St) (hn:vals.length<=300) (hSf:S∉fp) (res:ae) :
  ∀ (k i:Nat) (s:ai) (c:Nat),vals.length - i=k->i<=vals.length->St i s.heap->s.heap.get? S=some { cls:=.type "list",dict:=none,data:=.seq (vals.take i).toArray c,slots:=#[] } ->
  (∀ h' c',(∀ b o,b≠S->b≠I->s.heap.get? b=some o->h'.get? b=some o)->h'.get? S=some { cls:=.type "list",dict:=none,data:=.seq vals.toArray c',slots:=#[] }->R (.ok (.ret res)) { s with heap:=h' }) ->
  d9 (az prog w) A (.builtin "list.extend.loop" ⟨[.ref S,.ref I,res],[]⟩) R s:=by
 have Z:S≠I:=λe=>hSf (e ▸ G.mem);intro k
 induction k with
 | zero =>
  intro i s c hk hi y hS hR;have hin:i=vals.length:=by lia
  subst hin;refine bC jz ?_;rw[a8 eT _];show ay _ A.in1 (eP (.ref I) >>= _) _ _ s;refine ad (G.done s _ _ y λh' O=>?_);rw[cf (au _)] at hS;exact af (hR h' c (λb o _ hb e=>O b o hb e) (O S _ Z hS))
 | succ k ih =>
  intro i s c hk hi y hS hR;have L:i < vals.length:=by lia
  have hv:vals[i]?=some vals[i]:=ah L;refine bC jz ?_;rw[a8 eT _];show ay _ A.in1 (eP (.ref I) >>= _) _ _ s;refine ad (G.item i s _ _ _ hv y λh1 st1 k1=>?_);have hS1:=k1 S _ Z hS;have szl:=bD;have B:(vals.take i).toArray.size=i:=by rw[ar,bJ];lia
  show ay _ A.in1 (j4 S (·.push vals[i]) >>= _) _ _ _;refine ad ?_;refine d6 (s:={ s with heap:=h1 }) hS1 rfl (af ⟨cP eT _,?_⟩) (by rw[B];lia) (by show((vals.take i).toArray.push vals[i]).size<=sizeLine + 1;rw[Array.size_push,B];lia)
  have hS2:=bP (bQ (·.push vals[i])) hS1 rfl;have et:(vals.take i).toArray.push vals[i]=(vals.take (i + 1)).toArray:=by
   rw[dH,hv];simp
  obtain⟨c1,hS2'⟩:∃ c1,(h1.update S (bQ (·.push vals[i]))).get? S=some { cls:=.type "list",dict:=none,data:=.seq (vals.take (i + 1)).toArray c1,slots:=#[] }:=⟨_,by rw[<- et];exact hS2⟩
  refine ih (i + 1) { s with heap:=h1.update S (bQ (·.push vals[i])) } c1 (by lia) L (G.frame _ _ _ st1 λb hb o e=>(aX _ _ (λh:S=b=>hSf (by rw[h];exact hb))).trans e) hS2' λh' c' a1 a2=>?_
  ·exact hR h' c' (λb o Y U e=>a1 b o Y U ((aX _ _ (bj Y)).trans (k1 b o U e))) a2
theorem eQf {p:Addr} {es:Array (Int × ae)} {ep:Nat} {t:aJ} {Q:List ae->ai->Prop} (hh:A.handled=none) (hp:s.heap.get? p=some (setOb es ep t)) (hf:t.fits es.size=true) (hled:t.led=ledOf w) (hpl:t.plain=true->Ris t.place.toList) (hn:es.size<=300)
  (h:∀ vals h' d,vals.Perm (es.toList.map (·.2))->(∀ b o,s.heap.get? b=some o->h'.get? b=some o)->Q vals { s with heap:=h',drawn:=d }):ay (az prog w) A (collect (.ref p)) Q E s:=by
 have Y:p < s.heap.objs.size:=aw hp;have hT:∀ s':ai,s'.heap.get? p=some (setOb es ep t)->s'.TypeIs (.ref p) "set":=λs' e=>⟨_,e,rfl⟩;unfold collect;refine ad (wpAny_runValue (bC PySem.F.entry_proto_collect ?_));rw[a8 PySem.F.plain_proto_collect _];show ay _ A.in1 (newList [] >>= λl=>again (.builtin "list.__iadd__" ⟨[l,.ref p],[]⟩)) _ _ s;refine ad (bi ?_);refine af ⟨cP j5 _,bC PySem.F.entry_list_iadd ?_⟩;rw[a8 j5 _];show ay _ A.in1 (i8 (.ref s.heap.objs.size) (.ref p) (.ref s.heap.objs.size)) _ _ _;generalize L:s.heap.push _=h1;have old:∀ b o,s.heap.get? b=some o->h1.get? b=some o:=λb o e=>by rw[<- L];exact ag _ e
 have U:h1.objs.size=s.heap.objs.size + 1:=by rw[<- L,bv]
 have hS1:h1.get? s.heap.objs.size=some { cls:=.type "list",dict:=none,data:=.seq #[] 0,slots:=#[] }:=by rw[<- L];exact av _ rfl
 have B:=old p _ hp;unfold i8;refine ad (gT (hT { s with heap:=h1 } B) ?_)
 have e1:jO (.ref s.heap.objs.size) (.ref p)=false:=by simp[jO,dD Y]
 rw[if_neg (by rw[e1];decide)]
 refine ad (gX4 (s:={ s with heap:=h1 }) hh B hf hled hpl hn λI fp vals St h2 d y G st2 hI hfp k2=>?_)
 have hvl:vals.length=es.size:=by have:=y.length_eq;simpa using this
 have hI':h1.objs.size<=I:=hI;have hSI:s.heap.objs.size≠I:=by lia
 refine ad (bF (eJu (k2 p _ B) ?_));have Z:s.heap.objs.size∉fp:=λz=>by
  have q:=hfp _ z;have q':s.heap.objs.size=p\/h1.objs.size<=s.heap.objs.size:=q;rcases q' with e | e
  ·exact absurd e (dD Y)
  ·rw[U] at e;exact absurd e (Nat.not_succ_le_self _)
 refine iP (λ_=>?_) (λhc=>absurd (by decide +kernel) hc)
 refine ad (fD ?_);refine ad ?_;have hS2:=k2 _ _ hS1;show ay _ _ (j4 s.heap.objs.size (·.push .none) >>= λ_=>j4 s.heap.objs.size (·.pop)) _ _ _;refine ad (d6 hS2 rfl ?_);have hS3:=bP (bQ (·.push ci)) hS2 rfl;refine d6 (hz:=by seq_fits) hS3 rfl ?_
 have hS4:=bP (bQ (·.pop)) hS3 rfl;refine af ⟨cP eT _,?_⟩;refine eQe G (by lia) Z _ (vals.length - 0) 0 _ _ rfl (bL _) (G.frame _ _ _ st2 λb hb o e=>?_) hS4 λh' c' a1 a2=>?_
 ·have i:b≠s.heap.objs.size:=λz=>Z (z ▸ hb);exact(aX _ _ (bj i)).trans ((aX _ _ (bj i)).trans e)
 ·show ay _ A (load s.heap.objs.size >>= _) _ _ _;refine ad (wpAny_load a2 ?_)
  have:=h vals h' d y λb o e=>?_
  ·exact af this
  ·have i:b≠s.heap.objs.size:=aG (aw e);have hbI:b≠I:=aG (aT (aw e) (bc (by rw[U];exact dJ _) hI'))
   exact a1 b o i hbI ((aX _ _ (bj i)).trans ((aX _ _ (bj i)).trans (k2 b o (old b o e))))
theorem collectT {p:Addr} {es:Array (Int × ae)} {ep:Nat} {t:aJ} {Q:List ae->ai->Prop} (hh:A.handled=none) (hp:s.heap.get? p=some (setOb es ep t)) (hf:t.fits es.size=true) (hled:t.led=ledOf w) (hpl:t.plain=true->es.size<=1) (hn:es.size<=300)
  (h:∀ vals h' d,vals.Perm (es.toList.map (·.2))->(∀ b o,s.heap.get? b=some o->h'.get? b=some o)->Q vals { s with heap:=h',drawn:=d }):ay (az prog w) A (collect (.ref p)) Q E s :=
 eQf hh hp hf hled (λz=>dZa (by rw[cy,bXy hf];exact hpl z)) hn h
end
end ST
namespace KS
open PySem PySem.W PyProof.Rows
def TS (h:aO) (v:ae) (d:List Str):Prop:=∃ b items,v=.ref b/\iF h b items/\HT.SAre items.toList d
section
variable {prog:aC} {w:aH} {A:aQ} {E:ae->ai->Prop} {s:ai}
theorem eZt {Q:Bool->ai->Prop}:∀ {us vs:List ae} {d e:List Str} (i:Nat) {fin:Bool},HT.SAre us d->HT.SAre vs e->fin=decide (d.length < e.length)->Q (HT.lexS d e) s->KatLex prog w A true fin Q (us.zip vs) i s
 | _,_,_,_,i,fin,.nil,.nil,hf,h=>by subst hf;exact kat_nil h
 | _,_,_,_,i,fin,.nil,.cons _ _,hf,h=>by
  subst hf;rw[fT];rw[HT.lexS_nil_cons] at h;exact kat_nil (by simpa using h)
 | _,_,_,_,i,fin,.cons _ _,.nil,hf,h=>by
  subst hf;rw[b0];rw[HT.lexS_cons_nil] at h;exact kat_nil (by simpa using h)
 | _,_,x::d,y::e,i,fin,.cons ⟨t,G⟩ p,.cons ⟨u,B⟩ q,hf,h=>by
  subst G B;rw[cK];rw[HT.lexS_cons] at h;refine kat_cons (js x t y u _ _ _ _ ?_);refine kat_go (λz=>kat_yes (eZt (i + 1) p q (by subst hf;simp) (by rw[if_pos (by simpa using z)] at h;exact h))) λz=>kat_no ?_
  rw[if_neg (by simpa using z)] at h
  cases i with
  | zero=>exact oneLt_str h
  | succ i =>
   show ay _ _ (oneLt' false _ _) _ _ _;exact kat_one _ _ (kY (show PySem.W.BoolBack Q (.bool (HT.ltS x y)) s from h))
theorem dZb {x y:ae} {d e:List Str} {Q:Bool->ai->Prop} (hx:TS s.heap x d) (hy:TS s.heap y e) (h:Q (HT.lexS d e) s):ay (az prog w) A (keyLt' (tuples' true) x y) Q E s:=by
 obtain⟨b,items,rfl,⟨o,O,_,n,hd⟩,p⟩:=hx;obtain⟨Z,i,rfl,⟨U,B,_,Y,hd2⟩,p2⟩:=hy;refine kat_lt O hd B hd2 (eZt 0 p p2 ?_ h);have L:=p.len;have G:=p2.len;simp only[cy] at L G;rw[L,G]
theorem cJh {x y:ae} {d e:List Str} {Q:Bool->ai->Prop} (hu:A.units < bU) (hx:TS s.heap x d) (hy:TS s.heap y e) (h:Q (HT.lexS d e) s):ay (az prog w) A (keyLt' general' x y) Q E s:=by
 obtain⟨b,items,rfl,t1,p⟩:=hx;obtain⟨B,i,rfl,t2,p2⟩:=hy;show ay _ _ (oneLt' false _ _) _ _ _;exact kat_one _ _ (HT.lt_tupStrs t1 t2 p p2 hu (show PySem.W.BoolBack Q (.bool (HT.lexS d e)) s from h))
theorem fJe {x y:ae} {d e:List Str} {Q:Bool->ai->Prop} (hu:A.units < bU) (hx:TS s.heap x d) (hy:TS s.heap y e) (h:Q (HT.lexS d e) s):ay (az prog w) A (keyLt' oneType' x y) Q E s:=by
 obtain⟨b,items,rfl,t1,p⟩:=hx;obtain⟨b2,i,rfl,t2,p2⟩:=hy;rw[keyLt'_oneType,oneLt'_eq];simp only[if_true];obtain⟨⟨cls,dd,data,sl⟩,O,Y,n,hd⟩:=id t1;obtain⟨⟨Z,U,data2,G⟩,L,B,n2,hd2⟩:=id t2;simp only at Y hd B hd2;subst Y hd B hd2;refine ad (wpAny_cRoomFor hu ?_);refine ad (wpAny_callSpecialIfBound?_slot ⟨_,O,rfl⟩ fP (jh fP ⟨_,O,rfl⟩ g9 (gN _ _) (HT.tuple_lt_strs b b2 items i n n2 dd U sl G d e p p2) ⟨O,L,?_⟩));exact da h
theorem cQ1:∀ {vs:List ae} {ds:List (List Str)} {Q:List (Option ae)->ai->Prop},aZ (TS s.heap) vs ds->(∀ fs:List (Option ae),aZ (λf d=>match f with | none=>d=[] | some v=>∃ x r t,d=x::r/\v=.str x t) fs ds->Q fs s)->ay (az prog w) A (vs.mapM firstOfTuple') Q E s
 | _,_,_,.nil,h=>by rw[List.mapM_nil];exact af (h [] .nil)
 | _,_,Q,.cons p q,h=>by
  obtain⟨b,items,rfl,⟨o,i,B,n,hd⟩,sa⟩:=p;rw[List.mapM_cons];refine ad ?_;rw[kas_first_eq];refine ad (Looks.here (show Looks (az prog w) s.heap (typeOf (.ref b)) o.cls from(Looks.ld i).andThen .now) ?_)
  rw[B,if_neg (by first | decide | simp)]
  refine ad (listItems_at i hd (af ?_));refine ad (cQ1 q λfs pf=>af (h _ (.cons ?_ pf)));obtain⟨items⟩:=items;have sa:HT.SAre items _:=sa;have e:(Array.mk items)[0]?=items[0]?:=by simp
  rw[e];cases sa with
  | nil=>rfl
  | cons z _=>obtain⟨t,y⟩:=z;exact⟨_,_,t,rfl,y⟩
theorem eJz {vs:List ae} {ds:List (List Str)} {Q:SortKind->ai->Prop} (p:aZ (TS s.heap) vs ds) (hne:vs≠[]) (h:∀ κ,κ=tuples' true\/κ=general'\/κ=oneType'->Q κ s):ay (az prog w) A (keyKind' vs.toArray) Q E s:=by
 rw[kat_kind_eq,jI,map_eq_pure_bind];refine ad (ad (cQ1 p λfs pf=>af ?_))
 by_cases i:(fs.toArray.all λx=>x.isSome)=true
 ·rw[if_pos i];refine ad (fD ?_);rw[oneTypeOnly'_eq];have L:∀ v∈(fs.toArray.filterMap id).toList,∃ x t,v=.str x t:=λv L=>by
   simp only[Array.toList_filterMap,du,id] at L;obtain⟨f,hf,rfl⟩:=L
   have:∀ {fs:List (Option ae)} {ds:List (List Str)},aZ (λf d=>match f with | none=>d=[] | some v=>∃ x r t,d=x::r/\v=.str x t) fs ds->some v∈fs->∃ x t,v=.str x t:=by
    intro fs ds pf
    induction pf with
    | nil=>intro hm;cases hm
    | cons z _ O =>
     intro hm;rcases aA.mp hm with e | hm
     ·subst e;obtain⟨x,r,t,_,e⟩:=z;exact⟨x,t,e⟩
     ·exact O hm
   exact this pf hf
  have y:(fs.toArray.filterMap id).toList≠[]:=by
   have Y:fs.length=vs.length:=by have:=b7 p;have:=b7 pf;lia
   cases fs with
   | nil=>exact absurd (bE (by simpa using Y.symm)) hne
   | cons f fs =>
    simp only[List.all_toArray,List.all_cons,aI] at i;obtain⟨v,rfl⟩:=cj.mp i.1;simp
  generalize (fs.toArray.filterMap id)=gs at L y;obtain⟨gs⟩:=gs;rw[jI,map_eq_pure_bind];refine ad (ad (ad (kas_mapM (r:=cU "str") gs (λv B Q' U=>?_) (af ?_))))
  ·obtain⟨x,t,rfl⟩:=L v B;exact af U
  ·obtain⟨g,gr,rfl⟩:∃ g gr,gs=g::gr:=by
    cases gs with
    | nil=>exact absurd rfl y
    | cons g gr=>exact⟨g,gr,rfl⟩
   have h0:(List.map (λ_=>cU "str") (g::gr)).toArray[0]?=some (cU "str"):=by simp
   have G:((List.map (λ_=>cU "str") (g::gr)).toArray.all λx=>x == cU "str")=true:=by
    simp only[List.all_toArray,hU,bK];intro _ _;simp
   rw[h0];simp only[G,if_true];exact af (af (h _ (.inl rfl)))
 ·rw[if_neg i]
  by_cases h1:((fs.toArray[0]?.bind id).isSome)=true
  ·rw[if_pos h1];exact af (h _ (.inr (.inl rfl)))
  ·rw[if_neg h1,oneTypeOnly'_eq,jI,map_eq_pure_bind];refine ad (ad (ad (kas_mapM (r:=cU "tuple") vs (λv B Q' U=>?_) (af ?_))))
   ·have:∀ {vs:List ae} {ds:List (List Str)},aZ (TS s.heap) vs ds->v∈vs->∃ d,TS s.heap v d:=by
     intro vs ds pp
     induction pp with
     | nil=>intro hm;cases hm
     | cons z _ O =>
      intro hm;rcases aA.mp hm with e | hm
      ·subst e;exact⟨_,z⟩
      ·exact O hm
    obtain⟨d,b,items,rfl,⟨o,Z,hc,_⟩,_⟩:=this p B;refine Looks.here (show Looks (az prog w) s.heap (typeOf (.ref b)) (.type "tuple") from ?_) U
    rw[<- hc];exact(Looks.ld Z).andThen .now
   ·generalize (List.map (λ_=>cU "tuple") vs).toArray=ts;cases ts[0]? with
    | none=>exact af (af (by first | exact h _ (.inr (.inl rfl)) | exact h _ (.inr (.inr rfl))))
    | some t =>
     by_cases h2:(ts.all (· == t))=true
     ·simp only[h2,if_true];exact af (af (h _ (.inr (.inr rfl))))
     ·simp only[h2,if_false];exact af (af (h _ (.inr (.inl rfl))))
end
end KS
namespace HT
open PySem
theorem ltS_tot {a b:Str} (h:ltS a b=false) (hne:a≠b):ltS b a=true:=by
 unfold ltS at *
 refine decide_eq_true ?_;have h1:=of_decide_eq_false h;refine aY λh2=>hne ?_;have e:a.cps.toList=b.cps.toList:=List.le_antisymm (List.not_lt.mp h2) (List.not_lt.mp h1);cases a;cases b
 congr 1
 exact Array.toList_inj.mp e
theorem ltS_tr {a b c:Str} (h:ltS a b=true) (h':ltS b c=true):ltS a c=true:=decide_eq_true (List.lt_trans (of_decide_eq_true h) (of_decide_eq_true h'))
theorem ltS_ir (a:Str):ltS a a=false:=decide_eq_false (List.lt_irrefl _)
theorem ltS_as {a b:Str} (h:ltS a b=true):ltS b a=false:=decide_eq_false (List.lt_asymm (of_decide_eq_true h))
theorem lexS_tot:∀ {a b:List Str},lexS a b=false->a≠b->lexS b a=true
 | [],[],_,h=>absurd rfl h
 | [],_::_,h,_=>by cases h
 | _::_,[],_,_=>rfl
 | x::xs,y::ys,h,i=>by
  rw[lexS_cons] at h ⊢
  by_cases e:x=y
  ·rw[if_pos e] at h;rw[if_pos e.symm];exact lexS_tot h λz=>i (by rw[e,z])
  ·rw[if_neg e] at h;rw[if_neg λz=>e z.symm];exact ltS_tot h e
theorem lexS_as:∀ {a b:List Str},lexS a b=true->lexS b a=false
 | [],[],h=>by cases h
 | [],_::_,_=>rfl
 | _::_,[],h=>by cases h
 | x::xs,y::ys,h=>by
  rw[lexS_cons] at h ⊢
  by_cases e:x=y
  ·rw[if_pos e] at h;rw[if_pos e.symm];exact lexS_as h
  ·rw[if_neg e] at h;rw[if_neg (λz=>e z.symm)];exact ltS_as h
theorem lexS_tr:∀ {a b c:List Str},lexS a b=true->lexS b c=true->lexS a c=true
 | [],[],_,h,_=>by cases h
 | [],_::_,[],_,h=>by cases h
 | [],_::_,_::_,_,_=>rfl
 | _::_,[],_,h,_=>by cases h
 | _::_,_::_,[],_,h=>by cases h
 | x::xs,y::ys,z::zs,h,h'=>by
  rw[lexS_cons] at h h' ⊢
  by_cases e:x=y
  ·subst e;rw[if_pos rfl] at h
   by_cases i:x=z
   ·rw[if_pos i] at h' ⊢;exact lexS_tr h h'
   ·rw[if_neg i] at h' ⊢;exact h'
  ·rw[if_neg e] at h
   by_cases i:y=z
   ·subst i;rw[if_neg e];exact h
   ·rw[if_neg i] at h';have hxz:=ltS_tr h h'
    have:x≠z:=by rintro rfl;rw[ltS_ir] at hxz;cases hxz
    rw[if_neg this];exact hxz
end HT
namespace KS
open PySem PySem.W PyProof.Rows
theorem paired_idx {α β:Type} {F:α->β->Prop} {l:List α} {m:List β} (p:aZ F l m) (a:α) (b:β):∀ (idx:List Nat),(∀ i∈idx,i < l.length)->aZ F (idx.map λi=>l.getD i a) (idx.map λi=>m.getD i b)
 | [],_=>.nil
 | i::idx,h=>by
  refine .cons ?_ (paired_idx p a b idx λj G=>h j (ao _ G));have hi:=h i ak;obtain⟨y,B,hf⟩:=L2.Paired.get' p (ah hi);show F (l.getD i a) (m.getD i b);rw[aD,aD,B,ah hi];exact hf
theorem TS.keep {h h':aO} {v:ae} {d:List Str} (t:TS h v d) (k:∀ b o,h.get? b=some o->o.cls=.type "tuple"->h'.get? b=some o):TS h' v d:=by
 obtain⟨b,items,e,⟨o,y,i,r⟩,p⟩:=t;exact⟨b,items,e,⟨o,k b o y i,i,r⟩,p⟩
theorem eZu {ds:List (List Str)} (nd:ds.Nodup):Ord (λi j=>HT.lexS (ds.getD i []) (ds.getD j [])) ds.length where
 tot:=λi j hi B y h=>HT.lexS_tot h λz=>by
  rw[aD,aD,ah hi,ah B] at z;exact y ((ie nd).mp z)
 asy:=λi j h=>HT.lexS_as h
 tr:=λi j k h h'=>HT.lexS_tr h h'
theorem cJi {ds:List (List Str)} {p:Array Nat} (v:Vd ds.length p) (h:Asc (λi j=>HT.lexS (ds.getD i []) (ds.getD j [])) p ds.length):(p.toList.map λi=>ds.getD i []).Pairwise (λa b=>HT.lexS a b=true)/\(p.toList.map λi=>ds.getD i []).Perm ds:=by
 constructor
 ·rw[gZ,cZ];intro i j hi L B;have G:i < p.size:=by simpa using hi
  have y:j < p.size:=by simpa using L
  have:=h i j B (by rw[<- v.sz];exact y)
  have O:at' p i=p.toList[i]:=by simp[at',cS,G]
  have e2:at' p j=p.toList[j]:=by simp[at',cS,y]
  rw[<- O,<- e2];exact this
 ·refine(v.pm.map _).trans (List.Perm.of_eq ?_);apply fA
  ·simp
  ·intro i h1 h2;simp only[iq,List.getElem_range,aD];rw[ah h2]
   rfl
section
variable {prog:aC} {w:aH} {A:aQ} {E:ae->ai->Prop} {s:ai}
theorem sort_tups {a:Addr} {vs:List ae} {ds:List (List Str)} {n:Nat} {P:PySem.Fin->ai->Prop} (hu:A.units < bU) (ho:s.heap.get? a=some (b3 "list" vs.toArray n)) (hp:aZ (TS s.heap) vs ds) (nd:ds.Nodup) (h64:vs.length < 64)
  (h:∀ (idx:List Nat) (h':aO) (c:Nat),idx.Perm (aP vs.length)->(idx.map λi=>ds.getD i []).Pairwise (λa b=>HT.lexS a b=true)->(idx.map λi=>ds.getD i []).Perm ds->h'.get? a=some (b3 "list" (idx.map λi=>vs.getD i ci).toArray c) ->
   (∀ b o,b≠a->s.heap.get? b=some o->h'.get? b=some o)->P (.done (.ret .none)) { s with heap:=h' }) :
  ay (az prog w) A (cu.«list.sort» ⟨[.ref a],[]⟩) P E s:=by
 have ha:a < s.heap.objs.size:=aw ho;have hl:vs.length=ds.length:=b7 hp;rw[list_sort_plain];refine ad (listItems_at ho rfl ?_);refine ad (listUpdate_at ho rfl ?_ (by rw[ar,bD];lia) (bL _))
 obtain⟨e1,L⟩:∃ e1,(s.heap.update a (bQ λ_=>(#[]:Array ae))).get? a=some (b3 "list" #[] e1):=⟨_,fK ho λ_=>#[]⟩;refine ad (seqEpoch_at L rfl ?_);refine ad (wpAny_newTuple ?_ (by show vs.length<=_;rw[bD];lia))
 refine ad (jP ?_ (bL _));refine bF ?_;have sb:=cz s.heap a (bQ λ_=>(#[]:Array ae));generalize hg:s.heap.update a (bQ λ_=>(#[]:Array ae))=h1 at L sb;generalize hm:(h1.push (b3 "tuple" vs.toArray 0)).push (b3 "list" #[] 0)=h2;have k2:∀ b o,h1.get? b=some o->h2.get? b=some o:=λb o e=>by rw[<- hm];exact ag _ (ag _ e)
 have kk:∀ b o,b≠a->s.heap.get? b=some o->h2.get? b=some o:=λb o hb e=>k2 b o ((sb.2 b hb).trans e);have B:=k2 _ _ L;show ay (az prog w) A _ P E { s with heap:=h2 }
 dsimp only;have fin:∀ (idx:List Nat),idx.Perm (aP vs.length)->(idx.map λi=>ds.getD i []).Pairwise (λa b=>HT.lexS a b=true)->(idx.map λi=>ds.getD i []).Perm ds->P (.done (.ret .none)) { s with heap:=h2.update a (bQ λ_=>(idx.map λi=>vs.getD i ci).toArray) }:=λidx i1 i2 i3=>by
  have s2:=cz h2 a (bQ λ_=>(idx.map λi=>vs.getD i ci).toArray);exact h idx _ _ i1 i2 i3 (fK B λ_=>(idx.map λi=>vs.getD i ci).toArray) λb o hb e=>(s2.2 b hb).trans (kk b o hb e)
 by_cases y:vs.toArray.size < 2
 ·rw[if_pos y,if_pos y];refine ad (af ?_);rw[StateT.run_pure];refine ad (af ?_);dsimp only;refine ad (seqEpoch_at B rfl ?_);have e0:((arrOf (SortSt.mk' general' (vs.toArray.zip vs.toArray) #[] 7 none)).map (·.2))=((aP vs.length).map λi=>vs.getD i ci).toArray:=by
   show((vs.toArray.zip vs.toArray).map (·.2))=_;apply Array.toList_inj.mp;simp only[Array.toList_map,Array.toList_zip];apply fA
   ·simp
   ·intro i h1 h2;simp at h1 h2 ⊢;rw[ah h2]
    rfl
  rw[e0];refine ad (listUpdate_at B rfl ?_ (bL _) (by simp only[ar,aj,d0];rw[bD];lia))
  simp only[bne_self_eq_false,aE,if_false];have hlen:ds.length < 2:=by rw[<- hl];simpa using y
  have ed:((aP vs.length).map λi=>ds.getD i [])=ds:=by
   apply fA
   ·simp[hl]
   ·intro i h1 h2;simp only[iq,List.getElem_range,aD];rw[ah h2]
    rfl
  refine af (fin _ (gY _) ?_ (by rw[ed]))
  rw[ed]
  match ds,hlen with
  | [],_=>exact .nil
  | [x],_=>exact b5 _ _
 ·rw[if_neg y,if_neg y];have Z:2<=vs.length:=by simpa using y
  have O:aZ (TS h2) vs ds:=L2.Paired.imp (λv d t=>t.keep λb o e c=>kk b o (by
   rintro rfl;rw[ho] at e;have e':=aK e;rw[<- e'] at c;have c':cU "list"=cU "tuple":=c;injection c' with c''
   exact absurd c'' (by decide)) e) hp
  refine ad (eJz (s:={ s with heap:=h2 }) O (by rintro rfl;simp at Z) fun κ hκ=>?_)
  obtain⟨v1,v2⟩:=eQb (eZu nd) (by lia)
  have ans:∀ i j (C:Bool->ai->Prop),i < ds.length->j < ds.length->C (HT.lexS (ds.getD i []) (ds.getD j [])) { s with heap:=h2 }->kas_ask prog w A κ vs i j C { s with heap:=h2 }:=by
   intro i j C hi hj c;unfold kas_ask;have g:∀ k,k < ds.length->TS h2 (vs.getD k ci) (ds.getD k []):=λk hk=>by
    have Y:k < vs.length:=by lia
    obtain⟨d,hd,t⟩:=L2.Paired.get' O (ah Y);rw[aD,aD,hd,ah Y];exact t
   rcases hκ with rfl | rfl | rfl
   ·exact dZb (s:={ s with heap:=h2 }) (g i hi) (g j hj) c
   ·exact cJh (s:={ s with heap:=h2 }) hu (g i hi) (g j hj) c
   ·exact fJe (s:={ s with heap:=h2 }) hu (g i hi) (g j hj) c
  have tree:(kas_sort vs.length).kasWp (kas_ask prog w A κ vs) (λp s'=>s'={ s with heap:=h2 }/\p=run (λi j=>HT.lexS (ds.getD i []) (ds.getD j [])) (kas_sort ds.length)) { s with heap:=h2 }:=by
   rw[hl];exact eZs ans _ (eQc (eZu nd) (by lia)) ⟨rfl,rfl⟩
  refine ad (c6 (kat_run (Q:=λG s'=>∃ p:Array Nat,arrOf G=p.map (kas_item (vs.toArray.zip vs.toArray))/\failedOf G=none/\s'={ s with heap:=h2 }/\p=run (λi j=>HT.lexS (ds.getD i []) (ds.getD j [])) (kas_sort ds.length)) rfl Z h64 (λp G s' _ a2 a3 a4=>⟨p,a2,a3,a4.1,a4.2⟩) tree) ?_ λ_ _ e=>e)
  rintro⟨⟨⟩,G⟩ s' ⟨p,har,hf,rfl,rfl⟩;dsimp only;have U:=kat_snds rfl har;rw[U];obtain⟨i1,i2⟩:=cJi v1 v2;refine ad (seqEpoch_at B rfl ?_);refine ad (listUpdate_at B rfl ?_ (bL _) (by
   simp only[ar,aj,cy]
   have:=v1.sz
   rw[bD];lia))
  rw[hf];simp only[bne_self_eq_false,aE,if_false];exact af (fin _ (by rw[hl];exact v1.pm) i1 i2)
end
end KS
namespace ST
open PySem PySem.SetTable PySem.Spec PyProof.Rows
def restr {prog:aC} {w:aH} {κ:Type} (D:SetKd prog w κ) (W:κ->ae->Prop):SetKd prog w κ where
 pk:=D.pk
 is:=λh k v=>D.is h k v/\W k v
 I:=λh a es ep t=>D.I h a es ep t/\∀ e∈es.toList,∃ k,D.is h k e.2/\W k e.2
 inj:=λa b=>D.inj a.1 b.1
 obj:=λx=>D.obj x.1
 fits:=λx=>D.fits x.1
 few:=λz _ _ _ _ _ _ x p nd hp=>D.few z x.1 (L2.Paired.mapP p λ_ _ q=>q.1) nd hp
 fresh:=λh=>⟨D.fresh h,λe he=>by simp at he⟩
 keepIs:=λx kp=>⟨D.keepIs x.1 kp,x.2⟩
 keepI:=λx e kp=>⟨D.keepI x.1 e kp,λe he=>let ⟨k,h1,h2⟩:=x.2 e he;⟨k,D.keepIs h1 kp,h2⟩⟩
 add:=λ{A E s a es ep t k x Q} hu hI hx hn h=>by
  refine D.add hu hI.1 hx.1 hn λh' tk es' ep' t' added q1 q2 q3 q4 q5=>?_;have kp:=aJ3 (D.obj hI.1) q2;have up:∀ e∈es.toList,∃ k,D.is h' k e.2/\W k e.2:=λe he=>let ⟨k,h1,h2⟩:=hI.2 e he;⟨k,D.keepIs h1 kp,h2⟩
  rcases q5 with⟨r1,r2,e,he,r3⟩ | ⟨r1,⟨hh,r2⟩,r3⟩
  ·obtain⟨k',z1,z2⟩:=hI.2 e he
   have:=D.inj r3 z1
   subst this;exact h h' tk es' ep' t' added ⟨q1,by rw[r2];exact up⟩ q2 q3 q4 (.inl ⟨r1,r2,e,he,r3,z2⟩)
  ·refine h h' tk es' ep' t' added ⟨q1,λe he=>?_⟩ q2 q3 q4 (.inr ⟨r1,⟨hh,r2⟩,λ⟨e,he,z⟩=>r3 ⟨e,he,z.1⟩⟩);rcases aA.mp (r2.mem_iff.mp he) with z | z
   ·subst z;exact⟨k,D.keepIs hx.1 kp,hx.2⟩
   ·exact up e z
end ST
namespace L2
open PySem PySem.Spec PyProof.Rows
def stO (p:Addr) (es:Array (Int × ae)) (ep:Nat) (t:aJ):HO:=.ext λh=>h.get? p=some (ST.setOb es ep t)
abbrev PV (K:Fg) (H:Hp):ae->V × List Str->Prop:=λv p=>RelV p.1 v/\dT K dS H p.1 p.2
def dSt (w:aH) (K:Fg):Dn (List (List Str)):=λH v ms=>∃ p es ep t ps,v=.ref p/\H p=some (stO p es ep t)/\t.fits es.size=true/\t.led=ST.ledOf w/\(t.plain=true->es.size<=1)/\aZ (PV K H) (es.toList.map (·.2)) ps/\ms=ps.map (·.2)
theorem Inv.drawn {X:Cx} {pins:List (Addr × Obj)} {σ:St} {H:Hp} {s:ai} (I:Inv X pins σ H s) (d:_):Inv X pins σ H { s with drawn:=d } :=
 ⟨I.ok,I.os,I.bare,I.base,I.loc,I.cell,I.free,I.freeC,I.pin,I.hok,I.len⟩
section
variable {X:Cx}
theorem fJf {K:Fg} {H:Hp} {h:aO} {P:aC} {w:aH}:∀ {es:List (Int × ae)} {ms:List (List Str)},aZ (λ(e:Int × ae) k=>ST.TK P w h k e.2/\∃ x,RelV x e.2/\dT K dS H x k) es ms->∃ ps,aZ (PV K H) (es.map (·.2)) ps/\ms=ps.map (·.2)
 | _,_,.nil=>⟨[],.nil,rfl⟩
 | _,_,.cons ⟨_,x,r,d⟩ q=>by
  obtain⟨ps,h1,h2⟩:=fJf q;exact⟨(x,_)::ps,.cons ⟨r,d⟩ h1,by rw[h2];rfl⟩
theorem eZv {P:aC} {w:aH} {pins:List (Addr × Obj)} {σ:St} {H:Hp} {s:ai} (I:Inv X pins σ H s):∀ {xs:List V} {us:List ae} {ds:List (List Str)},aZ (dT X.K dS H) xs ds->Vals xs us->aZ (λv k=>ST.TK P w s.heap k v/\∃ x,RelV x v/\dT X.K dS H x k) us ds
 | _,_,_,.nil,.nil=>.nil
 | _,_,_,.cons p q,.cons r t=>by
  refine .cons ⟨?_,_,r,p⟩ (eZv I q t);obtain⟨b,ys,rfl,G,pp⟩:=p;cases r;obtain⟨B,y,i,_⟩:=I.tuple G;exact fJ4 (K:=X.K) pp y i
def fJg (w:aH) (K:Fg):List V->Hp->VK->Prop:=λxs H Q=>∃ x ds,xs=[x]/\dL K (dT K dS) H x ds/\ds.length + 1<=300/\∀ p ms H',Same H H'->ms.Nodup->(∀ k,k∈ms↔k∈ds)->dSt w K H' (.ref p) ms->Q (.ref p) H'
theorem cJj {K:Fg} {w:aH} (hu:X.A.units + 8 < bU) (hK:X.K=K:=by rfl) (hw:X.w=w:=by rfl) (hc:X.calm=true:=by rfl):CallR X (.type "set") (fJg w K):=by
 subst hK hw;intro pins s σ H xs us Q I r h;obtain⟨x,ds,rfl,⟨a,ys,rfl,Z,p⟩,hn,q⟩:=h;obtain⟨u,rfl,rx⟩:=aXd r;cases rx;obtain⟨Y,O,pl,_⟩:=I.list Z;refine ST.call_setK (ST.restr (ST.tupKd X.prog X.w) λk v=>∃ x,RelV x v/\dT X.K dS H x k) (I.ok.hd hc) hu pl.isList (eZv I p O) (by rw[ar,<- O.length,p.length];exact hn) λh' U ms M _ hk=>?_
 obtain⟨es,G,t,y,i,hp⟩:=M.ex;obtain⟨ps,h1,h2⟩:=fJf hp;have B:H s.heap.objs.size=none:=I.hok.fresh (au _);have L:Same H (upd H s.heap.objs.size (stO s.heap.objs.size es G t)):=aQm B;refine⟨.ref s.heap.objs.size,_,I.laid (t':=U) (o:=stO s.heap.objs.size es G t) (λb o e=>hk b o (aw e) e) (au _) ?_,rfl,q _ _ _ L M.nd M.mem ⟨_,es,G,t,ps,rfl,aQc,(ST.tupKd X.prog X.w).fits y.1,i,λz=>?_,L2.Paired.imp (λ_ _ z=>⟨z.1,Mo.mo L z.2⟩) h1,h2⟩⟩
 ·refine⟨(ST.tupKd X.prog X.w).obj y.1,⟨_,(ST.tupKd X.prog X.w).obj y.1⟩,λg1 g2 g k=>k _ g⟩
 ·exact(ST.restr (ST.tupKd X.prog X.w) λk v=>∃ x,RelV x v/\dT X.K dS H x k).few rfl y hp M.nd z
end
section
variable {X:Cx}
theorem fJh {K:Fg} {pins:List (Addr × Obj)} {σ:St} {H:Hp} {s:ai} (I:Inv X pins σ H s) (hK:X.K=K) {h':aO} (k:∀ b o,s.heap.get? b=some o->h'.get? b=some o):∀ {vs:List ae} {ps:List (V × List Str)},aZ (PV K H) vs ps->aZ (KS.TS h') vs (ps.map (·.2))
 | _,_,.nil=>.nil
 | _,_,.cons ⟨r,d⟩ q=>by
  refine .cons ?_ (fJh I hK k q);obtain⟨b,xs,e,y,pp⟩:=d;rw[e] at r;cases r;rw[<- hK] at y;obtain⟨i,B,⟨o,G,z⟩,_⟩:=I.tuple y;exact⟨b,i.toArray,rfl,⟨o,k b o G,z⟩,aJ4 pp B⟩
theorem cX3:∀ (ps:List (V × List Str)) (i:Nat),(ps.map (·.2)).getD i []=(ps.getD i (V.non,[])).2
 | [],i=>by simp
 | p::ps,0=>by simp
 | p::ps,i + 1=>by simpa using cX3 ps i
theorem bXz {K:Fg} {H:Hp}:∀ {vs:List ae} {zs:List (V × List Str)},aZ (PV K H) vs zs->Vals (zs.map (·.1)) vs/\aZ (dT K dS H) (zs.map (·.1)) (zs.map (·.2))
 | _,_,.nil=>⟨.nil,.nil⟩
 | _,_,.cons ⟨r,d⟩ q=>⟨.cons r (bXz q).1,.cons d (bXz q).2⟩
theorem cZ1 {H:Hp}:∀ {xs:List V} {us:List ae} {ds:List Str},aZ (dS H) xs ds->Vals xs us->ky us ds
 | _,_,_,.nil,.nil=>.nil
 | _,_,_,.cons p q,.cons r t=>by
  cases p;obtain⟨k,rfl⟩:=r;exact .cons _ k (cZ1 q t)
theorem bJ0 {H:Hp}:∀ {us:List ae} {ds:List Str},ky us ds->Vals (ds.map V.str) us/\aZ (dS H) (ds.map V.str) ds
 | _,_,.nil=>⟨.nil,.nil⟩
 | _,_,.cons y t r=>⟨.cons ⟨t,rfl⟩ (bJ0 (H:=H) r).1,.cons rfl (bJ0 r).2⟩
theorem eZw:∀ {l:List Str},sortedS l=true->l.Nodup->l.Pairwise λa b=>HT.ltS a b=true
 | [],_,_=>.nil
 | [x],_,_=>b5 _ _
 | x::y::l,h,nd=>by
  have h':(!ltCps y.cps.toList x.cps.toList && risingS y l)=true:=h;rw[aI] at h';have G:=eZw (l:=y::l) h'.2 (bX.mp nd).2;have i:HT.ltS x y=true:=by
   have e:HT.ltS y x=false:=by
    have:=h'.1
    rw[dI] at this;rw[ltCps_eq] at this;exact this
   exact HT.ltS_tot e λz=>(bX.mp nd).1 (z ▸ ak)
  refine aU.mpr ⟨λz B=>?_,G⟩;rcases aA.mp B with rfl | B
  ·exact i
  ·exact HT.ltS_tr i ((aU.mp G).1 z B)
end
def cutS (z:Str) (lo hi:Option Int):Str:=if ((bW lo hi 1 z.length).length == z.length)=true then z else ⟨((bW lo hi 1 z.length).filterMap (z.cps[·]?)).toArray⟩
def rSlS:V->Option Int->Option Int->Hp->VK->Prop:=λx lo hi H Q=>∃ z,x=.str z/\z.length<=1000000/\Q (.str (cutS z lo hi)) H
theorem sl_str {X:Cx}:SlR X rSlS:=by
 intro pins s σ H x v vl Z lo hi sl Q I L U pl pu h;obtain⟨z,rfl,hz,q⟩:=h;obtain⟨t,rfl⟩:=L;refine⟨"str",_,PySem.F.slot_str_getitem.lookup,typeIs_str _ _ _,?_⟩;have go:∀ (l u:Option (Int × Tok)),l.map (·.1)=lo->u.map (·.1)=hi->s.heap.IsSlice sl l u none->ay (az X.prog X.w) X.A (jF (.str z t) (.ref sl)) (EP X pins σ Q) X.xe s:=λl u hl O Y=>by
  refine wpAny_getItem_str_slice Y rfl ?_;unfold sliceMade slicePicked;simp only[Option.map_none,jV,beq_self_eq_true,iD,hl,O];unfold cutS at q
  by_cases c:((bW lo hi 1 z.length).length == z.length)=true
  ·rw[if_pos c] at q ⊢;exact⟨.str z,H,I,⟨t,rfl⟩,q⟩
  ·rw[if_neg c] at q ⊢;refine⟨?_,.str _,H,I.tok _,⟨_,rfl⟩,q⟩;have h1:=PyProof.Rows.indices_len_le lo hi z.length;have h2:((bW lo hi 1 z.length).filterMap (z.cps[·]?)).length<=(bW lo hi 1 z.length).length:=List.length_filterMap_le _ _;show((bW lo hi 1 z.length).filterMap (z.cps[·]?)).toArray.size<=_;rw[ar,bD];lia
 obtain⟨o,y,B,hd⟩:=U;cases pl with
 | none =>
  cases pu with
  | none=>exact go none none rfl rfl ⟨o,y,B,hd⟩
  | int j G=>exact go none (some (j,G)) rfl rfl ⟨o,y,B,hd⟩
 | int i ti =>
  cases pu with
  | none=>exact go (some (i,ti)) none rfl rfl ⟨o,y,B,hd⟩
  | int j G=>exact go (some (i,ti)) (some (j,G)) rfl rfl ⟨o,y,B,hd⟩
end L2
set_option maxHeartbeats 1000000
namespace L2
open PySem PySem.Spec PyProof.Rows
inductive D where
 | non | bl (b:Bool) | int (i:Int) | str (x:Str) | ty (n:String) | ref (a:Addr) | tup (xs:List D) | lst (xs:List D)
abbrev Am:=Addr->Prop
structure Keep (M:Am) (H:Hp) (M':Am) (H':Hp):Prop where
 st:∀ a o,¬ M a->H a=some o->H' a=some o
 nm:∀ a,¬ M a->H a≠none->¬ M' a
def Xo:HO->Prop
 | .ext _=>True
 | .ins _ _ _=>True
 | _=>False
inductive DO where
 | lst (xs:List D) | dk (kvs:List (Key × D)) | dt (kvs:List (List Key × D))
 | tb (pos:Pos) (qual:Str)
 | ex (f:Am->Hp->Addr->Prop) (hk:∀ M M' H H' a,Keep M H M' H'->H' a=H a->f M H a->f M' H' a) (hl:∀ M H a,f M H a->∃ g,H a=some g/\Xo g)
abbrev Sto:=Addr->Option DO
abbrev Gm:=List (Option D)
def supd (S:Sto) (a:Addr) (o:DO):Sto:=λb=>if b=a then some o else S b
def sdel (S:Sto) (a:Addr):Sto:=λb=>if b=a then none else S b
theorem supd_same {S:Sto} {a:Addr} {o:DO}:supd S a o a=some o:=by unfold supd;rw[if_pos rfl]
theorem supd_ne {S:Sto} {a b:Addr} {o:DO} (h:b≠a):supd S a o b=S b:=by unfold supd;rw[if_neg h]
theorem aJe {S:Sto} {a:Addr} {o u:DO}:supd (supd S a o) a u=supd S a u:=by funext b;unfold supd;split <;> rfl
theorem aZ8 {S:Sto} {a:Addr}:sdel S a a=none:=by unfold sdel;rw[if_pos rfl]
theorem aQl {S:Sto} {a b:Addr} (h:b≠a):sdel S a b=S b:=by unfold sdel;rw[if_neg h]
def TupAt (K:Fg) (M:Am) (H:Hp) (a:Addr) (xs:List V):Prop:=(¬ M a/\Rd H a (.tup xs))\/SqT K (λ_=>none) a xs
theorem TupAt.sq {K:Fg} {M:Am} {H:Hp} {a:Addr} {xs:List V} (h:TupAt K M H a xs):SqT K H a xs:=by
 rcases h with h | (h | ⟨o,h⟩) | h
 ·exact .inl h.2
 ·cases h
 ·cases h
 ·exact .inr h
def LstAt (K:Fg) (M:Am) (H:Hp) (a:Addr) (xs:List V):Prop:=(¬ M a/\Rd H a (.lst xs))\/SqL K (λ_=>none) a xs
theorem LstAt.sq {K:Fg} {M:Am} {H:Hp} {a:Addr} {xs:List V} (h:LstAt K M H a xs):SqL K H a xs:=by
 rcases h with h | (h | ⟨o,h⟩) | h
 ·exact .inl h.2
 ·cases h
 ·cases h
 ·exact .inr h
mutual
def RepV (K:Fg) (M:Am) (H:Hp):D->V->Prop
 | .non,v=>v=.non
 | .bl b,v=>v=.bl b
 | .int i,v=>v=.int i
 | .str x,v=>v=.str x
 | .ty n,v=>v=.ty n
 | .ref a,v=>v=.ref a
 | .tup ds,v=>∃ a xs,v=.ref a/\TupAt K M H a xs/\RepL K M H ds xs
 | .lst ds,v=>∃ a xs,v=.ref a/\LstAt K M H a xs/\RepL K M H ds xs
def RepL (K:Fg) (M:Am) (H:Hp):List D->List V->Prop
 | [],xs=>xs=[]
 | d::ds,xs=>∃ v vs,xs=v::vs/\RepV K M H d v/\RepL K M H ds vs
end
theorem Rd.live {H:Hp} {a:Addr} {u:HO} (r:Rd H a u):H a≠none:=by
 rcases r with r | ⟨o,r⟩ <;> rw[r] <;> exact λz=>by cases z
theorem Keep.rd {M M':Am} {H H':Hp} (k:Keep M H M' H') {a:Addr} {u:HO} (hm:¬ M a) (r:Rd H a u):Rd H' a u:=by
 rcases r with r | ⟨o,r⟩
 ·exact .inl (k.st a _ hm r)
 ·exact .inr ⟨o,k.st a _ hm r⟩
theorem TupAt.keep {K:Fg} {M M':Am} {H H':Hp} {p:Addr} {us:List V} (t:TupAt K M H p us) (x:Keep M H M' H'):TupAt K M' H' p us:=by
 rcases t with⟨hm,r⟩ | t
 ·exact .inl ⟨x.nm p hm r.live,x.rd hm r⟩
 ·exact .inr t
theorem LstAt.keep {K:Fg} {M M':Am} {H H':Hp} {p:Addr} {us:List V} (t:LstAt K M H p us) (x:Keep M H M' H'):LstAt K M' H' p us:=by
 rcases t with⟨hm,r⟩ | t
 ·exact .inl ⟨x.nm p hm r.live,x.rd hm r⟩
 ·exact .inr t
mutual
theorem RepV.keep {K:Fg} {M M':Am} {H H':Hp} (k:Keep M H M' H'):∀ {d:D} {v:V},RepV K M H d v->RepV K M' H' d v
 | .non,_,h=>h
 | .bl _,_,h=>h
 | .int _,_,h=>h
 | .str _,_,h=>h
 | .ty _,_,h=>h
 | .ref _,_,h=>h
 | .tup ds,v,h=>by
  unfold RepV at h ⊢;refine hd λy i=>?_;obtain⟨a,xs,e,t,l⟩:=h;refine i ?_;exact⟨a,xs,e,t.keep k,RepL.keep k l⟩
 | .lst ds,v,h=>by
  unfold RepV at h ⊢;refine hd λy i=>?_;obtain⟨a,xs,e,t,l⟩:=h;refine i ?_;exact⟨a,xs,e,t.keep k,RepL.keep k l⟩
theorem RepL.keep {K:Fg} {M M':Am} {H H':Hp} (k:Keep M H M' H'):∀ {ds:List D} {xs:List V},RepL K M H ds xs->RepL K M' H' ds xs
 | [],_,h=>h
 | d::ds,xs,h=>by
  unfold RepL at h ⊢;refine hd λy i=>?_;obtain⟨v,vs,e,r,l⟩:=h;refine i ?_;exact⟨v,vs,e,RepV.keep k r,RepL.keep k l⟩
end
section
variable {K:Fg} {M:Am} {H:Hp}
theorem RepL.length:∀ {ds:List D} {xs:List V},RepL K M H ds xs->xs.length=ds.length
 | [],_,h=>by unfold RepL at h;rw[h];rfl
 | d::ds,xs,h=>by
  unfold RepL at h;obtain⟨v,vs,rfl,_,l⟩:=h;simp[RepL.length l]
theorem RepL.nil:RepL K M H [] []:=by unfold RepL;rfl
theorem RepL.cons {d:D} {ds:List D} {v:V} {vs:List V} (r:RepV K M H d v) (l:RepL K M H ds vs):RepL K M H (d::ds) (v::vs):=by unfold RepL;exact⟨v,vs,rfl,r,l⟩
theorem RepL.app:∀ {ds es:List D} {xs ys:List V},RepL K M H ds xs->RepL K M H es ys->RepL K M H (ds++es) (xs++ys)
 | [],es,xs,ys,h,h'=>by unfold RepL at h;rw[h];exact h'
 | d::ds,es,xs,ys,h,h'=>by
  unfold RepL at h;obtain⟨v,vs,rfl,r,l⟩:=h;exact RepL.cons r (RepL.app l h')
theorem RepL.get:∀ {ds:List D} {xs:List V} {i:Nat} {d:D},RepL K M H ds xs->ds[i]?=some d->∃ v,xs[i]?=some v/\RepV K M H d v
 | [],_,_,_,_,e=>by simp at e
 | d::ds,xs,0,e,h,he=>by
  unfold RepL at h;obtain⟨v,vs,rfl,r,l⟩:=h;simp at he;subst he;exact⟨v,rfl,r⟩
 | d::ds,xs,i + 1,e,h,he=>by
  unfold RepL at h;obtain⟨v,vs,rfl,r,l⟩:=h;refine hd λB y=>?_;obtain⟨w,h1,h2⟩:=RepL.get (i:=i) l (by simpa using he);refine y ?_
  exact⟨w,by simpa using h1,h2⟩
theorem RepL.get' {ds:List D} {xs:List V} {i:Nat} {v:V} (h:RepL K M H ds xs) (e:xs[i]?=some v):∃ d,ds[i]?=some d/\RepV K M H d v:=by
 have hl:=h.length;have hi:i < xs.length:=by
  rcases bO i xs.length with z | z
  ·exact z
  ·rw[bB z] at e;cases e
 have y:ds[i]?=some ds[i]:=ah (by omega)
 refine hd λG B=>?_;obtain⟨w,h1,h2⟩:=h.get y;refine B ?_;rw[e] at h1;cases h1;exact⟨_,y,h2⟩
theorem RepL.take:∀ {ds:List D} {xs:List V} (n:Nat),RepL K M H ds xs->RepL K M H (ds.take n) (xs.take n)
 | _,_,0,_=>by simpa using RepL.nil
 | [],_,n + 1,h=>by unfold RepL at h;subst h;simpa using RepL.nil
 | d::ds,xs,n + 1,h=>by
  unfold RepL at h;obtain⟨v,vs,rfl,r,l⟩:=h;simpa using RepL.cons r (RepL.take n l)
theorem RepL.drop:∀ {ds:List D} {xs:List V} (n:Nat),RepL K M H ds xs->RepL K M H (ds.drop n) (xs.drop n)
 | _,_,0,h=>by simpa using h
 | [],_,n + 1,h=>by unfold RepL at h;subst h;simpa using RepL.nil
 | d::ds,xs,n + 1,h=>by
  unfold RepL at h;obtain⟨v,vs,rfl,r,l⟩:=h;simpa using RepL.drop n l
theorem RepL.set {d:D} {v:V} (r:RepV K M H d v):∀ {ds:List D} {xs:List V} (i:Nat),RepL K M H ds xs->RepL K M H (ds.set i d) (xs.set i v)
 | [],_,i,h=>by unfold RepL at h;subst h;simpa using RepL.nil
 | e::ds,xs,0,h=>by
  unfold RepL at h;obtain⟨w,vs,rfl,_,l⟩:=h;simpa using RepL.cons r l
 | e::ds,xs,i + 1,h=>by
  unfold RepL at h;obtain⟨w,vs,rfl,q,l⟩:=h;simpa using RepL.cons q (RepL.set r i l)
theorem RepL.erase:∀ {ds:List D} {xs:List V} (i:Nat),RepL K M H ds xs->RepL K M H (ds.eraseIdx i) (xs.eraseIdx i)
 | [],_,i,h=>by unfold RepL at h;subst h;simpa using RepL.nil
 | e::ds,xs,0,h=>by
  unfold RepL at h;obtain⟨w,vs,rfl,_,l⟩:=h;simpa using l
 | e::ds,xs,i + 1,h=>by
  unfold RepL at h;obtain⟨w,vs,rfl,q,l⟩:=h;simpa using RepL.cons q (RepL.erase i l)
theorem RepL.one {d:D} {xs:List V} (h:RepL K M H [d] xs):∃ v,xs=[v]/\RepV K M H d v:=by
 unfold RepL at h;obtain⟨v,vs,rfl,r,l⟩:=h;unfold RepL at l;subst l;exact⟨v,rfl,r⟩
theorem RepL.two {d e:D} {xs:List V} (h:RepL K M H [d,e] xs):∃ v w,xs=[v,w]/\RepV K M H d v/\RepV K M H e w:=by
 unfold RepL at h;obtain⟨v,vs,rfl,r,l⟩:=h;obtain⟨w,rfl,i⟩:=l.one;exact⟨v,w,rfl,r,i⟩
end
def mt (S:Sto) (F:Am):Am:=λa=>S a≠none\/F a
abbrev cdO (c:Addr) (oc:Obj):HO:=.ext λh=>h.get? c=some oc
def TbOk (M:Am) (H:Hp) (pos:Pos) (qual:Str) (ps:Array ae):Prop:=TriplesOk ps.toList/\(codeAmong pos ps.toList=none \/
 ∃ c oc,codeAmong pos ps.toList=some (.ref c)/\¬ M c/\H c=some (cdO c oc)/\∃ vs t,oc.data=.fields vs/\vs[1]?=some (.str qual t))
theorem TbOk.keep {M M':Am} {H H':Hp} (k:Keep M H M' H') {pos:Pos} {qual:Str} {ps:Array ae} (h:TbOk M H pos qual ps):TbOk M' H' pos qual ps:=by
 refine hd λB i=>?_;obtain⟨h1,h2⟩:=h;refine i ?_;refine⟨h1,h2.imp id λ⟨c,oc,y,m,e2,r⟩=>⟨c,oc,y,k.nm c m (by rw[e2];exact λz=>by cases z),k.st c _ m e2,r⟩⟩
def RepO (K:Fg) (M:Am) (H:Hp) (a:Addr):DO->Prop
 | .lst ds=>∃ xs,H a=some (.lst xs)/\RepL K M H ds xs
 | .dk kvs=>∃ ks,H a=some (.dK ks)/\aZ (λ(p:Key × V) (q:Key × D)=>p.1=q.1/\RepV K M H q.2 p.2) ks kvs
 | .dt kvs=>∃ ks,H a=some (.dT ks)/\aZ (λ(p:List Key × V) (q:List Key × D)=>p.1=q.1/\RepV K M H q.2 p.2) ks kvs
 | .tb pos qual=>∃ ps,H a=some (.tbl ps)/\TbOk M H pos qual ps
 | .ex f _ _=>f M H a
theorem RepO.live {K:Fg} {M:Am} {H:Hp} {a:Addr} {o:DO} (h:RepO K M H a o):H a≠none:=by
 cases o with
 | ex f hk hl=>obtain⟨g,e,_⟩:=hl _ _ _ h;rw[e];exact λz=>by cases z
 | _=>obtain⟨xs,e,_⟩:=h;rw[e];exact λz=>by cases z
theorem RepO.keep {K:Fg} {M M':Am} {H H':Hp} (k:Keep M H M' H') {a:Addr} {o:DO} (e:H' a=H a) (h:RepO K M H a o):RepO K M' H' a o:=by
 cases o with
 | lst ds=>obtain⟨xs,i,l⟩:=h;exact⟨xs,e.trans i,l.keep k⟩
 | dk y=>obtain⟨xs,i,l⟩:=h;exact⟨xs,e.trans i,Paired.imp (λ_ _ z=>⟨z.1,z.2.keep k⟩) l⟩
 | dt y=>obtain⟨xs,i,l⟩:=h;exact⟨xs,e.trans i,Paired.imp (λ_ _ z=>⟨z.1,z.2.keep k⟩) l⟩
 | tb pos qual=>obtain⟨xs,i,l⟩:=h;exact⟨xs,e.trans i,l.keep k⟩
 | ex f hk hl=>exact hk _ _ _ _ _ k e h
def Clt:HO->Prop
 | .lst _=>True
 | .ext _=>True
 | _=>False
structure Rp (K:Fg) (F:Am) (S:Sto) (H:Hp):Prop where
 obj:∀ a o,S a=some o->RepO K (mt S F) H a o
 frm:∀ a,F a->(∃ u,H a=some u/\Clt u)/\S a=none
structure Ext (S:Sto) (H:Hp) (S':Sto) (H':Hp):Prop where
 keep:∀ a o,S a=none->H a=some o->H' a=some o
 live:∀ a,H a≠none->H' a≠none
 new:∀ a,S' a≠none->S a≠none\/H a=none
theorem Ext.refl (S:Sto) (H:Hp):Ext S H S H:=⟨λ_ _ _ h=>h,λ_ h=>h,λ_ h=>.inl h⟩
theorem Ext.sn {S S':Sto} {H H':Hp} (x:Ext S H S' H') {a:Addr} (h:S a=none) (h':H a≠none):S' a=none:=by
 cases e:S' a with
 | none=>rfl
 | some o =>
  rcases x.new a (by rw[e];exact λz=>by cases z) with z | z
  ·exact absurd h z
  ·exact absurd z h'
theorem Ext.trans {S S1 S2:Sto} {H H1 H2:Hp} (x:Ext S H S1 H1) (y:Ext S1 H1 S2 H2):Ext S H S2 H2 :=
 ⟨λa o h h'=>y.keep a o (x.sn h (by rw[h'];exact λz=>by cases z)) (x.keep a o h h'),λa h=>y.live a (x.live a h),λa h=>by
  rcases y.new a h with z | z
  ·exact x.new a z
  ·refine .inr (aY λn=>x.live a n z)⟩
theorem Ext.same {S:Sto} {H H':Hp} (s:Same H H'):Ext S H S H' where
 keep:=λa o _ h=>s a o h
 live:=λa h=>by
  cases e:H a with
  | none=>exact absurd e h
  | some o =>
   rw[s a o e];exact λz=>by cases z
 new:=λ_ h=>.inl h
theorem Ext.kp {F:Am} {S S':Sto} {H H':Hp} (x:Ext S H S' H'):Keep (mt S F) H (mt S' F) H':=⟨λa o h e=>x.keep a o (aY λn=>h (.inl n)) e,λa h e=>λz=>by
 rcases z with z | z
 ·rcases x.new a z with y | y
  ·exact h (.inl y)
  ·exact e y
 ·exact h (.inr z)⟩
section
variable {K:Fg} {F:Am} {S S':Sto} {H H':Hp}
theorem RepV.ext {d:D} {v:V} (h:RepV K (mt S F) H d v) (x:Ext S H S' H'):RepV K (mt S' F) H' d v:=h.keep x.kp
theorem RepL.ext {ds:List D} {vs:List V} (h:RepL K (mt S F) H ds vs) (x:Ext S H S' H'):RepL K (mt S' F) H' ds vs:=h.keep x.kp
theorem Rp.same (r:Rp K F S H) (s:Same H H'):Rp K F S H' where
 obj:=λa o h=>by
  have q:=r.obj a o h;have e:H' a=H a:=by
   cases z:H a with
   | none=>exact absurd z q.live
   | some u=>exact s a u z
  exact q.keep (Ext.same s).kp e
 frm:=λa h=>by
  refine hd λy i=>?_;obtain⟨⟨zs,e,ct⟩,h2⟩:=r.frm a h;refine i ?_;exact⟨⟨zs,s a _ e,ct⟩,h2⟩
theorem Ext.write {a:Addr} {o:DO} {u:HO} (h:S a≠none):Ext S H (supd S a o) (upd H a u) where
 keep:=λb ob h1 h2=>by
  have ne:b≠a:=by rintro rfl;exact h h1
  rw[upd_ne ne];exact h2
 live:=λb i=>by
  by_cases e:b=a
  ·subst e;rw[aQc];exact λz=>by cases z
  ·rw[upd_ne e];exact i
 new:=λb i=>by
  by_cases e:b=a
  ·subst e;exact .inl h
  ·rw[supd_ne e] at i;exact .inl i
theorem Rp.write {a:Addr} {o:DO} {u:HO} (r:Rp K F S H) (h:S a≠none) (q:RepO K (mt (supd S a o) F) (upd H a u) a o):Rp K F (supd S a o) (upd H a u) where
 obj:=λb ob hb=>by
  by_cases e:b=a
  ·subst e;rw[supd_same] at hb;cases hb;exact q
  ·rw[supd_ne e] at hb;exact(r.obj b ob hb).keep (Ext.write h).kp (upd_ne e)
 frm:=λb hb=>by
  have e:b≠a:=by rintro rfl;exact h (r.frm b hb).2
  rw[upd_ne e,supd_ne e];exact r.frm b hb
theorem Rp.sn (r:Rp K F S H) {a:Addr} (h:H a=none):S a=none:=by
 cases e:S a with
 | none=>rfl
 | some o=>exact absurd h (r.obj a o e).live
theorem Ext.mk' {a:Addr} {o:DO} {u:HO} (h:H a=none):Ext S H (supd S a o) (upd H a u) where
 keep:=λb ob h1 h2=>by
  have ne:b≠a:=by rintro rfl;rw[h] at h2;cases h2
  rw[upd_ne ne];exact h2
 live:=λb i=>by
  have ne:b≠a:=by rintro rfl;exact i h
  rw[upd_ne ne];exact i
 new:=λb i=>by
  by_cases e:b=a
  ·subst e;exact .inr h
  ·rw[supd_ne e] at i;exact .inl i
theorem Rp.mk' {a:Addr} {o:DO} {u:HO} (r:Rp K F S H) (h:H a=none) (q:RepO K (mt (supd S a o) F) (upd H a u) a o):Rp K F (supd S a o) (upd H a u) where
 obj:=λb ob hb=>by
  by_cases e:b=a
  ·subst e;rw[supd_same] at hb;cases hb;exact q
  ·rw[supd_ne e] at hb;exact(r.obj b ob hb).keep (Ext.mk' h).kp (upd_ne e)
 frm:=λb hb=>by
  have e:b≠a:=by
   rintro rfl;refine hd λy i=>?_;obtain⟨⟨zs,e,_⟩,_⟩:=r.frm b hb;refine i ?_;rw[h] at e;cases e
  rw[upd_ne e,supd_ne e];exact r.frm b hb
theorem Ext.less {S':Sto} (h:∀ a o,S' a=some o->S a=some o):Ext S H S' H:=⟨λ_ _ _ e=>e,λ_ e=>e,λa e=>.inl λz=>by
 cases q:S' a with
 | none=>exact e q
 | some o=>rw[h a o q] at z;cases z⟩
theorem Rp.less {S':Sto} (r:Rp K F S H) (h:∀ a o,S' a=some o->S a=some o):Rp K F S' H where
 obj:=λa o e=>(r.obj a o (h a o e)).keep (Ext.less h).kp rfl
 frm:=λa e=>⟨(r.frm a e).1,by
  cases q:S' a with
  | none=>rfl
  | some o=>have:=h a o q;rw[(r.frm a e).2] at this;cases this⟩
theorem aJu {a:Addr}:∀ b o,sdel S a b=some o->S b=some o:=λb o e=>by
 by_cases z:b=a
 ·subst z;rw[aZ8] at e;cases e
 ·rwa [aQl z] at e
end
def look (g:Gm) (i:Nat) (k:D->Prop):Prop:=match i with
 | 0=>match g with
  | some d::_=>k d
  | _=>False
 | n + 1=>match g with
  | _::g=>look g n k
  | []=>False
def RepG (K:Fg) (M:Am) (H:Hp):Gm->St->Prop
 | [],σ=>σ=[]
 | none::g,σ=>∃ v τ,σ=v::τ/\RepG K M H g τ
 | some d::g,σ=>∃ v τ,σ=some v::τ/\RepV K M H d v/\RepG K M H g τ
theorem RepG.keep {K:Fg} {M M':Am} {H H':Hp} (k:Keep M H M' H'):∀ {g:Gm} {σ:St},RepG K M H g σ->RepG K M' H' g σ
 | [],_,h=>h
 | none::g,_,⟨v,τ,e,r⟩=>⟨v,τ,e,RepG.keep k r⟩
 | some d::g,_,⟨v,τ,e,q,r⟩=>⟨v,τ,e,q.keep k,RepG.keep k r⟩
theorem RepG.ext {K:Fg} {F:Am} {S S':Sto} {H H':Hp} {g:Gm} {σ:St} (h:RepG K (mt S F) H g σ) (x:Ext S H S' H'):RepG K (mt S' F) H' g σ:=h.keep x.kp
theorem RepG.look {K:Fg} {M:Am} {H:Hp} {k:D->Prop}:∀ {g:Gm} {σ:St} {i:Nat},RepG K M H g σ->look g i k->∃ v d,σ[i]?=some (some v)/\RepV K M H d v/\k d
 | [],_,0,_,h=>cI h
 | [],_,_ + 1,_,h=>cI h
 | none::_,_,0,_,h=>cI h
 | some d::g,_,0,⟨v,τ,e,q,r⟩,h=>⟨v,d,by rw[e];rfl,q,h⟩
 | some d::g,_,i + 1,⟨v,τ,e,q,r⟩,h=>by
  refine hd λL y=>?_;obtain⟨u,G,B,h1⟩:=RepG.look (i:=i) r h;refine y ?_;exact⟨u,G,by rw[e];simpa using B,h1⟩
 | none::g,_,i + 1,⟨v,τ,e,r⟩,h=>by
  refine hd λL y=>?_;obtain⟨u,G,B,h1⟩:=RepG.look (i:=i) r h;refine y ?_;exact⟨u,G,by rw[e];simpa using B,h1⟩
theorem RepG.set {K:Fg} {M:Am} {H:Hp} {d:D} {v:V} (q:RepV K M H d v):∀ {g:Gm} {σ:St} (i:Nat),RepG K M H g σ->RepG K M H (g.set i (some d)) (σ.set i (some v))
 | [],_,_,h=>by cases h;rfl
 | none::g,_,0,⟨w,τ,e,r⟩=>by subst e;exact⟨v,τ,rfl,q,r⟩
 | some _::g,_,0,⟨w,τ,e,_,r⟩=>by subst e;exact⟨v,τ,rfl,q,r⟩
 | none::g,_,i + 1,⟨w,τ,e,r⟩=>by subst e;exact⟨w,_,rfl,RepG.set q i r⟩
 | some _::g,_,i + 1,⟨w,τ,e,z,r⟩=>by subst e;exact⟨w,_,rfl,z,RepG.set q i r⟩
abbrev DK:=D->Sto->Prop
abbrev ED:=Gm->Sto->DK->Prop
abbrev TD:=Gm->Sto->(Bool->Sto->Prop)->Prop
abbrev AD:=Gm->Sto->(List D->Sto->Prop)->Prop
structure EndsD where
 nx:Gm->Sto->Prop
 rt:DK
 bk:Gm->Sto->Prop:=λ_ _=>False
 ct:Gm->Sto->Prop:=λ_ _=>False
abbrev SD:=EndsD->Gm->Sto->Prop
def upE (K:Fg) (t:ED):TE:=fun σ H Q=>∃ F S Γ QD,Rp K F S H/\RepG K (mt S F) H Γ σ/\t Γ S QD/\∀ v d H' S',Ext S H S' H'->Rp K F S' H'->RepV K (mt S' F) H' d v->QD d S'->Q v H'
theorem upE.el {K:Fg} {t:ED} {σ:St} {H:Hp} {Q:VK} {p:Prop} (h:upE K t σ H Q) (k:∀ F S Γ QD,Rp K F S H->RepG K (mt S F) H Γ σ->t Γ S QD->(∀ v d H' S',Ext S H S' H'->Rp K F S' H'->RepV K (mt S' F) H' d v->QD d S'->Q v H')->p):p:=by
 refine hd λB i=>?_;obtain⟨F,S,Γ,QD,h0,h1,h2,y⟩:=h;refine i ?_;exact k F S Γ QD h0 h1 h2 y
def upT (K:Fg) (t:TD):TT:=fun σ H Q=>∃ F S Γ QD,Rp K F S H/\RepG K (mt S F) H Γ σ/\t Γ S QD/\∀ b H' S',Ext S H S' H'->Rp K F S' H'->QD b S'->Q b H'
theorem upT.el {K:Fg} {t:TD} {σ:St} {H:Hp} {Q:Bool->Hp->Prop} {p:Prop} (h:upT K t σ H Q) (k:∀ F S Γ QD,Rp K F S H->RepG K (mt S F) H Γ σ->t Γ S QD->(∀ b H' S',Ext S H S' H'->Rp K F S' H'->QD b S'->Q b H')->p):p:=by
 refine hd λB i=>?_;obtain⟨F,S,Γ,QD,h0,h1,h2,y⟩:=h;refine i ?_;exact k F S Γ QD h0 h1 h2 y
def upA (K:Fg) (t:AD):TA:=fun σ H Q=>∃ F S Γ QD,Rp K F S H/\RepG K (mt S F) H Γ σ/\t Γ S QD/\∀ vs ds H' S',Ext S H S' H'->Rp K F S' H'->RepL K (mt S' F) H' ds vs->QD ds S'->Q vs H'
theorem upA.el {K:Fg} {t:AD} {σ:St} {H:Hp} {Q:List V->Hp->Prop} {p:Prop} (h:upA K t σ H Q) (k:∀ F S Γ QD,Rp K F S H->RepG K (mt S F) H Γ σ->t Γ S QD->(∀ vs ds H' S',Ext S H S' H'->Rp K F S' H'->RepL K (mt S' F) H' ds vs->QD ds S'->Q vs H')->p):p:=by
 refine hd λB i=>?_;obtain⟨F,S,Γ,QD,h0,h1,h2,y⟩:=h;refine i ?_;exact k F S Γ QD h0 h1 h2 y
structure CnS (K:Fg) (F:Am) (S:Sto) (H:Hp) (E:EndsD) (D':Ends):Prop where
 nx:∀ Γ' S' σ' H',Ext S H S' H'->Rp K F S' H'->RepG K (mt S' F) H' Γ' σ'->E.nx Γ' S'->D'.nx σ' H'
 rt:∀ v d H' S',Ext S H S' H'->Rp K F S' H'->RepV K (mt S' F) H' d v->E.rt d S'->D'.rt v H'
 bk:∀ Γ' S' σ' H',Ext S H S' H'->Rp K F S' H'->RepG K (mt S' F) H' Γ' σ'->E.bk Γ' S'->D'.bk σ' H'
 ct:∀ Γ' S' σ' H',Ext S H S' H'->Rp K F S' H'->RepG K (mt S' F) H' Γ' σ'->E.ct Γ' S'->D'.ct σ' H'
theorem CnS.ext {K:Fg} {F:Am} {S S1:Sto} {H H1:Hp} {E:EndsD} {D':Ends} (c:CnS K F S H E D') (x:Ext S H S1 H1):CnS K F S1 H1 E D' :=
 ⟨fun Γ' S' σ' H' y=>c.nx Γ' S' σ' H' (x.trans y),λv d H' S' y=>c.rt v d H' S' (x.trans y),fun Γ' S' σ' H' y=>c.bk Γ' S' σ' H' (x.trans y),fun Γ' S' σ' H' y=>c.ct Γ' S' σ' H' (x.trans y)⟩
def upS (K:Fg) (t:SD):TS:=λD' σ H=>∃ F S Γ E,Rp K F S H/\RepG K (mt S F) H Γ σ/\t E Γ S/\CnS K F S H E D'
theorem upS.el {K:Fg} {t:SD} {D':Ends} {σ:St} {H:Hp} {p:Prop} (h:upS K t D' σ H) (k:∀ F S Γ E,Rp K F S H->RepG K (mt S F) H Γ σ->t E Γ S->CnS K F S H E D'->p):p:=by
 refine hd λB i=>?_;obtain⟨F,S,Γ,E,h0,h1,h2,y⟩:=h;refine i ?_;exact k F S Γ E h0 h1 h2 y
structure PD (K:Fg) (X:Cx) (e:Expr) (t:ED):Prop where
 o:PE X e (upE K t)
structure PTD (K:Fg) (X:Cx) (e:Expr) (t:TD):Prop where
 o:PT X e (upT K t)
structure PAD (K:Fg) (X:Cx) (es:List Expr) (t:AD):Prop where
 o:PA X es (upA K t)
structure PSD (K:Fg) (X:Cx) (st:Stmt) (t:SD):Prop where
 o:PS X st (upS K t)
structure PSsD (K:Fg) (X:Cx) (st:List Stmt) (t:SD):Prop where
 o:PSs X st (upS K t)
section
variable {X:Cx} {K:Fg}
theorem PD.of {e:Expr} {te:TE} {t:ED} (h:PE X e te) (i:∀ σ H Q,upE K t σ H Q->te σ H Q):PD K X e t:=⟨λpins s σ H Q I q=>h pins s σ H Q I (i σ H Q q)⟩
theorem PTD.of {e:Expr} {te:TT} {t:TD} (h:PT X e te) (i:∀ σ H Q,upT K t σ H Q->te σ H Q):PTD K X e t:=⟨λpins s σ H Q I q=>h pins s σ H Q I (i σ H Q q)⟩
theorem PAD.of {e:List Expr} {te:TA} {t:AD} (h:PA X e te) (i:∀ σ H Q,upA K t σ H Q->te σ H Q):PAD K X e t:=⟨λpos pins s σ H Q I q=>h pos pins s σ H Q I (i σ H Q q)⟩
theorem PSD.of {e:Stmt} {te:TS} {t:SD} (h:PS X e te) (i:∀ D' σ H,upS K t D' σ H->te D' σ H):PSD K X e t:=⟨λpins s σ H D' I q=>h pins s σ H D' I (i D' σ H q)⟩
theorem PSsD.of {e:List Stmt} {te:TS} {t:SD} (h:PSs X e te) (i:∀ D' σ H,upS K t D' σ H->te D' σ H):PSsD K X e t:=⟨λpins s σ H D' I q=>h pins s σ H D' I (i D' σ H q)⟩
def dVar (i:Nat):ED:=fun Γ S Q=>look Γ i λd=>Q d S
def dC (d:D):ED:=λ_ S Q=>Q d S
theorem dv (i:Nat) {x:Str} {pos:Pos} (hN:X.N[i]?=some x:=by rfl) (hv:Vis X.env.scope x:=by first | exact aR rfl | exact fQ (aR rfl) | exact fQ (fQ rfl)) (hd:dbg x=false:=by decide)
  (hcd:(x == ("__classdict__":Str))=false:=by decide):PD K X (.Name x pos) (dVar i):=.of (fZu hN hv hd hcd) fun σ H Q y=>y.el λF S Γ QD r g h c=>by
 obtain⟨v,d,e,q,z⟩:=g.look h;exact⟨v,e,c v d H S (Ext.refl _ _) r q z⟩
theorem up_c {d:D} {v:V} (h:∀ M H,RepV K M H d v):∀ σ H Q,upE K (dC d) σ H Q->tC v σ H Q:=fun σ H Q i=>i.el λF S Γ QD r g q c=>c v d H S (Ext.refl _ _) r (h _ _) q
theorem aQ5 {i j pos}:PD K X (.Constant (.int i) j pos) (dC (.int i)):=.of eZf (up_c λ_ _=>by unfold RepV;rfl)
theorem e_bl {b j pos}:PD K X (.Constant (.bool b) j pos) (dC (.bl b)):=.of gZk (up_c λ_ _=>by unfold RepV;rfl)
theorem aJ5 {j pos}:PD K X (.Constant .none j pos) (dC .non):=.of fZv (up_c λ_ _=>by unfold RepV;rfl)
theorem aZf {x j pos}:PD K X (.Constant (.str x) j pos) (dC (.str x)):=.of cJv (up_c λ_ _=>by unfold RepV;rfl)
theorem e_ty {x:Str} {n:String} {pos:Pos} (hg:Gl X x) (hm:X.mg x=none) (hv:bz x=some (.type n)) (hn:x ≠ "__name__":=by decide) (hd:dbg x=false:=by decide):PD K X (.Name x pos) (dC (.ty n)) :=
 .of (gZz hg hm hv hn hd) (up_c λ_ _=>by unfold RepV;rfl)
def Cn (K:Fg) (F:Am) (S:Sto) (H:Hp) (QD:DK) (Q:VK):Prop:=∀ v d H' S',Ext S H S' H'->Rp K F S' H'->RepV K (mt S' F) H' d v->QD d S'->Q v H'
abbrev R2D:=D->D->Sto->DK->Prop
def OpD (K:Fg) (r:R2) (rd:R2D):Prop:=∀ F S H d e x y Q QD,Rp K F S H->RepV K (mt S F) H d x->RepV K (mt S F) H e y->rd d e S QD->Cn K F S H QD Q->r x y H Q
def dOp (rd:R2D) (ta tb:ED):ED:=fun Γ S Q=>ta Γ S λx S1=>tb Γ S1 λy S2=>rd x y S2 Q
theorem eQg {r:R2} {rd:R2D} {ta tb:ED} (h:OpD K r rd):∀ σ H Q,upE K (dOp rd ta tb) σ H Q->tOp r (upE K ta) (upE K tb) σ H Q:=fun σ H Q G=>G.el λF S Γ QD r g q c =>
 ⟨F,S,Γ,_,r,g,q,λx d H1 S1 B U v1 Z=>⟨F,S1,Γ,_,U,g.ext B,Z,λy e H2 S2 i O v2 Y=>h F S2 H2 d e x y Q QD O (v1.ext i) v2 Y λv z H3 S3 L=>c v z H3 S3 (B.trans (i.trans L))⟩⟩
theorem e_op {op:Operator} {r:R2} {rd:R2D} {a b:Expr} {ta tb:ED} {pos:Pos} (ho:OpR X (eX op) r) (h:OpD K r rd) (ha:PD K X a ta) (hb:PD K X b tb):PD K X (.BinOp a op b pos) (dOp rd ta tb):=.of (gZs ho ha.o hb.o) (eQg h)
theorem cJk {op:CmpOp} {r:R2} {rd:R2D} {a b:Expr} {ta tb:ED} {pos:Pos} (ho:OpR X (bM op) r) (h:OpD K r rd) (ha:PD K X a ta) (hb:PD K X b tb) (hm:dW op b=false):PD K X (.Compare a [op] [b] pos) (dOp rd ta tb):=.of (eXu ho ha.o hb.o hm) (eQg h)
def aZ9 (t:ED):TD:=fun Γ S Q=>t Γ S λd S1=>∃ b,d=.bl b/\Q b S1
theorem fJi {r:R2} {rd:R2D} {ta tb:ED} (h:OpD K r rd):∀ σ H Q,upT K (aZ9 (dOp rd ta tb)) σ H Q->eXv (tOp r (upE K ta) (upE K tb)) σ H Q:=fun σ H Q q=>eQg (rd:=rd) h σ H _ (by
 refine hd λO G=>?_;obtain⟨F,S,Γ,QD,r,g,q,c⟩:=q;refine G ?_;refine⟨F,S,Γ,_,r,g,q,λv d H1 L i y v1 ⟨b,e,B⟩=>?_⟩;subst e;unfold RepV at v1;exact⟨b,v1,c b H1 L i y B⟩)
theorem aJf {op:CmpOp} {r:R2} {rd:R2D} {a b:Expr} {ta tb:ED} {pos:Pos} (ho:OpR X (bM op) r) (h:OpD K r rd) (ha:PD K X a ta) (hb:PD K X b tb) (hm:dW op b=false):PTD K X (.Compare a [op] [b] pos) (aZ9 (dOp rd ta tb)):=.of (eXw ho ha.o hb.o hm) (fJi h)
end
end L2
set_option maxHeartbeats 4000000
namespace L2
open PySem PySem.Spec PyProof.Rows
section
variable {K:Fg} {F:Am} {S:Sto} {H:Hp} {QD:DK} {Q:VK}
theorem Cn.here (c:Cn K F S H QD Q) (r:Rp K F S H) {d:D} {v:V} (h:RepV K (mt S F) H d v) (q:QD d S):Q v H:=c v d H S (Ext.refl _ _) r h q
theorem Cn.int (c:Cn K F S H QD Q) (r:Rp K F S H) {i:Int} (q:QD (.int i) S):Q (.int i) H:=c.here r (by unfold RepV;rfl) q
theorem Cn.str (c:Cn K F S H QD Q) (r:Rp K F S H) {i:Str} (q:QD (.str i) S):Q (.str i) H:=c.here r (by unfold RepV;rfl) q
theorem Cn.bl (c:Cn K F S H QD Q) (r:Rp K F S H) {i:Bool} (q:QD (.bl i) S):Q (.bl i) H:=c.here r (by unfold RepV;rfl) q
theorem Rp.nmt (r:Rp K F S H) {a:Addr} (h:H a=none):¬ mt S F a:=λz=>by
 rcases z with z | z
 ·exact z (r.sn h)
 ·refine hd λy i=>?_;obtain⟨⟨zs,e,_⟩,_⟩:=r.frm a z;refine i ?_;rw[h] at e;cases e
theorem Cn.tup (c:Cn K F S H QD Q) (r:Rp K F S H) {l:Addr} (h:H l=none) {ds:List D} {xs:List V} (rl:RepL K (mt S F) H ds xs) (q:QD (.tup ds) S):Q (.ref l) (upd H l (.tup xs)):=by
 have x:Ext S H S (upd H l (.tup xs)):=Ext.same (aQm h);refine c _ _ _ S x (r.same (aQm h)) ?_ q;unfold RepV;exact⟨l,xs,rfl,.inl ⟨r.nmt h,.inl aQc⟩,rl.ext x⟩
theorem Cn.lst (c:Cn K F S H QD Q) (r:Rp K F S H) {l:Addr} (h:H l=none) {ds:List D} {xs:List V} (rl:RepL K (mt S F) H ds xs) (q:QD (.lst ds) S):Q (.ref l) (upd H l (.lst xs)):=by
 have x:Ext S H S (upd H l (.lst xs)):=Ext.same (aQm h);refine c _ _ _ S x (r.same (aQm h)) ?_ q;unfold RepV;exact⟨l,xs,rfl,.inl ⟨r.nmt h,.inl aQc⟩,rl.ext x⟩
theorem Cn.lstR (c:Cn K F S H QD Q) (r:Rp K F S H) {l:Addr} (h:H l=none) {ds:List D} {xs:List V} (rl:RepL K (mt S F) H ds xs) (q:QD (.ref l) (supd S l (.lst ds))):Q (.ref l) (upd H l (.lst xs)):=by
 have x:Ext S H (supd S l (.lst ds)) (upd H l (.lst xs)):=Ext.mk' h;exact c _ _ _ _ x (r.mk' h ⟨xs,aQc,rl.ext x⟩) (by unfold RepV;rfl) q
def newL (b:Bool) (ds:List D) (S:Sto) (Q:DK):Prop:=match b with
 | false=>Q (.lst ds) S
 | true=>∀ p,S p=none->Q (.ref p) (supd S p (.lst ds))
theorem Cn.new (c:Cn K F S H QD Q) (r:Rp K F S H) {b:Bool} {l:Addr} (h:H l=none) {ds:List D} {xs:List V} (rl:RepL K (mt S F) H ds xs) (q:newL b ds S QD):Q (.ref l) (upd H l (.lst xs)):=by
 cases b with
 | false=>exact c.lst r h rl q
 | true=>exact c.lstR r h rl (q l (r.sn h))
def lsIs (S:Sto):D->List D->Prop
 | .lst ys,xs=>ys=xs
 | .ref a,xs=>S a=some (.lst xs)
 | _,_=>False
def sqIs (S:Sto):D->List D->Prop
 | .tup ys,xs=>ys=xs
 | .lst ys,xs=>ys=xs
 | .ref a,xs=>S a=some (.lst xs)
 | _,_=>False
theorem lsIs.sl (r:Rp K F S H) {d:D} {v:V} {ds:List D} (h:RepV K (mt S F) H d v) (l:lsIs S d ds):∃ a xs,v=.ref a/\SqL K H a xs/\RepL K (mt S F) H ds xs:=by
 cases d with
 | lst ys =>
  cases l;unfold RepV at h;refine hd λy i=>?_;obtain⟨a,xs,e,q,z⟩:=h;refine i ?_;exact⟨a,xs,e,q.sq,z⟩
 | ref a =>
  unfold RepV at h;refine hd λy i=>?_;obtain⟨xs,e,z⟩:=r.obj a _ l;refine i ?_;exact⟨a,xs,h,SqL.of e,z⟩
 | _=>exact l.elim
theorem tup.st {ds:List D} {v:V} (h:RepV K (mt S F) H (.tup ds) v):∃ a xs,v=.ref a/\SqT K H a xs/\RepL K (mt S F) H ds xs:=by
 unfold RepV at h;refine hd λy i=>?_;obtain⟨a,xs,e,t,z⟩:=h;refine i ?_;exact⟨a,xs,e,t.sq,z⟩
theorem sqIs.sq (r:Rp K F S H) {d:D} {v:V} {ds:List D} (h:RepV K (mt S F) H d v) (l:sqIs S d ds):∃ a xs,v=.ref a/\(SqL K H a xs\/SqT K H a xs)/\RepL K (mt S F) H ds xs:=by
 cases d with
 | tup ys =>
  cases l;refine hd λy i=>?_;obtain⟨a,xs,e,t,z⟩:=tup.st h;refine i ?_;exact⟨a,xs,e,.inr t,z⟩
 | lst ys =>
  refine hd λy i=>?_;obtain⟨a,xs,e,t,z⟩:=lsIs.sl r h (show lsIs S (.lst ys) ds from l);refine i ?_
  exact⟨a,xs,e,.inl t,z⟩
 | ref a =>
  refine hd λy i=>?_;obtain⟨a,xs,e,t,z⟩:=lsIs.sl r h (show lsIs S (.ref a) ds from l);refine i ?_
  exact⟨a,xs,e,.inl t,z⟩
 | _=>exact l.elim
theorem rint {i:Int} {v:V} (h:RepV K (mt S F) H (.int i) v):v=.int i:=by unfold RepV at h;exact h
theorem rstr {i:Str} {v:V} (h:RepV K (mt S F) H (.str i) v):v=.str i:=by unfold RepV at h;exact h
theorem rbl {i:Bool} {v:V} (h:RepV K (mt S F) H (.bl i) v):v=.bl i:=by unfold RepV at h;exact h
theorem rref {i:Addr} {v:V} (h:RepV K (mt S F) H (.ref i) v):v=.ref i:=by unfold RepV at h;exact h
theorem rnon {v:V} (h:RepV K (mt S F) H .non v):v=.non:=by unfold RepV at h;exact h
end
section
variable {X:Cx} {K:Fg}
def fJj (K:Fg):R2:=λx y H Q=>∃ l b xs zs,x=.ref l/\y=.ref b/\SqL K H l xs/\SqL K H b zs/\xs.length + zs.length<=sizeLine/\∀ p,H p=none->Q (.ref p) (upd H p (.lst (xs++zs)))
theorem fQ0 (hK:X.K=K:=by rfl):OpR X (eX .Add) (fJj K):=by
 subst hK;intro pins s σ H x y v u Q I rx ry h;obtain⟨l,b,xs,zs,rfl,rfl,hH,hB,hz,q⟩:=h;cases rx;cases ry;obtain⟨G,r,⟨⟨cls,dd,data,sl⟩,n,ho,hc,hd,O⟩,hz1⟩:=I.list hH;obtain⟨i,Z,⟨⟨cls2,dd2,data2,Y⟩,n2,L,U,hd2,B⟩,hz2⟩:=I.list hB;simp only at hc hd O U hd2 B;subst hc hd O U hd2 B;have h1:=r.length;have h2:=Z.length;refine i4 ⟨_,ho,rfl⟩ ⟨_,L,rfl⟩ noFill_list_add seq_list_add kL kz (j6 _ _)
  (list_addW l b G.toArray i.toArray n n2 none none sl Y (by rw[ar,ar];lia)) ⟨ho,L,?_⟩
 have ea:G.toArray++i.toArray=(G++i).toArray:=by simp
 rw[ea];exact⟨.ref _,_,I.lnew (t':=s.toks) (r.append Z) (by rw[ax];lia),rfl,q _ I.fresh⟩
def fJk (K:Fg):R2:=λx y H Q=>∃ a b ys,x=.ref a/\y=.ref b/\SqT K H a []/\SqT K H b ys/\Q (.ref b) H
theorem fQ1 (hK:X.K=K:=by rfl):OpR X (eX .Add) (fJk K):=by
 subst hK;intro pins s σ H x y v u Q I rx ry h;obtain⟨a,b,ys,rfl,rfl,ha,hb,q⟩:=h;cases rx;cases ry;refine hd λGq L=>?_;obtain⟨its,r1,p1,_⟩:=I.tuple ha;refine L ?_;refine hd λGq L=>?_;obtain⟨U,r2,p2,_⟩:=I.tuple hb;refine L ?_;cases r1;obtain⟨⟨cls,dd,data,sl⟩,Y,Z,n,hd⟩:=id p1;obtain⟨⟨cls2,O,data2,G⟩,i,B,n2,hd2⟩:=id p2;simp only at Z hd B hd2;subst Z hd B hd2;exact i4 ⟨_,Y,rfl⟩ ⟨_,i,rfl⟩ jU seq_tuple_add gS gL (gx _ _)
   (tuple_addW0 a b _ _ n n2 dd O sl G rfl) ⟨Y,i,⟨.ref b,H,I,rfl,q⟩⟩
def addD (b:Bool):R2D:=λd e S Q=>match d,e with
 | .int i,.int j=>Q (.int (i + j)) S
 | .str x,.str y=>x.length + y.length<=sizeLine/\Q (.str (x++y)) S
 | .tup xs,.tup ys=>xs.length + ys.length<=sizeLine/\Q (.tup (xs++ys)) S
 | d,e=>∃ xs ys,lsIs S d xs/\lsIs S e ys/\xs.length + ys.length<=sizeLine/\newL b (xs++ys) S Q
def fQ2 (K:Fg):R2:=λx y H Q=>rI0 (λi j=>.int (i + j)) x y H Q\/(∃ i j,x=.str i/\y=.str j/\i.length + j.length<=sizeLine/\Q (.str (i++j)) H)\/eJ6 K x y H Q\/fJk K x y H Q\/fJj K x y H Q
theorem fQ3 (hK:X.K=K:=by rfl):OpR X (eX .Add) (fQ2 K):=op_add.or (op_add_str.or ((eQ9 hK).or ((fQ1 hK).or (fQ0 hK))))
theorem fJl {b:Bool}:OpD K (fQ2 K) (addD b):=by
 intro F S H d e x y Q QD r hd he h c;have lists:(∃ xs ys,lsIs S d xs/\lsIs S e ys/\xs.length + ys.length<=sizeLine/\newL b (xs++ys) S QD)->fQ2 K x y H Q:=by
  rintro⟨xs,ys,O,L,U,q⟩;obtain⟨a,us,rfl,s1,B⟩:=lsIs.sl r hd O;obtain⟨a2,us2,rfl,s2,p2⟩:=lsIs.sl r he L;exact .inr (.inr (.inr (.inr ⟨a,a2,us,us2,rfl,rfl,s1,s2,by rw[B.length,p2.length];exact U,λp hp=>c.new r hp (B.app p2) q⟩)))
 cases d with
 | int i =>
  cases e with
  | int j=>rw[rint hd,rint he];exact .inl ⟨i,j,rfl,rfl,c.int r h⟩
  | _=>exact lists h
 | str i =>
  cases e with
  | str j=>rw[rstr hd,rstr he];exact .inr (.inl ⟨i,j,rfl,rfl,h.1,c.str r h.2⟩)
  | _=>exact lists h
 | tup xs =>
  cases e with
  | tup ys =>
   obtain⟨a,us,rfl,s1,B⟩:=tup.st hd;obtain⟨a2,us2,rfl,s2,p2⟩:=tup.st he
   by_cases G:xs=[]
   ·subst G;unfold RepL at B;subst B;exact .inr (.inr (.inr (.inl ⟨a,a2,us2,rfl,rfl,s1,s2,c.here r he (by simpa using h.2)⟩)))
   ·refine .inr (.inr (.inl ⟨a,a2,us,us2,rfl,rfl,s1,s2,λz=>G ?_,by rw[B.length,p2.length];exact h.1,λz=>?_,λ_ p hp=>c.tup r hp (B.app p2) h.2⟩))
    ·have:=B.length;rw[z] at this;exact bE this.symm
    ·have h0:ys=[]:=by have:=p2.length;rw[z] at this;exact bE this.symm
     subst h0;exact c.here r hd (by simpa using h.2)
  | _=>exact lists h
 | _=>exact lists h
def iiD (C:Int->Int->Prop) (g:Int->Int->D):R2D:=λd e S Q=>match d,e with
 | .int i,.int j=>C i j/\Q (g i j) S
 | _,_=>False
theorem od_I {C:Int->Int->Prop} {g:Int->Int->Int}:OpD K (rI C λi j=>.int (g i j)) (iiD C λi j=>.int (g i j)):=by
 intro F S H d e x y Q QD r hd he h c;cases d with
 | int i =>
  cases e with
  | int j=>rw[rint hd,rint he];exact⟨i,j,rfl,rfl,h.1,c.int r h.2⟩
  | _=>exact h.elim
 | _=>exact h.elim
def iiD0 (g:Int->Int->D):R2D:=λd e S Q=>match d,e with
 | .int i,.int j=>Q (g i j) S
 | _,_=>False
theorem gX5 {g:Int->Int->Int}:OpD K (rI0 λi j=>.int (g i j)) (iiD0 λi j=>.int (g i j)):=by
 intro F S H d e x y Q QD r hd he h c;cases d with
 | int i =>
  cases e with
  | int j=>rw[rint hd,rint he];exact⟨i,j,rfl,rfl,c.int r h⟩
  | _=>exact h.elim
 | _=>exact h.elim
theorem eQh {g:Int->Int->Bool}:OpD K (rI0 λi j=>.bl (g i j)) (iiD0 λi j=>.bl (g i j)):=by
 intro F S H d e x y Q QD r hd he h c;cases d with
 | int i =>
  cases e with
  | int j=>rw[rint hd,rint he];exact⟨i,j,rfl,rfl,c.bl r h⟩
  | _=>exact h.elim
 | _=>exact h.elim
section
variable {a b:Expr} {ta tb:ED} {pos:Pos}
theorem aZ0 {k:Bool} (ha:PD K X a ta) (hb:PD K X b tb) (hK:X.K=K:=by rfl):PD K X (.BinOp a .Add b pos) (dOp (addD k) ta tb):=e_op (fQ3 hK) fJl ha hb
theorem gX6 (ha:PD K X a ta) (hb:PD K X b tb):PD K X (.BinOp a .Sub b pos) (dOp (iiD0 λi j=>.int (i - j)) ta tb):=e_op fXa gX5 ha hb
theorem aXw (ha:PD K X a ta) (hb:PD K X b tb):PD K X (.BinOp a .Mult b pos) (dOp (iiD CMul λi j=>.int (i * j)) ta tb):=e_op fXb od_I ha hb
theorem aJ6 (ha:PD K X a ta) (hb:PD K X b tb):PD K X (.BinOp a .Mod b pos) (dOp (iiD (λ_ j=>0 < j) λi j=>.int (i % j)) ta tb):=e_op fXc od_I ha hb
theorem dZc (ha:PD K X a ta) (hb:PD K X b tb):PD K X (.BinOp a .FloorDiv b pos) (dOp (iiD CDiv λi j=>.int (i / j)) ta tb):=e_op eXs od_I ha hb
end
def unD (g:Int->D):D->Sto->DK->Prop:=λd S Q=>match d with
 | .int i=>Q (g i) S
 | _=>False
def dUn (rd:D->Sto->DK->Prop) (ta:ED):ED:=fun Γ S Q=>ta Γ S λx S1=>rd x S1 Q
theorem eQi {a:Expr} {ta:ED} {pos:Pos} (ha:PD K X a ta):PD K X (.UnaryOp .USub a pos) (dUn (unD λi=>.int (-i)) ta):=.of (fX9 eZh ha.o) fun σ H Q B=>B.el λF S Γ QD r g q c =>
 ⟨F,S,Γ,_,r,g,q,λv d H1 Z L O v1 y=>by
  cases d with
  | int i=>rw[rint v1];exact⟨i,rfl,Cn.int (λv z Y U G=>c v z Y U (L.trans G)) O y⟩
  | _=>exact y.elim⟩
def dNil:AD:=λ_ S Q=>Q [] S
def aQt (ta:ED) (tr:AD):AD:=fun Γ S Q=>ta Γ S λx S1=>tr Γ S1 λxs S2=>Q (x::xs) S2
theorem aQ1:PAD K X [] dNil:=.of aJb fun σ H Q i=>i.el λF S Γ QD r g q c=>c [] [] H S (Ext.refl _ _) r RepL.nil q
theorem aQ0 {e:Expr} {es:List Expr} {te:ED} {t:AD} (ha:PD K X e te) (hr:PAD K X es t) (hs:am (e::es) X.env=(false,eval e X.env)::am es X.env:=by rfl):PAD K X (e::es) (aQt te t) :=
 .of (aX1 ha.o hr.o hs) fun σ H Q B=>B.el λF S Γ QD r g q c=>⟨F,S,Γ,_,r,g,q,λv d H1 Z y L v1 U=>⟨F,Z,Γ,_,L,g.ext y,U,λvs ds H2 Y i G v2 O=>c (v::vs) (d::ds) H2 Y (y.trans i) G (RepL.cons (v1.ext i) v2) O⟩⟩
def dTup (t:AD):ED:=fun Γ S Q=>t Γ S λds S1=>ds.length<=sizeLine/\Q (.tup ds) S1
def dLst (b:Bool) (t:AD):ED:=fun Γ S Q=>t Γ S λds S1=>ds.length<=sizeLine/\newL b ds S1 Q
theorem Cn.shift {F:Am} {S S1:Sto} {H H1:Hp} {QD:DK} {Q:VK} (c:∀ v d H' S',Ext S H S' H'->Rp K F S' H'->RepV K (mt S' F) H' d v->QD d S'->Q v H') (x:Ext S H S1 H1):Cn K F S1 H1 QD Q:=λv z B y i=>c v z B y (x.trans i)
theorem bZ7 {es:List Expr} {t:AD} {x1 pos} (h:PAD K X es t):PD K X (.Tuple es x1 pos) (dTup t):=.of (fXj h.o) fun σ H Q y=>y.el λF S Γ QD r g q c =>
 ⟨F,S,Γ,_,r,g,q,λvs ds H1 G x1 B v1 i=>⟨by rw[v1.length];exact i.1,λp hp=>(Cn.shift c x1).tup B hp v1 i.2⟩⟩
theorem aQr {b:Bool} {es:List Expr} {t:AD} {pos} (h:PAD K X es t):PD K X (.List es pos) (dLst b t):=.of (fXk h.o) fun σ H Q y=>y.el λF S Γ QD r g q c =>
 ⟨F,S,Γ,_,r,g,q,λvs ds H1 L B G v1 i=>⟨by rw[v1.length];exact i.1,λp hp=>(Cn.shift c B).new G hp v1 i.2⟩⟩
abbrev RCD:=List D->Sto->DK->Prop
def bZy (K:Fg) (r:List V->Hp->VK->Prop) (rd:RCD):Prop:=∀ F S H ds vs Q QD,Rp K F S H->RepL K (mt S F) H ds vs->rd ds S QD->Cn K F S H QD Q->r vs H Q
def dCB (rd:RCD) (t:AD):ED:=fun Γ S Q=>t Γ S λds S1=>rd ds S1 Q
theorem fJm {r:List V->Hp->VK->Prop} {rd:RCD} {t:AD} (h:bZy K r rd):∀ σ H Q,upE K (dCB rd t) σ H Q->tCB r (upA K t) σ H Q:=fun σ H Q i=>i.el λF S Γ QD r g q c =>
 ⟨F,S,Γ,_,r,g,q,λvs ds H1 L y B v1 G=>h F L H1 ds vs Q QD B v1 G (Cn.shift c y)⟩
theorem aJ7 {id:String} {r:List V->Hp->VK->Prop} {rd:RCD} {x:Str} {p pos:Pos} {e:Expr} {es:List Expr} {t:AD} (hc:CallR X (.builtin id) r) (h:bZy K r rd) (hg:Gl X x) (hm:X.mg x=none) (hv:bz x=some (.builtin id)) (ha:PAD K X (e::es) t) (hn:x ≠ "__name__":=by decide) (hdb:dbg x=false:=by decide)
  (he:am (e::es) X.env=(false,eval e X.env)::am es X.env:=by rfl) (hpl:(bn pos (am es X.env)).any (·.1)=false:=by rfl):PD K X (.Call (.Name x p) (e::es) [] pos) (dCB rd t):=.of (bQj hc hg hm hv ha.o hn hdb he hpl) (fJm h)
theorem bJ1 {T:String} {r:List V->Hp->VK->Prop} {rd:RCD} {x:Str} {p pos:Pos} {e:Expr} {es:List Expr} {t:AD} (hc:CallR X (.type T) r) (h:bZy K r rd) (hg:Gl X x) (hm:X.mg x=none) (hv:bz x=some (.type T)) (ha:PAD K X (e::es) t) (hn:x ≠ "__name__":=by decide) (hdb:dbg x=false:=by decide)
  (he:am (e::es) X.env=(false,eval e X.env)::am es X.env:=by rfl) (hpl:(bn pos (am es X.env)).any (·.1)=false:=by rfl):PD K X (.Call (.Name x p) (e::es) [] pos) (dCB rd t):=.of (aJc hc hg hm hv ha.o hn hdb he hpl) (fJm h)
end
mutual
def beqD:D->D->Bool
 | .non,.non=>true
 | .bl a,.bl b=>a == b
 | .int a,.int b=>decide (a=b)
 | .str a,.str b=>decide (a=b)
 | .ty a,.ty b=>decide (a=b)
 | .ref a,.ref b=>decide (a=b)
 | .tup a,.tup b=>cZ2 a b
 | .lst a,.lst b=>cZ2 a b
 | _,_=>false
def cZ2:List D->List D->Bool
 | [],[]=>true
 | a::as,b::bs=>beqD a b && cZ2 as bs
 | _,_=>false
end
theorem bqE {α:Type} [BEq α] [LawfulBEq α] {c:α->D} (inj:∀ x y,c x=c y->x=y) (x y:α):(x == y)=true↔c x=c y:=⟨λh=>congrArg c (beq_iff_eq.mp h),λh=>beq_iff_eq.mpr (inj x y h)⟩
theorem bdE {α:Type} {c:α->D} (inj:∀ x y,c x=c y->x=y) (x y:α) {d:Decidable (x=y)}:@decide (x=y) d=true↔c x=c y:=⟨λh=>congrArg c (of_decide_eq_true h),λh=>decide_eq_true (inj x y h)⟩
theorem bnE {p:Prop} (h:¬ p):false=true↔p:=⟨λz=>absurd z bo,λz=>absurd z h⟩
mutual
theorem dZd:∀ {a b:D},beqD a b=true↔a=b
 | .non,b=>by
  cases b with
  | non=>exact⟨λ_=>rfl,λ_=>rfl⟩
  | _=>exact bnE (λh=>by cases h)
 | .bl x,b=>by
  cases b with
  | bl y=>exact bqE (λ_ _ h=>by injection h) x y
  | _=>exact bnE (λh=>by cases h)
 | .int x,b=>by
  cases b with
  | int y=>exact bdE (λ_ _ h=>by injection h) x y
  | _=>exact bnE (λh=>by cases h)
 | .str x,b=>by
  cases b with
  | str y=>exact bdE (λ_ _ h=>by injection h) x y
  | _=>exact bnE (λh=>by cases h)
 | .ty x,b=>by
  cases b with
  | ty y=>exact bdE (λ_ _ h=>by injection h) x y
  | _=>exact bnE (λh=>by cases h)
 | .ref x,b=>by
  cases b with
  | ref y=>exact bdE (λ_ _ h=>by injection h) x y
  | _=>exact bnE (λh=>by cases h)
 | .tup as,b=>by
  cases b with
  | tup bs=>exact beqDs_eq.trans ⟨λh=>congrArg D.tup h,λh=>by injection h⟩
  | _=>exact bnE (λh=>by cases h)
 | .lst as,b=>by
  cases b with
  | lst bs=>exact beqDs_eq.trans ⟨λh=>congrArg D.lst h,λh=>by injection h⟩
  | _=>exact bnE (λh=>by cases h)
theorem beqDs_eq:∀ {a b:List D},cZ2 a b=true↔a=b
 | [],b=>by cases b <;> simp[cZ2]
 | a::as,[]=>by simp[cZ2]
 | a::as,b::bs=>by
  simp only[cZ2,aI,List.cons.injEq];rw[dZd,beqDs_eq]
end
instance:DecidableEq D:=λa b=>decidable_of_iff _ (dZd (a:=a) (b:=b))
def okE:Nat->D->D->Bool
 | _,.int _,.int _=>true
 | _,.str _,.str _=>true
 | _,.bl _,.bl _=>true
 | _,.non,.non=>true
 | _,.non,.int _=>true
 | _,.int _,.non=>true
 | _,.non,.str _=>true
 | _,.str _,.non=>true
 | n + 1,.non,.tup _=>true
 | n + 1,.tup _,.non=>true
 | n + 1,.tup xs,.tup ys=>(xs.zip ys).all λp=>okE n p.1 p.2
 | n + 1,.lst xs,.lst ys=>(xs.zip ys).all λp=>okE n p.1 p.2
 | _,_,_=>false
abbrev okEs (n:Nat) (xs ys:List D):Bool:=(xs.zip ys).all λp=>okE n p.1 p.2
section
variable {X:Cx} {pins:List (Addr × Obj)} {σ:St} {H:Hp} {s:ai} {M:Am}
structure Eq3 (A:aQ) (s:ai) (u v:ae) (b:Bool):Prop where
 eq:cR A s u v b
 rc:SeqAt.RcAt A s u v b
 ne:cL A s u v (!b)
theorem fQ4 {xs ys:List D}:decide (D.tup xs=D.tup ys)=decide (xs=ys):=by simp
theorem fQ5 {xs ys:List D}:decide (D.lst xs=D.lst ys)=decide (xs=ys):=by simp
theorem fQ6 {xs ys:List D} {j:Nat} {a b:D} (h1:xs[j]?=some a) (h2:ys[j]?=some b):(a,b)∈xs.zip ys:=by
 have y:j < xs.length:=by
  rcases bO j xs.length with z | z
  ·exact z
  ·rw[bB z] at h1;cases h1
 have i:j < ys.length:=by
  rcases bO j ys.length with z | z
  ·exact z
  ·rw[bB z] at h2;cases h2
 have G:xs[j]=a:=by rw[ah y] at h1;exact aK h1
 have e2:ys[j]=b:=by rw[ah i] at h2;exact aK h2
 have B:j < (xs.zip ys).length:=by rw[List.length_zip];lia
 have:(xs.zip ys)[j]=(a,b):=by rw[List.getElem_zip,G,e2]
 rw[<- this];exact dQ B
theorem eZx {n:Nat} {xs ys:List V} {us vs:List ae} {ds es:List D} {A:aQ} (p:RepL X.K M H ds xs) (p':RepL X.K M H es ys) (r:Vals xs us) (r':Vals ys vs) (hz:okEs n ds es=true)
  (ih:∀ {d e:D} {x y:V} {u v:ae},RepV X.K M H d x->RepV X.K M H e y->RelV x u->RelV y v->okE n d e=true->Eq3 A s u v (decide (d=e))) :
  ∀ j (h1:j < us.toArray.size) (h2:j < vs.toArray.size),cR A s us.toArray[j] vs.toArray[j] (decide (ds[j]?=es[j]?)):=by
 intro j h1 h2;simp only[ar] at h1 h2;have L:j < xs.length:=by have:=r.length;lia
 have G:j < ys.length:=by have:=r'.length;lia
 obtain⟨d,Y,rd⟩:=p.get' (ah L);obtain⟨e,U,re⟩:=p'.get' (ah G);obtain⟨u,O,ru⟩:=r.get (ah L);obtain⟨v,ev,Z⟩:=r'.get (ah G);have B:us[j]=u:=by rw[ah h1] at O;exact aK O
 have i:vs[j]=v:=by rw[ah h2] at ev;exact aK ev
 have:decide (ds[j]?=es[j]?)=decide (d=e):=by rw[Y,U];simp
 rw[this];simp only[fh];rw[B,i];exact(ih rd re ru Z (bK.mp hz _ (fQ6 Y U))).eq
theorem eZy {n:Nat} {a b:Addr} {xs ys:List V} {ds es:List D} {A:aQ} (I:Inv X pins σ H s) (q:SqL X.K H a xs) (q':SqL X.K H b ys) (p:RepL X.K M H ds xs) (p':RepL X.K M H es ys) (hz:okEs n ds es=true) (hu:A.units + (n + 1) < bU)
  (ih:∀ {d e:D} {x y:V} {u v:ae},RepV X.K M H d x->RepV X.K M H e y->RelV x u->RelV y v->okE n d e=true->Eq3 A.in1 s u v (decide (d=e))) :
  SeqAt.RcAt A s (.ref a) (.ref b) (decide (ds=es))/\cL A s (.ref a) (.ref b) (!decide (ds=es)):=by
 obtain⟨us,U,pl,_⟩:=I.list q;obtain⟨vs,O,i,_⟩:=I.list q';have l1:=p.length;have l2:=p'.length;have Z:=U.length;have Y:=O.length;have it:=eZx (A:=A.in1) p p' U O hz ih
 by_cases hl:ds.length=es.length
 ·have B:us.toArray.size=vs.toArray.size:=by rw[ar,ar];lia
  have L:((aP (us.toArray.size)).all λj=>decide (ds[j]?=es[j]?))=decide (ds=es):=by
   have:=dQn ds es us.toArray.size vs.toArray.size (by rw[ar];lia) (by rw[ar];lia)
   rw[B,Nat.min_self] at this;rw[B,<- this];simp
  have h1:=SeqAt.RcAt.lists (e:=λj=>decide (ds[j]?=es[j]?)) pl.isList i.isList B (show A.units < bU by lia) λj h1 h2=>it j h1 h2
  have h2:=cL.lists (e:=λj=>decide (ds[j]?=es[j]?)) pl.isList i.isList B (show A.units < bU by lia) λj h1 h2=>it j h1 h2
  rw[L] at h1 h2;exact⟨h1,h2⟩
 ·have B:(us.toArray.size != vs.toArray.size)=true:=by rw[ar,ar];simp;lia
  have G:ds≠es:=λe=>hl (by rw[e])
  rw[decide_eq_false G];exact⟨SeqAt.RcAt.lists_lengths pl.isList i.isList B (by lia),cL.lists_lengths pl.isList i.isList B (by lia)⟩
theorem fQ7 {n:Nat} (ih:∀ {d e:D} {v:V},RepV X.K M H d v->RepV X.K M H e v->okE n d e=true->d=e):∀ {ds es:List D} {xs:List V},RepL X.K M H ds xs->RepL X.K M H es xs->okEs n ds es=true->ds=es
 | [],[],_,_,_,_=>rfl
 | [],e::es,xs,p,i,_=>by have h1:=p.length;have h2:=i.length;rw[h1] at h2;simp at h2
 | d::ds,[],xs,p,i,_=>by have h1:=p.length;have h2:=i.length;rw[h1] at h2;simp at h2
 | d::ds,e::es,xs,p,i,h=>by
  unfold RepL at p i;obtain⟨v,vs,rfl,r,l⟩:=p;obtain⟨L,y,e1,B,G⟩:=i;cases e1;simp only[okEs,cK,List.all_cons,aI] at h;rw[ih r B h.1,fQ7 ih l G h.2]
inductive OkB:D->D->Prop where
 | ii (i j:Int):OkB (.int i) (.int j)
 | ss (i j:Str):OkB (.str i) (.str j)
 | bb (i j:Bool):OkB (.bl i) (.bl j)
 | nn:OkB .non .non
 | ni (i:Int):OkB .non (.int i)
 | iN (i:Int):OkB (.int i) .non
 | ns (i:Str):OkB .non (.str i)
 | sn (i:Str):OkB (.str i) .non
inductive OkC (n:Nat):D->D->Prop where
 | nt (ys:List D):OkC n .non (.tup ys)
 | tn (xs:List D):OkC n (.tup xs) .non
 | tt (xs ys:List D) (h:okEs n xs ys=true):OkC n (.tup xs) (.tup ys)
 | ll (xs ys:List D) (h:okEs n xs ys=true):OkC n (.lst xs) (.lst ys)
theorem okC0 {d e:D} (h:okE 0 d e=true):OkB d e:=by
 cases d <;> cases e <;> first | exact .ii _ _ | exact .ss _ _ | exact .bb _ _ | exact .nn | exact .ni _ | exact .iN _ | exact .ns _ | exact .sn _ | cases h
theorem okC1 {n:Nat} {d e:D} (h:okE (n + 1) d e=true):okE 0 d e=true\/OkC n d e:=by
 cases d <;> first | (cases e <;> first | exact .inl rfl | exact .inr (.nt _) | cases h) | (cases e <;> first | exact .inr (.tn _) | exact .inr (.tt _ _ h) | exact .inr (.ll _ _ h) | cases h)
theorem uniqB {d e:D} {v:V} (o:OkB d e) (h:RepV X.K M H d v) (h':RepV X.K M H e v):d=e:=by
 cases o <;> first | rfl | (unfold RepV at h h';rw[h] at h';cases h' <;> rfl)
theorem uniq (I:Inv X pins σ H s):∀ (n:Nat) {d e:D} {v:V},RepV X.K M H d v->RepV X.K M H e v->okE n d e=true->d=e:=by
 intro n
 induction n with
 | zero=>exact λh h' o=>uniqB (okC0 o) h h'
 | succ n B =>
  intro d e v h h' o;rcases okC1 o with o | o
  ·exact uniqB (okC0 o) h h'
  ·unfold RepV at h h';cases o with
   | nt ys=>obtain⟨a,xs,e1,_⟩:=h';rw[h] at e1;cases e1
   | tn ys=>obtain⟨a,xs,e1,_⟩:=h;rw[h'] at e1;cases e1
   | tt ds es o =>
    obtain⟨a,xs,rfl,t,l⟩:=h;obtain⟨b,ys,e1,i,y⟩:=h';cases e1
    have:=I.tuple_inj t.sq i.sq
    subst this;rw[fQ7 B l y o]
   | ll ds es o =>
    obtain⟨a,xs,rfl,t,l⟩:=h;obtain⟨b,ys,e1,i,y⟩:=h';cases e1
    have:=I.list_inj t.sq i.sq
    subst this;rw[fQ7 B l y o]
theorem eqB {A:aQ} {d e:D} {x y:V} {u v:ae} (o:OkB d e) (h:RepV X.K M H d x) (h':RepV X.K M H e y) (r:RelV x u) (r':RelV y v):Eq3 A s u v (decide (d=e)):=by
 cases o
 all_goals unfold RepV at h h';subst h;subst h'
 ·obtain⟨t,rfl⟩:=r;obtain⟨i,rfl⟩:=r';rw[show ∀ a b:Int,decide (D.int a=D.int b)=(a == b) from by intro a b;rw[beq_dec];simp];exact⟨cR.int_int _ _ _ _,SeqAt.RcAt.int_int _ _ _ _,cL.int_int _ _ _ _⟩
 ·obtain⟨t,rfl⟩:=r;obtain⟨i,rfl⟩:=r';rw[show ∀ a b:Str,decide (D.str a=D.str b)=(a == b) from by intro a b;rw[beq_dec];simp];exact⟨js _ _ _ _,SeqAt.RcAt.str_str _ _ _ _,cL.str_str _ _ _ _⟩
 ·cases r;cases r';rw[show ∀ a b:Bool,decide (D.bl a=D.bl b)=(a == b) from by intro a b;cases a <;> cases b <;> rfl];exact⟨cR.bool_bool _ _,SeqAt.RcAt.bool_bool _ _,cL.bool_bool _ _⟩
 ·cases r;cases r';exact⟨kG _,SeqAt.RcAt.none_none,cL.none_none⟩
 ·cases r;obtain⟨t,rfl⟩:=r';exact⟨cR.none_int _ _,SeqAt.RcAt.none_int _ _,cL.none_int _ _⟩
 ·obtain⟨t,rfl⟩:=r;cases r';exact⟨cR.int_none _ _,SeqAt.RcAt.int_none _ _,cL.int_none _ _⟩
 ·cases r;obtain⟨t,rfl⟩:=r';exact⟨cR.none_str _ _,SeqAt.RcAt.none_str _ _,cL.none_str _ _⟩
 ·obtain⟨t,rfl⟩:=r;cases r';exact⟨cR.str_none _ _,SeqAt.RcAt.str_none _ _,cL.str_none _ _⟩
theorem eq3 (I:Inv X pins σ H s):∀ (n:Nat) {A:aQ} {d e:D} {x y:V} {u v:ae},A.units + n < bU->RepV X.K M H d x->RepV X.K M H e y->RelV x u->RelV y v->okE n d e=true->Eq3 A s u v (decide (d=e)):=by
 intro n
 induction n with
 | zero=>exact λ_ h h' r r' o=>eqB (okC0 o) h h' r r'
 | succ n ih =>
  intro A d e x y u v hu h h' r r' o;rcases okC1 o with o | o
  ·exact eqB (okC0 o) h h' r r'
  ·cases o with
   | nt _ =>
    unfold RepV at h;subst h;cases r;obtain⟨a,xs,rfl,t,l⟩:=(show RepV X.K M H (.tup _) y from h')
    cases r';obtain⟨us,L,pl,_⟩:=I.tuple t.sq;exact⟨cR.none_tuple pl (by lia),SeqAt.RcAt.none_tuple pl (by lia),cL.none_tuple pl (by lia)⟩
   | tn _ =>
    unfold RepV at h';subst h';cases r';obtain⟨a,xs,rfl,t,l⟩:=(show RepV X.K M H (.tup _) x from h)
    cases r;obtain⟨us,L,pl,_⟩:=I.tuple t.sq;exact⟨cR.tuple_none pl (by lia),SeqAt.RcAt.tuple_none pl (by lia),cL.tuple_none pl (by lia)⟩
   | tt ds es o =>
    have un:=λ{e:D}=>uniq (e:=e) I (n + 1) h;have h0:=h;have B:=h';unfold RepV at h h';obtain⟨a,xs,rfl,t,l⟩:=h;obtain⟨b,ys,rfl,Y,O⟩:=h';cases r;cases r';obtain⟨us,L,pl,_⟩:=I.tuple t.sq;obtain⟨vs,rv,G,_⟩:=I.tuple Y.sq;have l1:=l.length;have l2:=O.length;have l3:=L.length;have l4:=rv.length;have it:=eZx (A:=A.in1) l O L rv o λq Z z U o=>ih (show A.units + 1 + n < bU by lia) q Z z U o
    have ans:=dQn ds es us.toArray.size vs.toArray.size (by rw[ar];lia) (by rw[ar];lia)
    have h1:=SeqAt.RcAt.tuples pl G (show A.units < bU by lia) it
    have h2:=cL.tuples pl G (show A.units < bU by lia) it
    rw[ans] at h1 h2;rw[fQ4];refine⟨?_,h1,h2⟩
    by_cases i:a=b
    ·subst i;have e1:=un B o;cases e1;rw[decide_eq_true rfl];exact kG _
    ·exact lj i h1
   | ll ds es o =>
    have un:=λ{e:D}=>uniq (e:=e) I (n + 1) h;have B:=h';unfold RepV at h h';obtain⟨a,xs,rfl,t,l⟩:=h;obtain⟨b,ys,rfl,Y,O⟩:=h';cases r;cases r';obtain⟨h1,h2⟩:=eZy (A:=A) (n:=n) I t.sq Y.sq l O o hu λq Z z U o=>ih (show A.units + 1 + n < bU by lia) q Z z U o
    rw[fQ5];refine⟨?_,h1,h2⟩
    by_cases i:a=b
    ·subst i;have e1:=un B o;cases e1;rw[decide_eq_true rfl];exact kG _
    ·exact lj i h1
def eqD (neg:Bool):R2D:=λd e S Q=>match d,e with
 | .ref a,e=>∃ xs ys,S a=some (.lst xs)/\lsIs S e ys/\okEs 8 xs ys=true/\Q (.bl (if neg then !decide (xs=ys) else decide (xs=ys))) S
 | .lst xs,.ref a=>∃ ys,S a=some (.lst ys)/\okEs 8 xs ys=true/\Q (.bl (if neg then !decide (xs=ys) else decide (xs=ys))) S
 | d,e=>okE 9 d e=true/\Q (.bl (if neg then !decide (d=e) else decide (d=e))) S
def rEqA (K:Fg) (neg:Bool):R2:=λx y H Q=>∃ b,(∀ {X:Cx} {pins:List (Addr × Obj)} {σ:St} {s:ai},Inv X pins σ H s->X.K=K->∀ {u v:ae},RelV x u->RelV y v->∀ A:aQ,A.units + 9 < bU->SeqAt.RcAt A s u v b/\cL A s u v (!b))/\Q (.bl (if neg then !b else b)) H
theorem eZz {K:Fg} (hu:X.A.units + 9 < bU) (hK:X.K=K:=by rfl):OpR X (bM .Eq) (rEqA K false):=by
 intro pins s σ H x y v u Q I B i ⟨b,h,q⟩;exact(h I hK B i X.A hu).1 _ _ _ _ ⟨.bl b,H,I,rfl,q⟩
theorem fJn {K:Fg} (hu:X.A.units + 9 < bU) (hK:X.K=K:=by rfl):OpR X (bM .NotEq) (rEqA K true):=by
 intro pins s σ H x y v u Q I B i ⟨b,h,q⟩;exact(h I hK B i X.A hu).2 _ _ _ _ ⟨.bl (!b),H,I,rfl,q⟩
theorem fQ8 {K:Fg} {neg:Bool}:OpD K (rEqA K neg) (eqD neg):=by
 intro F S H d e x y Q QD r hd he h c;have lists:∀ {xs ys:List D},lsIs S d xs->lsIs S e ys->okEs 8 xs ys=true->QD (.bl (if neg then !decide (xs=ys) else decide (xs=ys))) S->rEqA K neg x y H Q:=by
  intro xs ys l1 Z o q;obtain⟨a,us,rfl,s1,Y⟩:=lsIs.sl r hd l1;obtain⟨a2,us2,rfl,s2,p2⟩:=lsIs.sl r he Z;refine⟨_,λ{X pins σ s} I i u v ru rv A B=>?_,c.bl r q⟩;subst i;cases ru;cases rv;exact eZy I s1 s2 Y p2 o B λq U z O o=>eq3 I 8 (show A.units + 1 + 8 < bU by lia) q U z O o
 have plain:okE 9 d e=true->QD (.bl (if neg then !decide (d=e) else decide (d=e))) S->rEqA K neg x y H Q:=by
  intro o q;refine⟨_,λ{X pins σ s} I i u v ru rv A B=>?_,c.bl r q⟩;subst i
  have:=eq3 I 9 B hd he ru rv o
  exact⟨this.rc,this.ne⟩
 cases d with
 | ref a=>obtain⟨xs,ys,h1,h2,L,G⟩:=h;exact lists h1 h2 L G
 | lst xs =>
  cases e with
  | ref a=>obtain⟨ys,h2,L,G⟩:=h;exact lists rfl h2 L G
  | _=>exact plain h.1 h.2
 | _=>exact plain h.1 h.2
mutual
def plain:D->Bool
 | .non=>true
 | .bl _=>true
 | .int _=>true
 | .str _=>true
 | .tup xs=>aZg xs
 | _=>false
def aZg:List D->Bool
 | []=>true
 | x::xs=>plain x && aZg xs
end
mutual
theorem cX4 (I:Inv X pins σ H s):∀ {d e:D} {v:V},plain d=true->plain e=true->RepV X.K M H d v->RepV X.K M H e v->d=e
 | .tup ds,e,v,p,p',h,h'=>by
  cases e with
  | tup es =>
   unfold RepV at h h';obtain⟨a,xs,rfl,t,l⟩:=h;obtain⟨b,ys,e1,i,y⟩:=h';cases e1
   have:=I.tuple_inj t.sq i.sq
   subst this;unfold plain at p p';rw[cQ2 I p p' l y]
  | lst _=>cases p'
  | ref _=>cases p'
  | ty _=>cases p'
  | _ =>
   unfold RepV at h h';obtain⟨a,xs,e1,_⟩:=h;rw[h'] at e1;cases e1
 | .non,e,v,p,p',h,h'=>by
  cases e <;> first | rfl | (cases p';done) | (unfold RepV at h h';rw[h] at h';cases h';done) | (unfold RepV at h h';obtain⟨a,xs,e1,_⟩:=h';rw[h] at e1;cases e1)
 | .bl _,e,v,p,p',h,h'=>by
  cases e <;> first | (cases p';done) | (unfold RepV at h h';rw[h] at h';cases h';done) | (unfold RepV at h h';rw[h] at h';cases h';rfl) | (unfold RepV at h h';obtain⟨a,xs,e1,_⟩:=h';rw[h] at e1;cases e1)
 | .int _,e,v,p,p',h,h'=>by
  cases e <;> first | (cases p';done) | (unfold RepV at h h';rw[h] at h';cases h';done) | (unfold RepV at h h';rw[h] at h';cases h';rfl) | (unfold RepV at h h';obtain⟨a,xs,e1,_⟩:=h';rw[h] at e1;cases e1)
 | .str _,e,v,p,p',h,h'=>by
  cases e <;> first | (cases p';done) | (unfold RepV at h h';rw[h] at h';cases h';done) | (unfold RepV at h h';rw[h] at h';cases h';rfl) | (unfold RepV at h h';obtain⟨a,xs,e1,_⟩:=h';rw[h] at e1;cases e1)
 | .ty _,e,v,p,p',h,h'=>by cases p
 | .ref _,e,v,p,p',h,h'=>by cases p
 | .lst _,e,v,p,p',h,h'=>by cases p
theorem cQ2 (I:Inv X pins σ H s):∀ {ds es:List D} {vs:List V},aZg ds=true->aZg es=true->RepL X.K M H ds vs->RepL X.K M H es vs->ds=es
 | [],es,vs,p,y,l,i=>by
  have h1:=l.length;have h2:=i.length;rw[h1] at h2;exact(bE h2.symm).symm
 | d::ds,[],vs,p,y,l,i=>by have h1:=l.length;have h2:=i.length;rw[h1] at h2;simp at h2
 | d::ds,e::es,vs,p,y,l,i=>by
  unfold RepL at l i;obtain⟨v,vs,rfl,r,l⟩:=l;obtain⟨L,B,e1,G,i⟩:=i;cases e1;simp only[aZg,aI] at p y;rw[cX4 I p.1 y.1 r G,cQ2 I p.2 y.2 l i]
end
theorem aJv:∀ {ds:List D},aZg ds=true->∀ d∈ds,plain d=true
 | [],_,d,h=>by cases h
 | x::ds,p,d,h=>by
  simp only[aZg,aI] at p;rcases aA.mp h with rfl | h
  ·exact p.1
  ·exact aJv p.2 d h
def rInA (K:Fg) (neg:Bool):R2:=λx y H Q=>∃ p xs b,y=.ref p/\(SqL K H p xs\/SqT K H p xs) /\
 (∀ {X:Cx} {pins:List (Addr × Obj)} {σ:St} {s:ai},Inv X pins σ H s->X.K=K->∀ {v:ae} {us:List ae},RelV x v->Vals xs us->∀ A:aQ,A.units + 9 < bU->∃ f:ae->Bool,(∀ u∈us,cR A s u v (f u))/\us.any f=b)/\Q (.bl (if neg then !b else b)) H
theorem eX0 {K:Fg} (hu:X.A.units + 10 < bU) (hK:X.K=K:=by rfl):OpR X (bM .In) (rInA K false):=by
 intro pins s σ H x y v u Q I G ry h;obtain⟨p,xs,b,rfl,B,hf,q⟩:=h;cases ry;rw[<- hK] at B;rcases B with B | B
 ·obtain⟨i,r,pl,L⟩:=I.list B;obtain⟨f,f1,f2⟩:=hf I hK G r X.A.in1 (show X.A.units + 1 + 9 < bU by lia)
  refine SeqAt.in_listAt f pl.isList (λw hw=>f1 w (by simpa using hw)) ⟨.bl _,H,I,rfl,?_⟩
  rw[show i.toArray.any f=i.any f by simp,f2]
  exact q
 ·obtain⟨i,r,pl,L⟩:=I.tuple B;obtain⟨f,f1,f2⟩:=hf I hK G r X.A.in1 (show X.A.units + 1 + 9 < bU by lia)
  refine SeqAt.in_tupleAt f pl (λw hw=>f1 w (by simpa using hw)) ⟨.bl _,H,I,rfl,?_⟩
  rw[show i.toArray.any f=i.any f by simp,f2]
  exact q
theorem dZe {K:Fg} (hu:X.A.units + 10 < bU) (hK:X.K=K:=by rfl):OpR X (bM .NotIn) (rInA K true):=by
 intro pins s σ H x y v u Q I G ry h;obtain⟨p,xs,b,rfl,B,hf,q⟩:=h;cases ry;rw[<- hK] at B;rcases B with B | B
 ·obtain⟨i,r,pl,L⟩:=I.list B;obtain⟨f,f1,f2⟩:=hf I hK G r X.A.in1 (show X.A.units + 1 + 9 < bU by lia)
  refine SeqAt.notIn_listAt f pl.isList (λw hw=>f1 w (by simpa using hw)) ⟨.bl _,H,I,rfl,?_⟩
  rw[show i.toArray.any f=i.any f by simp,f2]
  exact q
 ·obtain⟨i,r,pl,L⟩:=I.tuple B;obtain⟨f,f1,f2⟩:=hf I hK G r X.A.in1 (show X.A.units + 1 + 9 < bU by lia)
  refine SeqAt.notIn_tupleAt f pl (λw hw=>f1 w (by simpa using hw)) ⟨.bl _,H,I,rfl,?_⟩
  rw[show i.toArray.any f=i.any f by simp,f2]
  exact q
def inD (neg:Bool):R2D:=λd e S Q=>∃ xs,sqIs S e xs/\aZg xs=true/\(xs.all λy=>okE 8 y d)=true/\Q (.bl (if neg then !decide (d∈xs) else decide (d∈xs))) S
theorem fJo (I:Inv X pins σ H s) {d:D} {x:V} {v:ae} (rx:RelV x v) (hd:RepV X.K M H d x) {A:aQ} (hA:A.units + 9 < bU):∀ {xs:List V} {us:List ae} {ds:List D},RepL X.K M H ds xs->Vals xs us->aZg ds=true->(ds.all λy=>okE 8 y d)=true ->
  ∃ f:ae->Bool,(∀ u∈us,cR A s u v (f u))/\us.any f=decide (d∈ds):=by
 classical
 intro xs us ds l r p o;have key:∀ {y:V} {u:ae} {e:D},e∈ds->RepV X.K M H e y->RelV y u->decide (∃ y e,e∈ds/\RepV X.K M H e y/\RelV y u/\e=d)=decide (e=d):=by
  intro y u e hm he B
  congr 1
  refine propext ⟨λ⟨y',e',L,h1,h2,Z⟩=>?_,λh=>⟨y,e,hm,he,B,h⟩⟩
  have:=h2.inj B
  subst this;rw[<- Z];exact cX4 I (aJv p e hm) (aJv p e' L) he h1
 refine⟨λu=>decide (∃ y e,e∈ds/\RepV X.K M H e y/\RelV y u/\e=d),?_,?_⟩
 ·intro u Y;obtain⟨i,hi,rfl⟩:=b9 Y;have h1:=r.length;have h2:=l.length;obtain⟨e,ee,re⟩:=l.get' (ah (show i < xs.length by lia))
  obtain⟨u',eu,B⟩:=r.get (ah (show i < xs.length by lia))
  rw[ah hi] at eu;cases eu;have hm:e∈ds:=bw ee;show cR A s us[i] v (decide (∃ y e,e∈ds/\RepV X.K M H e y/\RelV y us[i]/\e=d));rw[key hm re B];exact(eq3 I 8 (by lia) re hd B rx (bK.mp o e hm)).eq
 ·have gen:∀ {zs:List V} {ws:List ae} {es:List D},RepL X.K M H es zs->Vals zs ws->(∀ e∈es,e∈ds)->ws.any (λu=>decide (∃ y e,e∈ds/\RepV X.K M H e y/\RelV y u/\e=d))=decide (d∈es):=by
   intro zs ws es
   induction es generalizing zs ws with
   | nil =>
    intro l r _;unfold RepL at l;subst l;cases r;simp
   | cons e es U =>
    intro l r hm;unfold RepL at l;obtain⟨z,zs,rfl,G,O⟩:=l;cases r with
    | cons q t =>
     rw[List.any_cons,key (hm e ak) G q,U O t λe he=>hm e (ao _ he)]
     by_cases h:e=d
     ·simp[h]
     ·have h':¬ d=e:=λz=>h z.symm;simp[h,h']
  exact gen l r λ_ h=>h
theorem eQj {K:Fg} {neg:Bool}:OpD K (rInA K neg) (inD neg):=by
 intro F S H d e x y Q QD r hd he ⟨ds,G,p,o,q⟩ c;obtain⟨a,xs,rfl,sq,l⟩:=G.sq r he;refine⟨a,xs,decide (d∈ds),rfl,sq,λ{X pins σ s} I L {v us} i B A O=>?_,c.bl r q⟩;subst L;exact fJo I i hd O l B p o
variable {K:Fg} {a b:Expr} {ta tb:ED} {pos:Pos} {k:Nat}
theorem lt10 {n:Nat} {A:aQ} (r:Room k A) (h:n<=64:=by decide):A.units + n < bU:=by have:=r.units;lia
theorem e_eq (hr:Room k X.A) (ha:PD K X a ta) (hb:PD K X b tb) (hK:X.K=K:=by rfl):PD K X (.Compare a [.Eq] [b] pos) (dOp (eqD false) ta tb):=cJk (eZz (lt10 hr) hK) fQ8 ha hb (nomark _)
theorem aJ8 (hr:Room k X.A) (ha:PD K X a ta) (hb:PD K X b tb) (hK:X.K=K:=by rfl):PTD K X (.Compare a [.Eq] [b] pos) (aZ9 (dOp (eqD false) ta tb)):=aJf (eZz (lt10 hr) hK) fQ8 ha hb (nomark _)
theorem bQe (hr:Room k X.A) (ha:PD K X a ta) (hb:PD K X b tb) (hK:X.K=K:=by rfl):PTD K X (.Compare a [.NotEq] [b] pos) (aZ9 (dOp (eqD true) ta tb)):=aJf (fJn (lt10 hr) hK) fQ8 ha hb (nomark _)
theorem e_in (hr:Room k X.A) (ha:PD K X a ta) (hb:PD K X b tb) (hm:dW .In b=false:=by rfl) (hK:X.K=K:=by rfl):PD K X (.Compare a [.In] [b] pos) (dOp (inD false) ta tb):=cJk (eX0 (lt10 hr) hK) eQj ha hb hm
theorem gX7 (hr:Room k X.A) (ha:PD K X a ta) (hb:PD K X b tb) (hm:dW .NotIn b=false:=by rfl) (hK:X.K=K:=by rfl):PD K X (.Compare a [.NotIn] [b] pos) (dOp (inD true) ta tb):=cJk (dZe (lt10 hr) hK) eQj ha hb hm
theorem dZf (hr:Room k X.A) (ha:PD K X a ta) (hb:PD K X b tb) (hm:dW .In b=false:=by rfl) (hK:X.K=K:=by rfl):PTD K X (.Compare a [.In] [b] pos) (aZ9 (dOp (inD false) ta tb)):=aJf (eX0 (lt10 hr) hK) eQj ha hb hm
theorem dZg (hr:Room k X.A) (ha:PD K X a ta) (hb:PD K X b tb) (hm:dW .NotIn b=false:=by rfl) (hK:X.K=K:=by rfl):PTD K X (.Compare a [.NotIn] [b] pos) (aZ9 (dOp (inD true) ta tb)):=aJf (dZe (lt10 hr) hK) eQj ha hb hm
end
end L2
namespace HT
open PySem PySem.Spec PyProof.Rows
section
variable {prog:aC} {w:aH} {A:aQ} {E:ae->ai->Prop} {s:ai}
theorem tup_slice {t sl:Addr} {items:Array ae} {Q:ae -> ai -> Prop} (ht:iF s.heap t items) (hTs:s.TypeIs (.ref sl) "slice")
    (h:∀ A,ay (az prog w) A (dE (.ref sl) (pure (items.size:Int))) (λr s'=>s'=s /\
      ((r.1=0 /\ r.2.1=1 /\ r.2.2=items.size /\ Q (.ref t) s) \/
       (¬ (r.1 == 0 && r.2.1 == 1 && r.2.2 == items.size)=true /\ sizeOk (.seq ((aP r.2.2).filterMap λ(k:Nat)=>items[(r.1 + (k:Int) * r.2.1).toNat]?).toArray) /\ Q (.ref s.heap.objs.size) { s with heap:=s.heap.push { cls:=.type "tuple",data:=.seq ((aP r.2.2).filterMap λ(k:Nat)=>items[(r.1 + (k:Int) * r.2.1).toNat]?).toArray } }))) E s) :
    ay (az prog w) A (jF (.ref t) (.ref sl)) Q E s:=by
  unfold jF
  try with_reducible refine bF ?_
  first | refine ad (af ?_) | skip
  refine ad (wpAny_sequenceKey ht.typeIs (by decide) ?_)
  refine ad (cC (name:=aN "__getitem__") ht.typeIs bT
    (cD bT ht.typeIs entry_tuple_getitem ?_ (args_tuple_getitem _ _)))
  show ay _ _ (jg (.ref t) >>= _) _ _ s;refine ad (tupleItemsOf_ ht (ad (gT hTs ?_)));rw [if_pos (by decide)]
  refine ad (c6 (h _) (λr s' ⟨e,q⟩=>?_) λ_ _ x=>x);subst e;obtain⟨lo,st,n⟩:=r;show ay _ _ (if (lo == 0 && st == 1 && n == items.size)=true then _ else _) _ _ _
  rcases q with⟨h1, h2, G, q⟩ | ⟨B, y, q⟩
  · have O:lo=0:=h1
    have e2:st=1:=h2;have L:n=items.size:=G;rw [if_pos (by rw [O,e2,L]; simp)]
    unfold cu.Tuple.tupleIsExact;refine ad (ad (gT ht.typeIs (af ?_)));rw [if_pos (by decide)]
    refine ad (fD ?_)
    first
      | exact af ⟨_, rfl, af q⟩
      | exact ad (af ⟨_, rfl, af q⟩)
      | exact ad (af (af ⟨_, rfl, af q⟩))
  · rw [if_neg B]
    first
      | exact ad (m:=cr _) (bi (af ⟨_,rfl,af q⟩) y)
      | exact ad (m:=cr _) (bi (ad (af (af ⟨_,rfl,af q⟩))) y)
      | exact ad (ad (m:=cr _) (bi (af (af ⟨_,rfl,af q⟩)) y))
      | exact ad (ad (m:=cr _) (bi (af ⟨_,rfl,af q⟩) y))
theorem rev_applied {sl:Addr} {vs:ae} {n:Nat} {Q:Int × Int × Nat->ai->Prop} (hs:s.heap.IsSliceOf sl .none .none vs) (ps:kh vs (some (-1)))
  (h:Q ((n:Int) - 1,-1,n) s):ay (az prog w) A (dE (.ref sl) (pure (n:Int))) Q E s:=by
 obtain⟨os,i,B,y⟩:=id hs;unfold dE jy;refine ad (ad (cw i y (x:=.none) rfl (ad (cw i y (x:=.none) rfl (ad (cw i y (x:=vs) rfl (af ?_)))))));refine ad (aJn ps ?_);show ay _ _ (if ((-1:Int) == 0)=true then _ else _) _ _ s
 rw[if_neg (by decide)]
 refine ad (je (ad (je (ad (af ?_)))));show ay _ _ (pure (((n:Int) - 1),(-1:Int),cG ((n:Int) - 1) (-1) (-1))) _ _ s;have e:cG ((n:Int) - 1) (-1) (-1)=n:=by
  unfold cG;rw[if_neg (by decide)]
  rw[show(-(-1):Int)=1 from rfl,kg]
  split <;> lia
 rw[e];exact af h
theorem dZh {α:Type} {n:Nat} {f:Nat->Option α} {g:∀ k,k < n->α} (hf:∀ k (h:k < n),f k=some (g k h)):∀ (l:List Nat) (h:∀ k∈l,k < n),l.filterMap f=l.pmap g h
 | [],_=>rfl
 | k::l,h=>by
  rw[b8,hf k (h k ak),List.pmap_cons,dZh hf l λk hk=>h k (ao _ hk)]
theorem rev_pick {α:Type} (xs:Array α):((aP xs.size).filterMap λ(k:Nat)=>xs[((xs.size:Int) - 1 + (k:Int) * (-1)).toNat]?)=xs.toList.reverse:=by
 rw[dZh (n:=xs.size) (g:=λk hk=>xs[xs.size - 1 - k]'(by lia)) (λk hk=>?_) _ λk hk=>bu.mp hk]
 ·apply fA
  ·simp
  ·intro i h1 h2;simp
 ·have e:((xs.size:Int) - 1 + (k:Int) * (-1)).toNat=xs.size - 1 - k:=by lia
  rw[e];exact eS (by lia)
end
end HT
namespace L2
open PySem PySem.Spec PyProof.Rows
section
variable {X:Cx} {K:Fg}
def rSlW (K:Fg):V->Option Int->Option Int->Hp->VK->Prop:=λx lo hi H Q=>∃ a xs,x=.ref a/\SqT K H a xs/\HT.sIx xs.length 0 lo=0/\HT.sIx xs.length xs.length hi=xs.length/\Q (.ref a) H
theorem fQ9 (hK:X.K=K:=by rfl):SlR X (rSlW K):=by
 subst hK;intro pins s σ H x v vl Z lo hi sl Q I rx L pl pu h;obtain⟨a,xs,rfl,O,h0,U,q⟩:=h;cases rx;obtain⟨i,r,G,hz⟩:=I.tuple O;have hlen:i.toArray.size=xs.length:=by rw[ar];exact r.length.symm
 obtain⟨os,y,B,Y⟩:=id L;refine⟨"tuple",_,bT.lookup,G.typeIs,HT.tup_slice G ⟨os,y,B⟩ λA=>HT.sliceApplied_gen L pl pu ⟨rfl,.inl ⟨?_,rfl,?_,.ref a,H,I,rfl,q⟩⟩⟩
 ·show((HT.sIx i.toArray.size 0 lo:Nat):Int)=0;rw[hlen,h0];rfl
 ·show HT.sIx i.toArray.size i.toArray.size hi - HT.sIx i.toArray.size 0 lo=i.toArray.size;rw[hlen,h0,U];rfl
def RvR (X:Cx) (r:V->Hp->VK->Prop):Prop :=
 ∀ (pins:List (Addr × Obj)) (s:ai) (σ:St) (H:Hp) (x:V) (v vs:ae) (sl:Addr) (Q:VK),Inv X pins σ H s->RelV x v->s.heap.IsSliceOf sl .none .none vs->kh vs (some (-1))->r x H Q ->
  ∃ T id,typeLookup (.type T) "__getitem__"=pure (some (.builtin id))/\s.TypeIs v T/\ay (az X.prog X.w) X.A (jF v (.ref sl)) (EP X pins σ Q) X.xe s
theorem fJp {r:V->Hp->VK->Prop} {e:Expr} {te:TE} {j:Nat} {p0 p1 p2 pos:Pos} (hr:RvR X r) (he:PE X e te):PE X (.Subscript e (.Slice none none (some (.UnaryOp .USub (.Constant (.int 1) j p0) p1)) p2) pos) (fun σ H Q=>te σ H λx H1=>r x H1 Q):=by
 intro pins s σ H Q I h;refine Subscript_ (thn (he pins s σ H _ I h) λv s1 B=>?_);obtain⟨x,H1,I1,L,O⟩:=B;refine wpAny_Slice ?_;rw[evalPart_none];refine af (af ?_);rw[evalPart_some];refine thn (fX9 eZh eZf pins s1 σ H1 (λv H=>H=H1/\v=.int (-1)) I1 ⟨1,rfl,rfl,rfl⟩) λvs s2 B=>?_;obtain⟨y,H2,I2,G,e2,e3⟩:=B;subst e2;subst e3;obtain⟨t,rfl⟩:=G;have I4:Inv X pins σ H2 { s2 with heap:=s2.heap.push { cls:=.type "slice",data:=.fields #[.none,.none,.int (-1) t] } }:=I2.kept (t':=s2.toks) λb ob q=>ag _ q
 obtain⟨T,id,Z,U,Y⟩:=hr pins { s2 with heap:=s2.heap.push { cls:=.type "slice",data:=.fields #[.none,.none,.int (-1) t] } } σ H2 x v (.int (-1) t) s2.heap.objs.size Q I4 L (lh ..) (.int (-1) t) O;exact tail_any (ops:=[v,.ref s2.heap.objs.size]) U Z Y (by with_unfolding_all rfl)
def rRvT (K:Fg):V->Hp->VK->Prop:=λx H Q=>∃ a xs,x=.ref a/\SqT K H a xs/\∀ p,H p=none->Q (.ref p) (upd H p (.tup xs.reverse))
theorem fJq (hK:X.K=K:=by rfl):RvR X (rRvT K):=by
 subst hK;intro pins s σ H x v vs sl Q I rx L ps h;obtain⟨a,xs,rfl,U,q⟩:=h;cases rx;obtain⟨i,r,G,O⟩:=I.tuple U;obtain⟨os,y,B,Y⟩:=id L;have e:=HT.rev_pick i.toArray;have hl:=r.length;refine⟨"tuple",_,bT.lookup,G.typeIs,HT.tup_slice G ⟨os,y,B⟩ λA=>HT.rev_applied L ps ⟨rfl,.inr ⟨?_,?_,?_⟩⟩⟩
 ·intro z;rw[aI,aI] at z;exact absurd (show(-1:Int)=1 from fL z.1.2) (by decide)
 ·show((aP i.toArray.size).filterMap λ(k:Nat)=>i.toArray[((i.toArray.size:Int) - 1 + (k:Int) * (-1)).toNat]?).toArray.size<=sizeLine;rw[e,ar,d7];show i.length<=_;lia
 ·show EP X pins σ Q (.ref s.heap.objs.size) { s with heap:=s.heap.push { cls:=.type "tuple",data:=.seq ((aP i.toArray.size).filterMap λ(k:Nat)=>i.toArray[((i.toArray.size:Int) - 1 + (k:Int) * (-1)).toNat]?).toArray } }
  rw[e];refine⟨.ref s.heap.objs.size,_,I.laid (t':=s.toks) (o:=.tup xs.reverse) (λb ob q=>ag _ q) (au _) ?_,rfl,q _ (I.hok.fresh (au _))⟩;exact⟨by rw[d7];exact O,_,r.reverse,iF.new _ _,bJm⟩
def rRvL (K:Fg):V->Hp->VK->Prop:=λx H Q=>∃ a xs,x=.ref a/\SqL K H a xs/\∀ p,H p=none->Q (.ref p) (upd H p (.lst xs.reverse))
theorem dZi (n:Nat):kA ((n:Int) - 1) (-1) (-1)=(aP n).map λ(k:Nat)=>((n:Int) - 1 + (k:Int) * (-1)).toNat:=by
 unfold kA;have e:(if (-1:Int) > 0 then (if (n:Int) - 1 < -1 then (-1 - ((n:Int) - 1) + -1 - 1) / -1 else 0) else (if (n:Int) - 1 > -1 then ((n:Int) - 1 - -1 - -1 - 1) / (- -1) else 0)).toNat=n:=by
  rw[if_neg (by decide),show(-(-1):Int)=1 from rfl,kg]
  split <;> lia
 show(aP _).map _=_;rw[e];apply d8;intro k _
 congr 1
 lia
theorem rev_slice (its:List ae):slicePick its.toArray none none (some (-1))=its.reverse.toArray:=by
 unfold slicePick;have e:e8 none none (some (-1)) its.toArray.size=((its.toArray.size:Int) - 1,-1,-1):=rfl;rw[e];show((kA ((its.toArray.size:Int) - 1) (-1) (-1)).filterMap (its.toArray[·]?)).toArray=_;rw[dZi,jf]
 have:=HT.rev_pick its.toArray
 exact congrArg gp this
theorem fQa (hK:X.K=K:=by rfl):RvR X (rRvL K):=by
 subst hK;intro pins s σ H x v vs sl Q I rx L ps h;obtain⟨a,xs,rfl,G,q⟩:=h;cases rx;obtain⟨y,r,i,B⟩:=I.list G;have hlen:=r.length;refine⟨"list",_,jG.lookup,i.isList.typeIs,?_⟩;refine wpAny_getItem_list_slice i.isList L .none .none ps (by decide) ?_ (by rw[ar] <;> lia)
 rw[rev_slice];refine⟨.ref s.heap.objs.size,_,I.laid (t':=s.toks) (o:=.lst xs.reverse) (λb ob q=>ag _ q) (au _) ?_,rfl,q _ (I.hok.fresh (au _))⟩;exact⟨by rw[d7];exact B,_,0,r.reverse,av _ rfl⟩
end
end L2
set_option maxHeartbeats 1000000
namespace L2
open PySem PySem.Spec PyProof.Rows
section
variable {X:Cx} {K:Fg} {a b:Expr} {ta tb:ED} {pos:Pos} {k:Nat}
def ltD:R2D:=λd e S Q=>match d,e with
 | .int i,.int j=>Q (.bl (decide (i < j))) S
 | .str x,.str y=>Q (.bl (HT.ltS x y)) S
 | .tup xs,.tup ys=>∃ as bs,xs=as.map D.str/\ys=bs.map D.str/\Q (.bl (HT.lexS as bs)) S
 | _,_=>False
def rLtA (K:Fg):R2:=λx y H Q=>rI0 (λi j=>.bl (decide (i < j))) x y H Q\/(∃ i j,x=.str i/\y=.str j/\Q (.bl (decide (i.cps.toList < j.cps.toList))) H)\/rLtS K x y H Q
theorem fJr (hu:X.A.units < bU) (hK:X.K=K:=by rfl):OpR X (bM .Lt) (rLtA K):=op_lt.or (op_lt_str.or (eJs hu hK))
theorem aJw {M:Am} {H:Hp}:∀ {as:List Str} {xs:List V},RepL K M H (as.map D.str) xs->aZ (dS H) xs as
 | [],xs,h=>by rw[eZ] at h;unfold RepL at h;subst h;exact .nil
 | a::as,xs,h=>by
  rw[a9] at h;unfold RepL at h;obtain⟨v,vs,rfl,r,l⟩:=h;unfold RepV at r;exact .cons r (aJw l)
theorem dZj {M:Am} {H:Hp}:∀ {as:List Str} {xs:List V},aZ (dS H) xs as->RepL K M H (as.map D.str) xs
 | _,_,.nil=>RepL.nil
 | _,_,.cons r l=>RepL.cons (by unfold RepV;exact r) (dZj l)
theorem cZ3 {S:Sto} {F:Am} {H:Hp} {as:List Str} {v:V} (h:RepV K (mt S F) H (.tup (as.map D.str)) v):dT K dS H v as:=by
 obtain⟨a,xs,rfl,t,l⟩:=tup.st h;exact⟨a,xs,rfl,t,aJw l⟩
theorem gX8:OpD K (rLtA K) ltD:=by
 intro F S H d e x y Q QD r hd he h c;cases d with
 | int i =>
  cases e with
  | int j=>rw[rint hd,rint he];exact .inl ⟨i,j,rfl,rfl,c.bl r h⟩
  | _=>exact h.elim
 | str i =>
  cases e with
  | str j=>rw[rstr hd,rstr he];exact .inr (.inl ⟨i,j,rfl,rfl,c.bl r h⟩)
  | _=>exact h.elim
 | tup xs =>
  cases e with
  | tup ys =>
   obtain⟨as,bs,rfl,rfl,q⟩:=h;exact .inr (.inr ⟨as,bs,cZ3 hd,cZ3 he,c.bl r q⟩)
  | _=>exact h.elim
 | _=>exact h.elim
theorem bJ2 (hr:Room k X.A) (ha:PD K X a ta) (hb:PD K X b tb) (hK:X.K=K:=by rfl):PTD K X (.Compare a [.Lt] [b] pos) (aZ9 (dOp ltD ta tb)):=aJf (fJr hr.units0 hK) gX8 ha hb (nomark _)
abbrev gtD:R2D:=iiD0 λi j=>.bl (decide (j < i))
theorem e_gt (hr:Room k X.A) (ha:PD K X a ta) (hb:PD K X b tb):PD K X (.Compare a [.Gt] [b] pos) (dOp gtD ta tb):=cJk fXd eQh ha hb (nomark _)
theorem gX9 (hr:Room k X.A) (ha:PD K X a ta) (hb:PD K X b tb):PTD K X (.Compare a [.Gt] [b] pos) (aZ9 (dOp gtD ta tb)):=aJf fXd eQh ha hb (nomark _)
def dZk:D->Bool
 | .non=>true
 | _=>false
def isD (neg:Bool):R2D:=λd e S Q=>match d,e with
 | .bl x,.bl y=>Q (.bl (if neg then x != y else x == y)) S
 | d,.non=>Q (.bl (if neg then !dZk d else dZk d)) S
 | _,_=>False
def rIsA (neg:Bool):R2:=λx y H Q=>(∃ i j,x=.bl i/\y=.bl j/\Q (.bl (if neg then i != j else i == j)) H)\/(y=.non/\Q (.bl (if neg then !decide (x=.non) else decide (x=.non))) H)
theorem eX1:OpR X (bM .Is) (rIsA false):=OpR.or (by
 intro pins s σ H x y v u Q I rx ry h;obtain⟨i,j,rfl,rfl,q⟩:=h;cases rx;cases ry;exact is_bool ⟨.bl _,H,I,rfl,q⟩) fXe
theorem cX5:OpR X (bM .IsNot) (rIsA true):=OpR.or (by
 intro pins s σ H x y v u Q I rx ry h;obtain⟨i,j,rfl,rfl,q⟩:=h;cases rx;cases ry;exact isnot_bool ⟨.bl _,H,I,rfl,q⟩) eXt
theorem eQk {M:Am} {H:Hp} {d:D} {x:V} (h:RepV K M H d x):decide (x=.non)=dZk d:=by
 cases d <;> unfold RepV at h <;> first | (rw[h];rfl) | (obtain⟨a,xs,rfl,_⟩:=h;rfl) | skip
theorem eQl {neg:Bool}:OpD K (rIsA neg) (isD neg):=by
 intro F S H d e x y Q QD r hd he h c;have non:e=.non->QD (.bl (if neg then !dZk d else dZk d)) S->rIsA neg x y H Q:=by
  rintro rfl q;rw[rnon he];refine .inr ⟨rfl,?_⟩;rw[eQk hd];exact c.bl r q
 cases e with
 | non=>exact non rfl (by cases d <;> exact h)
 | bl j =>
  cases d with
  | bl i=>rw[rbl hd,rbl he];exact .inl ⟨i,j,rfl,rfl,c.bl r h⟩
  | _=>exact h.elim
 | _=>cases d <;> exact h.elim
theorem e_is (hr:Room k X.A) (ha:PD K X a ta) (hb:PD K X b tb):PD K X (.Compare a [.Is] [b] pos) (dOp (isD false) ta tb):=cJk eX1 eQl ha hb (nomark _)
theorem gXa (hr:Room k X.A) (ha:PD K X a ta) (hb:PD K X b tb):PTD K X (.Compare a [.Is] [b] pos) (aZ9 (dOp (isD false) ta tb)):=aJf eX1 eQl ha hb (nomark _)
theorem cX6 (hr:Room k X.A) (ha:PD K X a ta) (hb:PD K X b tb):PD K X (.Compare a [.IsNot] [b] pos) (dOp (isD true) ta tb):=cJk cX5 eQl ha hb (nomark _)
theorem cZ4 (hr:Room k X.A) (ha:PD K X a ta) (hb:PD K X b tb):PTD K X (.Compare a [.IsNot] [b] pos) (aZ9 (dOp (isD true) ta tb)):=aJf cX5 eQl ha hb (nomark _)
def fQb (ta tb:ED):ED:=fun Γ S Q=>ta Γ S λx S1=>∃ c,x=.bl c/\if c=true then tb Γ S1 Q else Q (.bl false) S1
def gXb (ta:ED):ED:=fun Γ S Q=>ta Γ S λx S1=>∃ c,x=.bl c/\Q (.bl (!c)) S1
theorem dZl {op} (h:PD K X a ta):PD K X (.BoolOp op [a] pos) ta:=⟨fZz h.o⟩
theorem cZ5 {rest:List Expr} (ha:PD K X a ta) (hb:PD K X (.BoolOp .And (b::rest) pos) tb):PD K X (.BoolOp .And (a::b::rest) pos) (fQb ta tb):=.of (fX0 ha.o hb.o) fun σ H Q L=>L.el λF S Γ QD r g q c =>
 ⟨F,S,Γ,_,r,g,q,λv d H1 Y i y v1 G=>by
  obtain⟨z,e,B⟩:=G;subst e;refine⟨z,rbl v1,?_⟩;cases z with
  | true=>exact⟨F,Y,Γ,QD,y,g.ext i,B,λv z Z U O=>c v z Z U (i.trans O)⟩
  | false=>exact(Cn.shift c i).bl y B⟩
theorem fQc (ha:PD K X a ta):PD K X (.UnaryOp .Not a pos) (gXb ta):=.of (fX1 ha.o) fun σ H Q y=>y.el λF S Γ QD r g q c =>
 ⟨F,S,Γ,_,r,g,q,λv d H1 O B G v1 i=>by
  obtain⟨z,e,L⟩:=i;subst e;exact⟨z,rbl v1,(Cn.shift c B).bl G L⟩⟩
structure PWD (K:Fg) (X:Cx) (e:Expr) (t:TD):Prop where
 o:PW X e (upT K t)
def dAnd (t u:TD):TD:=fun Γ S Q=>t Γ S λc S1=>if c=true then u Γ S1 Q else Q false S1
def dOr (t u:TD):TD:=fun Γ S Q=>t Γ S λc S1=>if c=true then Q true S1 else u Γ S1 Q
def dNot (t:TD):TD:=fun Γ S Q=>t Γ S λc S1=>Q (!c) S1
section
variable {tA tB':TD} {rest:List Expr}
theorem PWD.pt {e:Expr} {t:TD} (h:PWD K X e t):PTD K X e t:=⟨PW.pt h.o⟩
theorem PWD.of {e:Expr} {te:TT} {t:TD} (h:PW X e te) (i:∀ σ H Q,upT K t σ H Q->te σ H Q):PWD K X e t:=⟨λy pins s σ H Q I q=>h y pins s σ H Q I (i σ H Q q)⟩
theorem bZ8 (ha:PTD K X a tA):PWD K X (.BoolOp .And [a] pos) tA:=⟨eXo ha.o⟩
theorem bZ9 (ha:PTD K X a tA):PWD K X (.BoolOp .Or [a] pos) tA:=⟨fZw ha.o⟩
theorem bXc (ha:PTD K X a tA) (hb:PWD K X (.BoolOp .And (b::rest) pos) tB'):PWD K X (.BoolOp .And (a::b::rest) pos) (dAnd tA tB'):=.of (fZx ha.o hb.o) fun σ H Q G=>G.el λF S Γ QD r g q c =>
 ⟨F,S,Γ,_,r,g,q,λz H1 U i y B=>by
  cases z with
  | true=>exact⟨F,U,Γ,QD,y,g.ext i,B,λz Y O L=>c z Y O (i.trans L)⟩
  | false=>exact c _ _ _ i y B⟩
theorem cZ6 (ha:PTD K X a tA) (hb:PWD K X (.BoolOp .Or (b::rest) pos) tB'):PWD K X (.BoolOp .Or (a::b::rest) pos) (dOr tA tB'):=.of (gZl ha.o hb.o) fun σ H Q G=>G.el λF S Γ QD r g q c =>
 ⟨F,S,Γ,_,r,g,q,λz H1 U i y B=>by
  cases z with
  | false=>exact⟨F,U,Γ,QD,y,g.ext i,B,λz Y O L=>c z Y O (i.trans L)⟩
  | true=>exact c _ _ _ i y B⟩
theorem aXa (ha:PTD K X a tA):PTD K X (.UnaryOp .Not a pos) (dNot tA):=.of (fZy ha.o) fun σ H Q i=>i.el λF S Γ QD r g q c=>⟨F,S,Γ,_,r,g,q,λz H1 L y B G=>c _ _ _ y B G⟩
def dIf (t:TD) (ta tb:ED):ED:=fun Γ S Q=>t Γ S λc S1=>if c=true then ta Γ S1 Q else tb Γ S1 Q
theorem fQd {c:Expr} (hc:PTD K X c tA) (ha:PD K X a ta) (hb:PD K X b tb):PD K X (.IfExp c a b pos) (dIf tA ta tb):=.of (dJi hc.o ha.o hb.o) fun σ H Q Y=>Y.el λF S Γ QD r g q c =>
 ⟨F,S,Γ,_,r,g,q,λz H1 U i L O=>by
  cases z with
  | true=>exact⟨F,U,Γ,QD,L,g.ext i,O,λv z G B y=>c v z G B (i.trans y)⟩
  | false=>exact⟨F,U,Γ,QD,L,g.ext i,O,λv z G B y=>c v z G B (i.trans y)⟩⟩
end
def truD (S:Sto) (d:D) (k:Bool->Prop):Prop:=match d with
 | .non=>k false
 | .bl b=>k b
 | .int i=>k (i != 0)
 | .str x=>x.length<=sizeLine/\k ((x.length:Int) != 0)
 | .tup xs=>k (!xs.isEmpty)
 | .lst xs=>k (!xs.isEmpty)
 | .ref a=>∃ xs,S a=some (.lst xs)/\k (!xs.isEmpty)
 | .ty _=>False
def dTru (ta:ED):TD:=fun Γ S Q=>ta Γ S λd S1=>truD S1 d λb=>Q b S1
theorem dZm {M:Am} {H:Hp} {ds:List D} {xs:List V} (l:RepL K M H ds xs):(!xs.isEmpty)=!ds.isEmpty:=by
 have:=l.length
 cases ds <;> cases xs <;> first | rfl | simp at this
theorem aZh (ha:PD K X a ta) (he:∀ whole,isTrue a X.env whole=(do let v <- whole;fu a.pos;dX [v] (truthy v)):=by intro _;rfl) (hK:X.K=K:=by rfl):PTD K X a (dTru ta):=.of (dZ5 (K:=K) ha.o he hK) fun σ H Q L=>L.el λF S Γ QD r g q c =>
 ⟨F,S,Γ,_,r,g,q,λv d H1 G B y v1 i=>by
  cases d with
  | non=>rw[rnon v1];exact⟨false,rfl,c _ _ _ B y i⟩
  | bl b=>rw[rbl v1];exact⟨b,rfl,c _ _ _ B y i⟩
  | int b=>rw[rint v1];exact⟨_,rfl,c _ _ _ B y i⟩
  | str b=>rw[rstr v1];exact⟨_,⟨i.1,rfl⟩,c _ _ _ B y i.2⟩
  | ty b=>exact i.elim
  | tup xs =>
   obtain⟨p,us,rfl,t,l⟩:=tup.st v1;exact⟨_,.inr (.inl ⟨us,t,rfl⟩),c _ _ _ B y (by rw[dZm l];exact i)⟩
  | lst xs =>
   obtain⟨p,us,rfl,t,l⟩:=lsIs.sl y v1 (show lsIs G (.lst xs) xs from rfl)
   exact⟨_,.inl ⟨us,t,rfl⟩,c _ _ _ B y (by rw[dZm l];exact i)⟩
  | ref p =>
   obtain⟨xs,e,i⟩:=i;obtain⟨p,us,rfl,t,l⟩:=lsIs.sl y v1 (show lsIs G (.ref p) xs from e)
   exact⟨_,.inl ⟨us,t,rfl⟩,c _ _ _ B y (by rw[dZm l];exact i)⟩⟩
section
variable {e:Expr} {t:AD} {p:Pos}
def lenD:RCD:=λds S Q=>match ds with
 | [.str x]=>x.length<=sizeLine/\Q (.int x.length) S
 | [d]=>∃ xs,sqIs S d xs/\Q (.int xs.length) S
 | _=>False
theorem dZn (hK:X.K=K:=by rfl):CallR X (.builtin "len") (λxs H Q=>∃ x n,xs=[x]/\LenV K x H n/\Q (.int n) H):=hK ▸ dJm
theorem fJs:bZy K (λxs H Q=>∃ x n,xs=[x]/\LenV K x H n/\Q (.int n) H) lenD:=by
 intro F S H ds vs Q QD r l h c
 match ds,h with
 | [d],h =>
  obtain⟨v,rfl,i⟩:=l.one;have seq:(∃ xs,sqIs S d xs/\QD (.int xs.length) S)->∃ x n,[v]=[x]/\LenV K x H n/\Q (.int n) H:=by
   rintro⟨xs,h1,q⟩;obtain⟨a,us,rfl,sq,l⟩:=h1.sq r i;refine⟨_,xs.length,rfl,?_,c.int r q⟩;rcases sq with sq | sq
   ·exact .inl ⟨us,sq,l.length.symm⟩
   ·exact .inr ⟨us,sq,l.length.symm⟩
  cases d with
  | str x=>rw[rstr i];exact⟨_,x.length,rfl,⟨h.1,rfl⟩,c.int r h.2⟩
  | _=>exact seq h
 | [],h=>exact h.elim
 | d::_::_,h=>cases d <;> exact h.elim
theorem aZd (hg:Gl X "len") (hm:X.mg "len"=none) (ha:PAD K X [e] t) (hK:X.K=K:=by rfl) (he:am [e] X.env=(false,eval e X.env)::am [] X.env:=by rfl) (hpl:(bn pos (am [] X.env)).any (·.1)=false:=by rfl):PD K X (.Call (.Name "len" p) [e] [] pos) (dCB lenD t):=aJ7 (dZn hK) fJs hg hm eZl ha (by decide) (by decide) he hpl
def tupD:RCD:=λds S Q=>match ds with
 | [d]=>∃ xs,sqIs S d xs/\Q (.tup xs) S
 | _=>False
theorem fJt:bZy K (λxs H Q=>∃ p ys,xs=[.ref p]/\((SqL K H p ys/\∀ l,H l=none->Q (.ref l) (upd H l (.tup ys)))\/(SqT K H p ys/\Q (.ref p) H))) tupD:=by
 intro F S H ds vs Q QD r l h c
 match ds,h with
 | [d],⟨xs,h1,q⟩ =>
  obtain⟨v,rfl,i⟩:=l.one;cases d with
  | tup ys =>
   cases h1;obtain⟨a,us,rfl,sq,l⟩:=tup.st i;exact⟨a,us,rfl,.inr ⟨sq,c.here r i q⟩⟩
  | lst ys =>
   obtain⟨a,us,rfl,sq,l⟩:=lsIs.sl r i (show lsIs S (.lst ys) xs from h1)
   exact⟨a,us,rfl,.inl ⟨sq,λp hp=>c.tup r hp l q⟩⟩
  | ref y =>
   obtain⟨a,us,rfl,sq,l⟩:=lsIs.sl r i (show lsIs S (.ref y) xs from h1)
   exact⟨a,us,rfl,.inl ⟨sq,λp hp=>c.tup r hp l q⟩⟩
  | _=>exact h1.elim
theorem aZi (hg:Gl X "tuple") (hm:X.mg "tuple"=none) (ha:PAD K X [e] t) (hK:X.K=K:=by rfl) (he:am [e] X.env=(false,eval e X.env)::am [] X.env:=by rfl) (hpl:(bn pos (am [] X.env)).any (·.1)=false:=by rfl):PD K X (.Call (.Name "tuple" p) [e] [] pos) (dCB tupD t):=bJ1 (cQw hK) fJt hg hm bXn ha (by decide) (by decide) he hpl
def lstD (b:Bool):RCD:=λds S Q=>match ds with
 | [d]=>∃ xs,sqIs S d xs/\newL b xs S Q
 | _=>False
theorem fJu {b:Bool}:bZy K (λxs H Q=>∃ p ys,xs=[.ref p]/\(SqL K H p ys\/SqT K H p ys)/\∀ l,H l=none->Q (.ref l) (upd H l (.lst ys))) (lstD b):=by
 intro F S H ds vs Q QD r l h c
 match ds,h with
 | [d],⟨xs,h1,q⟩ =>
  obtain⟨v,rfl,i⟩:=l.one;obtain⟨a,us,rfl,sq,l⟩:=h1.sq r i;exact⟨a,us,rfl,sq,λp hp=>c.new r hp l q⟩
theorem dZo {b:Bool} (hg:Gl X "list") (hm:X.mg "list"=none) (ha:PAD K X [e] t) (hK:X.K=K:=by rfl) (he:am [e] X.env=(false,eval e X.env)::am [] X.env:=by rfl) (hpl:(bn pos (am [] X.env)).any (·.1)=false:=by rfl):PD K X (.Call (.Name "list" p) [e] [] pos) (dCB (lstD b) t):=bJ1 (cJg hK) fJu hg hm eJb ha (by decide) (by decide) he hpl
def i2D (g:Int->Int->Int):RCD:=λds S Q=>match ds with
 | [.int i,.int j]=>Q (.int (g i j)) S
 | _=>False
theorem gXc {g:Int->Int->Int}:bZy K (λxs H Q=>∃ i j,xs=[.int i,.int j]/\Q (.int (g i j)) H) (i2D g):=by
 intro F S H ds vs Q QD r l h c
 match ds,h with
 | [.int i,.int j],h =>
  obtain⟨v,w,rfl,B,y⟩:=l.two;rw[rint B,rint y];exact⟨i,j,rfl,c.int r h⟩
theorem fQe {e2:Expr} (hg:Gl X "min") (hm:X.mg "min"=none) (ha:PAD K X [e,e2] t) (hc:X.calm=true:=by rfl) (he:am [e,e2] X.env=(false,eval e X.env)::am [e2] X.env:=by rfl) (hpl:(bn pos (am [e2] X.env)).any (·.1)=false:=by rfl):PD K X (.Call (.Name "min" p) [e,e2] [] pos) (dCB (i2D λi j=>if j < i then j else i) t):=aJ7 (dQ4 hc) gXc hg hm fXt ha (by decide) (by decide) he hpl
def intD:RCD:=λds S Q=>match ds with
 | [.int i]=>Q (.int i) S
 | [.bl k]=>Q (.int (if k then 1 else 0)) S
 | _=>False
theorem eX2 (hg:Gl X "int") (hm:X.mg "int"=none) (ha:PAD K X [e] t) (he:am [e] X.env=(false,eval e X.env)::am [] X.env:=by rfl) (hpl:(bn pos (am [] X.env)).any (·.1)=false:=by rfl):PD K X (.Call (.Name "int" p) [e] [] pos) (dCB intD t):=bJ1 dQ5 (by
 intro F S H ds vs Q QD r l h c
 match ds,h with
 | [.int i],h=>obtain⟨v,rfl,y⟩:=l.one;rw[rint y];exact .inl ⟨i,rfl,c.int r h⟩
 | [.bl i],h=>obtain⟨v,rfl,y⟩:=l.one;rw[rbl y];exact .inr ⟨i,rfl,c.int r h⟩) hg hm eZn ha (by decide) (by decide) he hpl
theorem cX7 {M:Am} {H:Hp}:∀ {bs:List Bool} {xs:List V},RepL K M H (bs.map D.bl) xs->aZ (dB H) xs bs
 | [],xs,h=>by rw[eZ] at h;unfold RepL at h;subst h;exact .nil
 | a::as,xs,h=>by
  rw[a9] at h;unfold RepL at h;obtain⟨v,vs,rfl,r,l⟩:=h;unfold RepV at r;exact .cons r (cX7 l)
def quD (g:List Bool->Bool):RCD:=λds S Q=>match ds with
 | [d]=>∃ bs,lsIs S d (bs.map D.bl)/\Q (.bl (g bs)) S
 | _=>False
theorem gXd {g:List Bool->Bool}:bZy K (λxs H Q=>∃ x bs,xs=[x]/\dL K dB H x bs/\Q (.bl (g bs)) H) (quD g):=by
 intro F S H ds vs Q QD r l h c
 match ds,h with
 | [d],⟨bs,h1,q⟩ =>
  obtain⟨v,rfl,i⟩:=l.one;obtain⟨a,us,rfl,sq,l⟩:=lsIs.sl r i h1;exact⟨_,bs,rfl,⟨a,us,rfl,sq,cX7 l⟩,c.bl r q⟩
theorem gXe (hg:Gl X "all") (hm:X.mg "all"=none) (ha:PAD K X [e] t) (hK:X.K=K:=by rfl) (hc:X.calm=true:=by rfl) (he:am [e] X.env=(false,eval e X.env)::am [] X.env:=by rfl) (hpl:(bn pos (am [] X.env)).any (·.1)=false:=by rfl):PD K X (.Call (.Name "all" p) [e] [] pos) (dCB (quD λbs=>bs.all id) t):=aJ7 (dZ4 hK hc) gXd hg hm fXu ha (by decide) (by decide) he hpl
def tyD:D->Option String
 | .non=>some "NoneType"
 | .bl _=>some "bool"
 | .int _=>some "int"
 | .str _=>some "str"
 | .tup _=>some "tuple"
 | .lst _=>some "list"
 | _=>none
def isiD:RCD:=λds S Q=>match ds with
 | [d,.ty T]=>∃ t b,tyD d=some t/\subT t T=some b/\Q (.bl b) S
 | _=>False
def fJv (K:Fg):List V->Hp->VK->Prop:=λxs H Q=>(∃ x T t b,xs=[x,.ty T]/\TyOf K H x (.type t)/\subT t T=some b/\Q (.bl b) H)\/(∃ a T b ys,xs=[.ref a,.ty T]/\SqT K H a ys/\subT "tuple" T=some b/\Q (.bl b) H)\/∃ a T b ys,xs=[.ref a,.ty T]/\SqL K H a ys/\subT "list" T=some b/\Q (.bl b) H
theorem dZp (hK:X.K=K:=by rfl):CallR X (.builtin "isinstance") (fJv K):=by
 subst hK;refine call_isi.or (CallR.or ?_ ?_)
 ·intro pins s σ H xs us Q I y h;obtain⟨a,T,b,ys,rfl,sq,e,q⟩:=h;obtain⟨u,c,rfl,ru,rc⟩:=y.two;cases rc;cases ru;obtain⟨B,r,p,_⟩:=I.tuple sq;obtain⟨o,h1,h2,_⟩:=p;exact ce PySem.W.kitx_tuple I.kIn ⟨o,h1,h2⟩ (dQl e) (λz=>nomatch z) λi=>⟨.bl b,H,I.tok i,rfl,q⟩
 ·intro pins s σ H xs us Q I y h;obtain⟨a,T,b,ys,rfl,sq,e,q⟩:=h;obtain⟨u,c,rfl,ru,rc⟩:=y.two;cases rc;cases ru;obtain⟨B,r,p,_⟩:=I.list sq;obtain⟨o,n,h1,h2,_⟩:=p;exact ce jE I.kIn ⟨o,h1,h2⟩ (dQl e) (λz=>nomatch z) λi=>⟨.bl b,H,I.tok i,rfl,q⟩
theorem fJw:bZy K (fJv K) isiD:=by
 intro F S H ds vs Q QD r l h c
 match ds,h with
 | [d,.ty T],⟨t,b,h1,h2,q⟩ =>
  obtain⟨v,w,rfl,y,B⟩:=l.two;unfold RepV at B;subst B;cases d with
  | non=>cases h1;rw[rnon y];exact .inl ⟨_,T,_,b,rfl,.non,h2,c.bl r q⟩
  | bl i=>cases h1;rw[rbl y];exact .inl ⟨_,T,_,b,rfl,.bl _,h2,c.bl r q⟩
  | int i=>cases h1;rw[rint y];exact .inl ⟨_,T,_,b,rfl,.int _,h2,c.bl r q⟩
  | str i=>cases h1;rw[rstr y];exact .inl ⟨_,T,_,b,rfl,.str _,h2,c.bl r q⟩
  | tup xs =>
   cases h1;obtain⟨a,us,rfl,sq,l⟩:=tup.st y;exact .inr (.inl ⟨a,T,b,us,rfl,sq,h2,c.bl r q⟩)
  | lst xs =>
   cases h1;obtain⟨a,us,rfl,sq,l⟩:=lsIs.sl r y (show lsIs S (.lst xs) xs from rfl)
   exact .inr (.inr ⟨a,T,b,us,rfl,sq,h2,c.bl r q⟩)
  | _=>cases h1
theorem cQ3 {e2:Expr} (hg:Gl X "isinstance") (hm:X.mg "isinstance"=none) (ha:PAD K X [e,e2] t) (hK:X.K=K:=by rfl) (he:am [e,e2] X.env=(false,eval e X.env)::am [e2] X.env:=by rfl) (hpl:(bn pos (am [e2] X.env)).any (·.1)=false:=by rfl):PD K X (.Call (.Name "isinstance" p) [e,e2] [] pos) (dCB isiD t):=aJ7 (dZp hK) fJw hg hm bt_isinstance ha (by decide) (by decide) he hpl
end
def ixD:R2D:=λd e S Q=>match d,e with
 | .str z,.int i=>z.length<=sizeLine/\∃ c,atI z.cps.toList i=some c/\Q (.str ⟨#[c]⟩) S
 | d,.int i=>∃ xs v,sqIs S d xs/\atI xs i=some v/\Q v S
 | _,_=>False
theorem gXf {M:Am} {H:Hp} {ds:List D} {xs:List V} (l:RepL K M H ds xs) {i:Int} {d:D} (h:atI ds i=some d):∃ v,atI xs i=some v/\RepV K M H d v:=by
 unfold atI at h ⊢;rw[l.length];cases hi:ixN ds.length i with
 | none=>rw[hi] at h;cases h
 | some j=>rw[hi] at h;exact l.get h
theorem gXg:OpD K (rIx K) ixD:=by
 intro F S H d e x y Q QD r hd he h c;have seq:∀ i,e=.int i->(∃ xs v,sqIs S d xs/\atI xs i=some v/\QD v S)->rIx K x y H Q:=by
  rintro i rfl ⟨xs,v,h1,h2,q⟩;obtain⟨a,us,rfl,sq,l⟩:=h1.sq r hd;obtain⟨u,G,B⟩:=gXf l h2;rw[rint he];rcases sq with sq | sq
  ·exact .inl ⟨a,us,i,u,rfl,rfl,sq,G,c.here r B q⟩
  ·exact .inr (.inl ⟨a,us,i,u,rfl,rfl,sq,G,c.here r B q⟩)
 cases e with
 | int i =>
  cases d with
  | str z =>
   obtain⟨h1,w,h2,q⟩:=h;rw[rstr hd,rint he];exact .inr (.inr ⟨z,i,w,rfl,rfl,h1,h2,c.str r q⟩)
  | _=>exact seq i rfl h
 | _=>cases d <;> exact h.elim
theorem fQf (hK:X.K=K:=by rfl):IxR X (rIx K):=hK ▸ fXp
theorem e_ix (ha:PD K X a ta) (hb:PD K X b tb) (hs:PlainIx b:=by exact λ_ _=>rfl) (hK:X.K=K:=by rfl):PD K X (.Subscript a b pos) (dOp ixD ta tb):=.of (pe_ix (fQf hK) ha.o hb.o hs) (eQg gXg)
abbrev OD:=Gm->Sto->(Option Int->Sto->Prop)->Prop
def upO (K:Fg) (t:OD):TO:=fun σ H Q=>∃ F S Γ QD,Rp K F S H/\RepG K (mt S F) H Γ σ/\t Γ S QD/\∀ o H' S',Ext S H S' H'->Rp K F S' H'->QD o S'->Q o H'
theorem upO.el {K:Fg} {t:OD} {σ:St} {H:Hp} {Q:Option Int->Hp->Prop} {p:Prop} (h:upO K t σ H Q) (k:∀ F S Γ QD,Rp K F S H->RepG K (mt S F) H Γ σ->t Γ S QD->(∀ o H' S',Ext S H S' H'->Rp K F S' H'->QD o S'->Q o H')->p):p:=by
 obtain⟨F,S,Γ,QD,h0,h1,h2,i⟩:=h;exact k F S Γ QD h0 h1 h2 i
structure POD (K:Fg) (X:Cx) (e:Option Expr) (t:OD):Prop where
 o:PO X e (upO K t)
def fQg:OD:=λ_ S Q=>Q none S
def gXh (t:ED):OD:=fun Γ S Q=>t Γ S λd S1=>∃ i,d=.int i/\Q (some i) S1
theorem aX3:POD K X none fQg:=⟨λpins s σ H Q I i=>i.el λF S Γ QD r g q c=>eJ4 pins s σ H Q I (c none H S (Ext.refl _ _) r q)⟩
theorem aX4 (h:PD K X a ta):POD K X (some a) (gXh ta):=⟨λpins s σ H Q I B=>B.el λF S Γ QD r g q c=>eJ5 h.o pins s σ H Q I ⟨F,S,Γ,_,r,g,q,λv d H1 U G L v1 y=>by
 obtain⟨i,e,O⟩:=y;subst e;exact⟨i,rint v1,c _ _ _ G L O⟩⟩⟩
def cutD (xs:List D) (lo hi:Option Int):List D:=(xs.drop (HT.sIx xs.length 0 lo)).take (HT.sIx xs.length xs.length hi - HT.sIx xs.length 0 lo)
def slD (b:Bool) (d:D) (lo hi:Option Int) (S:Sto) (Q:DK):Prop:=match d with
 | .str z=>z.length<=1000000/\Q (.str (cutS z lo hi)) S
 | .tup xs=>Q (.tup (cutD xs lo hi)) S
 | d=>∃ xs,lsIs S d xs/\newL b (cutD xs lo hi) S Q
def rSlA (K:Fg):V->Option Int->Option Int->Hp->VK->Prop:=λx lo hi H Q=>rSlS x lo hi H Q\/rSlT K x lo hi H Q\/rSlW K x lo hi H Q\/rSlL K x lo hi H Q
theorem sl_A (hK:X.K=K:=by rfl):SlR X (rSlA K):=sl_str.or ((eJr hK).or ((fQ9 hK).or (eQ8 hK)))
theorem cX8 (xs:List D) {lo hi:Option Int} (h0:HT.sIx xs.length 0 lo=0) (h1:HT.sIx xs.length xs.length hi=xs.length):cutD xs lo hi=xs:=by unfold cutD;rw[h0,h1];simp
theorem eX3 {M:Am} {H:Hp} {ds:List D} {xs:List V} (l:RepL K M H ds xs) (lo hi:Option Int):RepL K M H (cutD ds lo hi) (cutV xs lo hi):=by
 unfold cutD cutV;rw[l.length];exact(l.drop _).take _
theorem sd_A {b:Bool}:∀ F S H d x lo hi Q QD,Rp K F S H->RepV K (mt S F) H d x->slD b d lo hi S QD->Cn K F S H QD Q->rSlA K x lo hi H Q:=by
 intro F S H d x lo hi Q QD r hd h c;have lists:(∃ xs,lsIs S d xs/\newL b (cutD xs lo hi) S QD)->rSlA K x lo hi H Q:=by
  rintro⟨xs,y,q⟩;obtain⟨a,us,rfl,s1,i⟩:=lsIs.sl r hd y;exact .inr (.inr (.inr ⟨a,us,rfl,s1,λp hp=>c.new r hp (eX3 i lo hi) q⟩))
 cases d with
 | str z=>rw[rstr hd];exact .inl ⟨z,rfl,h.1,c.str r h.2⟩
 | tup xs =>
  obtain⟨a,us,rfl,s1,i⟩:=tup.st hd
  by_cases hw:HT.sIx us.length 0 lo=0/\HT.sIx us.length us.length hi=us.length
  ·refine .inr (.inr (.inl ⟨a,us,rfl,s1,hw.1,hw.2,c.here r hd ?_⟩));rw[i.length] at hw;have h':QD (.tup (cutD xs lo hi)) S:=h;rwa [cX8 xs hw.1 hw.2] at h'
  ·exact .inr (.inl ⟨a,us,rfl,s1,hw,λp hp=>c.tup r hp (eX3 i lo hi) h⟩)
 | _=>exact lists h
def dSl (b:Bool) (te:ED) (tl th:OD):ED:=fun Γ S Q=>te Γ S λd S1=>tl Γ S1 λlo S2=>th Γ S2 λhi S3=>slD b d lo hi S3 Q
theorem e_sl {b:Bool} {e:Expr} {te:ED} {lo hi:Option Expr} {tl th:OD} {p2 pos:Pos} (he:PD K X e te) (hl:POD K X lo tl) (hu:POD K X hi th) (hK:X.K=K:=by rfl):PD K X (.Subscript e (.Slice lo hi none p2) pos) (dSl b te tl th):=.of (dJt (sl_A hK) he.o hl.o hu.o) fun σ H Q G=>G.el λF S Γ QD r g q c =>
 ⟨F,S,Γ,_,r,g,q,λv d H1 S1 y U v1 q1=>⟨F,S1,Γ,_,U,g.ext y,q1,λl H2 S2 i O Z=>⟨F,S2,Γ,_,O,g.ext (y.trans i),Z,λu H3 S3 B L Y=>sd_A F S3 H3 d v l u Q QD L (v1.ext (i.trans B)) Y (Cn.shift c (y.trans (i.trans B)))⟩⟩⟩
def rvD (b:Bool) (d:D) (S:Sto) (Q:DK):Prop:=match d with
 | .tup xs=>Q (.tup xs.reverse) S
 | d=>∃ xs,lsIs S d xs/\newL b xs.reverse S Q
theorem RepL.rev {M:Am} {H:Hp} {ds:List D} {xs:List V} (l:RepL K M H ds xs):RepL K M H ds.reverse xs.reverse:=by
 have app:∀ {ds:List D} {xs:List V} {es:List D} {ys:List V},RepL K M H ds xs->RepL K M H es ys->RepL K M H (ds.reverse++es) (xs.reverse++ys):=by
  intro ds
  induction ds with
  | nil=>intro xs es ys l i;unfold RepL at l;subst l;exact i
  | cons d ds y =>
   intro xs es ys l i;unfold RepL at l;obtain⟨v,vs,rfl,r,l⟩:=l;rw[gU,gU,bY,bY];exact y l (RepL.cons r i)
 simpa using app l RepL.nil
theorem RvR.or {r r':V->Hp->VK->Prop} (h:RvR X r) (h':RvR X r'):RvR X (λx H Q=>r x H Q\/r' x H Q):=by
 intro pins s σ H x v vs sl Q I i y ps q;rcases q with q | q
 ·exact h pins s σ H x v vs sl Q I i y ps q
 ·exact h' pins s σ H x v vs sl Q I i y ps q
def dRv (b:Bool) (te:ED):ED:=fun Γ S Q=>te Γ S λd S1=>rvD b d S1 Q
theorem e_rv {b:Bool} {e:Expr} {te:ED} {j:Nat} {p0 p1 p2 pos:Pos} (he:PD K X e te) (hK:X.K=K:=by rfl):PD K X (.Subscript e (.Slice none none (some (.UnaryOp .USub (.Constant (.int 1) j p0) p1)) p2) pos) (dRv b te):=.of (fJp ((fJq hK).or (fQa hK)) he.o) fun σ H Q L=>L.el λF S Γ QD r g q c =>
 ⟨F,S,Γ,_,r,g,q,λv d H1 G y i v1 B=>by
  have lists:(∃ xs,lsIs G d xs/\newL b xs.reverse G QD)->rRvT K v H1 Q\/rRvL K v H1 Q:=by
   rintro⟨xs,O,q⟩;obtain⟨a,us,rfl,s1,p1⟩:=lsIs.sl i v1 O;exact .inr ⟨a,us,rfl,s1,λp hp=>(Cn.shift c y).new i hp p1.rev q⟩
  cases d with
  | tup xs =>
   obtain⟨a,us,rfl,s1,p1⟩:=tup.st v1;exact .inl ⟨a,us,rfl,s1,λp hp=>(Cn.shift c y).tup i hp p1.rev B⟩
  | _=>exact lists B⟩
end
end L2
set_option maxHeartbeats 4000000
namespace L2
open PySem PySem.Spec PyProof.Rows
section
variable {X:Cx} {K:Fg} {a b:Expr} {ta tb:ED} {pos:Pos} {k:Nat}
abbrev GD:=D->Gm->Sto->(Gm->Sto->Prop)->Prop
abbrev GsD:=List D->Gm->Sto->(Gm->Sto->Prop)->Prop
def upG (K:Fg) (t:GD):TG:=λv σ H Q=>∃ F S Γ d QD,Rp K F S H/\RepG K (mt S F) H Γ σ/\RepV K (mt S F) H d v/\t d Γ S QD/\∀ Γ' S' σ' H',Ext S H S' H'->Rp K F S' H'->RepG K (mt S' F) H' Γ' σ'->QD Γ' S'->Q σ' H'
theorem upG.el {K:Fg} {t:GD} {v:V} {σ:St} {H:Hp} {Q:St->Hp->Prop} {p:Prop} (h:upG K t v σ H Q) (k:∀ F S Γ d QD,Rp K F S H->RepG K (mt S F) H Γ σ->RepV K (mt S F) H d v->t d Γ S QD->(∀ Γ' S' σ' H',Ext S H S' H'->Rp K F S' H'->RepG K (mt S' F) H' Γ' σ'->QD Γ' S'->Q σ' H')->p):p:=by
 obtain⟨F,S,Γ,d,QD,h0,h1,h2,y,i⟩:=h;exact k F S Γ d QD h0 h1 h2 y i
def upGs (K:Fg) (t:GsD):TGs:=λvs σ H Q=>∃ F S Γ ds QD,Rp K F S H/\RepG K (mt S F) H Γ σ/\RepL K (mt S F) H ds vs/\t ds Γ S QD/\∀ Γ' S' σ' H',Ext S H S' H'->Rp K F S' H'->RepG K (mt S' F) H' Γ' σ'->QD Γ' S'->Q σ' H'
theorem upGs.el {K:Fg} {t:GsD} {vs:List V} {σ:St} {H:Hp} {Q:St->Hp->Prop} {p:Prop} (h:upGs K t vs σ H Q) (k:∀ F S Γ ds QD,Rp K F S H->RepG K (mt S F) H Γ σ->RepL K (mt S F) H ds vs->t ds Γ S QD->(∀ Γ' S' σ' H',Ext S H S' H'->Rp K F S' H'->RepG K (mt S' F) H' Γ' σ'->QD Γ' S'->Q σ' H')->p):p:=by
 obtain⟨F,S,Γ,ds,QD,h0,h1,h2,y,i⟩:=h;exact k F S Γ ds QD h0 h1 h2 y i
structure PGD (K:Fg) (X:Cx) (e:Expr) (t:GD):Prop where
 o:PG X e (upG K t)
structure PGsD (K:Fg) (X:Cx) (es:List Expr) (t:GsD):Prop where
 o:PGs X es (upGs K t)
theorem PGD.of {e:Expr} {te:TG} {t:GD} (h:PG X e te) (i:∀ v σ H Q,upG K t v σ H Q->te v σ H Q):PGD K X e t:=⟨λpins s σ H v u Q I r q=>h pins s σ H v u Q I r (i v σ H Q q)⟩
theorem PGsD.of {e:List Expr} {te:TGs} {t:GsD} (h:PGs X e te) (i:∀ v σ H Q,upGs K t v σ H Q->te v σ H Q):PGsD K X e t:=⟨λpins s σ H v u Q I r q=>h pins s σ H v u Q I r (i v σ H Q q)⟩
def aQu (i:Nat):GD:=λd Γ S Q=>Q (Γ.set i (some d)) S
theorem aX5 {i:Nat} {x:Str} (hN:X.N.Nodup) (hi:X.N[i]?=some x) (hx:Loc X.env.scope x) (hf:X.fn x=true\/X.env.scope.names.lookup x=some .local:=by first | exact .inl rfl | exact .inr rfl | assumption):PGD K X (.Name x pos) (aQu i) :=
 .of (aQe hN hi hx hf) λv σ H Q y=>y.el λF S Γ d QD r g B q c=>c _ S _ H (Ext.refl _ _) r (g.set B i) q
def fJx:GsD:=λds Γ S Q=>ds=[]/\Q Γ S
def dZq (t:GD) (u:GsD):GsD:=λds Γ S Q=>match ds with
 | []=>False
 | d::r=>t d Γ S fun Γ' S'=>u r Γ' S' Q
def fJy (n:Nat) (t:GsD):GD:=λd Γ S Q=>match d with
 | .tup ds=>ds.length=n/\t ds Γ S Q
 | _=>False
theorem fQh:PGsD K X [] fJx:=.of cJy λv σ H Q i=>by
 obtain⟨F,S,Γ,ds,QD,r,g,l,⟨e,q⟩,c⟩:=i;subst e;unfold RepL at l;exact⟨l,c _ S _ H (Ext.refl _ _) r g q⟩
theorem cX9 {e:Expr} {es:List Expr} {t:GD} {u:GsD} (h1:PGD K X e t) (h2:PGsD K X es u) (ha:(fm (e::es) X.env).map (·.2)=kb e X.env::(fm es X.env).map (·.2):=by rfl):PGsD K X (e::es) (dZq t u) :=
 .of (bXj h1.o h2.o ha) λvs σ H Q y=>y.el λF S Γ ds QD r g l q c=>by
  cases ds with
  | nil=>exact q.elim
  | cons d ds =>
   unfold RepL at l;obtain⟨v,vs,rfl,G,l⟩:=l;exact⟨v,vs,rfl,F,S,Γ,d,_,r,g,G,q,fun Γ1 Y σ1 H1 i L g1 O=>⟨F,Y,Γ1,ds,_,L,g1,l.ext i,O,fun Γ2 U σ2 H2 B=>c Γ2 U σ2 H2 (i.trans B)⟩⟩
theorem fJz {es:List Expr} {kk:Nat} {t:GsD} {n:Nat} (hc:X.calm=true) (h:PGsD K X es t) (hK:X.K=K:=by rfl)
  (hn:(fm es X.env).length=n:=by rfl) (hst:(fm es X.env).findIdx? (·.1)=none:=by rfl):PGD K X (.Tuple es kk pos) (fJy n t) :=
 .of (eZg hc h.o hn hst) λv σ H Q i=>i.el λF S Γ d QD r g y q c=>by
  cases d with
  | tup ds =>
   obtain⟨p,us,rfl,sq,l⟩:=tup.st y;exact⟨p,us,rfl,by rw[hK];exact sq,by rw[l.length];exact q.1,F,S,Γ,ds,_,r,g,l,q.2,c⟩
  | _=>exact q.elim
def setD (o i v:D) (S:Sto) (Q:Sto->Prop):Prop:=match o,i with
 | .ref p,.int k=>∃ xs j,S p=some (.lst xs)/\ixN xs.length k=some j/\Q (supd S p (.lst (xs.set j v)))
 | _,_=>False
def gdSub (to ti:ED):GD:=λv Γ S Q=>to Γ S λo S1=>ti Γ S1 λi S2=>setD o i v S2 λS3=>Q Γ S3
theorem dZr {o i:Expr} {to ti:ED} (ho:PD K X o to) (hi:PD K X i ti)
  (ha:∀ v,kb (.Subscript o i pos) X.env v=(do
   let ov <- dX [v] (eval o X.env)
   let iv <- dX [v,ov] (eval i X.env)
   fu pos
   dX [v,ov,iv] (setItem ov iv v)
   release [v,ov,iv] []):=by intro _;rfl):PGD K X (.Subscript o i pos) (gdSub to ti) :=
 .of (fX4 ho.o hi.o dJv ha) λv σ H Q z0=>z0.el λF S Γ d QD r g rv q c =>
  ⟨F,S,Γ,_,r,g,q,λov od H1 S1 L r1 v1 q1=>⟨F,S1,Γ,_,r1,g.ext L,q1,λiv id H2 Y G Z v2 U=>by
   have O:=v1.ext G;cases od with
   | ref p =>
    cases id with
    | int kk =>
     obtain⟨xs,j,hS,hj,q3⟩:=U;obtain⟨us,hH,l⟩:=Z.obj p _ hS;rw[rref O,rint v2];have y:Y p≠none:=by rw[hS];exact λz=>by cases z
     have B:Ext Y H2 (supd Y p (.lst (xs.set j d))) (upd H2 p (.lst (us.set j v))):=Ext.write y;refine⟨p,us,kk,j,rfl,rfl,hH,by rw[l.length];exact hj,?_⟩
     refine c Γ _ σ _ (L.trans (G.trans B)) (Z.write y ⟨_,aQc,?_⟩) (g.ext (L.trans (G.trans B))) q3;exact RepL.set (rv.ext (L.trans (G.trans B))) j (l.ext B)
    | _=>exact U.elim
   | _=>exact U.elim⟩⟩
def bJ3:SD:=λE Γ S=>E.nx Γ S
def dSeq (t u:SD):SD:=λE Γ S=>t { E with nx:=u E } Γ S
def dAsg (te:ED) (g:GD):SD:=λE Γ S=>te Γ S λd S1=>g d Γ S1 E.nx
def gXi (te:ED):SD:=λE Γ S=>te Γ S λ_ S1=>E.nx Γ S1
def dRet (te:ED):SD:=λE Γ S=>te Γ S E.rt
def dIfS (c:TD) (t u:SD):SD:=λE Γ S=>c Γ S λb S1=>if b=true then t E Γ S1 else u E Γ S1
section
variable {st:Stmt} {rest:List Stmt} {t u:SD}
theorem aQd:PSsD K X [] bJ3:=.of cJw λy σ H i=>i.el λF S Γ E r g q c=>c.nx Γ S σ H (Ext.refl _ _) r g q
theorem aQ2 (h1:PSD K X st t) (h2:PSsD K X rest u):PSsD K X (st::rest) (dSeq t u):=.of (bXi h1.o h2.o) λO σ H i=>i.el λF S Γ E r g q c =>
 ⟨F,S,Γ,{ E with nx:=u E },r,g,q,fun Γ1 L σ1 H1 y B g1 G=>⟨F,L,Γ1,E,B,g1,G,c.ext y⟩,c.rt,c.bk,c.ct⟩
theorem aQ3 (h1:PSD K X st t):PSsD K X [st] t:=⟨cJx h1.o⟩
theorem dZs {tg e:Expr} {te:ED} {g:GD} (he:PD K X e te) (hg:PGD K X tg g) (hs:swapsWithSole [tg] e pos.line X.env=pure false:=by rfl) (hw:swappedStores [tg] e X.env=pure none:=by rfl)
  (h1:(fm [tg] X.env).map (·.2)=[kb tg X.env]:=by rfl):PSD K X (.Assign [tg] e pos) (dAsg te g):=.of (fX5 he.o hg.o hs hw h1) λY σ H y=>y.el λF S Γ E r g q c =>
 ⟨F,S,Γ,_,r,g,q,λv d H1 U i G v1 L=>⟨F,U,Γ,d,_,G,g.ext i,v1,L,fun Γ2 O σ2 H2 B=>c.nx Γ2 O σ2 H2 (i.trans B)⟩⟩
theorem gQ0 {te:ED} {i:Nat}:∀ D' σ H,upS K (dAsg te (aQu i)) D' σ H->tAsg (upE K te) (cQm i) D' σ H:=λD' σ H B=>B.el λF S Γ E r g q c =>
 ⟨F,S,Γ,_,r,g,q,λv d H1 O y G v1 L=>c.nx _ O _ H1 y G ((g.ext y).set v1 i) L⟩
theorem aQ8 {i:Nat} {x:Str} {e:Expr} {te:ED} {pos':Pos} (hN:X.N.Nodup) (hi:X.N[i]?=some x) (hx:Loc X.env.scope x) (he:PD K X e te) (hs:gc e (some (.Name x pos')) pos.line X.env=pure false:=by rfl) (hf:X.fn x=true\/X.env.scope.names.lookup x=some .local:=by first | exact .inl rfl | exact .inr rfl | assumption) :
  PSD K X (.Assign [.Name x pos'] e pos) (dAsg te (aQu i)):=.of (fX6 hN hi hx he.o hs hf) gQ0
theorem aXi {e:Expr} {te:ED} (he:PD K X e te) (hs:gc e none pos.line X.env=pure false:=by rfl):PSD K X (.Expr e pos) (gXi te):=.of (eXp he.o hs) λO σ H y=>y.el λF S Γ E r g q c =>
 ⟨F,S,Γ,_,r,g,q,λv d H1 L i B v1 G=>c.nx Γ L σ H1 i B (g.ext i) G⟩
theorem aQa {e:Expr} {te:ED} (he:PD K X e te):PSD K X (.Return (some e) pos) (dRet te):=.of (fX2 he.o) λO σ H i=>i.el λF S Γ E r g q c =>
 ⟨F,S,Γ,_,r,g,q,λv d H1 L y B v1 G=>c.rt v d H1 L y B v1 G⟩
theorem aQw {c:Expr} {sa sb:List Stmt} {tc:TD} (hc:PTD K X c tc) (ha:PSsD K X sa t) (hb:PSsD K X sb u):PSD K X (.If c sa sb pos) (dIfS tc t u):=.of (fX3 hc.o ha.o hb.o) λO σ H L=>L.el λF S Γ E r g q c =>
 ⟨F,S,Γ,_,r,g,q,λz H1 G i y B=>by
  cases z with
  | true=>exact⟨F,G,Γ,E,y,g.ext i,B,c.ext i⟩
  | false=>exact⟨F,G,Γ,E,y,g.ext i,B,c.ext i⟩⟩
def gQ1 (c:TD) (tb:SD):SD:=λE Γ S=>∃ W:Nat->Gm->Sto->Prop,(∃ m,W m Γ S)/\∀ m Γ S,W m Γ S ->
 c Γ S λb S1=>if b=true then tb { E with nx:=fun Γ' S'=>∃ m',m' < m/\W m' Γ' S',ct:=fun Γ' S'=>∃ m',m' < m/\W m' Γ' S',bk:=E.nx } Γ S1 else E.nx Γ S1
theorem bQm {c:Expr} {body:List Stmt} {tc:TD} {tb:SD} (hp:PassesOwn (az X.prog X.w) X.A X.env X.xe) (hc:PTD K X c tc) (hb:PSsD K X body tb):PSD K X (.While c body [] pos) (gQ1 tc tb):=.of (dJj hp hc.o hb.o) λD' σ H ⟨F,S,Γ,E,r,g,⟨W,⟨m0,w0⟩,turn⟩,c⟩ =>
 ⟨λm σ' H'=>∃ S' Γ',Ext S H S' H'/\Rp K F S' H'/\RepG K (mt S' F) H' Γ' σ'/\W m Γ' S',⟨m0,S,Γ,Ext.refl _ _,r,g,w0⟩,λm σ1 H1 ⟨Z,Γ1,G,r1,g1,w1⟩ =>
  ⟨F,Z,Γ1,_,r1,g1,turn m Γ1 Z w1,λz H2 Y B O U=>by
   cases z with
   | false=>exact c.nx Γ1 Y σ1 H2 (G.trans B) O (g1.ext B) U
   | true =>
    refine⟨fun σ' H'=>∃ i,i < m/\∃ S' Γ',Ext S H S' H'/\Rp K F S' H'/\RepG K (mt S' F) H' Γ' σ'/\W i Γ' S',fun σ' H' ⟨i,h1,h2⟩=>⟨i,h1,h2⟩,F,Y,Γ1,_,O,g1.ext B,U,?_,λv d H' S' y=>c.rt v d H' S' (G.trans (B.trans y)),fun Γ' S' σ' H' y=>c.nx Γ' S' σ' H' (G.trans (B.trans y)),?_⟩
    ·exact fun Γ' S' σ' H' y L g3 ⟨i,h1,h2⟩=>⟨i,h1,S',Γ',G.trans (B.trans y),L,g3,h2⟩
    ·exact fun Γ' S' σ' H' y L g3 ⟨i,h1,h2⟩=>⟨i,h1,S',Γ',G.trans (B.trans y),L,g3,h2⟩⟩⟩
end
def FE (F:Am) (H:Hp) (F2:Am):Prop:=∀ a,F2 a->F a\/H a=none
theorem FE.refl (F:Am) (H:Hp):FE F H F:=λ_ h=>.inl h
structure ExtW (F:Am) (S:Sto) (H:Hp) (S':Sto) (H':Hp):Prop where
 keep:∀ a o,¬ mt S F a->H a=some o->H' a=some o
 new:∀ a,S' a≠none->S a≠none\/H a=none
theorem Ext.w {F:Am} {S S':Sto} {H H':Hp} (x:Ext S H S' H'):ExtW F S H S' H':=⟨λa o h e=>x.keep a o (aY λn=>h (.inl n)) e,x.new⟩
theorem ExtW.kpF {F F2:Am} {S S':Sto} {H H':Hp} (x:ExtW F S H S' H') (f:FE F H F2):Keep (mt S F) H (mt S' F2) H':=⟨x.keep,λa h e=>λz=>by
 rcases z with z | z
 ·rcases x.new a z with y | y
  ·exact h (.inl y)
  ·exact e y
 ·rcases f a z with y | y
  ·exact h (.inr y)
  ·exact e y⟩
structure ItOk (K:Fg) (F:Am) (S:Sto) (H:Hp) (J:It) (xs:List D) (G:Sto->Prop):Prop where
 go:∀ F2,FE F H F2->∀ S2 H2,ExtW F S H S2 H2->Rp K F2 S2 H2->G S2->∀ i d,xs[i]?=some d->J.go i H2/\∀ x H3,J.yld i H2 x H3->Ext S2 H2 S2 H3/\Rp K F2 S2 H3/\RepV K (mt S2 F2) H3 d x
 stop:∀ F2,FE F H F2->∀ S2 H2,ExtW F S H S2 H2->Rp K F2 S2 H2->G S2->J.stop xs.length H2
abbrev IDk:=List D->(Sto->Prop)->Sto->Prop
abbrev ID:=Gm->Sto->IDk->Prop
def upI (K:Fg) (t:ID):TI:=fun σ H R=>∃ F S Γ QD,Rp K F S H/\RepG K (mt S F) H Γ σ/\t Γ S QD/\∀ J xs G H' S',Ext S H S' H'->Rp K F S' H'->ItOk K F S' H' J xs G->QD xs G S'->R J H'
theorem upI.el {K:Fg} {t:ID} {σ:St} {H:Hp} {R:It->Hp->Prop} {p:Prop} (h:upI K t σ H R) (k:∀ F S Γ QD,Rp K F S H->RepG K (mt S F) H Γ σ->t Γ S QD->(∀ J xs G H' S',Ext S H S' H'->Rp K F S' H'->ItOk K F S' H' J xs G->QD xs G S'->R J H')->p):p:=by
 obtain⟨F,S,Γ,QD,h0,h1,h2,i⟩:=h;exact k F S Γ QD h0 h1 h2 i
structure PID (K:Fg) (X:Cx) (tg e:Expr) (t:ID):Prop where
 o:PI X tg e (upI K t)
theorem PID.of {tg e:Expr} {te:TI} {t:ID} (h:PI X tg e te) (i:∀ σ H Q,upI K t σ H Q->te σ H Q):PID K X tg e t:=⟨λpins s σ H Q I q=>h pins s σ H Q I (i σ H Q q)⟩
def iSq (K:Fg) (tl:TE):TI:=fun σ H R=>tl σ H λx H1=>(∃ a,x=.ref a/\(∃ xs,SqL K H1 a xs)/\R (Itl K a) H1)\/∃ a,x=.ref a/\(∃ xs,SqT K H1 a xs)/\R (Itt K a) H1
theorem gXj {tg l:Expr} {tl:TE} (hl:PE X l tl) (hK:X.K=K:=by rfl):PI X tg l (iSq K tl):=by
 subst hK;intro pins s σ H R I h;refine thn (hl pins s σ H _ I h) λv s1 B=>?_;obtain⟨x,H1,i,r1,O⟩:=B;have fp:∀ b∈[s1.heap.objs.size],FpOk X pins H1 b:=λb Y=>by
  have e:b=s1.heap.objs.size:=by simpa using Y
  subst e;exact i.fpOk (au _) (i.hok.fresh (au _))
 rcases O with⟨a,e,⟨xs,G⟩,q⟩ | ⟨a,e,⟨xs,G⟩,q⟩
 ·subst e;cases r1;obtain⟨y,L,p,U⟩:=i.list G;exact fS p.isList ⟨s1.heap.objs.size,[s1.heap.objs.size],_,_,H1,rfl,i.kept (t':=s1.toks) λb o e=>ag _ e,cJz a _,⟨_,av _ rfl,rfl,rfl⟩,fp,q⟩
 ·subst e;cases r1;obtain⟨y,L,p,U⟩:=i.tuple G;exact dR (show s1.heap.IsTuple a y.toArray from p) ⟨s1.heap.objs.size,[s1.heap.objs.size],_,_,H1,rfl,i.kept (t':=s1.toks) λb o e=>ag _ e,cXz a _,⟨_,av _ rfl,rfl,rfl⟩,fp,q⟩
def gQ2 (d:D) (xs:List D):Sto->Prop:=match d with
 | .ref a=>λS=>S a=some (.lst xs)
 | _=>λ_=>True
def dSq (te:ED):ID:=fun Γ S Q=>te Γ S λd S1=>∃ xs,sqIs S1 d xs/\Q xs (gQ2 d xs) S1
theorem fQi {F:Am} {S:Sto} {H:Hp} {p:Addr} {xs:List D} {us:List V} {G:Sto->Prop} (t:TupAt K (mt S F) H p us) (l:RepL K (mt S F) H xs us):ItOk K F S H (Itt K p) xs G where
 go:=λZ f Y H2 x B _ i d hd=>by
  have t2:=(t.keep (x.kpF f)).sq;obtain⟨v,L,U⟩:=l.get hd;refine⟨⟨us,v,t2,L⟩,λy H3 ⟨e2,O⟩=>?_⟩;subst e2
  have:=O us t2
  rw[L] at this;cases this;exact⟨Ext.refl _ _,B,U.keep (x.kpF f)⟩
 stop:=λZ f Y H2 x B _=>⟨us,(t.keep (x.kpF f)).sq,by rw[l.length];exact au _⟩
theorem fQj {F:Am} {S:Sto} {H:Hp} {p:Addr} {xs:List D} {us:List V} {G:Sto->Prop} (t:LstAt K (mt S F) H p us) (l:RepL K (mt S F) H xs us):ItOk K F S H (Itl K p) xs G where
 go:=λZ f Y H2 x B _ i d hd=>by
  obtain⟨v,L,U⟩:=l.get hd;have t2:SqL K H2 p us:=(t.keep (x.kpF f)).sq;refine⟨⟨us,v,t2,L⟩,λy H3 ⟨e2,O⟩=>?_⟩;subst e2
  have:=O us t2
  rw[L] at this;cases this;exact⟨Ext.refl _ _,B,U.keep (x.kpF f)⟩
 stop:=λZ f Y H2 x B _=>⟨us,(t.keep (x.kpF f)).sq,by rw[l.length];exact au _⟩
theorem fQk {F:Am} {S:Sto} {H:Hp} {p:Addr} {xs:List D}:ItOk K F S H (Itl K p) xs (gQ2 (.ref p) xs) where
 go:=λF2 f Z H2 x B L i d hd=>by
  obtain⟨us,G,l⟩:=B.obj p _ L;obtain⟨v,O,Y⟩:=l.get hd;refine⟨⟨us,v,SqL.of G,O⟩,λy H3 ⟨e2,U⟩=>?_⟩;subst e2
  have:=U us (SqL.of G)
  rw[O] at this;cases this;exact⟨Ext.refl _ _,B,Y⟩
 stop:=λF2 f Z H2 x B L=>by
  obtain⟨us,G,l⟩:=B.obj p _ L;exact⟨us,SqL.of G,by rw[l.length];exact au _⟩
theorem aZy {tg l:Expr} {tl:ED} (hl:PD K X l tl) (hK:X.K=K:=by rfl):PID K X tg l (dSq tl):=.of (gXj hl.o hK) fun σ H Q L=>L.el λF S Γ QD r g q c =>
 ⟨F,S,Γ,_,r,g,q,λv d H1 U y i v1 G=>by
  obtain⟨xs,hs,B⟩:=G;cases d with
  | tup ys =>
   cases hs;unfold RepV at v1;obtain⟨p,us,rfl,t,l⟩:=v1;exact .inr ⟨p,rfl,⟨us,t.sq⟩,c _ _ _ _ _ y i (fQi t l) B⟩
  | lst ys =>
   cases hs;unfold RepV at v1;obtain⟨p,us,rfl,t,l⟩:=v1;exact .inl ⟨p,rfl,⟨us,t.sq⟩,c _ _ _ _ _ y i (fQj t l) B⟩
  | ref p =>
   rw[rref v1];obtain⟨us,O,l⟩:=i.obj p _ hs;exact .inl ⟨p,rfl,⟨us,SqL.of O⟩,c _ _ _ _ _ y i fQk B⟩
  | _=>exact hs.elim⟩
def rngD (lo:Int):Nat->List D
 | 0=>[]
 | n + 1=>.int lo::rngD (lo + 1) n
theorem aZ1:∀ (n:Nat) (lo:Int),(rngD lo n).length=n
 | 0,_=>rfl
 | n + 1,lo=>by simp[rngD,aZ1 n]
theorem bJ4:∀ (n:Nat) (lo:Int) (i:Nat) (d:D),(rngD lo n)[i]?=some d->i < n/\d=.int (lo + i)
 | 0,lo,i,d,h=>by simp[rngD] at h
 | n + 1,lo,0,d,h=>by simp[rngD] at h;exact⟨by lia,by rw[<- h];simp⟩
 | n + 1,lo,i + 1,d,h=>by
  have h':(rngD (lo + 1) n)[i]?=some d:=by simpa [rngD] using h
  obtain⟨h1,h2⟩:=bJ4 n (lo + 1) i d h';refine⟨by lia,?_⟩
  rw[h2]
  congr 1
  rw[Int.natCast_add];lia
theorem dZt {F:Am} {S:Sto} {H:Hp} {lo:Int} {n:Nat} {G:Sto->Prop}:ItOk K F S H (Itr lo n) (rngD lo n) G where
 go:=λU f O H2 x B _ i d hd=>by
  obtain⟨h1,rfl⟩:=bJ4 n lo i d hd;exact⟨h1,λy Y ⟨e2,L⟩=>by subst e2;subst L;exact⟨Ext.refl _ _,B,by unfold RepV;rfl⟩⟩
 stop:=λU f O H2 x B _=>by rw[aZ1];exact au n
def gQ3 (ta:AD):ID:=fun Γ S Q=>ta Γ S λds S1=>match ds with
 | [.int j]=>(-(2 ^ 62)<=j/\j < 2 ^ 62)/\Q (rngD 0 j.toNat) (λ_=>True) S1
 | _=>False
def gXk (ta:AD):ID:=fun Γ S Q=>ta Γ S λds S1=>match ds with
 | [.int i,.int j]=>(-(2 ^ 62)<=i/\i < 2 ^ 62/\-(2 ^ 62)<=j/\j < 2 ^ 62)/\Q (rngD i (j - i).toNat) (λ_=>True) S1
 | _=>False
theorem aQp {tg:Expr} {p:Pos} {ta:AD} (hg:Gl X "range") (hm:X.mg "range"=none) (ha:PAD K X [a] ta) (hs:am [a] X.env=[(false,eval a X.env)]:=by rfl):PID K X tg (.Call (.Name "range" p) [a] [] pos) (gQ3 ta):=.of (dQ0 hg hm ha.o hs) fun σ H Q y=>y.el λF S Γ QD r g q c =>
 ⟨F,S,Γ,_,r,g,q,λvs ds H1 O B L v1 i=>by
  match ds,i with
  | [.int j],i =>
   obtain⟨v,rfl,G⟩:=v1.one;rw[rint G];exact⟨j,rfl,i.1.1,i.1.2,c _ _ _ _ _ B L dZt i.2⟩⟩
theorem dZu {tg:Expr} {p:Pos} {ta:AD} (hg:Gl X "range") (hm:X.mg "range"=none) (ha:PAD K X [a,b] ta) (hs:am [a,b] X.env=[(false,eval a X.env),(false,eval b X.env)]:=by rfl) (hs2:am [b] X.env=[(false,eval b X.env)]:=by rfl):PID K X tg (.Call (.Name "range" p) [a,b] [] pos) (gXk ta):=.of (dQ1 hg hm ha.o hs hs2) fun σ H Q G=>G.el λF S Γ QD r g q c =>
 ⟨F,S,Γ,_,r,g,q,λvs ds H1 Y L U v1 y=>by
  match ds,y with
  | [.int i,.int j],y =>
   obtain⟨v,w,rfl,O,B⟩:=v1.two;rw[rint O,rint B];exact⟨i,j,rfl,y.1,c _ _ _ _ _ L U dZt y.2⟩⟩
def bZz (lo:Int):List D->List D
 | []=>[]
 | d::ds=>.tup [.int lo,d]::bZz (lo + 1) ds
theorem bZa:∀ (ds:List D) (lo:Int),(bZz lo ds).length=ds.length
 | [],_=>rfl
 | d::ds,lo=>by simp[bZz,bZa ds]
theorem bZb:∀ (ds:List D) (lo:Int) (i:Nat) (d:D),(bZz lo ds)[i]?=some d->∃ e,ds[i]?=some e/\d=.tup [.int (lo + i),e]
 | [],lo,i,d,h=>by simp[bZz] at h
 | e::ds,lo,0,d,h=>by simp[bZz] at h;exact⟨e,rfl,by rw[<- h];simp⟩
 | e::ds,lo,i + 1,d,h=>by
  have h':(bZz (lo + 1) ds)[i]?=some d:=by simpa [bZz] using h
  obtain⟨f,h1,h2⟩:=bZb ds (lo + 1) i d h';refine⟨f,by simpa using h1,?_⟩
  rw[h2]
  have:lo + 1 + (i:Int)=lo + ((i + 1:Nat):Int):=by rw[Int.natCast_add];lia
  rw[this]
theorem fQl {F:Am} {S:Sto} {H:Hp} {p:Addr} {i:Nat} {y:V} {d:D} (r:Rp K F S H) (hp:H p=none) (rv:RepV K (mt S F) H d y):Ext S H S (upd H p (.tup [.int i,y]))/\Rp K F S (upd H p (.tup [.int i,y]))/\RepV K (mt S F) (upd H p (.tup [.int i,y])) (.tup [.int (0 + i),d]) (.ref p):=by
 have x:Ext S H S (upd H p (.tup [.int i,y])):=Ext.same (aQm hp);refine⟨x,r.same (aQm hp),?_⟩;unfold RepV;exact⟨p,_,rfl,.inl ⟨r.nmt hp,.inl aQc⟩,RepL.cons (by unfold RepV;rw[Int.zero_add]) (RepL.cons (rv.ext x) RepL.nil)⟩
theorem fQm {F:Am} {S:Sto} {H:Hp} {p:Addr} {xs:List D} {us:List V} {G:Sto->Prop} (t:TupAt K (mt S F) H p us) (l:RepL K (mt S F) H xs us):ItOk K F S H (Ite K p) (bZz 0 xs) G where
 go:=λF2 f S2 H2 x B _ i d hd=>by
  obtain⟨e,he,rfl⟩:=bZb xs 0 i d hd;obtain⟨v,L,U⟩:=l.get he;have t2:=(t.keep (x.kpF f)).sq;refine⟨⟨us,v,t2,L⟩,λz H3 ⟨q,y,Y,Z,eH,O⟩=>?_⟩;subst Z;subst eH
  have:=O us t2
  rw[L] at this;cases this;exact fQl B Y (U.keep (x.kpF f))
 stop:=λF2 f S2 H2 x B _=>⟨us,(t.keep (x.kpF f)).sq,by rw[bZa,l.length];exact au _⟩
def dEnT (ta:AD):ID:=fun Γ S Q=>ta Γ S λds S1=>match ds with
 | [.tup xs]=>Q (bZz 0 xs) (λ_=>True) S1
 | _=>False
theorem gQ4 {e:Expr} {ta:AD} {p:Pos} {elts:List Expr} {x1:Nat} {tpos:Pos} (hg:Gl X "enumerate") (hm:X.mg "enumerate"=none) (ha:PAD K X [e] ta) (hs:am [e] X.env=[(false,eval e X.env)]:=by rfl) (hK:X.K=K:=by rfl) :
  PID K X (.Tuple elts x1 tpos) (.Call (.Name "enumerate" p) [e] [] pos) (dEnT ta):=.of (fJ9 hg hm ha.o hs hK) fun σ H Q B=>B.el λF S Γ QD r g q c =>
 ⟨F,S,Γ,_,r,g,q,λvs ds H1 L x1 G v1 i=>by
  match ds,i with
  | [.tup xs],i =>
   obtain⟨v,rfl,y⟩:=v1.one;unfold RepV at y;obtain⟨p,us,rfl,t,l⟩:=y;exact⟨p,rfl,⟨us,t.sq⟩,c _ _ _ _ _ x1 G (fQm t l) i⟩⟩
def forD (g:GD) (tb:SD) (G:Sto->Prop) (E:EndsD):List D->Gm->Sto->Prop
 | [],Γ,S=>G S/\E.nx Γ S
 | x::xs,Γ,S=>G S/\g x Γ S fun Γ2 S2=>tb { E with nx:=forD g tb G E xs,ct:=forD g tb G E xs,bk:=E.nx } Γ2 S2
def dFor (wi:ID) (g:GD) (tb:SD):SD:=λE Γ S=>wi Γ S λxs G S1=>forD g tb G E xs Γ S1
theorem aJg {α:Type} {xs:List α} {i:Nat} (h:i < xs.length):xs.drop i=xs[i]::xs.drop (i + 1):=eR h
theorem bQ8 {tg iter:Expr} {body:List Stmt} {wi:ID} {g:GD} {tb:SD} (hp:PassesOwn (az X.prog X.w) X.A X.env X.xe) (hc:X.calm=true) (hi:PID K X tg iter wi) (hg:PGD K X tg g) (hb:PSsD K X body tb) (hs:∀ x,db iter X.env x=pure x:=by intro _;rfl):PSD K X (.For tg iter body [] pos) (dFor wi g tb):=.of (fX8 hp hc hi.o hg.o hb.o hs) λD' σ H z0=>z0.el λF S Γ E r gm q c =>
 ⟨F,S,Γ,_,r,gm,q,λJ xs G H1 S1 x1 r1 it q1=>by
  refine⟨λi m σ' H'=>m=xs.length - i/\i<=xs.length/\∃ S' Γ',Ext S1 H1 S' H'/\Rp K F S' H'/\RepG K (mt S' F) H' Γ' σ'/\forD g tb G E (xs.drop i) Γ' S',⟨xs.length,by simp,bL _,S1,Γ,Ext.refl _ _,r1,gm.ext x1,by simpa using q1⟩,?_⟩
  rintro i m σ' H' ⟨rfl,hi.o,S',Γ',x2,r2,g2,f2⟩
  by_cases U:i < xs.length
  ·rw[aJg U] at f2;obtain⟨hG,f2⟩:=f2;obtain⟨hgo,hy⟩:=it.go F (FE.refl F H1) S' H' x2.w r2 hG i xs[i] (ah U);refine .inr ⟨hgo,fun σ'' L=>∃ B Γ'',Ext S1 H1 B L/\Rp K F B L/\RepG K (mt B F) L Γ'' σ''/\forD g tb G E (xs.drop (i + 1)) Γ'' B,fun σ'' L z=>⟨xs.length - (i + 1),by lia,rfl,U,z⟩,λx H3 y3=>?_⟩
   obtain⟨x3,r3,v3⟩:=hy x H3 y3;refine⟨F,S',Γ',xs[i],_,r3,g2.ext x3,v3,f2,fun Γ4 S4 σ4 H4 x4 r4 g4 q4=>⟨F,S4,Γ4,_,r4,g4,q4,?_⟩⟩;have y:=x2.trans (x3.trans x4);exact⟨fun Γ5 Y σ5 Z O r5 g5 q5=>⟨Y,Γ5,y.trans O,r5,g5,q5⟩,λv d Z Y O=>c.rt v d Z Y (x1.trans (y.trans O)),fun Γ5 Y σ5 Z O=>c.nx Γ5 Y σ5 Z (x1.trans (y.trans O)),fun Γ5 Y σ5 Z O r5 g5 q5=>⟨Y,Γ5,y.trans O,r5,g5,q5⟩⟩
  ·have e:i=xs.length:=by lia
   subst e;rw[iu] at f2;exact .inl ⟨it.stop F (FE.refl F H1) S' H' x2.w r2 f2.1,c.nx Γ' S' σ' H' (x1.trans x2) r2 g2 f2.2⟩⟩
end
end L2
set_option maxHeartbeats 1000000
namespace L2
open PySem PySem.Spec PyProof.Rows
section
variable {X:Cx} {K:Fg} {pos:Pos} {k:Nat}
structure ExtX (D':Addr) (S:Sto) (H:Hp) (S':Sto) (H':Hp):Prop where
 keep:∀ a o,a≠D'->S a=none->H a=some o->H' a=some o
 live:∀ a,H a≠none->H' a≠none
 new:∀ a,S' a≠none->S a≠none\/H a=none
theorem Ext.x {D':Addr} {S S':Sto} {H H':Hp} (x:Ext S H S' H'):ExtX D' S H S' H':=⟨λa o _=>x.keep a o,x.live,x.new⟩
theorem ExtX.trans {D':Addr} {S S1 S2:Sto} {H H1 H2:Hp} (x:ExtX D' S H S1 H1) (y:ExtX D' S1 H1 S2 H2):ExtX D' S H S2 H2 :=
  ⟨λa o n h h' => y.keep a o n (by
      cases e:S1 a with
      | none => rfl
      | some z => rcases x.new a (by rw [e]; exact λz => by cases z) with z | z
                  · exact absurd h z
                  · rw [h'] at z; cases z) (x.keep a o n h h'), λa h => y.live a (x.live a h), λa h => by
    rcases y.new a h with z | z
    · exact x.new a z
    · exact .inr (aY λn => x.live a n z)⟩
theorem ExtX.kp {D':Addr} {F:Am} {S S':Sto} {H H':Hp} (x:ExtX D' S H S' H') (hF:F D'):Keep (mt S F) H (mt S' F) H':=⟨λa o h e=>x.keep a o (by rintro rfl;exact h (.inr hF)) (aY λn=>h (.inl n)) e,λa h e=>λz=>by
 rcases z with z | z
 ·rcases x.new a z with y | y
  ·exact h (.inl y)
  ·exact e y
 ·exact h (.inr z)⟩
theorem ExtX.w {D':Addr} {F:Am} {S S':Sto} {H H':Hp} (x:ExtX D' S H S' H') (hF:F D'):ExtW F S H S' H':=⟨λa o h e=>x.keep a o (by rintro rfl;exact h (.inr hF)) (aY λn=>h (.inl n)) e,x.new⟩
def Free (L:List Nat) (σ:St):Prop:=∀ i∈L,σ[i]?=some none
abbrev BD:=Gm->Sto->List D->(List D->Sto->Prop)->Prop
def bZc (K:Fg) (L:List Nat) (tv:Addr->TB) (td:BD):Prop:=∀ D' F S H Γ σ acc zs N QD,Free L σ->F D'->Rp K F S H->RepG K (mt S F) H Γ σ->H D'=some (.lst zs)->RepL K (mt S F) H acc zs->td Γ S acc QD ->
 (∀ acc' S' H' zs',ExtX D' S H S' H'->Rp K F S' H'->H' D'=some (.lst zs')->RepL K (mt S' F) H' acc' zs'->QD acc' S'->N H')->tv D' σ H N
def bX0 (te:ED):BD:=fun Γ S acc Q=>te Γ S λy S1=>acc.length < sizeLine/\Q (acc++[y]) S1
theorem aQh {L:List Nat} {te:ED}:bZc K L (λD'=>fXv D' (upE K te)) (bX0 te):=by
 intro D' F S H Γ σ acc zs N QD _ i r g hH l q c;refine⟨F,S,Γ,_,r,g,q,λv d H1 B G O v1 ⟨hz,Y⟩=>?_⟩;have hS:S D'=none:=(r.frm D' i).2;have U:B D'=none:=(O.frm D' i).2;have h1:H1 D'=some (.lst zs):=G.keep _ _ hS hH;have y:ExtX D' B H1 B (upd H1 D' (.lst (zs++[v]))):=⟨λa o n _ e=>by rw[upd_ne n];exact e,λa h=>by
  by_cases e:a=D'
  ·subst e;rw[aQc];exact λz=>by cases z
  ·rw[upd_ne e];exact h,λa h=>.inl h⟩
 refine⟨zs,h1,by rw[l.length];exact hz,c _ B _ (zs++[v]) (G.x.trans y) ?_ aQc ?_ Y⟩
 ·exact⟨λa o e=>(O.obj a o e).keep (y.kp i) (upd_ne (by rintro rfl;rw[U] at e;cases e)),λa h=>by
   refine hd λGq Z=>?_;obtain⟨⟨ys,e,ct⟩,h2⟩:=O.frm a h;refine Z ?_
   by_cases z:a=D'
   ·subst z;exact⟨⟨_,aQc,trivial⟩,h2⟩
   ·exact⟨⟨ys,by rw[upd_ne z];exact e,ct⟩,h2⟩⟩
 ·exact RepL.app ((l.ext G).keep (y.kp i)) (RepL.cons (v1.keep (y.kp i)) RepL.nil)
def CG (K:Fg) (L L':List Nat) (g:TG) (gd:GD):Prop:=∀ F S H Γ σ d v Q QD,Free L σ->Rp K F S H->RepG K (mt S F) H Γ σ->RepV K (mt S F) H d v->gd d Γ S QD->(∀ Γ' S' σ' H',Ext S H S' H'->Rp K F S' H'->RepG K (mt S' F) H' Γ' σ'->Wk σ σ'->Free L' σ'->QD Γ' S'->Q σ' H')->g v σ H Q
theorem Free.set {L:List Nat} {σ:St} {i:Nat} {v:V} (h:Free (i::L) σ) (hi:i∉L):Free L (σ.set i (some v)):=λj y=>by
 rw[eV (by rintro rfl;exact hi y)]
 exact h j (ao _ y)
theorem cg_name {L:List Nat} {i:Nat} (hi:i∉L:=by decide):CG K (i::L) L (cQm i) (aQu i):=λF S H Γ σ d v Q QD f r g y q c=>c _ S _ H (Ext.refl _ _) r (g.set y i) (eJc (f i ak)) (f.set hi) q
theorem fQn {L:List Nat} {i j:Nat} (hi:i∉j::L:=by decide) (hj:j∉L:=by decide):CG K (i::j::L) L (gTup K 2 (eXq (cQm i) (eXq (cQm j) gNil))) (fJy 2 (dZq (aQu i) (dZq (aQu j) fJx))):=λF S H Γ σ d v Q QD f r g y q c=>by
 cases d with
 | tup ds =>
  obtain⟨p,us,rfl,sq,l⟩:=tup.st y;refine hd λZ O=>?_;obtain⟨hl,q⟩:=q;refine O ?_
  match ds,hl,q with
  | [Y,U],_,q =>
   obtain⟨v1,v2,rfl,G,B⟩:=l.two;have f1:Free (j::L) (σ.set i (some v1)):=f.set hi;exact⟨p,_,rfl,sq,rfl,v1,_,rfl,v2,_,rfl,rfl,c _ S _ H (Ext.refl _ _) r ((g.set G i).set B j) ((eJc (f i ak)).trans (eJc (f1 j ak))) (f1.set hj) q.2⟩
 | _=>exact q.elim
def aXx (g:GD) (tt:TD) (tb:BD) (G:Sto->Prop) (Γ0:Gm):List D->List D->Sto->(List D->Sto->Prop)->Prop
 | [],acc,S,Q=>G S/\Q acc S
 | x::xs,acc,S,Q=>G S/\g x Γ0 S fun Γ2 S2=>tt Γ2 S2 λb S3=>if b=true then tb Γ2 S3 acc λacc' S4=>aXx g tt tb G Γ0 xs acc' S4 Q else aXx g tt tb G Γ0 xs acc S3 Q
theorem dZv {L L':List Nat} {g:TG} {gd:GD} {tt:TD} {tv:Addr->TB} {tb:BD} (hg:CG K L L' g gd) (hb:bZc K L' tv tb) {D':Addr} {F:Am} {S:Sto} {H:Hp} {Γ:Gm} {σ:St} {acc:List D} {zs:List V} {N:Hp->Prop} {QD:List D->Sto->Prop} {J:It} {xs:List D} {G:Sto->Prop}
  (f:Free L σ) (hF:F D') (r:Rp K F S H) (gm:RepG K (mt S F) H Γ σ) (hH:H D'=some (.lst zs)) (l:RepL K (mt S F) H acc zs) (it:∀ S2 H2,ExtX D' S H S2 H2->Rp K F S2 H2->G S2->(∀ i d,xs[i]?=some d->J.go i H2/\∀ x H3,J.yld i H2 x H3->Ext S2 H2 S2 H3/\Rp K F S2 H3/\RepV K (mt S2 F) H3 d x)/\J.stop xs.length H2)
  (q:aXx gd tt tb G Γ xs acc S QD) (c:∀ acc' S' H' zs',ExtX D' S H S' H'->Rp K F S' H'->H' D'=some (.lst zs')->RepL K (mt S' F) H' acc' zs'->QD acc' S'->N H'):eQ0 J σ g (upT K tt) (tv D') N H:=by
 refine⟨λi m H'=>m=xs.length - i/\i<=xs.length/\∃ S' acc' zs',ExtX D' S H S' H'/\Rp K F S' H'/\H' D'=some (.lst zs')/\RepL K (mt S' F) H' acc' zs'/\aXx gd tt tb G Γ (xs.drop i) acc' S' QD,⟨xs.length,by simp,bL _,S,acc,zs,(Ext.refl _ _).x,r,hH,l,by simpa using q⟩,?_⟩
 intro i m H' zq;refine hd λGq Z=>?_;obtain⟨rfl,hi,S',acc',zs',x2,r2,h2,l2,f2⟩:=zq;refine Z ?_;have g2:=gm.keep (x2.kp hF)
 by_cases hlt:i < xs.length
 ·rw[aJg hlt] at f2;refine hd λGq Z=>?_;obtain⟨hG,f2⟩:=f2;refine Z ?_;refine hd λGq Z=>?_;obtain⟨hgo,hy⟩:=(it S' H' x2 r2 hG).1 i xs[i] (ah hlt);refine Z ?_;refine .inr ⟨hgo,λB=>∃ O y U,ExtX D' S H O B/\Rp K F O B/\B D'=some (.lst U)/\RepL K (mt O F) B y U/\aXx gd tt tb G Γ (xs.drop (i + 1)) y O QD,λB z=>⟨xs.length - (i + 1),by omega,rfl,hlt,z⟩,λx H3 y3=>?_⟩
  refine hd λGq Z=>?_;obtain⟨x3,r3,v3⟩:=hy x H3 y3;refine Z ?_;refine hg F S' H3 Γ σ xs[i] x _ _ f r3 (g2.ext x3) v3 f2 fun Γ4 S4 σ4 H4 x4 r4 g4 wk fr4 q4=>⟨wk,F,S4,Γ4,_,r4,g4,q4,λz H5 S5 x5 r5 q5=>?_⟩;have Y:=x3.trans (x4.trans x5);have h5:H5 D'=some (.lst zs'):=Y.keep _ _ (r2.frm D' hF).2 h2;have l5:=l2.ext Y;have x05:ExtX D' S H S5 H5:=x2.trans Y.x;cases z with
  | false=>exact⟨S5,acc',zs',x05,r5,h5,l5,q5⟩
  | true=>exact hb D' F S5 H5 Γ4 σ4 acc' zs' _ _ fr4 hF r5 (g4.ext x5) h5 l5 q5 λacc6 S6 H6 zs6 x6 r6 h6 l6 q6=>⟨S6,acc6,zs6,x05.trans x6,r6,h6,l6,q6⟩
 ·have e:i=xs.length:=by omega
  subst e;rw[iu] at f2;exact .inl ⟨(it S' H' x2 r2 f2.1).2,c acc' S' H' zs' x2 r2 h2 l2 f2.2⟩
def gQ5 (wi:ID) (g:GD) (tt:TD) (tb:BD):BD:=fun Γ S acc Q=>wi Γ S λxs G S1=>aXx g tt tb G Γ xs acc S1 Q
theorem cXa {L L':List Nat} {wi:ID} {g:TG} {gd:GD} {tt:TD} {tv:Addr->TB} {tb:BD} (hg:CG K L L' g gd) (hb:bZc K L' tv tb):bZc K L (λD'=>eZo (upI K wi) g (upT K tt) (tv D')) (gQ5 wi gd tt tb):=by
 intro D' F S H Γ σ acc zs N QD fr O r gm hH l q c;refine⟨F,S,Γ,_,r,gm,q,λJ xs G H1 S1 B r1 it q1=>?_⟩;have h1:H1 D'=some (.lst zs):=B.keep _ _ (r.frm D' O).2 hH;exact dZv hg hb fr O r1 (gm.ext B) h1 (l.ext B) (λS2 H2 y Y Z=>⟨it.go F (FE.refl _ _) S2 H2 (y.w O) Y Z,it.stop F (FE.refl _ _) S2 H2 (y.w O) Y Z⟩) q1 λi S' H' U y=>c i S' H' U (B.x.trans y)
def fQo (is:List (Option Nat)) (Γ:Gm):Gm:=is.map λo=>o.bind λi=>(Γ[i]?).join
theorem RepG.at {M:Am} {H:Hp}:∀ {g:Gm} {σ:St} {i:Nat} {d:D},RepG K M H g σ->g[i]?=some (some d)->∃ v,σ[i]?=some (some v)/\RepV K M H d v
 | [],_,_,_,_,e=>by simp at e
 | none::g,_,0,_,_,e=>by simp at e
 | some d::g,_,0,e,⟨v,τ,rfl,q,r⟩,h=>by simp at h;subst h;exact⟨v,rfl,q⟩
 | none::g,_,i + 1,d,⟨v,τ,rfl,r⟩,h=>by
  refine hd λG y=>?_;obtain⟨u,B,h1⟩:=RepG.at (i:=i) r (by simpa using h);refine y ?_
  exact⟨u,by simpa using B,h1⟩
 | some _::g,_,i + 1,d,⟨v,τ,rfl,q,r⟩,h=>by
  refine hd λG y=>?_;obtain⟨u,B,h1⟩:=RepG.at (i:=i) r (by simpa using h);refine y ?_
  exact⟨u,by simpa using B,h1⟩
theorem RepG.capt {M:Am} {H:Hp} {g:Gm} {σ:St} (h:RepG K M H g σ):∀ is:List (Option Nat),RepG K M H (fQo is g) (capt is σ)
 | []=>rfl
 | o::is=>by
  have y:=RepG.capt h is;cases o with
  | none=>exact⟨_,_,rfl,y⟩
  | some i =>
   show RepG K M H ((g[i]?).join::fQo is g) ((σ[i]?).join::L2.capt is σ);cases e:g[i]? with
   | none=>exact⟨_,_,rfl,y⟩
   | some z =>
    cases z with
    | none=>exact⟨_,_,rfl,y⟩
    | some d =>
     refine hd λL B=>?_;obtain⟨v,G,r⟩:=h.at e;refine B ?_;rw[G];exact⟨v,_,rfl,r,y⟩
def dZw (b:Bool) (is:List (Option Nat)) (wi:ID) (g:GD) (tt:TD) (tb:BD):ED:=fun Γ S Q=>wi Γ S λxs G S1=>aXx g tt tb G (fQo is Γ) xs [] S1 λacc S2=>newL b acc S2 Q
theorem dZx {b:Bool} {L L':List Nat} {is:List (Option Nat)} {wi:ID} {g:TG} {gd:GD} {tt:TD} {tv:Addr->TB} {tb:BD} (hL:∀ σ,Free L (capt is σ)) (hg:CG K L L' g gd) (hb:bZc K L' tv tb):∀ σ H Q,upE K (dZw b is wi gd tt tb) σ H Q->cZl is (upI K wi) g (upT K tt) tv σ H Q:=fun σ H Q z0=>z0.el λF S Γ QD r gm q c =>
 ⟨F,S,Γ,_,r,gm,q,λJ xs G H1 O x1 r1 it q1 D' B=>by
  have Z:O D'=none:=r1.sn B;have fe:FE F H1 (λa=>F a\/a=D'):=λa h=>h.elim .inl λe=>.inr (by rw[e];exact B)
  have nF:¬ F D':=λh=>by
   refine hd λGq kq=>?_;obtain⟨⟨ys,e,_⟩,_⟩:=r1.frm D' h;refine kq ?_;rw[B] at e;cases e
  have xe:Ext O H1 O (upd H1 D' (.lst [])):=Ext.same (aQm B);have kp:Keep (mt O F) H1 (mt O λa=>F a\/a=D') (upd H1 D' (.lst [])):=xe.w.kpF fe;have r2:Rp K (λa=>F a\/a=D') O (upd H1 D' (.lst [])):=⟨λa o e=>(r1.obj a o e).keep kp (upd_ne (by rintro rfl;rw[Z] at e;cases e)),λa h=>by
   rcases h with h | h
   ·refine hd λGq kq=>?_;obtain⟨⟨ys,e,ct⟩,h2⟩:=r1.frm a h;refine kq ?_;exact⟨⟨ys,by rw[upd_ne (by rintro rfl;rw[B] at e;cases e)];exact e,ct⟩,h2⟩
   ·subst h;exact⟨⟨_,aQc,trivial⟩,Z⟩⟩
  have old:∀ {U H2},ExtX D' O (upd H1 D' (.lst [])) U H2->Ext O H1 U H2:=λ{U H2} y=>⟨λa o h e=>y.keep a o (by rintro rfl;rw[B] at e;cases e) h (by rw[upd_ne (by rintro rfl;rw[B] at e;cases e)];exact e),λa h=>y.live a (xe.live a h),λa h=>by
   rcases y.new a h with z | z
   ·exact .inl z
   ·by_cases e:a=D'
    ·subst e;exact .inr B
    ·rw[upd_ne e] at z;exact .inr z⟩
  refine dZv hg hb (hL σ) (F:=λa=>F a\/a=D') (.inr rfl) r2 ((gm.ext x1).keep kp |>.capt is) aQc RepL.nil (λU H2 y r2 hG=>⟨it.go _ fe U H2 (old y).w r2 hG,it.stop _ fe U H2 (old y).w r2 hG⟩) q1 λi S' H' Y y r3 h3 l3 q3=>?_
  have less:Keep (mt S' λa=>F a\/a=D') H' (mt S' F) H':=⟨λ_ _ _ e=>e,λa h _=>λz=>h (z.elim .inl λw=>.inr (.inl w))⟩;have x3:=old y;have hS':S' D'=none:=(r3.frm D' (.inr rfl)).2;have r4:Rp K F S' H':=⟨λa o e=>(r3.obj a o e).keep less rfl,λa h=>r3.frm a (.inl h)⟩;have nm:¬ mt S' F D':=λz=>z.elim (λw=>w hS') nF;cases b with
  | false =>
   refine c (.ref D') (.lst i) H' S' (x1.trans x3) r4 ?_ q3;unfold RepV;exact⟨D',Y,rfl,.inl ⟨nm,.inl h3⟩,l3.keep less⟩
  | true =>
   have x5:Ext O H1 (supd S' D' (.lst i)) H':=⟨x3.keep,x3.live,λa h=>by
    by_cases e:a=D'
    ·subst e;exact .inr B
    ·rw[supd_ne e] at h;exact x3.new a h⟩
   have k6:Keep (mt S' λa=>F a\/a=D') H' (mt (supd S' D' (.lst i)) F) H':=⟨λ_ _ _ e=>e,λa h _=>λz=>by
    rcases z with z | z
    ·by_cases e:a=D'
     ·exact h (.inr (.inr e))
     ·rw[supd_ne e] at z;exact h (.inl z)
    ·exact h (.inr (.inl z))⟩
   refine c (.ref D') (.ref D') H' (supd S' D' (.lst i)) (x1.trans x5) ⟨λa o e=>?_,λa h=>⟨(r4.frm a h).1,?_⟩⟩ (by unfold RepV;rfl) (q3 D' hS')
   ·by_cases e1:a=D'
    ·subst e1;rw[supd_same] at e;cases e;exact⟨Y,h3,l3.keep k6⟩
    ·rw[supd_ne e1] at e;exact(r3.obj a o e).keep k6 rfl
   ·rw[supd_ne (by rintro rfl;exact nF h)];exact(r4.frm a h).2⟩
def dYes:TD:=λ_ S Q=>Q true S
theorem aZ7:PTs X [] (upT K dYes):=λpins s σ H Q I i=>i.el λF S Γ QD r g q c=>eJ9 pins s σ H Q I (c true H S (Ext.refl _ _) r q)
theorem aQi {L:List Nat} {is:List (Option Nat)} (h:(L.all λi=>decide (is[i]?=some none))=true):∀ σ,Free L (capt is σ):=fun σ i hi=>by
 have:=of_decide_eq_true (bK.mp h i hi)
 unfold capt;rw[br,this]
 rfl
theorem aZ2 {c:Expr} {t:TD} (h:PTD K X c t):PTs X [c] (upT K t):=eJa h.o
end
end L2
set_option maxHeartbeats 4000000
namespace L2
open PySem PySem.Spec PyProof.Rows
section
variable {prog:aC} {w:aH} {s:ai}
def Col (prog:aC) (w:aH) (s:ai) (v:ae) (Pv:List ae->Prop):Prop:=∀ (A:aQ) (E:ae->ai->Prop) (R:List ae->ai->Prop),A.handled=none ->
 (∀ vals h' d tk,Pv vals->(∀ b o,s.heap.get? b=some o->h'.get? b=some o)->R vals { s with heap:=h',drawn:=d,toks:=tk })->ay (az prog w) A (collect v) R E s
theorem dZy {a:Addr} {T:String} {o:Obj} {its:List ae} {n:Nat} (hT:T="list"\/T="tuple") (ho:s.heap.get? a=some o) (hc:o.cls=.type T) (hd:o.data=.seq its.toArray n) (hz:its.length<=sizeLine):Col prog w s (.ref a) (·=its):=λA E R _ h =>
 wpAny_collect_seq a hT ho hc hd (λh' k=>by
  have:=h its h' s.drawn s.toks rfl k
  simpa using this) (by simpa using hz)
theorem eQm {a:Addr} {vs:List (Key × ae)} (lo:(a == sysModules)=false) (hd:s.heap.DictOf (bQq prog w) a vs) (hz:vs.length<=sizeLine):Col prog w s (.ref a) (λvals=>vals.length=vs.length/\∀ (j:Nat) (v:ae),vals[j]?=some v->∃ (k:Key) (x:ae),vs[j]?=some (k,x)/\dJg k v=true):=λA E R G h=>by
 obtain⟨ep,y⟩:=hd.dictAt;refine PySem.W.kdu_collect (PySem.W.kdl_dict (knd:=bQq prog w) (kvs:=vs) (ep:=ep) lo) G y hz λh' B acc hk i=>?_;exact h acc.toList h' s.drawn B ⟨by rw[cy];exact i.1,λj v e=>i.2 j v (by rw[<- b4];exact e)⟩ hk
theorem aJx {A:aQ} {E:ae->ai->Prop} {v:ae} {Pv:List ae->Prop} {Q:ae->ai->Prop} (hh:A.handled=none) (col:Col prog w s v Pv) (hz:∀ vals,Pv vals->vals.length<=sizeLine)
  (srt:∀ (vals:List ae) (h1:aO) (d:Drawn) (tk:Nat),Pv vals->(∀ b o,s.heap.get? b=some o->h1.get? b=some o)->ay (az prog w) A.in1.in1 (cu.«list.sort» ⟨[.ref h1.objs.size],[]⟩) (λfin s'=>fin=.done (.ret .none)/\Q (.ref h1.objs.size) s') E { s with heap:=h1.push (b3 "list" vals.toArray 0),drawn:=d,toks:=tk }) :
  ay (az prog w) A (call (.builtin "sorted") [v]) Q E s:=by
 refine gu kind_sorted plain_sorted entry_sorted (args_sorted1 _) ?_;unfold cu.«sorted»;refine ad (m:=checkCount "sorted" 1 1 _) (af ?_);refine ad (col A.in1 _ _ (by simp[hh]) λvals h1 d tk pv kp=>?_)
 refine ad (jP ?_ (hz vals pv));have i:(h1.push (b3 "list" vals.toArray 0)).get? h1.objs.size=some (b3 "list" vals.toArray 0):=av _ rfl;refine ad (bF (cD slot_list_sort ⟨_,i,rfl⟩ entry_list_sort ?body (args_list_sort _)))
 case body =>
  refine c6 (srt vals h1 d tk pv kp) (λfin s' ⟨e,q⟩=>?_) λ_ _ e=>e;subst e;exact⟨_,rfl,af ⟨_,rfl,q⟩⟩
theorem bZd {h:aO} {a:Addr} {vs:List ae} {n:Nat} {out:Array ae} (ho:h.get? a=some (b3 "list" vs.toArray n)):(∃ c,(sortedHeap h a vs out).get? a=some (b3 "list" out c))/\∀ b o,b≠a->h.get? b=some o->(sortedHeap h a vs out).get? b=some o:=by
 unfold sortedHeap;obtain⟨G,i⟩:∃ G,(h.update a (bQ λ_=>(#[]:Array ae))).get? a=some (b3 "list" #[] G):=⟨_,fK ho λ_=>#[]⟩;have L:=cz h a (bQ λ_=>(#[]:Array ae));have y:∀ b o,(h.update a (bQ λ_=>(#[]:Array ae))).get? b=some o->(((h.update a (bQ λ_=>(#[]:Array ae))).push (b3 "tuple" vs.toArray 0)).push (b3 "list" #[] 0)).get? b=some o:=λb o e=>ag _ (ag _ e);refine⟨⟨_,fK (y _ _ i) λ_=>out⟩,λb o B e=>?_⟩;have s2:=cz (((h.update a (bQ λ_=>(#[]:Array ae))).push (b3 "tuple" vs.toArray 0)).push (b3 "list" #[] 0)) a (bQ λ_=>out);exact(s2.2 b B).trans (y b o ((L.2 b B).trans e))
theorem dZz {A:aQ} {E:ae->ai->Prop} {a:Addr} {vs:List ae} {ss:List Str} {n:Nat} {P:PySem.Fin->ai->Prop} (ho:s.heap.get? a=some (b3 "list" vs.toArray n)) (hS:ky vs ss) (h64:vs.length < 64)
  (h:∀ (out:List ae) (ss':List Str) (h':aO) (c:Nat),ky out ss'->ss'.Perm ss->sortedS ss'=true->h'.get? a=some (b3 "list" out.toArray c)->(∀ b o,b≠a->s.heap.get? b=some o->h'.get? b=some o)->P (.done (.ret .none)) { s with heap:=h' }) :
  ay (az prog w) A (cu.«list.sort» ⟨[.ref a],[]⟩) P E s:=by
 refine list_sort_treeK strKind_oneLt ho hS.keysOf (λB y rest e=>keyKind_strs (by rw[<- e];exact hS)) h64 λi hp G=>?_
 obtain⟨ss',h1,h2,O⟩:=sorted_out_str hS hp G;obtain⟨⟨c,L⟩,hk⟩:=bZd (out:=(arrOf i).map (·.2)) ho;exact h _ ss' _ c h1 h2 O (by rw[L]) hk
theorem dX0 {A:aQ} {E:ae->ai->Prop} {a:Addr} {vs:List ae} {ns:List Int} {n:Nat} {P:PySem.Fin->ai->Prop} (ho:s.heap.get? a=some (b3 "list" vs.toArray n)) (hI:ki vs ns) (h64:vs.length < 64)
  (h:∀ (out:List ae) (ns':List Int) (h':aO) (c:Nat),ki out ns'->ns'.Perm ns->ns'.Pairwise (·<=·)->h'.get? a=some (b3 "list" out.toArray c)->(∀ b o,b≠a->s.heap.get? b=some o->h'.get? b=some o)->P (.done (.ret .none)) { s with heap:=h' }) :
  ay (az prog w) A (cu.«list.sort» ⟨[.ref a],[]⟩) P E s:=by
 refine list_sort_tree ho hI h64 λout ns' h1 h2 y=>?_;obtain⟨⟨c,i⟩,hk⟩:=bZd (out:=out) ho;exact h _ ns' _ c h1 h2 y (by rw[i]) hk
end
section
variable {X:Cx} {K:Fg}
def Src (K:Fg) (H:Hp) (x:V) (us:List V):Prop:=∃ a,x=.ref a/\(SqL K H a us\/SqT K H a us\/∃ kvs:List (Key × V),H a=some (.dK kvs)/\us=kvs.map λp=>kV p.1)
theorem cQ4:∀ {kvs:List (Key × V)} {vs:List (Key × ae)} {vals:List ae},KV kvs vs->vals.length=vs.length->(∀ (j:Nat) (v:ae),vals[j]?=some v->∃ (k:Key) (x:ae),vs[j]?=some (k,x)/\dJg k v=true)->Vals (kvs.map λp=>kV p.1) vals
 | [],_,vals,.nil,hl,_=>by cases vals with
  | nil=>exact .nil
  | cons _ _=>simp at hl
 | p::kvs,_,vals,.cons (b:=q) hp G,hl,h=>by
  cases vals with
  | nil=>simp at hl
  | cons v vals =>
   refine .cons ?_ (cQ4 G (by simpa using hl) λj v e=>by simpa using h (j + 1) v (by simpa using e))
   obtain⟨k,x,e,hk⟩:=h 0 v rfl;have L:q=(k,x):=by simpa using e
   have B:p.1=k:=by rw[hp.1,L]
   show RelV (kV p.1) v;rw[B];rcases aQj hk with⟨i,t,rfl,rfl⟩ | ⟨y,t,rfl,rfl⟩
   ·exact⟨t,rfl⟩
   ·exact⟨t,rfl⟩
theorem Inv.toks {pins:List (Addr × Obj)} {σ:St} {H:Hp} {s:ai} (I:Inv X pins σ H s) {h':aO} (k:∀ b o,s.heap.get? b=some o->h'.get? b=some o) (d:Drawn) (tk:Nat):Inv X pins σ H { s with heap:=h',drawn:=d,toks:=tk }:=(I.kept (t':=tk) k).drawn d
theorem Inv.src {pins:List (Addr × Obj)} {σ:St} {H:Hp} {s:ai} (I:Inv X pins σ H s) (hK:X.K=K) {x:V} {u:ae} {us:List V} (h:Src K H x us) (r:RelV x u):Col X.prog X.w s u (λvals=>Vals us vals)/\us.length<=sizeLine:=by
 subst hK;obtain⟨a,rfl,h⟩:=h;cases r;rcases h with h | h | ⟨L,h,rfl⟩
 ·obtain⟨O,y,⟨o,n,U,Y,_,hd⟩,B⟩:=I.list h;have hl:=y.length;exact⟨λA E R G q=>dZy (.inl rfl) U Y hd (by lia) A E R G λvals h' d i e k=>q vals h' d i (by rw[e];exact y) k,B⟩
 ·obtain⟨O,y,⟨o,U,Y,n,hd⟩,B⟩:=I.tuple h;have hl:=y.length;exact⟨λA E R G q=>dZy (.inr rfl) U Y hd (by lia) A E R G λvals h' d i e k=>q vals h' d i (by rw[e];exact y) k,B⟩
 ·obtain⟨B,lo,vs,Z,hd⟩:=I.hok a _ h;have hl:L.length=vs.length:=b7 Z;exact⟨λA E R G q=>eQm lo hd (by lia) A E R G λvals h' d i e k=>q vals h' d i (cQ4 Z e.1 e.2) k,by rw[aj];exact B⟩
def gQ6 (K:Fg):List V->Hp->VK->Prop:=λxs H Q=>∃ (x:V) (ss:List Str),xs=[x]/\Src K H x (ss.map V.str)/\ss.length < 64/\∀ (p:Addr) (out:List Str),H p=none->out.Perm ss->out.Pairwise (λa b=>HT.ltS b a=false)->Q (.ref p) (upd H p (.lst (out.map V.str)))
theorem bXd:∀ {l:List Str},sortedS l=true->l.Pairwise λa b=>HT.ltS b a=false
 | [],_=>.nil
 | [x],_=>b5 _ _
 | x::y::l,h=>by
  have h':(!ltCps y.cps.toList x.cps.toList && risingS y l)=true:=h;rw[aI] at h';have O:=bXd (l:=y::l) h'.2;have G:HT.ltS y x=false:=by
   have:=h'.1
   rw[dI,ltCps_eq] at this;exact this
  refine aU.mpr ⟨λz L=>?_,O⟩;rcases aA.mp L with rfl | L
  ·exact G
  ·have i:=(aU.mp O).1 z L;cases e:HT.ltS z x with
   | false=>rfl
   | true =>
    by_cases B:y=x
    ·subst B;rw[i] at e;cases e
    ·have:=HT.ltS_tot G B
     have:=HT.ltS_tr e this
     rw[i] at this;cases this
theorem dX1 (hK:X.K=K:=by rfl) (hc:X.calm=true:=by rfl):CallR X (.builtin "sorted") (gQ6 K):=by
 intro pins s σ H xs us Q I r h;obtain⟨x,ss,rfl,U,i,q⟩:=h;obtain⟨u,rfl,O⟩:=aXd r;obtain⟨col,G⟩:=I.src hK U O;have len:∀ {vals:List ae},Vals (ss.map V.str) vals->vals.length=ss.length:=λv=>by have:=v.length;simpa using this.symm
 refine aJx (I.ok.hd hc) col (λvals v=>by rw[len v];simpa using G) λvals h1 d y pv kp=>?_
 have L:H h1.objs.size=none:=(I.toks kp d y).hok.fresh (au _);refine dZz (s:={ s with heap:=h1.push (b3 "list" vals.toArray 0),drawn:=d,toks:=y }) (av _ rfl) (cZ1 (H:=H) (ds:=ss) (xs:=ss.map V.str) (by
  clear G i q U col O pv len
  induction ss with
  | nil=>exact .nil
  | cons a ss Y=>exact .cons rfl Y) pv) (by rw[len pv];exact i) λout B h' c a1 a2 a3 a4 Z=>⟨rfl,?_⟩
 have I1:=I.toks kp d y;obtain⟨v1,v2⟩:=bJ0 (H:=H) a1;refine⟨.ref h1.objs.size,_,I1.laid (a:=h1.objs.size) (o:=.lst (B.map V.str)) (t':=y) (λb o e=>Z b o (aG (aw e)) (ag _ e)) (au _) ⟨?_,out,c,v1,a4⟩,rfl,q _ _ L a2 (bXd a3)⟩
 have:=a2.length_eq
 rw[aj,this];simpa using G
def gQ7 (K:Fg):List V->Hp->VK->Prop:=λxs H Q=>∃ (x:V) (ns:List Int),xs=[x]/\Src K H x (ns.map V.int)/\ns.length < 64/\∀ (p:Addr) (out:List Int),H p=none->out.Perm ns->out.Pairwise (·<=·)->Q (.ref p) (upd H p (.lst (out.map V.int)))
theorem dX2 (hK:X.K=K:=by rfl) (hc:X.calm=true:=by rfl):CallR X (.builtin "sorted") (gQ7 K):=by
 intro pins s σ H xs us Q I r h;obtain⟨x,ss,rfl,U,G,q⟩:=h;obtain⟨u,rfl,O⟩:=aXd r;obtain⟨col,L⟩:=I.src hK U O;have len:∀ {vals:List ae},Vals (ss.map V.int) vals->vals.length=ss.length:=λv=>by have:=v.length;simpa using this.symm
 refine aJx (I.ok.hd hc) col (λvals v=>by rw[len v];simpa using L) λvals h1 d i pv kp=>?_
 have B:H h1.objs.size=none:=(I.toks kp d i).hok.fresh (au _);refine dX0 (s:={ s with heap:=h1.push (b3 "list" vals.toArray 0),drawn:=d,toks:=i }) (av _ rfl) (bX7 pv) (by rw[len pv];exact G) λout y h' c a1 a2 a3 Z Y=>⟨rfl,?_⟩
 have I1:=I.toks kp d i;refine⟨.ref h1.objs.size,_,I1.laid (a:=h1.objs.size) (o:=.lst (y.map V.int)) (t':=i) (λb o e=>Y b o (aG (aw e)) (ag _ e)) (au _) ⟨?_,out,c,bQw a1,Z⟩,rfl,q _ _ B a2 a3⟩
 have:=a2.length_eq
 rw[aj,this];simpa using L
def gQ8 (K:Fg):List V->Hp->VK->Prop:=λxs H Q=>∃ (x:V) (us:List V) (ds:List (List Str)),xs=[x]/\Src K H x us/\aZ (dT K dS H) us ds/\ds.Nodup/\ds.length < 64/\∀ (p:Addr) (idx:List Nat),H p=none->idx.Perm (aP us.length)->(idx.map λi=>ds.getD i []).Pairwise (λa b=>HT.lexS a b=true)->(idx.map λi=>ds.getD i []).Perm ds->Q (.ref p) (upd H p (.lst (idx.map λi=>us.getD i V.non)))
theorem tsOf {pins:List (Addr × Obj)} {σ:St} {H:Hp} {s:ai} (I:Inv X pins σ H s) (hK:X.K=K) {h':aO} (k:∀ b o,s.heap.get? b=some o->h'.get? b=some o):∀ {us:List V} {vs:List ae} {ds:List (List Str)},Vals us vs->aZ (dT K dS H) us ds->aZ (KS.TS h') vs ds
 | _,_,_,.nil,.nil=>.nil
 | _,_,_,.cons r q,.cons d p=>by
  refine .cons ?_ (tsOf I hK k q p);obtain⟨b,xs,e,y,pp⟩:=d;rw[e] at r;cases r;rw[<- hK] at y;obtain⟨i,B,⟨o,G,z⟩,_⟩:=I.tuple y;exact⟨b,i.toArray,rfl,⟨o,k b o G,z⟩,aJ4 pp B⟩
theorem cXb {us:List V} {vs:List ae} (p:Vals us vs):∀ (idx:List Nat),(∀ i∈idx,i < us.length)->Vals (idx.map λi=>us.getD i V.non) (idx.map λi=>vs.getD i ci)
 | [],_=>.nil
 | i::idx,h=>by
  refine .cons ?_ (cXb p idx λj y=>h j (ao _ y));have hi:=h i ak;obtain⟨u,e,r⟩:=p.get (ah hi);show RelV (us.getD i V.non) (vs.getD i ci);rw[aD,aD,e,ah hi];exact r
theorem dX3 (hu:X.A.units + 8 < bU) (hK:X.K=K:=by rfl) (hc:X.calm=true:=by rfl):CallR X (.builtin "sorted") (gQ8 K):=by
 intro pins s σ H xs us Q I r h;obtain⟨x,ys,ds,rfl,hs,hp,nd,h64,q⟩:=h;obtain⟨u,rfl,Y⟩:=aXd r;obtain⟨col,hz⟩:=I.src hK hs Y;have hl:ys.length=ds.length:=b7 hp;refine aJx (I.ok.hd hc) col (λvals v=>by rw[<- v.length];exact hz) λvals h1 d y pv kp=>?_
 have G:=pv.length;have U:=I.toks kp d y;have O:H h1.objs.size=none:=U.hok.fresh (au _);refine KS.sort_tups (s:={ s with heap:=h1.push (b3 "list" vals.toArray 0),drawn:=d,toks:=y }) (ds:=ds) (by show X.A.units + 1 + 1 < _;lia) (av _ rfl) (tsOf U hK (λb o e=>ag _ e) pv hp) nd (by lia) λidx h' c B i2 i3 g Z=>⟨rfl,?_⟩
 have L:∀ i∈idx,i < ys.length:=λi hi=>by have:=bu.mp (B.mem_iff.mp hi);lia
 have il:idx.length=vals.length:=by have:=B.length_eq;simpa using this
 refine⟨.ref h1.objs.size,_,U.laid (a:=h1.objs.size) (o:=.lst (idx.map λi=>ys.getD i V.non)) (t':=y) (λb o e=>Z b o (aG (aw e)) (ag _ e)) (au _) ⟨?_,_,c,cXb pv idx L,g⟩,rfl,q _ idx O (by rw[G];exact B) i2 i3⟩
 rw[aj];lia
end
section
variable {X:Cx} {K:Fg} {pos:Pos} {k:Nat}
section
variable {elt target iter:Expr} {ifs:List Expr} {gs:List jM} {scope:Scope} {N':List Str} {is:List (Option Nat)} {wi:ID} {g:TG} {gd:GD} {tt:TD} {tv:Addr->TB} {tb:BD} {oc:Option Str} {m:ae->Env->Sem Unit} {b:Bool}
theorem aZa (L L':List Nat) (hcalm:X.calm=true) (hN:X.N.Nodup)
  (hturn:∀ it acc env,gz (.ListComp elt (⟨target,iter,ifs,0⟩::gs) scope pos) 0 it acc env=aZm target ifs iter.pos (m acc env) (.compLoop (.ListComp elt (⟨target,iter,ifs,0⟩::gs) scope pos) 0 it acc env) it env)
  (cp:Cap X.N scope N' is) (hL:∀ σ,Free L (capt is σ)) (hi:PID K X target iter wi) (hgd:CG K L L' g gd)
  (hg:∀ cl C fp s H,PG (aQk X N' scope cl C fp s H oc) target g) (ht:∀ cl C fp s H,PTs (aQk X N' scope cl C fp s H oc) ifs (upT K tt)) (hbd:bZc K L' tv tb) (hb:∀ cl C fp s H D,PB (aQk X N' scope cl C fp s H oc) (m (.ref D) (kP scope cl C X.env)) (tv D))
  (hcf:∀ n acc,gJ n scope.names acc=ocl oc n acc:=by intro _ _;rfl) (hpc:∀ h,jX h scope.names=ohp oc h:=by intro _;rfl)
  (hkind:scope.kind=.function:=by rfl) (hcell:∀ y∈scope.names,y.2=.cell->oc=some y.1:=by decide +kernel)
  (hu:∀ y∈scope.names,scope.names.lookup y.1=some y.2:=by decide +kernel) (hoc:∀ x,oc=some x->scope.names.lookup x=some .cell:=by intro x h;cases h <;> rfl)
  (hVb:okV scope.names X.env.scope.names=true:=by first | rfl | kernel_rfl)
  (hs:∀ x,db iter X.env x=pure x:=by intro _;rfl) :
  PD K X (.ListComp elt (⟨target,iter,ifs,0⟩::gs) scope pos) (dZw b is wi gd tt tb):=.of (eQ1 hcalm hN hturn cp hi.o hg ht hb hcf hpc hkind hcell hu hoc hVb hs) (dZx hL hgd hbd)
theorem aXj {x:Str} {i:Nat} {pos' spos:Pos} (hix:X.N[i]?=some x) (hx:Loc X.env.scope x) (L L':List Nat) (hcalm:X.calm=true) (hN:X.N.Nodup)
  (hturn:∀ it acc env,gz (.ListComp elt (⟨target,iter,ifs,0⟩::gs) scope pos) 0 it acc env=aZm target ifs iter.pos (m acc env) (.compLoop (.ListComp elt (⟨target,iter,ifs,0⟩::gs) scope pos) 0 it acc env) it env)
  (cp:Cap X.N scope N' is) (hL:∀ σ,Free L (capt is σ)) (hi:PID K X target iter wi) (hgd:CG K L L' g gd)
  (hg:∀ cl C fp s H,PG (aQk X N' scope cl C fp s H oc) target g) (ht:∀ cl C fp s H,PTs (aQk X N' scope cl C fp s H oc) ifs (upT K tt)) (hbd:bZc K L' tv tb) (hb:∀ cl C fp s H D,PB (aQk X N' scope cl C fp s H oc) (m (.ref D) (kP scope cl C X.env)) (tv D))
  (hcf:∀ n acc,gJ n scope.names acc=ocl oc n acc:=by intro _ _;rfl) (hpc:∀ h,jX h scope.names=ohp oc h:=by intro _;rfl)
  (hkind:scope.kind=.function:=by rfl) (hcell:∀ y∈scope.names,y.2=.cell->oc=some y.1:=by decide +kernel)
  (hu:∀ y∈scope.names,scope.names.lookup y.1=some y.2:=by decide +kernel) (hoc:∀ x,oc=some x->scope.names.lookup x=some .cell:=by intro x h;cases h <;> rfl)
  (hVb:okV scope.names X.env.scope.names=true:=by first | rfl | kernel_rfl)
  (hs:∀ x,db iter X.env x=pure x:=by intro _;rfl)
  (hsw:gc (.ListComp elt (⟨target,iter,ifs,0⟩::gs) scope pos) (some (.Name x pos')) spos.line X.env=pure true:=by first | rfl | kernel_rfl) (hf:X.fn x=true\/X.env.scope.names.lookup x=some .local:=by first | exact .inl rfl | exact .inr rfl | assumption) :
  PSD K X (.Assign [.Name x pos'] (.ListComp elt (⟨target,iter,ifs,0⟩::gs) scope pos) spos) (dAsg (dZw b is wi gd tt tb) (aQu i)):=.of (eJf hix hx hcalm hN hturn cp hi.o hg ht hb hcf hpc hkind hcell hu hoc hVb hs hsw hf) λD' σ H O=>O.el λF S Γ E r G q c=>by
 refine dZx (tt:=tt) (b:=b) hL hgd hbd σ H _ ⟨F,S,Γ,_,r,G,q,λv d H1 Z B U v1 Y=>?_⟩;exact c.nx _ Z _ H1 B U ((G.ext B).set v1 i) Y
end
def dCut (t u:SD):SD:=λE Γ S=>∃ M:Gm->Sto->Prop,t { E with nx:=M } Γ S/\∀ Γ' S',M Γ' S'->u E Γ' S'
theorem bZe {st:Stmt} {rest:List Stmt} {t u:SD} (h1:PSD K X st t) (h2:PSsD K X rest u):PSsD K X (st::rest) (dCut t u):=.of (bXi h1.o h2.o) λO σ H ⟨F,S,Γ,E,r,g,⟨M,q,L⟩,c⟩ =>
 ⟨F,S,Γ,{ E with nx:=M },r,g,q,fun Γ1 i σ1 H1 y B g1 G=>⟨F,i,Γ1,E,B,g1,L Γ1 i G,c.ext y⟩,c.rt,c.bk,c.ct⟩
abbrev SpD:=List D->Sto->DK->Prop
def spU (K:Fg) (sp:SpD):Sp:=λvs H Q _=>∃ F S ds QD,Rp K F S H/\RepL K (mt S F) H ds vs/\sp ds S QD/\Cn K F S H QD Q
theorem aQ6 {x:Str} {ps:List Str} {sp:SpD} {p:Pos} {e:Expr} {es:List Expr} {t:AD} (Df':Df X.prog X.w X.K X.mg X.base k x ps (spU K sp)) (hr:Room k X.A) (hg:Gl X x) (ha:PAD K X (e::es) t)
  (hdb:dbg x=false:=by decide) (he:am (e::es) X.env=(false,eval e X.env)::am es X.env:=by rfl) (hpl:(bn pos (am es X.env)).any (·.1)=false:=by rfl) :
  PD K X (.Call (.Name x p) (e::es) [] pos) (dCB sp t):=.of (dJz Df' hr hg ha.o hdb he hpl) fun σ H Q i=>i.el λF S Γ QD r g q c =>
 ⟨F,S,Γ,_,r,g,q,λvs ds H1 L y B v1 G=>by
  show spU K sp (vs++[]) H1 Q E0;rw[bA];exact⟨F,L,ds,QD,B,v1,G,Cn.shift c y⟩⟩
inductive Frz (S S':Sto):D->D->Prop where
 | same (d:D):Frz S S' d d
 | ref {a:Addr} {xs ys:List D} (h:S a=some (.lst xs)) (h':S' a=none) (l:Frz S S' (.tup xs) (.tup ys)):Frz S S' (.ref a) (.lst ys)
 | nil:Frz S S' (.tup []) (.tup [])
 | cons {d e:D} {ds es:List D} (h:Frz S S' d e) (l:Frz S S' (.tup ds) (.tup es)):Frz S S' (.tup (d::ds)) (.tup (e::es))
theorem cXc {F:Am} {S S':Sto} {H:Hp} (r:Rp K F S H) (hs:∀ a o,S' a=some o->S a=some o):∀ {d e:D},Frz S S' d e->(∀ v,RepV K (mt S F) H d v->RepV K (mt S' F) H e v)/\(∀ ds es,d=.tup ds->e=.tup es->∀ vs,RepL K (mt S F) H ds vs->RepL K (mt S' F) H es vs):=by
 intro d e h;have kp:Keep (mt S F) H (mt S' F) H:=(Ext.less (H:=H) hs).kp
 induction h with
 | same d=>exact⟨λv h=>h.keep kp,λds es e1 e2 vs l=>by cases e1;cases e2;exact l.keep kp⟩
 | @ref a xs ys h h' l Y =>
  refine⟨λv i=>?_,λds es e1=>by cases e1⟩
  rw[rref i];refine hd λGq U=>?_;obtain⟨us,Z,L⟩:=r.obj a _ h;refine U ?_;unfold RepV;refine⟨a,us,rfl,.inl ⟨λz=>?_,.inl Z⟩,Y.2 xs ys rfl rfl us L⟩;rcases z with z | z
  ·exact z h'
  ·rw[(r.frm a z).2] at h;cases h
 | nil=>exact⟨λv h=>h.keep kp,λds es e1 e2 vs l=>by cases e1;cases e2;exact l.keep kp⟩
 | @cons d e ds es h l B y =>
  have ls:∀ vs,RepL K (mt S F) H (d::ds) vs->RepL K (mt S' F) H (e::es) vs:=λvs l=>by
   unfold RepL at l ⊢;obtain⟨v,vs,rfl,G,O⟩:=l;exact⟨v,vs,rfl,B.1 v G,y.2 ds es rfl rfl vs O⟩
  refine⟨λv i=>?_,λds' es' e1 e2 vs l=>by cases e1;cases e2;exact ls vs l⟩
  unfold RepV at i ⊢;obtain⟨a,us,rfl,t,l⟩:=i;exact⟨a,us,rfl,t.keep kp,ls us l⟩
def rtD (Q:DK):DK:=λd S=>∃ d' S',(∀ a o,S' a=some o->S a=some o)/\Frz S S' d d'/\Q d' S'
theorem aQb {Q:DK} {d:D} {S:Sto} (h:Q d S):rtD Q d S:=⟨d,S,λ_ _ e=>e,.same d,h⟩
theorem aX6 {Q:DK} {d:D} {S S':Sto} (hs:∀ a o,S' a=some o->S a=some o) (h:Q d S'):rtD Q d S:=⟨d,S',hs,.same d,h⟩
theorem eX4 {Q:DK} {a:Addr} {xs:List D} {S S':Sto} (h:S a=some (.lst xs)) (hs:∀ a o,S' a=some o->S a=some o) (h':S' a=none) (q:Q (.lst xs) S'):rtD Q (.ref a) S:=⟨.lst xs,S',hs,.ref h h' (.same _),q⟩
def aJy (Q:DK):EndsD:={ nx:=λ_ S=>rtD Q .non S,rt:=rtD Q }
def aXb (N:List Str) (ds:List D):Gm:=ds.map some++jd (N.length - ds.length) none
theorem bQn {M:Am} {H:Hp} {N:List Str} {ds:List D} {vs:List V} (l:RepL K M H ds vs):RepG K M H (aXb N ds) (start N vs):=by
 have i:∀ n,RepG K M H (jd n none) (jd n none):=λn=>by
  induction n with
  | zero=>exact rfl
  | succ n y=>exact⟨none,_,rfl,y⟩
 have gen:∀ {ds:List D} {vs:List V} {g:Gm} {σ:St},RepL K M H ds vs->RepG K M H g σ->RepG K M H (ds.map some++g) (vs.map some++σ):=by
  intro ds
  induction ds with
  | nil=>intro vs g σ l h;unfold RepL at l;subst l;exact h
  | cons d ds y =>
   intro vs g σ l h;unfold RepL at l;obtain⟨v,vs,rfl,r,l⟩:=l;exact⟨v,_,rfl,r,y l h⟩
 unfold aXb start;rw[l.length];exact gen l (i _)
theorem aZl {P:aC} {w:aH} {mg:Str->Option ae} {base:aO} {x:Str} {st:Stmt} {N ps:List Str} {sp:SpD} (T:Tx K mg x st) (S:FnScope N ps (aQ4 st))
  (b:∀ {f:Addr} {fd:cT},Fun K x x st f fd->Binds K fd ps []) (len:∀ ds S Q,sp ds S Q->ds.length=ps.length)
  (h:∀ (f:Addr) (cdv:ae) (A:aQ) (outer:List Env) (s:ai) (H:Hp) (E:XK),Room k (A.deeper (envOfC x (aQ4 st) s.heap.objs.size f cdv)) ->
   ∃ t,PSsD K (cxOf CX0 P w K mg base N x (aQ4 st) f cdv A outer s H E).nox (aZ6 st) t/\∀ ds S Q,sp ds S Q->t (aJy Q) (aXb N ds) S):Df P w K mg base (k + 1) x ps (spU K sp):=by
 refine T.df b λ{f fd} Fn=>Fn.ok S (λvs H Q E G=>by obtain⟨F,S,ds,QD,r,l,i,c⟩:=G;rw[l.length];exact len ds S QD i) (λcdv A outer s H vs Q E' Z G=>?_)
 refine hd λU y=>?_;obtain⟨F,S,ds,QD,r,l,i,c⟩:=G;refine y ?_;refine hd λU y=>?_;obtain⟨t,h1,h2⟩:=h f cdv A outer s H E' Z;refine y ?_;have fin:∀ v d H' S',Ext S H S' H'->Rp K F S' H'->RepV K (mt S' F) H' d v->rtD QD d S'->Q v H':=λv d H' S' L B v1 Y=>by
  refine hd λU y=>?_;obtain⟨d',S2,O,fz,q⟩:=Y;refine y ?_;exact c v d' H' S2 (L.trans (Ext.less O)) (B.less O) ((cXc B O fz).1 v v1) q
 exact⟨_,h1.o,F,S,aXb N ds,aJy QD,r,bQn l,h2 ds S QD i,fun Γ' S' σ' H' L B g1 q=>fin .non .non H' S' L B (by unfold RepV;rfl) q,fin,λ_ _ _ _ _ _ _ q=>q.elim,λ_ _ _ _ _ _ _ q=>q.elim⟩
def cQ5 (n:Nat):SpD:=λds S Q=>∃ ns:List Int,ds=[.lst (ns.map D.int)]/\ns.length<=n/\(∀ a,S a=none)/\∀ S',Q (.bl true) S'
theorem gQ9 {M:Am} {H:Hp}:∀ {as:List Int},RepL K M H (as.map D.int) (as.map V.int)
 | []=>RepL.nil
 | a::as=>RepL.cons (by unfold RepV;rfl) gQ9
theorem gQa {n:Nat} {H:Hp} {a:Addr} {ns:List Int} (hl:ns.length<=n) (hS:SqL K H a (ns.map V.int)):spU K (cQ5 n) [.ref a] H (λv _=>v=.bl true) λ_ _ _=>False:=by
 refine⟨λ_=>False,λ_=>none,[.lst (ns.map D.int)],λd _=>d=.bl true,⟨λa o e=>(by cases e),λ_ (h:False)=>h.elim⟩,RepL.cons ?_ RepL.nil,⟨ns,rfl,hl,λ_=>rfl,λ_=>rfl⟩,λv d H' S' _ _ h e=>by subst e;exact rbl h⟩
 unfold RepV;refine⟨a,_,rfl,?_,gQ9⟩;rcases hS with r | z
 ·exact .inl ⟨λz=>z.elim (λw=>w rfl) id,r⟩
 ·exact .inr (.inr z)
def dMt (rd:D->List D->Sto->DK->Prop) (ck:D->Sto->Prop) (to:ED) (t:AD):ED:=fun Γ S Q=>to Γ S λo S1=>ck o S1/\t Γ S1 λds S2=>rd o ds S2 Q
def MtD (K:Fg) (T:String) (r:V->List V->Hp->VK->Prop) (rd:D->List D->Sto->DK->Prop) (ck:D->Sto->Prop):Prop :=
 (∀ F S H d x,Rp K F S H->RepV K (mt S F) H d x->ck d S->tyV K T x H)/\∀ F S H d ds x vs Q QD,Rp K F S H->RepV K (mt S F) H d x->RepL K (mt S F) H ds vs->rd d ds S QD->Cn K F S H QD Q->r x vs H Q
theorem e_bm {T id:String} {name:Str} {r:V->List V->Hp->VK->Prop} {rd:D->List D->Sto->DK->Prop} {ck:D->Sto->Prop} {o e:Expr} {es:List Expr} {to:ED} {t:AD} {apos cpos:Pos} (M:MtD K T r rd ck)
  (pa:PlainAttrs T) (slot:Slot T name id) (hty:typeOf (.builtin id)=pure (.type "method_descriptor")) (hm:MtR X id r) (ho:PD K X o to) (ha:PAD K X (e::es) t) (hK:X.K=K:=by rfl)
  (hbase:cX o name X.env (eval o X.env)=eval o X.env:=by rfl)
  (hfew:((bn cpos (am (e::es) X.env)).all (λx=>!x.1) && (eJ cpos (cV [] X.env)).all (λx=>x.1.isSome)
   && decide ((e::es).length + ([]:List gj).length + (if ([]:List gj).isEmpty then 0 else 1) < 30))=true:=by rfl)
  (hline:(apos.endLine == cpos.line)=true:=by rfl) (hs:am (e::es) X.env=(false,eval e X.env)::am es X.env:=by rfl) (hplain:(bn cpos (am es X.env)).any (·.1)=false:=by rfl) :
  PD K X (.Call (.Attribute o name apos) (e::es) [] cpos) (dMt rd ck to t):=by
 subst hK;exact .of (gZy pa slot hty hm ho.o ha.o hbase hfew hline hs hplain) fun σ H Q L=>L.el λF S Γ QD r g q c =>
  ⟨F,S,Γ,_,r,g,q,λv d H1 G y B v1 ⟨Z,Y⟩=>⟨M.1 F G H1 d v B v1 Z,F,G,Γ,_,B,g.ext y,Y,λvs ds H2 S2 i O v2 U=>M.2 F S2 H2 d ds v vs Q QD O (v1.ext i) v2 U (Cn.shift c (y.trans i))⟩⟩
theorem gXl {T id:String} {name:Str} {r:V->List V->Hp->VK->Prop} {rd:D->List D->Sto->DK->Prop} {ck:D->Sto->Prop} {o:Expr} {to:ED} {apos cpos:Pos} (M:MtD K T r rd ck)
  (pa:PlainAttrs T) (slot:Slot T name id) (hty:typeOf (.builtin id)=pure (.type "method_descriptor")) (hm:MtR X id r) (ho:PD K X o to) (hK:X.K=K:=by rfl)
  (hbase:cX o name X.env (eval o X.env)=eval o X.env:=by rfl) (hline:(apos.endLine == cpos.line)=true:=by rfl) :
  PD K X (.Call (.Attribute o name apos) [] [] cpos) (dMt rd ck to dNil):=by
 subst hK;exact .of (fXq pa slot hty hm ho.o hbase hline) fun σ H Q B=>B.el λF S Γ QD r g q c =>
  ⟨F,S,Γ,_,r,g,q,λv d H1 y G i v1 ⟨O,L⟩=>⟨M.1 F y H1 d v i v1 O,M.2 F y H1 d [] v [] Q QD i v1 RepL.nil L (Cn.shift c G)⟩⟩
def ckL (d:D) (S:Sto):Prop:=match d with
 | .ref a=>∃ xs,S a=some (.lst xs)
 | _=>False
theorem ty_L {F:Am} {S:Sto} {H:Hp} {d:D} {x:V} (r:Rp K F S H) (h:RepV K (mt S F) H d x) (c:ckL d S):tyV K "list" x H:=by
 cases d with
 | ref a =>
  refine hd λG i=>?_;obtain⟨xs,y⟩:=c;refine i ?_;rw[rref h];refine hd λG i=>?_;obtain⟨us,B,_⟩:=r.obj a _ y;refine i ?_;exact .inl ⟨rfl,us,SqL.of B⟩
 | _=>exact c.elim
theorem Cn.write {F:Am} {S:Sto} {H:Hp} {QD:DK} {Q:VK} (c:Cn K F S H QD Q) (r:Rp K F S H) {a:Addr} {xs ys:List D} {us ws:List V} (hS:S a=some (.lst xs)) (l:RepL K (mt S F) H ys ws) {d:D} {v:V} (hv:RepV K (mt S F) H d v) (q:QD d (supd S a (.lst ys))):Q v (upd H a (.lst ws)):=by
 have i:S a≠none:=by rw[hS];exact λz=>by cases z
 have x:Ext S H (supd S a (.lst ys)) (upd H a (.lst ws)):=Ext.write i;exact c v d _ _ x (r.write i ⟨ws,aQc,l.ext x⟩) (hv.ext x) q
def appD:D->List D->Sto->DK->Prop:=λo ds S Q=>match o,ds with
 | .ref a,[y]=>∃ xs,S a=some (.lst xs)/\xs.length < sizeLine/\Q .non (supd S a (.lst (xs++[y])))
 | _,_=>False
theorem gQb:MtD K "list" dQb appD ckL:=⟨λF S H d x r h c=>ty_L r h c,λF S H d ds x vs Q QD r h l q c=>by
 match d,ds,q with
 | .ref a,[y],⟨xs,B,O,q⟩ =>
  obtain⟨v,rfl,G⟩:=l.one;refine hd λY L=>?_;obtain⟨us,U,i⟩:=r.obj a _ B;refine L ?_;rw[rref h];exact⟨a,us,v,rfl,rfl,U,by rw[i.length];exact O,c.write r (us:=us) B (i.app (RepL.cons G RepL.nil)) (by unfold RepV;rfl) q⟩⟩
def dX4:D->List D->Sto->DK->Prop:=λo ds S Q=>match o,ds with
 | .ref a,[.int i]=>∃ xs j y,S a=some (.lst xs)/\i=(j:Nat)/\(j:Nat) < 2 ^ 63/\xs[(j:Nat)]?=some y/\Q y (supd S a (.lst (xs.eraseIdx j)))
 | _,_=>False
theorem eQn:MtD K "list" eZk dX4 ckL:=⟨λF S H d x r h c=>ty_L r h c,λF S H d ds x vs Q QD r h l q c=>by
 match d,ds,q with
 | .ref a,[.int i],⟨xs,j,y,O,hi,hj,Z,q⟩ =>
  obtain⟨v,rfl,Y⟩:=l.one;refine hd λGq G=>?_;obtain⟨us,hu,L⟩:=r.obj a _ O;refine G ?_;refine hd λGq G=>?_;obtain⟨z,e1,U⟩:=L.get Z;refine G ?_;rw[rref h,rint Y];have hjl:j < us.length:=by
   rcases bO j us.length with z | z
   ·exact z
   ·rw[bB z] at e1;cases e1
  have e2:seqIndex? i us.length=some j:=by
   subst hi
   have:ixN us.length (j:Int)=some j:=by unfold ixN;rw[if_pos (by lia),if_pos (by lia),bN]
   exact(cQn this).1
  exact⟨a,us,i,j,z,rfl,rfl,hu,by lia,by subst hi;exact_mod_cast hj,e2,e1,c.write r (us:=us) O (L.erase j) U q⟩⟩
def popD:D->List D->Sto->DK->Prop:=λo ds S Q=>match o,ds with
 | .ref a,[]=>∃ xs y,S a=some (.lst xs)/\xs[xs.length - 1]?=some y/\Q y (supd S a (.lst xs.dropLast))
 | _,_=>False
theorem RepL.dropLast {M:Am} {H:Hp} {ds:List D} {xs:List V} (l:RepL K M H ds xs):RepL K M H ds.dropLast xs.dropLast:=by
 rw[List.dropLast_eq_take,List.dropLast_eq_take,l.length];exact l.take _
theorem gQc:MtD K "list" rPop popD ckL:=⟨λF S H d x r h c=>ty_L r h c,λF S H d ds x vs Q QD r h l q c=>by
 match d,ds,q with
 | .ref a,[],⟨xs,y,G,U,q⟩ =>
  unfold RepL at l;subst l;refine hd λZ B=>?_;obtain⟨us,Y,i⟩:=r.obj a _ G;refine B ?_;refine hd λZ B=>?_;obtain⟨z,L,O⟩:=i.get U;refine B ?_;rw[rref h];rw[<- i.length] at L;exact⟨a,us,z,rfl,rfl,Y,L,c.write r (us:=us) G i.dropLast O q⟩⟩
theorem bQo {o e:Expr} {to:ED} {t:AD} {apos cpos:Pos} (ho:PD K X o to) (ha:PAD K X [e] t) (hK:X.K=K:=by rfl)
  (hbase:cX o "append" X.env (eval o X.env)=eval o X.env:=by rfl)
  (hfew:((bn cpos (am [e] X.env)).all (λx=>!x.1) && (eJ cpos (cV [] X.env)).all (λx=>x.1.isSome)
   && decide (([e]:List Expr).length + ([]:List gj).length + (if ([]:List gj).isEmpty then 0 else 1) < 30))=true:=by rfl)
  (hline:(apos.endLine == cpos.line)=true:=by rfl) (hs:am [e] X.env=(false,eval e X.env)::am [] X.env:=by rfl) (hplain:(bn cpos (am [] X.env)).any (·.1)=false:=by rfl) :
  PD K X (.Call (.Attribute o "append" apos) [e] [] cpos) (dMt appD ckL to t):=e_bm gQb d3 PySem.F.slot_list_append PySem.F.type_list_append bJs ho ha hK hbase hfew hline hs hplain
theorem dX5 {o e:Expr} {to:ED} {t:AD} {apos cpos:Pos} (ho:PD K X o to) (ha:PAD K X [e] t) (hK:X.K=K:=by rfl)
  (hbase:cX o "pop" X.env (eval o X.env)=eval o X.env:=by rfl)
  (hfew:((bn cpos (am [e] X.env)).all (λx=>!x.1) && (eJ cpos (cV [] X.env)).all (λx=>x.1.isSome)
   && decide (([e]:List Expr).length + ([]:List gj).length + (if ([]:List gj).isEmpty then 0 else 1) < 30))=true:=by rfl)
  (hline:(apos.endLine == cpos.line)=true:=by rfl) (hs:am [e] X.env=(false,eval e X.env)::am [] X.env:=by rfl) (hplain:(bn cpos (am [] X.env)).any (·.1)=false:=by rfl) :
  PD K X (.Call (.Attribute o "pop" apos) [e] [] cpos) (dMt dX4 ckL to t):=e_bm eQn d3 kM kO dJx ho ha hK hbase hfew hline hs hplain
theorem fQp {o:Expr} {to:ED} {apos cpos:Pos} (ho:PD K X o to) (hK:X.K=K:=by rfl)
  (hbase:cX o "pop" X.env (eval o X.env)=eval o X.env:=by rfl) (hline:(apos.endLine == cpos.line)=true:=by rfl) :
  PD K X (.Call (.Attribute o "pop" apos) [] [] cpos) (dMt popD ckL to dNil):=gXl gQc d3 kM kO fXr ho hK hbase hline
def ckS (d:D) (S:Sto):Prop:=match d with
 | .str _=>True
 | _=>False
def gQd (K:Fg):V->List V->Hp->VK->Prop:=λx vs H Q=>∃ z y us ss,x=.str z/\vs=[y]/\(∃ a,y=.ref a/\SqL K H a us)/\aZ (dS H) us ss/\(ss.map (·.length)).sum + ss.length * z.length<=16777216/\Q (.str (Txt.join z ss)) H
theorem fQq (hK:X.K=K:=by rfl):MtR X "str.join" (gQd K):=by
 subst hK;intro pins s σ H x xs v us Q I B rs h;obtain⟨z,y,ws,ss,rfl,rfl,⟨a,rfl,sq⟩,p,O,q⟩:=h;obtain⟨t,rfl⟩:=B;obtain⟨u,rfl,ru⟩:=rs.one;cases ru;refine hd λU G=>?_;obtain⟨L,r,pl,_⟩:=I.list sq;refine G ?_;exact join_list pl.isList (cZ1 p r) O λi k=>⟨.str _,H,I.tok k,⟨i,rfl⟩,q⟩
def gQe:D->List D->Sto->DK->Prop:=λo ds S Q=>match o,ds with
 | .str z,[d]=>∃ ss,lsIs S d (ss.map D.str)/\(ss.map (·.length)).sum + ss.length * z.length<=16777216/\Q (.str (Txt.join z ss)) S
 | _,_=>False
theorem fQr:MtD K "str" (gQd K) gQe ckS:=⟨λF S H d x r h c=>by
 cases d with
 | str z=>rw[rstr h];exact rfl
 | _=>exact c.elim,λF S H d ds x vs Q QD r h l q c=>by
 match d,ds,q with
 | .str z,[d],⟨ss,h1,B,q⟩ =>
  obtain⟨v,rfl,i⟩:=l.one;obtain⟨a,us,rfl,sq,y⟩:=lsIs.sl r i h1;rw[rstr h];exact⟨z,_,us,ss,rfl,rfl,⟨a,rfl,sq⟩,aJw y,B,c.str r q⟩⟩
theorem gQf {o e:Expr} {to:ED} {t:AD} {apos cpos:Pos} (ho:PD K X o to) (ha:PAD K X [e] t) (hK:X.K=K:=by rfl)
  (hbase:cX o "join" X.env (eval o X.env)=eval o X.env:=by rfl)
  (hfew:((bn cpos (am [e] X.env)).all (λx=>!x.1) && (eJ cpos (cV [] X.env)).all (λx=>x.1.isSome)
   && decide (([e]:List Expr).length + ([]:List gj).length + (if ([]:List gj).isEmpty then 0 else 1) < 30))=true:=by rfl)
  (hline:(apos.endLine == cpos.line)=true:=by rfl) (hs:am [e] X.env=(false,eval e X.env)::am [] X.env:=by rfl) (hplain:(bn cpos (am [] X.env)).any (·.1)=false:=by rfl) :
  PD K X (.Call (.Attribute o "join" apos) [e] [] cpos) (dMt gQe ckS to t):=e_bm fQr PySem.F.plainAttrs_str PySem.F.slot_str_join PySem.F.type_str_join (fQq hK) ho ha hK hbase hfew hline hs hplain
end
def leS (a b:Str):Bool:=!HT.ltS b a
def leT (a b:List Str):Bool:=!HT.lexS b a
theorem aZn:∀ a:List Str,HT.lexS a a=false
 | []=>rfl
 | x::xs=>by rw[HT.lexS_cons,if_pos rfl,aZn xs]
theorem gQg (a b c:Str) (h:leS a b=true) (h':leS b c=true):leS a c=true:=by
 unfold leS at *
 rw[dI] at *
 cases e:HT.ltS c a with
 | false=>rfl
 | true =>
  by_cases i:b=a
  ·subst i;rw[h'] at e;cases e
  ·have:=HT.ltS_tr e (HT.ltS_tot h i)
   rw[h'] at this;cases this
theorem fQs (a b:Str):(leS a b || leS b a)=true:=by
 unfold leS;cases e:HT.ltS b a with
 | false=>rfl
 | true=>rw[HT.ltS_as e];rfl
theorem eQo {a b:Str} (h:leS a b=true) (h':leS b a=true):a=b:=by
 unfold leS at *
 rw[dI] at *
 exact aY λn=>by
  have:=HT.ltS_tot h (λz=>n z.symm)
  rw[h'] at this;cases this
theorem gQh (a b c:List Str) (h:leT a b=true) (h':leT b c=true):leT a c=true:=by
 unfold leT at *
 rw[dI] at *
 cases e:HT.lexS c a with
 | false=>rfl
 | true =>
  by_cases i:b=a
  ·subst i;rw[h'] at e;cases e
  ·have:=HT.lexS_tr e (HT.lexS_tot h i)
   rw[h'] at this;cases this
theorem fQt (a b:List Str):(leT a b || leT b a)=true:=by
 unfold leT;cases e:HT.lexS b a with
 | false=>rfl
 | true=>rw[HT.lexS_as e];rfl
theorem cXd {a b:List Str} (h:leT a b=true) (h':leT b a=true):a=b:=by
 unfold leT at *
 rw[dI] at *
 exact aY λn=>by
  have:=HT.lexS_tot h (λz=>n z.symm)
  rw[h'] at this;cases this
def srS (l:List Str):List Str:=l.mergeSort leS
def srT (l:List (List Str)):List (List Str):=l.mergeSort leT
def srI (l:List Int):List Int:=l.mergeSort λa b=>decide (a<=b)
theorem aJh (l:List Str):(srS l).Perm l:=iT _ _
theorem aX7 (l:List (List Str)):(srT l).Perm l:=iT _ _
theorem eQp (l:List Int):(srI l).Perm l:=iT _ _
theorem eX5 (l:List Str):(srS l).Pairwise λa b=>leS a b=true:=gO gQg fQs l
theorem cXe (l:List (List Str)):(srT l).Pairwise λa b=>leT a b=true:=gO gQh fQt l
theorem gQi (l:List Int):(srI l).Pairwise λa b=>decide (a<=b)=true:=gO (le:=λa b=>decide (a<=b)) (λa b c h h'=>decide_eq_true (Int.le_trans (of_decide_eq_true h) (of_decide_eq_true h'))) (λa b=>by
 rcases Int.le_total a b with h | h
 ·rw[decide_eq_true h];rfl
 ·rw[decide_eq_true h,Bool.or_true]) l
theorem gQj {l out:List Str} (p:out.Perm l) (h:out.Pairwise λa b=>HT.ltS b a=false):out=srS l :=
 (p.trans (aJh l).symm).eq_of_pairwise (λ_ _ _ _ h h'=>eQo h h') (h.imp λh=>by unfold leS;rw[h];rfl) (eX5 l)
theorem gQk {l out:List (List Str)} (p:out.Perm l) (h:out.Pairwise λa b=>HT.lexS a b=true):out=srT l :=
 (p.trans (aX7 l).symm).eq_of_pairwise (λ_ _ _ _ h h'=>cXd h h') (h.imp λh=>by unfold leT;rw[HT.lexS_as h];rfl) (cXe l)
theorem gQl {l out:List Int} (p:out.Perm l) (h:out.Pairwise (·<=·)):out=srI l :=
 (p.trans (eQp l).symm).eq_of_pairwise (λ_ _ _ _ h h'=>Int.le_antisymm (of_decide_eq_true h) (of_decide_eq_true h')) (h.imp λh=>decide_eq_true h) (gQi l)
section
variable {X:Cx} {K:Fg} {pos:Pos} {k:Nat} {e:Expr} {t:AD} {p:Pos}
def rSum (K:Fg):List V->Hp->VK->Prop:=λxs H Q=>∃ (x:V) (ns:List Int),xs=[x]/\(∃ a,x=.ref a/\SqL K H a (ns.map V.int))/\Q (.int ns.sum) H
theorem eQq (hK:X.K=K:=by rfl) (hc:X.calm=true:=by rfl):CallR X (.builtin "sum") (rSum K):=by
 subst hK;intro pins s σ H xs us Q I r h;obtain⟨x,ns,rfl,⟨a,rfl,sq⟩,q⟩:=h;obtain⟨u,rfl,rx⟩:=aXd r;cases rx;obtain⟨G,B,pl,L⟩:=I.list sq;have hi:=bX7 B;obtain⟨xs,i⟩:=hi.allInts.items;have hl:=pl.isList;rw[i] at hl;refine sum_intListG (I.ok.hd hc) hl λh' y t' hk=>?_;have e:preSum (numAt xs) xs.size=ns.sum:=by
  have h1:numsOf (intItems xs).toList=ns:=by rw[<- i];exact hi.numsOf
  rw[nums_intItems] at h1;rw[preSum_eq,cf (by simp),h1]
 rw[e];exact⟨.int ns.sum,H,I.kept (t':=y) hk,⟨t',rfl⟩,q⟩
theorem cZ7 {M:Am} {H:Hp}:∀ {as:List Int} {xs:List V},RepL K M H (as.map D.int) xs->xs=as.map V.int
 | [],xs,h=>by rw[eZ] at h;unfold RepL at h;exact h
 | a::as,xs,h=>by
  rw[a9] at h;unfold RepL at h;obtain⟨v,vs,rfl,r,l⟩:=h;unfold RepV at r;rw[r,cZ7 l];rfl
theorem dX6 {M:Am} {H:Hp}:∀ {as:List Int},RepL K M H (as.map D.int) (as.map V.int)
 | []=>RepL.nil
 | a::as=>RepL.cons (by unfold RepV;rfl) dX6
theorem dX7 {M:Am} {H:Hp}:∀ {as:List Str} {xs:List V},RepL K M H (as.map D.str) xs->xs=as.map V.str
 | [],xs,h=>by rw[eZ] at h;unfold RepL at h;exact h
 | a::as,xs,h=>by
  rw[a9] at h;unfold RepL at h;obtain⟨v,vs,rfl,r,l⟩:=h;unfold RepV at r;rw[r,dX7 l];rfl
theorem dX8 {M:Am} {H:Hp}:∀ {as:List Str},RepL K M H (as.map D.str) (as.map V.str)
 | []=>RepL.nil
 | a::as=>RepL.cons (by unfold RepV;rfl) dX8
def sumD:RCD:=λds S Q=>match ds with
 | [d]=>∃ ns:List Int,lsIs S d (ns.map D.int)/\Q (.int ns.sum) S
 | _=>False
theorem gQm (hg:Gl X "sum") (hm:X.mg "sum"=none) (ha:PAD K X [e] t) (hK:X.K=K:=by rfl) (hc:X.calm=true:=by rfl) (he:am [e] X.env=(false,eval e X.env)::am [] X.env:=by rfl) (hpl:(bn pos (am [] X.env)).any (·.1)=false:=by rfl):PD K X (.Call (.Name "sum" p) [e] [] pos) (dCB sumD t):=aJ7 (eQq hK hc) (by
 intro F S H ds vs Q QD r l h c
 match ds,h with
 | [d],⟨ns,h1,q⟩ =>
  obtain⟨v,rfl,i⟩:=l.one;obtain⟨a,us,rfl,sq,y⟩:=lsIs.sl r i h1;rw[cZ7 y] at sq;exact⟨_,ns,rfl,⟨a,rfl,sq⟩,c.int r q⟩) hg hm eZm ha (by decide) (by decide) he hpl
def keyD:Key->D
 | .inl i=>.int i
 | .inr x=>.str x
def srcIs (S:Sto) (d:D) (xs:List D):Prop:=match d with
 | .tup ys=>xs=ys
 | .lst ys=>xs=ys
 | .ref a=>S a=some (.lst xs)\/∃ kvs,S a=some (.dk kvs)/\xs=kvs.map λp=>keyD p.1
 | _=>False
theorem dX9 {M:Am} {H:Hp}:∀ {ks:List (Key × V)} {kvs:List (Key × D)},aZ (λ(p:Key × V) (q:Key × D)=>p.1=q.1/\RepV K M H q.2 p.2) ks kvs->RepL K M H (kvs.map λp=>keyD p.1) (ks.map λp=>kV p.1)
 | _,_,.nil=>RepL.nil
 | _,_,.cons (a:=a) (b:=b) h l=>by
  refine RepL.cons ?_ (dX9 l);show RepV K M H (keyD b.1) (kV a.1);rw[h.1];cases b.1 <;> (unfold keyD kV RepV;rfl)
theorem srcIs.src {F:Am} {S:Sto} {H:Hp} (r:Rp K F S H) {d:D} {v:V} {xs:List D} (h:RepV K (mt S F) H d v) (l:srcIs S d xs):∃ us,Src K H v us/\RepL K (mt S F) H xs us:=by
 cases d with
 | tup ys=>cases l;obtain⟨a,us,rfl,sq,l⟩:=tup.st h;exact⟨us,⟨a,rfl,.inr (.inl sq)⟩,l⟩
 | lst ys=>cases l;obtain⟨a,us,rfl,sq,l⟩:=lsIs.sl r h (show lsIs S (.lst xs) xs from rfl);exact⟨us,⟨a,rfl,.inl sq⟩,l⟩
 | ref a =>
  rw[rref h];rcases l with l | ⟨B,l,rfl⟩
  ·obtain⟨us,y,i⟩:=r.obj a _ l;exact⟨us,⟨a,rfl,.inl (SqL.of y)⟩,i⟩
  ·obtain⟨G,y,i⟩:=r.obj a _ l;exact⟨_,⟨a,rfl,.inr (.inr ⟨G,y,rfl⟩)⟩,dX9 i⟩
 | _=>exact l.elim
def tupS (t:List Str):D:=.tup (t.map D.str)
def srtD (b:Bool):RCD:=λds S Q=>match ds with
 | [d]=>(∃ ss:List Str,srcIs S d (ss.map D.str)/\ss.length < 64/\newL b ((srS ss).map D.str) S Q)\/(∃ ns:List Int,srcIs S d (ns.map D.int)/\ns.length < 64/\newL b ((srI ns).map D.int) S Q) \/
  ∃ ts:List (List Str),srcIs S d (ts.map tupS)/\ts.Nodup/\ts.length < 64/\newL b ((srT ts).map tupS) S Q
 | _=>False
def gXm (K:Fg):List V->Hp->VK->Prop:=λxs H Q=>gQ6 K xs H Q\/gQ7 K xs H Q\/gQ8 K xs H Q
theorem bJ5 {S:Sto} {F:Am} {H:Hp}:∀ {ts:List (List Str)} {us:List V},RepL K (mt S F) H (ts.map tupS) us->aZ (dT K dS H) us ts
 | [],us,h=>by rw[eZ] at h;unfold RepL at h;subst h;exact .nil
 | a::as,xs,h=>by
  rw[a9] at h;unfold RepL at h;obtain⟨v,vs,rfl,r,l⟩:=h;exact .cons (cZ3 r) (bJ5 l)
theorem eX6 {M:Am} {H:Hp} {ds:List D} {us:List V} (l:RepL K M H ds us):∀ (idx:List Nat),(∀ i∈idx,i < us.length)->RepL K M H (idx.map λi=>ds.getD i .non) (idx.map λi=>us.getD i .non)
 | [],_=>RepL.nil
 | i::idx,h=>by
  have hi:=h i ak;refine RepL.cons ?_ (eX6 l idx λj y=>h j (ao _ y));obtain⟨d,B,rd⟩:=l.get' (ah hi);show RepV K M H (ds.getD i .non) (us.getD i .non);rw[aD,aD,B,ah hi];exact rd
theorem gQn {b:Bool}:bZy K (gXm K) (srtD b):=by
 intro F S H ds vs Q QD r l h c
 match ds,h with
 | [d],h =>
  obtain⟨v,rfl,O⟩:=l.one;rcases h with⟨ss,h1,y,q⟩ | ⟨ss,h1,y,q⟩ | ⟨ts,h1,nd,y,q⟩
  ·obtain⟨us,G,B⟩:=h1.src r O;rw[dX7 B] at G;exact .inl ⟨v,ss,rfl,G,y,λp out hp Y U=>by
    rw[gQj Y U];exact c.new r hp dX8 q⟩
  ·obtain⟨us,G,B⟩:=h1.src r O;rw[cZ7 B] at G;exact .inr (.inl ⟨v,ss,rfl,G,y,λp out hp Y U=>by
    rw[gQl Y U];exact c.new r hp dX6 q⟩)
  ·obtain⟨us,G,B⟩:=h1.src r O;refine .inr (.inr ⟨v,us,ts,rfl,G,bJ5 B,nd,y,λp idx hp i1 i2 i3=>c.new r hp ?_ q⟩);have hl:=B.length;rw[aj] at hl;have L:∀ i∈idx,i < us.length:=λi hi=>bu.mp (i1.mem_iff.mp hi)
   have:=eX6 B idx L
   rw[<- gQk i3 i2,cM];have e:(idx.map λi=>(ts.map tupS).getD i .non)=idx.map (tupS ∘ λi=>ts.getD i []):=d8 λi hi=>by
    have Z:i < ts.length:=by have:=L i hi;lia
    show(ts.map tupS).getD i .non=tupS (ts.getD i []);rw[aD,aD,br,ah Z]
    rfl
   rw[<- e];exact this
theorem aXv {b:Bool} (hr:Room k X.A) (hg:Gl X "sorted") (hm:X.mg "sorted"=none) (ha:PAD K X [e] t) (hK:X.K=K:=by rfl) (hc:X.calm=true:=by rfl) (he:am [e] X.env=(false,eval e X.env)::am [] X.env:=by rfl) (hpl:(bn pos (am [] X.env)).any (·.1)=false:=by rfl):PD K X (.Call (.Name "sorted" p) [e] [] pos) (dCB (srtD b) t):=aJ7 ((dX1 hK hc).or ((dX2 hK hc).or (dX3 (lt10 hr) hK hc))) gQn hg hm bQy ha (by decide) (by decide) he hpl
end
theorem md {a b:Int} (h:0 < b):0<=a % b/\a % b < b:=⟨Int.emod_nonneg _ (by lia),Int.emod_lt_of_pos _ h⟩
theorem aZo {g:GD} {tt:TD} {tb:BD} {G:Sto->Prop} {Γ0:Gm} {xs acc:List D} {S:Sto} {Q:List D->Sto->Prop} (I:Nat->List D->Sto->Prop) (h0:I 0 acc S)
  (hs:∀ i x acc S (N:List D->Sto->Prop),xs[i]?=some x->I i acc S->(∀ acc' S',I (i + 1) acc' S'->N acc' S')->G S/\g x Γ0 S fun Γ2 S2=>tt Γ2 S2 λb S3=>if b=true then tb Γ2 S3 acc N else N acc S3)
  (hd:∀ acc S,I xs.length acc S->G S/\Q acc S):aXx g tt tb G Γ0 xs acc S Q:=by
 have gen:∀ n i acc S,i + n=xs.length->I i acc S->aXx g tt tb G Γ0 (xs.drop i) acc S Q:=by
  intro n
  induction n with
  | zero =>
   intro i acc S hi h;have e:i=xs.length:=by lia
   subst e;rw[iu];exact hd acc S h
  | succ n B =>
   intro i acc S hi h;have y:i < xs.length:=by lia
   rw[aJg y];exact hs i xs[i] acc S (λacc' L=>aXx g tt tb G Γ0 (xs.drop (i + 1)) acc' L Q) (ah y) h λacc' S' h'=>B (i + 1) acc' S' (by lia) h'
 simpa using gen xs.length 0 acc S (by lia) h0
theorem aJ9 {g:GD} {tb:SD} {G:Sto->Prop} {E:EndsD} {xs:List D} {Γ:Gm} {S:Sto} (I:Nat->Gm->Sto->Prop) (h0:I 0 Γ S)
  (hs:∀ i x Γ S (N:Gm->Sto->Prop),xs[i]?=some x->I i Γ S->(∀ Γ' S',I (i + 1) Γ' S'->N Γ' S')->G S/\g x Γ S fun Γ2 S2=>tb { E with nx:=N,ct:=N,bk:=E.nx } Γ2 S2)
  (hd:∀ Γ S,I xs.length Γ S->G S/\E.nx Γ S):forD g tb G E xs Γ S:=by
 have gen:∀ n i Γ S,i + n=xs.length->I i Γ S->forD g tb G E (xs.drop i) Γ S:=by
  intro n
  induction n with
  | zero =>
   intro i Γ S hi h;have e:i=xs.length:=by lia
   subst e;rw[iu];exact hd Γ S h
  | succ n B =>
   intro i Γ S hi h;have y:i < xs.length:=by lia
   rw[aJg y];exact hs i xs[i] Γ S (forD g tb G E (xs.drop (i + 1))) (ah y) h fun Γ' S' h'=>B (i + 1) Γ' S' (by lia) h'
 simpa using gen xs.length 0 Γ S (by lia) h0
theorem bQp {α:Type} {i:Nat} {te:ED} {Γ0:Gm} {S:Sto} {Q:List D->Sto->Prop} {enc:α->D} {f:α->D} {xs:List α} {acc:List D} (h:∀ x∈xs,∀ Q:DK,Q (f x) S->te (Γ0.set i (some (enc x))) S Q) (hn:acc.length + xs.length<=sizeLine)
  (q:Q (acc++xs.map f) S):aXx (aQu i) dYes (bX0 te) (λ_=>True) Γ0 (xs.map enc) acc S Q:=by
 induction xs generalizing acc with
 | nil=>exact⟨trivial,by simpa using q⟩
 | cons x xs G =>
  refine⟨trivial,?_⟩;show bX0 te (Γ0.set i (some (enc x))) S acc (λB O=>aXx (aQu i) dYes (bX0 te) (λ_=>True) Γ0 (xs.map enc) B O Q);refine h x ak _ ⟨by simp at hn;lia,G (λy L=>h y (ao _ L)) (by simp at hn ⊢;lia) (by simpa using q)⟩
theorem aQn {α:Type} {i:Nat} {tt:TD} {te:ED} {Γ0:Gm} {S:Sto} {Q:List D->Sto->Prop} {enc:α->D} {p:α->Bool} {f:α->D} {xs:List α} {acc:List D} (ht:∀ x∈xs,∀ Q:Bool->Sto->Prop,Q (p x) S->tt (Γ0.set i (some (enc x))) S Q) (h:∀ x∈xs,p x=true->∀ Q:DK,Q (f x) S->te (Γ0.set i (some (enc x))) S Q) (hn:acc.length + xs.length<=sizeLine)
  (q:Q (acc++(xs.filter p).map f) S):aXx (aQu i) tt (bX0 te) (λ_=>True) Γ0 (xs.map enc) acc S Q:=by
 induction xs generalizing acc with
 | nil=>exact⟨trivial,by simpa using q⟩
 | cons x xs G =>
  refine⟨trivial,?_⟩;show tt (Γ0.set i (some (enc x))) S _;refine ht x ak _ ?_;cases hp:p x with
  | true =>
   rw[if_pos rfl];refine h x ak hp _ ⟨by simp at hn;lia,G (λy B=>ht y (ao _ B)) (λy B=>h y (ao _ B)) (by simp at hn ⊢;lia) ?_⟩
   rw[cQ,hp] at q;simpa using q
  | false =>
   rw[if_neg (by simp)]
   refine G (λy B=>ht y (ao _ B)) (λy B=>h y (ao _ B)) (by simp at hn ⊢;lia) ?_
   rw[cQ,hp] at q;simpa using q
def sg (c:Nat):Str:=⟨#[c]⟩
theorem gQo (c:Nat):(sg c).length=1:=rfl
theorem eX7 (a b:List Nat):((⟨a.toArray⟩:Str)++(⟨b.toArray⟩:Str))=⟨(a++b).toArray⟩:=by
 show Str.mk (a.toArray++b.toArray)=_;simp
theorem eQr:(aN "":Str)=⟨#[]⟩:=by decide
theorem fQu:∀ cs:List Nat,Txt.join (aN "") (cs.map sg)=⟨cs.toArray⟩:=λcs=>by
 show cu.Str.glued _ _=_;rw[StrLaws.glued_eq_join]
 induction cs with
 | nil=>rfl
 | cons c cs i =>
  cases cs with
  | nil=>rfl
  | cons d cs =>
   rw[a9] at i;show sg c++aN ""++Str.join (aN "") (sg d::cs.map sg)=_;rw[i,eQr];show((⟨[c].toArray⟩:Str)++(⟨([]:List Nat).toArray⟩:Str))++(⟨(d::cs).toArray⟩:Str)=_;rw[eX7,eX7]
   rfl
theorem aJi {α:Type} (f:α->D) (xs:List α) (lo hi:Option Int):cutD (xs.map f) lo hi=((xs.drop (HT.sIx xs.length 0 lo)).take (HT.sIx xs.length xs.length hi - HT.sIx xs.length 0 lo)).map f:=by
 unfold cutD;rw[aj,List.map_take,List.map_drop]
theorem dXa {α β:Type} (f:α->β) (xs:List α) (i:Int):atI (xs.map f) i=(atI xs i).map f:=by
 unfold atI;rw[aj];cases ixN xs.length i with
 | none=>rfl
 | some j=>simp
theorem cQ6 {n i:Nat} {x:D} (h:(rngD 0 n)[i]?=some x):i < n/\x=.int (i:Nat):=by
 obtain⟨h1,h2⟩:=bJ4 n 0 i x h;exact⟨h1,by rw[h2,Int.zero_add]⟩
section
variable {X:Cx} {K:Fg} {pos:Pos}
def zipD:List D->List D->List D
 | x::xs,y::ys=>.tup [x,y]::zipD xs ys
 | _,_=>[]
theorem bJ6:∀ (xs ys:List D) (i:Nat) (d:D),(zipD xs ys)[i]?=some d->∃ x y,xs[i]?=some x/\ys[i]?=some y/\d=.tup [x,y]
 | [],_,i,d,h=>by simp[zipD] at h
 | _::_,[],i,d,h=>by simp[zipD] at h
 | x::xs,y::ys,0,d,h=>by simp[zipD] at h;exact⟨x,y,rfl,rfl,h.symm⟩
 | x::xs,y::ys,i + 1,d,h=>by
  have h':(zipD xs ys)[i]?=some d:=by simpa [zipD] using h
  obtain⟨u,v,h1,h2,e⟩:=bJ6 xs ys i d h';exact⟨u,v,by simpa using h1,by simpa using h2,e⟩
theorem cXf:∀ (xs ys:List D),(zipD xs ys).length=min xs.length ys.length
 | [],_=>by simp[zipD]
 | _::_,[]=>by simp[zipD]
 | x::xs,y::ys=>by simp[zipD,cXf xs ys]
theorem eQs {F:Am} {S:Sto} {H:Hp} {p:Addr} {x y:V} {d e:D} (r:Rp K F S H) (hp:H p=none) (rx:RepV K (mt S F) H d x) (ry:RepV K (mt S F) H e y):Ext S H S (upd H p (.tup [x,y]))/\Rp K F S (upd H p (.tup [x,y]))/\RepV K (mt S F) (upd H p (.tup [x,y])) (.tup [d,e]) (.ref p):=by
 have z:Ext S H S (upd H p (.tup [x,y])):=Ext.same (aQm hp);refine⟨z,r.same (aQm hp),?_⟩;unfold RepV;exact⟨p,_,rfl,.inl ⟨r.nmt hp,.inl aQc⟩,RepL.cons (rx.ext z) (RepL.cons (ry.ext z) RepL.nil)⟩
end
section
variable {X:Cx} {K:Fg} {pos:Pos} {k:Nat} {e:Expr} {te:ED}
def gXn (d:D) (S:Sto) (Q:DK):Prop:=(∃ ts:List (List Str),d=.tup (ts.map tupS)/\ts.length + 1<=300/\∀ n:Nat,SzOk ts n->Q (.int n) S)\/∃ ss:List Str,d=.lst (ss.map D.str)/\ss.length + 1<=300/\∀ n:Nat,SzOk ss n->Q (.int n) S
def gXo (te:ED):ED:=fun Γ S Q=>te Γ S λd S1=>gXn d S1 Q
theorem eX8 {p p' pos':Pos} (hr:Room k X.A) (hg:Gl X "len") (hm:X.mg "len"=none) (hg':Gl X "set") (hm':X.mg "set"=none) (he:PD K X e te) (hK:X.K=K:=by rfl) (hc:X.calm=true:=by rfl)
  (h1:am [e] X.env=(false,eval e X.env)::am [] X.env:=by rfl) (h2:am [j7 (.Name "set" p') [e] [] pos'] X.env=(false,eval (j7 (.Name "set" p') [e] [] pos') X.env)::am [] X.env:=by rfl) (h3:(bn pos (am [] X.env)).any (·.1)=false:=by rfl) (h4:(bn pos' (am [] X.env)).any (·.1)=false:=by rfl) :
  PD K X (.Call (.Name "len" p) [.Call (.Name "set" p') [e] [] pos'] [] pos) (gXo te) :=
 .of (bQj dZ1 hg hm eZl (aX1 (aJc ((cQx (lt64 hr) hK hc).or (cQy (lt64 hr) hK hc)) hg' hm' dQi (aX1 he.o aJb h1) (by decide) (by decide) h1 h4) aJb h2) (by decide) (by decide) h2 h3) fun σ H Q L=>L.el λF S Γ QD r g q c =>
 ⟨F,S,Γ,_,r,g,q,λv d H1 G O U v1 Y=>by
  have go:∀ (n p:Nat) (y:n < 300),H1 p=none->QD (.int n) G->∃ p' B,[V.ref p]=[V.ref p']/\upd H1 p (szO p n) p'=some (szO p' B)/\B < 1000000/\Q (.int B) (upd H1 p (szO p n)):=λn p y hp Z =>
   ⟨p,n,rfl,aQc,by lia,c (.int n) (.int n) _ G (O.trans (Ext.same (aQm hp))) (U.same (aQm hp)) (by unfold RepV;rfl) Z⟩
  rcases Y with⟨ts,rfl,y,q⟩ | ⟨ss,rfl,y,q⟩
  ·unfold RepV at v1;obtain⟨a,us,rfl,t,l⟩:=v1;exact .inl ⟨_,ts,rfl,⟨a,us,rfl,t.sq,bJ5 l⟩,y,λp n hp i=>go n p (by have:=i.1;lia) hp (q n i)⟩
  ·unfold RepV at v1;obtain⟨a,us,rfl,t,l⟩:=v1;exact .inr ⟨_,ss,rfl,⟨a,us,rfl,t.sq,aJw l⟩,y,λp n hp i=>go n p (by have:=i.1;lia) hp (q n i)⟩⟩
end
end L2
set_option maxHeartbeats 1000000
namespace L2
open PySem PySem.Spec PyProof.Rows
section
variable {X:Cx} {K:Fg} {pos:Pos} {k:Nat}
def exrD:D->List D->Sto->DK->Prop:=λo ds S Q=>match o,ds with
 | .ref a,[.ref b]=>∃ xs ys,S a=some (.lst xs)/\S b=some (.lst ys)/\xs.length + ys.length<=sizeLine/\Q .non (supd S a (.lst (xs++ys)))
 | _,_=>False
theorem gQp:MtD K "list" dQc exrD ckL:=⟨λF S H d x r h c=>ty_L r h c,λF S H d ds x vs Q QD r h l q c=>by
 match d,ds,q with
 | .ref a,[.ref b],⟨xs,ys,B,i,L,q⟩ =>
  obtain⟨v,rfl,G⟩:=l.one;obtain⟨us,O,y⟩:=r.obj a _ B;obtain⟨ws,hw,lw⟩:=r.obj b _ i;rw[rref h,rref G];exact⟨a,b,us,ws,rfl,rfl,O,hw,by rw[y.length,lw.length];exact L,c.write r (us:=us) B (y.app lw) (by unfold RepV;rfl) q⟩⟩
theorem cXg {o e:Expr} {to:ED} {t:AD} {apos cpos:Pos} (ho:PD K X o to) (ha:PAD K X [e] t) (hK:X.K=K:=by rfl)
  (hbase:cX o "extend" X.env (eval o X.env)=eval o X.env:=by rfl)
  (hfew:((bn cpos (am [e] X.env)).all (λx=>!x.1) && (eJ cpos (cV [] X.env)).all (λx=>x.1.isSome)
   && decide (([e]:List Expr).length + ([]:List gj).length + (if ([]:List gj).isEmpty then 0 else 1) < 30))=true:=by rfl)
  (hline:(apos.endLine == cpos.line)=true:=by rfl) (hs:am [e] X.env=(false,eval e X.env)::am [] X.env:=by rfl) (hplain:(bn cpos (am [] X.env)).any (·.1)=false:=by rfl) :
  PD K X (.Call (.Attribute o "extend" apos) [e] [] cpos) (dMt exrD ckL to t):=e_bm gQp d3 PySem.F.slot_list_extend PySem.F.type_list_extend dQd ho ha hK hbase hfew hline hs hplain
def dXb (r r':R2D) (ta tb tc:ED):ED:=fun Γ S Q=>ta Γ S λx S1=>tb Γ S1 λy S2=>r x y S2 λz S3=>∃ k,z=.bl k/\(if k=true then tc Γ S3 λw S4=>r' y w S4 Q else Q (.bl false) S3)
theorem eQt {r r':R2} {rd rd':R2D} {ta tb tc:ED} (h:OpD K r rd) (h':OpD K r' rd'):∀ σ H Q,upE K (dXb rd rd' ta tb tc) σ H Q->eZi r r' (upE K ta) (upE K tb) (upE K tc) σ H Q:=fun σ H Q z0=>z0.el λF S Γ QD r g q c =>
 ⟨F,S,Γ,_,r,g,q,λx d H1 S1 G r1 v1 q1=>⟨F,S1,Γ,_,r1,g.ext G,q1,λy e H2 S2 B r2 v2 q2=>h F S2 H2 d e x y _ _ r2 (v1.ext B) v2 q2 λv z H3 Z i U L ⟨kk,e3,Y⟩=>by
  subst e3;refine⟨kk,rbl L,?_⟩;cases kk with
  | true=>exact⟨F,Z,Γ,_,U,g.ext (G.trans (B.trans i)),Y,λw f H4 S4 O r4 v4 q4=>h' F S4 H4 e f y w Q QD r4 (v2.ext (i.trans O)) v4 q4 λv z H5 S5 x5=>c v z H5 S5 (G.trans (B.trans (i.trans (O.trans x5))))⟩
  | false=>exact c _ _ _ Z (G.trans (B.trans i)) U (rbl L ▸ L) Y⟩⟩
theorem eQu {op op':CmpOp} {r r':R2} {rd rd':R2D} {a b c:Expr} {ta tb tc:ED} (ho:OpR X (bM op) r) (ho':OpR X (bM op') r') (h:OpD K r rd) (h':OpD K r' rd') (ha:PD K X a ta) (hb:PD K X b tb) (hc:PD K X c tc)
  (hm:lastMarks [op,op'] [b,c]=false:=by with_unfolding_all rfl):PTD K X (.Compare a [op,op'] [b,c] pos) (aZ9 (dXb rd rd' ta tb tc)):=.of (dJk ho ho' ha.o hb.o hc.o hm) fun σ H Q q=>eQt h h' σ H _ (by
 obtain⟨F,S,Γ,QD,r,g,q,c⟩:=q;refine⟨F,S,Γ,_,r,g,q,λv d H1 G i y v1 ⟨b,e,B⟩=>?_⟩;subst e;exact⟨b,rbl v1,c b H1 G i y B⟩)
theorem fQv {a b c:Expr} {ta tb tc:ED} (ha:PD K X a ta) (hb:PD K X b tb) (hc:PD K X c tc) (hm:lastMarks [.Lt,.LtE] [b,c]=false:=by with_unfolding_all rfl) :
  PTD K X (.Compare a [.Lt,.LtE] [b,c] pos) (aZ9 (dXb (iiD0 λi j=>.bl (decide (i < j))) (iiD0 λi j=>.bl (decide (i<=j))) ta tb tc)):=eQu op_lt gZt eQh eQh ha hb hc hm
end
end L2
set_option maxHeartbeats 4000000
namespace L2
open PySem PySem.Spec PyProof.Rows
end L2
set_option maxHeartbeats 1000000
namespace L2
open PySem PySem.Spec PyProof.Rows
end L2
set_option maxHeartbeats 4000000
namespace L2
open PySem PySem.Spec PyProof.Rows
section
variable {X:Cx}
def eQv (w:aH) (K:Fg):List V->Hp->VK->Prop:=λxs H Q=>∃ x ms,xs=[x]/\dSt w K H x ms/\ms.Nodup/\ms.length < 64/\∀ l ys out,H l=none->out.Perm ms->out.Pairwise (λa b=>HT.lexS a b=true)->aZ (dT K dS H) ys out->Q (.ref l) (upd H l (.lst ys))
theorem bX1 {K:Fg} {w:aH} (hu:X.A.units + 8 < bU) (hK:X.K=K:=by rfl) (hw:X.w=w:=by rfl) (hc:X.calm=true:=by rfl):CallR X (.builtin "sorted") (eQv w K):=by
 subst hw;intro pins s σ H xs us Q I r h;obtain⟨x,ms,rfl,⟨p,es,ep,t,ps,rfl,hH,hf,O,Y,pp,rfl⟩,nd,h64,q⟩:=h;obtain⟨u,rfl,rx⟩:=aXd r;cases rx;obtain⟨hg,_⟩:=I.hok p _ hH;have hl:es.size=ps.length:=by have:=b7 pp;simpa using this
 have hpl':ps.length < 64:=by simpa using h64
 have hh:=I.ok.hd hc;refine gu kind_sorted plain_sorted entry_sorted (args_sorted1 _) ?_;unfold cu.«sorted»;refine ad (m:=checkCount "sorted" 1 1 _) (af ?_);refine ad (ST.collectT (by simp[hh]) hg hf O Y (by lia) λvals h1 d G kp=>?_)
 obtain⟨ps',y,B⟩:=ST.paired_perm G pp;have hvl:vals.length=ps'.length:=b7 B;have hpl2:ps'.length=ps.length:=y.length_eq;have I1:Inv X pins σ H { s with heap:=h1,drawn:=d }:=(I.kept (t':=s.toks) kp).drawn d
 refine ad (jP ?_ (by rw[bD];lia))
 have L:(h1.push (b3 "list" vals.toArray 0)).get? h1.objs.size=some (b3 "list" vals.toArray 0):=av _ rfl;refine ad (bF (cD slot_list_sort ⟨_,L,rfl⟩ entry_list_sort ?body (args_list_sort _)))
 case body =>
  refine KS.sort_tups (s:={ s with heap:=h1.push (b3 "list" vals.toArray 0),drawn:=d }) (ds:=ps'.map (·.2)) (by show X.A.units + 1 + 1 < _;lia) L (fJh I1 hK (λb o e=>ag _ e) B) ((y.map (·.2)).nodup_iff.mpr nd) (by lia) λidx h' c i1 i2 i3 g kk=>⟨_,rfl,af ⟨_,rfl,?_⟩⟩
  have Z:∀ i∈idx,i < vals.length:=λi hi=>bu.mp (i1.mem_iff.mp hi);have zv:=KS.paired_idx B ci (V.non,[]) idx Z;obtain⟨z1,z2⟩:=bXz zv;have eo:(idx.map λi=>(ps'.map (·.2)).getD i [])=(idx.map λi=>ps'.getD i (V.non,[])).map (·.2):=by
   rw[cM];exact d8 λi _=>cX3 ps' i
  rw[eo] at i2 i3;have U:H h1.objs.size=none:=I1.hok.fresh (au _);have sm:Same H (upd H h1.objs.size (.lst ((idx.map λi=>ps'.getD i (V.non,[])).map (·.1)))):=aQm U;have il:idx.length=vals.length:=by have:=i1.length_eq;simpa using this
  have I2:Inv X pins σ (upd H h1.objs.size (.lst ((idx.map λi=>ps'.getD i (V.non,[])).map (·.1)))) { s with heap:=h',drawn:=d }:=I1.laid (t':=s.toks) (λb o e=>kk b o (aG (aw e)) (ag _ e)) (au _)
   ⟨by simp only[aj];rw[bD];lia,_,c,z1,g⟩
  exact⟨.ref h1.objs.size,_,I2,rfl,q _ _ _ U (i3.trans (y.map (·.2))) i2 z2⟩
end
section
variable {X:Cx} {K:Fg} {pos:Pos} {k:Nat} {F:Am} {S:Sto} {H:Hp}
theorem Rp.ntup (r:Rp K F S H) {a:Addr} {xs:List V} (h:Rd H a (.tup xs)):¬ mt S F a:=λz=>by
 have no:∀ u,H a=some u->(∀ ys,u≠.tup ys)->(∀ o ys,u≠.frz o (.tup ys))->False:=λu e L G=>by
  rcases h with h | ⟨o,h⟩
  ·rw[e] at h;exact L _ (aK h)
  ·rw[e] at h;exact G _ _ (aK h)
 rcases z with z | z
 ·cases e:S a with
  | none=>exact z e
  | some o =>
   have q:=r.obj a o e;cases o with
   | lst ds=>obtain⟨us,i,_⟩:=q;exact no _ i (λ_ z=>by cases z) λ_ _ z=>by cases z
   | dk y=>obtain⟨us,i,_⟩:=q;exact no _ i (λ_ z=>by cases z) λ_ _ z=>by cases z
   | dt y=>obtain⟨us,i,_⟩:=q;exact no _ i (λ_ z=>by cases z) λ_ _ z=>by cases z
   | tb ps O=>obtain⟨us,i,_⟩:=q;exact no _ i (λ_ z=>by cases z) λ_ _ z=>by cases z
   | ex f hk hl=>obtain⟨us,i,B⟩:=hl _ _ _ q;exact no _ i (λ_ z=>by subst z;exact B) λ_ _ z=>by subst z;exact B
 ·obtain⟨⟨zs,e,ct⟩,_⟩:=r.frm a z;exact no _ e (λ_ z=>by subst z;exact ct) λ_ _ z=>by subst z;exact ct
theorem cXh (r:Rp K F S H):∀ {xs:List V} {ts:List (List Str)},aZ (dT K dS H) xs ts->RepL K (mt S F) H (ts.map tupS) xs
 | _,_,.nil=>RepL.nil
 | _,_,.cons ⟨a,us,e,sq,p⟩ q=>by
  refine RepL.cons ?_ (cXh r q);subst e;unfold tupS RepV;refine⟨a,us,rfl,?_,dZj p⟩;rcases sq with h | h
  ·exact .inl ⟨r.ntup h,h⟩
  ·exact .inr (.inr h)
def dXc (b:Bool) (te:ED):ED:=fun Γ S Q=>te Γ S λd S1=>∃ ts:List (List Str),lsIs S1 d (ts.map tupS)/\ts.length < 64/\∀ out:List (List Str),out.Nodup->(∀ t,t∈out↔t∈ts)->out.Pairwise (λa b=>HT.lexS a b=true)->newL b (out.map tupS) S1 Q
theorem bZf {b:Bool} {e:Expr} {te:ED} {p p' pos':Pos} (hr:Room k X.A) (hg:Gl X "sorted") (hm:X.mg "sorted"=none) (hg':Gl X "set") (hm':X.mg "set"=none) (he:PD K X e te) (hK:X.K=K:=by rfl) (hc:X.calm=true:=by rfl)
  (h1:am [e] X.env=(false,eval e X.env)::am [] X.env:=by rfl) (h2:am [j7 (.Name "set" p') [e] [] pos'] X.env=(false,eval (j7 (.Name "set" p') [e] [] pos') X.env)::am [] X.env:=by rfl) (h3:(bn pos (am [] X.env)).any (·.1)=false:=by rfl) (h4:(bn pos' (am [] X.env)).any (·.1)=false:=by rfl) :
  PD K X (.Call (.Name "sorted" p) [.Call (.Name "set" p') [e] [] pos'] [] pos) (dXc b te) :=
 .of (bQj (bX1 (lt64 hr) hK rfl hc) hg hm bQy (aX1 (aJc (cJj (lt64 hr) hK rfl hc) hg' hm' dQi (aX1 he.o aJb h1) (by decide) (by decide) h1 h4) aJb h2) (by decide) (by decide) h2 h3) fun σ H Q O=>O.el λF S Γ QD r g q c =>
 ⟨F,S,Γ,_,r,g,q,λv d H1 B Y L v1 ⟨ts,hl,y,Z⟩=>by
  obtain⟨a,us,rfl,sq,lu⟩:=lsIs.sl L v1 hl;refine⟨_,ts,rfl,⟨a,us,rfl,sq,bJ5 lu⟩,by lia,λp ms H2 s2 nd mem st=>⟨_,ms,rfl,st,nd,?_,λl ys out i pm pw pp=>?_⟩⟩
  ·exact jj (dQz nd mem).1 y
  ·have G:Rp K F B H2:=L.same s2;have U:Ext B H1 B H2:=Ext.same s2;exact Cn.new (Cn.shift c (Y.trans U)) G i (cXh G pp) (Z out (pm.nodup_iff.mpr nd) (λt=>(pm.mem_iff).trans (mem t)) pw)⟩
end
end L2
set_option maxHeartbeats 1000000
namespace L2
open PySem PySem.Spec PyProof.Rows
section
variable {X:Cx}
def dSs (w:aH):Dn (List Str):=λH v ms=>∃ p es ep t,v=.ref p/\H p=some (stO p es ep t)/\t.fits es.size=true/\t.led=ST.ledOf w/\(t.plain=true->es.size<=1)/\ky (es.toList.map (·.2)) ms
theorem bXe {P:aC} {w:aH} {h:aO}:∀ {es:List (Int × ae)} {ms:List Str},aZ (λ(e:Int × ae) k=>(ST.strKd P w).is h k e.2) es ms->ky (es.map (·.2)) ms
 | _,_,.nil=>.nil
 | (a,v)::es,m::ms,.cons p q=>by
  have i:∃ t,v=.str m t:=by
   have p:(eD P w).is m v=true:=p;simp only[eD] at p;cases v <;> simp[iy] at p;subst p;exact⟨_,rfl⟩
  obtain⟨t,rfl⟩:=i;exact .cons m t (bXe q)
def fQw (w:aH) (K:Fg):List V->Hp->VK->Prop:=λxs H Q=>∃ x ds,xs=[x]/\dL K dS H x ds/\ds.length + 1<=300/\∀ p ms H',Same H H'->ms.Nodup->(∀ k,k∈ms↔k∈ds)->dSs w H' (.ref p) ms->Q (.ref p) H'
theorem cZ8 {K:Fg} {w:aH} (hu:X.A.units + 8 < bU) (hK:X.K=K:=by rfl) (hw:X.w=w:=by rfl) (hc:X.calm=true:=by rfl):CallR X (.type "set") (fQw w K):=by
 subst hK hw;intro pins s σ H xs us Q I r h;obtain⟨x,ds,rfl,⟨a,ys,rfl,Z,p⟩,hn,q⟩:=h;obtain⟨u,rfl,rx⟩:=aXd r;cases rx;obtain⟨Y,L,pl,_⟩:=I.list Z;refine ST.call_setK (ST.strKd X.prog X.w) (I.ok.hd hc) hu pl.isList (dZ0 p L) (by rw[ar,<- L.length,p.length];exact hn) λh' O ms M _ hk=>?_
 obtain⟨es,G,t,y,i,hp⟩:=M.ex;have B:H s.heap.objs.size=none:=I.hok.fresh (au _);have U:Same H (upd H s.heap.objs.size (stO s.heap.objs.size es G t)):=aQm B;refine⟨.ref s.heap.objs.size,_,I.laid (t':=O) (o:=stO s.heap.objs.size es G t) (λb o e=>hk b o (aw e) e) (au _) ?_,rfl,q _ _ _ U M.nd M.mem ⟨_,es,G,t,rfl,aQc,(ST.strKd X.prog X.w).fits y,i,λz=>(ST.strKd X.prog X.w).few rfl y hp M.nd z,bXe hp⟩⟩;exact⟨(ST.strKd X.prog X.w).obj y,⟨_,(ST.strKd X.prog X.w).obj y⟩,λg1 g2 g k=>k _ g⟩
theorem cQ7 {l l':List ae} (p:l'.Perm l):∀ {m:List Str},ky l m->∃ m',m'.Perm m/\ky l' m':=by
 induction p with
 | nil=>intro m h;exact⟨m,.refl _,h⟩
 | cons x p Y =>
  intro m h;cases h with
  | cons y t r =>
   obtain⟨m',O,h'⟩:=Y r;exact⟨_::m',O.cons _,.cons _ _ h'⟩
 | swap x y l =>
  intro m h;cases h with
  | cons y t r =>
   cases r with
   | cons z u r=>exact⟨_,.swap _ _ _,.cons _ _ (.cons _ _ r)⟩
 | trans p q B i =>
  intro m h;obtain⟨Z,L,h1⟩:=i h;obtain⟨U,G,h2⟩:=B h1;exact⟨U,G.trans L,h2⟩
def fQx (w:aH):List V->Hp->VK->Prop:=λxs H Q=>∃ x ms,xs=[x]/\dSs w H x ms/\ms.Nodup/\ms.length < 64/\∀ (l:Addr) (out:List Str),H l=none->out.Perm ms->out.Pairwise (λa b=>HT.ltS a b=true)->Q (.ref l) (upd H l (.lst (out.map V.str)))
theorem bJ7 {w:aH} (hw:X.w=w:=by rfl) (hc:X.calm=true:=by rfl):CallR X (.builtin "sorted") (fQx w):=by
 subst hw;intro pins s σ H xs us Q I r h;obtain⟨x,ms,rfl,⟨p,es,ep,t,rfl,hH,hf,O,Y,pp⟩,nd,h64,q⟩:=h;obtain⟨u,rfl,rx⟩:=aXd r;cases rx;obtain⟨hg,_⟩:=I.hok p _ hH;have hl:es.size=ms.length:=by have:=pp.length;simpa using this
 have hh:=I.ok.hd hc;refine gu kind_sorted plain_sorted entry_sorted (args_sorted1 _) ?_;unfold cu.«sorted»;refine ad (m:=checkCount "sorted" 1 1 _) (af ?_);refine ad (ST.collectT (by simp[hh]) hg hf O Y (by omega) λvals h1 d L kp=>?_)
 obtain⟨ms',i,y⟩:=cQ7 L pp;have hvl:vals.length=ms'.length:=y.length;have hml:ms'.length=ms.length:=i.length_eq;have I1:Inv X pins σ H { s with heap:=h1,drawn:=d }:=(I.kept (t':=s.toks) kp).drawn d
 refine ad (jP ?_ (by rw[bD];omega))
 have B:(h1.push (b3 "list" vals.toArray 0)).get? h1.objs.size=some (b3 "list" vals.toArray 0):=av _ rfl;refine ad (bF (cD slot_list_sort ⟨_,B,rfl⟩ entry_list_sort (list_sort_treeK strKind_oneLt (s:={ s with heap:=h1.push (b3 "list" vals.toArray 0),drawn:=d }) B y.keysOf (λv₁ v₂ rest e=>keyKind_strs (by rw[<- e];exact y)) (by omega) λG a1 a2=>⟨_,rfl,?_⟩) (args_list_sort _)))
 refine af ⟨_,rfl,?_⟩;obtain⟨out,o1,U,o3⟩:=sorted_out_str y a1 a2;obtain⟨v1,_⟩:=bJ0 (H:=H) o1;have Z:H h1.objs.size=none:=I1.hok.fresh (au _);obtain⟨e,he⟩:=sortedHeap_at (out:=(arrOf G).map (·.2)) B;have hol:=U.length_eq;have I2:Inv X pins σ (upd H h1.objs.size (.lst (out.map V.str))) { s with heap:=sortedHeap (h1.push (b3 "list" vals.toArray 0)) h1.objs.size vals ((arrOf G).map (·.2)),drawn:=d }:=I1.laid (t':=s.toks) (λb o g=>(sortedHeap_old (aG (aw g)) (fc (aw g) (aw B))).trans (ag _ g)) (au _)
  ⟨by rw[aj,bD];omega,((arrOf G).map (·.2)).toList,e,v1,by rw[Array.toArray_toList];exact he⟩
 exact⟨.ref h1.objs.size,_,I2,rfl,q _ _ Z (U.trans i) (eZw o3 ((U.trans i).nodup_iff.mpr nd))⟩
end
section
variable {X:Cx} {K:Fg} {pos:Pos} {k:Nat}
theorem gQq {M:Am} {H:Hp}:∀ ss:List Str,RepL K M H (ss.map D.str) (ss.map V.str)
 | []=>RepL.nil
 | s::ss=>RepL.cons (by unfold RepV;rfl) (gQq ss)
def eQw (b:Bool) (te:ED):ED:=fun Γ S Q=>te Γ S λd S1=>∃ ss:List Str,lsIs S1 d (ss.map D.str)/\ss.length < 300/\(∀ out:List Str,out.Nodup->(∀ t,t∈out↔t∈ss)->out.length < 64)/\∀ out:List Str,out.Nodup->(∀ t,t∈out↔t∈ss)->out.Pairwise (λa b=>HT.ltS a b=true)->newL b (out.map D.str) S1 Q
theorem cQ8 {b:Bool} {e:Expr} {te:ED} {p p' pos':Pos} (hr:Room k X.A) (hg:Gl X "sorted") (hm:X.mg "sorted"=none) (hg':Gl X "set") (hm':X.mg "set"=none) (he:PD K X e te) (hK:X.K=K:=by rfl) (hc:X.calm=true:=by rfl)
  (h1:am [e] X.env=(false,eval e X.env)::am [] X.env:=by rfl) (h2:am [j7 (.Name "set" p') [e] [] pos'] X.env=(false,eval (j7 (.Name "set" p') [e] [] pos') X.env)::am [] X.env:=by rfl) (h3:(bn pos (am [] X.env)).any (·.1)=false:=by rfl) (h4:(bn pos' (am [] X.env)).any (·.1)=false:=by rfl) :
  PD K X (.Call (.Name "sorted" p) [.Call (.Name "set" p') [e] [] pos'] [] pos) (eQw b te) :=
 .of (bQj (bJ7 rfl hc) hg hm bQy (aX1 (aJc (cZ8 (lt64 hr) hK rfl hc) hg' hm' dQi (aX1 he.o aJb h1) (by decide) (by decide) h1 h4) aJb h2) (by decide) (by decide) h2 h3) fun σ H Q O=>O.el λF S Γ QD r g q c =>
 ⟨F,S,Γ,_,r,g,q,λv d H1 B Y G v1 ⟨ss,hl,L,y,q1⟩=>by
  obtain⟨a,us,rfl,sq,lu⟩:=lsIs.sl G v1 hl;refine⟨_,ss,rfl,⟨a,us,rfl,sq,aJw lu⟩,by omega,λp ms H2 s2 nd mem st=>⟨_,ms,rfl,st,nd,y ms nd mem,λl out i pm pw=>?_⟩⟩
  have Z:Rp K F B H2:=G.same s2;have U:Ext B H1 B H2:=Ext.same s2;exact Cn.new (Cn.shift c (Y.trans U)) Z i (gQq out) (q1 out (pm.nodup_iff.mpr nd) (λt=>(pm.mem_iff).trans (mem t)) pw)⟩
end
end L2
set_option maxHeartbeats 4000000
namespace L2
open PySem PySem.Spec PyProof.Rows
end L2
set_option maxHeartbeats 1000000
namespace L2
open PySem PySem.Spec PyProof.Rows
end L2
namespace ST
open PySem PySem.SetTable PySem.Spec PyProof.Rows
end ST
namespace L2
open PySem PySem.Spec PyProof.Rows
section
variable {X:Cx} {K:Fg} {pos:Pos} {k:Nat} {κ:Type}
theorem bJ8 {α β:Type} {f:α->β} (hf:∀ x y,f x=f y->x=y):∀ {l m:List α},l.map f=m.map f->l=m
 | [],[],_=>rfl
 | [],_::_,h=>by cases h
 | _::_,[],h=>by cases h
 | x::l,y::m,h=>by
  rw[a9,a9] at h;injection h with h1 h2
  rw[hf _ _ h1,bJ8 hf h2]
theorem eQx (x y:List Str) (h:tupS x=tupS y):x=y:=by
 unfold tupS at h;injection h with h
 exact bJ8 (λa b e=>by injection e) h
end
end L2
set_option maxHeartbeats 4000000
namespace HT
open PySem PyProof.Rows
def LtAt (A:aQ) (s:ai) (u v:ae) (b:Bool):Prop:=∀ (prog:aC) (w:aH) (E:ae->ai->Prop) (Q:ae->ai->Prop),Q (.bool b) s->ay (az prog w) A (richCompare .Lt u v) Q E s
inductive LexAt (A:aQ) (s:ai):List ae->List ae->Bool->Prop
 | nn:LexAt A s [] [] false
 | nc {v vs}:LexAt A s [] (v::vs) true
 | cn {u us}:LexAt A s (u::us) [] false
 | eq {u v us vs b}:cR A s u v true->LexAt A s us vs b->LexAt A s (u::us) (v::vs) b
 | ne {u v us vs b}:cR A s u v false->LtAt A s u v b->LexAt A s (u::us) (v::vs) b
section
open PySem.SeqAt
open PySem.AutoSeq1 (wpAny_loadPart')
open PySem.MeetsSeq PySem.MeetsSeq2 PySem.MeetsSeq3
theorem cXi {A:aQ} {s:ai}:∀ {us vs:List ae} {o:Bool},LexAt A s us vs o->us.zip vs=[]->o=decide (us.length < vs.length)
 | _,_,_,.nn,_=>by simp
 | _,_,_,.nc,_=>by simp
 | _,_,_,.cn,_=>by simp
 | _,_,_,.eq _ _,h=>by rw[cK] at h;cases h
 | _,_,_,.ne _ _,h=>by rw[cK] at h;cases h
theorem cQ9 (l b:Addr) (items items2:Array ae) (n n2:Nat) (dd dd2:Option Addr) (sl sl2:Array (Option ae)) (o:Bool) :
  Meets (cu.«tuple.__lt__» ⟨[.ref l,.ref b],[]⟩)
   (λA R s=>s.heap.get? l=some { cls:=.type "tuple",dict:=dd,data:=.seq items n,slots:=sl }/\s.heap.get? b=some { cls:=.type "tuple",dict:=dd2,data:=.seq items2 n2,slots:=sl2 } /\
    LexAt A.in1 s items.toList items2.toList o/\R (.ok (.ret (.bool o))) s) :=
 .of_wp λprog w A R s h=>by
  obtain⟨hp,g,d,tk,os⟩:=s;obtain⟨hl,hb,hx,h⟩:=h;have f2:=gB;have z1:items.size=items.toList.length:=by simp
  have z2:items2.size=items2.toList.length:=by simp
  wp_walk using bf hl,bf hb,gk _ (λrest b s'=>b.1=none/\s'=⟨hp,g,d,tk,os⟩/\∃ (vs ws:List ae),rest=vs.zip ws /\
   LexAt A.in1 ⟨hp,g,d,tk,os⟩ vs ws o/\vs.length + items2.size=ws.length + items.size) _
  case turn =>
   rintro⟨y,x⟩ rest b s' ⟨O,rfl,vs,ws,hz,hx,hlen⟩;cases hx with
   | nn=>rw[fT] at hz;cases hz
   | nc=>rw[fT] at hz;cases hz
   | cn=>rw[b0] at hz;cases hz
   | eq he hx =>
    rw[cK] at hz;injection hz with G B
    injection G with U L
    subst U L;simp only[aF] at hlen;refine ad (he prog w _ _ ?_)
    wp_walk
    exact⟨rfl,rfl,_,_,B,hx,by lia⟩
   | ne he Z =>
    rw[cK] at hz;injection hz with G B
    injection G with U L
    subst U L;refine ad (he prog w _ _ ?_);have Y:=λQ E h=>Z prog w E Q h
    wp_walk using Y
    exact⟨_,rfl,by simpa using h⟩
  case fin =>
   rintro⟨b1,b2⟩ s' ⟨O,rfl,vs,ws,hz,hx,hlen⟩;simp only at O;subst O;have hv:o=decide (items.size < items2.size):=by
    rw[cXi hx hz.symm]
    congr 1
    apply propext;lia
   rw[hv] at h
   wp_walk
   exact⟨_,rfl,by simpa [fq] using h⟩
  case h =>
   exact⟨rfl,rfl,items.toList,items2.toList,rfl,hx,by lia⟩
theorem cZ9 (l b:Addr) (us vs:Array ae) (n n2:Nat) (dd dd2:Option Addr) (sl sl2:Array (Option ae)) (o:Bool) (k:Nat):∀ i:Nat,us.size - i=k->i<=us.size->i<=vs.size ->
  Meets (cu.«list.__eq__.loop» ⟨[.ref l,.ref b,eG i,eG 0],[]⟩) (λA R s=>(s.heap.get? l=some { cls:=.type "list",dict:=dd,data:=.seq us n,slots:=sl }/\s.heap.get? b=some { cls:=.type "list",dict:=dd2,data:=.seq vs n2,slots:=sl2 }) /\
   LexAt A.in1 s (us.toList.drop i) (vs.toList.drop i) o/\R (.ok (.ret (.bool o))) s):=by
 have dn:∀ (xs:Array ae) (i:Nat),xs.size<=i->xs.toList.drop i=[]:=λxs i h=>er (by simpa using h)
 have Y:∀ (xs:Array ae) (i:Nat) (h:i < xs.size),xs.toList.drop i=xs[i]::xs.toList.drop (i + 1):=λxs i h=>by rw[eR (by simpa using h)];simp
 have an:∀ (xs:Array ae) (i:Nat),xs.size<=i->xs[((i:Nat):Int).toNat]?=none:=λxs i h=>by simp;exact h
 have ac:∀ (xs:Array ae) (i:Nat) (h:i < xs.size),xs[((i:Nat):Int).toNat]?=some xs[i]:=λxs i h=>by simp[h]
 have tail:∀ {A:aQ} {s:ai} {o:Bool} {i:Nat},i<=us.size->i<=vs.size->us.size<=i\/vs.size<=i->LexAt A s (us.toList.drop i) (vs.toList.drop i) o->o=decide (us.size < vs.size):=λ{A s o i} h1 h2 h hx=>by
  have hz:(us.toList.drop i).zip (vs.toList.drop i)=[]:=by rcases h with h | h <;> rw[dn _ _ h] <;> simp
  rw[cXi hx hz]
  congr 1
  apply propext;simp;lia
 induction k with
 | zero =>
  intro i hk hi B prog w A R s h;obtain⟨hp,g,d,Z,os⟩:=s;obtain⟨⟨gl,G⟩,hx,h⟩:=h
  wp_walk using bf gl,bf G
  rw[an us i (by lia)]
  wp_walk using bf gl,bf G
  rw[tail hi B (.inl (by lia)) hx] at h
  exact h
 | succ k ih =>
  intro i hk hi B prog w A R s h;obtain⟨hp,g,d,Z,os⟩:=s;obtain⟨⟨gl,G⟩,hx,h⟩:=h
  wp_walk using bf gl,bf G
  rw[ac us i (by lia)]
  rcases bO i vs.size with L | L
  ·rw[ac vs i L];have hc:((i:Int) + 1)=((i + 1:Nat):Int):=by push_cast;rfl
   rw[Y us i (by lia),Y vs i L] at hx
   cases hx with
   | eq he hx =>
    refine ad (he prog w _ _ ?_)
    wp_walk
    rw[hc];exact⟨cP plain_eq_loop _,bC entry_eq_loop (by
     rw[a8 plain_eq_loop _];exact ih (i + 1) (by lia) (by lia) (by lia) prog w A R _ ⟨⟨gl,G⟩,hx,h⟩)⟩
   | ne he U =>
    refine ad (he prog w _ _ ?_)
    wp_walk using bf gl,bf G
    rw[ac us i (by lia),ac vs i L]
    have O:=λQ E h=>U prog w E Q h
    wp_walk using O
    exact h
  ·rw[an vs i L]
   wp_walk using bf gl,bf G
   rw[tail hi B (.inr L) hx] at h;exact h
theorem gQr (l b:Addr) (us vs:Array ae) (n n2:Nat) (dd dd2:Option Addr) (sl sl2:Array (Option ae)) (o:Bool) :
  Meets (cu.«list.__lt__» ⟨[.ref l,.ref b],[]⟩) (λA R s=>(s.heap.get? l=some { cls:=.type "list",dict:=dd,data:=.seq us n,slots:=sl }/\s.heap.get? b=some { cls:=.type "list",dict:=dd2,data:=.seq vs n2,slots:=sl2 }) /\
   LexAt A.in1 s us.toList vs.toList o/\R (.ok (.ret (.bool o))) s):=by
 intro prog w A R s h;obtain⟨hp,g,d,L,os⟩:=s;obtain⟨⟨gl,y⟩,G,h⟩:=h;have B:=AutoSeq1.sub_list_list
 wp_walk using bf gl,bf y
 exact⟨cP plain_eq_loop _,bC entry_eq_loop (by
  rw[a8 plain_eq_loop _];exact cZ9 l b us vs n n2 dd dd2 sl sl2 o _ 0 rfl (bL _) (bL _) prog w A R _ ⟨⟨gl,y⟩,G,h⟩)⟩
end
theorem ltAt_lst {A:aQ} {s:ai} {l b:Addr} {us vs:Array ae} {o:Bool} (hl:s.heap.IsList l us) (hb:s.heap.IsList b vs) (hx:LexAt A.in1 s us.toList vs.toList o) (hu:A.units < bU):LtAt A s (.ref l) (.ref b) o:=by
 intro prog w E Q h;obtain⟨⟨cls,dd,data,sl⟩,L,O,n,hd⟩:=id hl;obtain⟨⟨U,G,data2,B⟩,i,y,Y,hd2⟩:=id hb;simp only at O hd y hd2;subst O hd y hd2;exact fE (op:=.Lt) ⟨_,L,rfl⟩ ⟨_,i,rfl⟩ PySem.F.slot_list_lt PySem.F.entry_list_lt (PySem.F.args_list_lt_2 _ _) (gQr l b us vs n Y dd G sl B o) ⟨⟨L,i⟩,hx,show gF o≠f6/\Q (.bool o) s from⟨(λx=>nomatch x),h⟩⟩ hu
theorem ltAt_tup {A:aQ} {s:ai} {l b:Addr} {items items2:Array ae} {o:Bool} (hl:iF s.heap l items) (hb:iF s.heap b items2) (hx:LexAt A.in1 s items.toList items2.toList o) (hu:A.units < bU):LtAt A s (.ref l) (.ref b) o:=by
 intro prog w E Q h;obtain⟨⟨cls,dd,data,sl⟩,L,O,n,hd⟩:=id hl;obtain⟨⟨U,G,data2,B⟩,i,y,Y,hd2⟩:=id hb;simp only at O hd y hd2;subst O hd y hd2;exact fE (op:=.Lt) ⟨_,L,rfl⟩ ⟨_,i,rfl⟩ fP g9 (gN _ _) (cQ9 l b items items2 n Y dd G sl B o)
  ⟨L,i,hx,show gF o≠f6/\Q (.bool o) s from⟨(λx=>nomatch x),h⟩⟩ hu
end HT
namespace L2
open PySem PySem.Spec PyProof.Rows
def lexN (lt:D->D->Bool):List D->List D->Bool
 | [],[]=>false
 | [],_::_=>true
 | _::_,[]=>false
 | x::xs,y::ys=>if x=y then lexN lt xs ys else lt x y
def ltN:Nat->D->D->Bool
 | _,.int i,.int j=>decide (i < j)
 | _,.str x,.str y=>HT.ltS x y
 | n + 1,.tup xs,.tup ys=>lexN (ltN n) xs ys
 | n + 1,.lst xs,.lst ys=>lexN (ltN n) xs ys
 | _,_,_=>false
def okLs (ok:D->D->Bool) (n:Nat):List D->List D->Bool
 | x::xs,y::ys=>okE n x y && (if x=y then okLs ok n xs ys else ok x y)
 | _,_=>true
def okL:Nat->D->D->Bool
 | _,.int _,.int _=>true
 | _,.str _,.str _=>true
 | n + 1,.tup xs,.tup ys=>okLs (okL n) n xs ys
 | n + 1,.lst xs,.lst ys=>okLs (okL n) n xs ys
 | _,_,_=>false
section
variable {X:Cx} {pins:List (Addr × Obj)} {σ:St} {H:Hp} {s:ai} {M:Am}
theorem dXd {n:Nat} {A:aQ} (heq:∀ {d e:D} {x y:V} {u v:ae},RepV X.K M H d x->RepV X.K M H e y->RelV x u->RelV y v->okE n d e=true->cR A s u v (decide (d=e)))
  (hlt:∀ {d e:D} {x y:V} {u v:ae},RepV X.K M H d x->RepV X.K M H e y->RelV x u->RelV y v->okL n d e=true->HT.LtAt A s u v (ltN n d e)) :
  ∀ {ds es:List D} {xs ys:List V} {us vs:List ae},RepL X.K M H ds xs->RepL X.K M H es ys->Vals xs us->Vals ys vs->okLs (okL n) n ds es=true->HT.LexAt A s us vs (lexN (ltN n) ds es)
 | [],[],_,_,_,_,p,q,r,t,_=>by
  unfold RepL at p q;subst p;subst q;cases r;cases t;exact .nn
 | [],e::es,_,_,_,_,p,q,r,t,_=>by
  unfold RepL at p q;subst p;obtain⟨v,vs,rfl,_,_⟩:=q;cases r;cases t;exact .nc
 | d::ds,[],_,_,_,_,p,q,r,t,_=>by
  unfold RepL at p q;subst q;obtain⟨v,vs,rfl,_,_⟩:=p;cases r;cases t;exact .cn
 | d::ds,e::es,_,_,_,_,p,q,r,t,o=>by
  unfold RepL at p q;obtain⟨x,xs,rfl,L,p2⟩:=p;obtain⟨y,ys,rfl,G,U⟩:=q;cases r with
  | cons B O =>
   cases t with
   | cons t1 t2 =>
    unfold okLs at o;rw[aI] at o;have h1:=heq L G B t1 o.1;unfold lexN
    by_cases i:d=e
    ·rw[if_pos i];rw[if_pos i] at o;rw[decide_eq_true i] at h1;exact .eq h1 (dXd heq hlt p2 U O t2 o.2)
    ·rw[if_neg i];rw[if_neg i] at o;rw[decide_eq_false i] at h1;exact .ne h1 (hlt L G B t1 o.2)
theorem gXp (I:Inv X pins σ H s):∀ (n:Nat) {A:aQ} {d e:D} {x y:V} {u v:ae},A.units + n < bU->RepV X.K M H d x->RepV X.K M H e y->RelV x u->RelV y v->okL n d e=true->HT.LtAt A s u v (ltN n d e):=by
 intro n
 induction n with
 | zero =>
  intro A d e x y u v Y h h' r r' o;cases d <;> cases e <;> first | (cases o;done) | skip
  all_goals unfold RepV at h h';subst h;subst h';obtain⟨t,rfl⟩:=r;obtain⟨B,rfl⟩:=r'
  ·intro prog w E Q q;exact(kZ q:ay (az prog w) A (bM .Lt _ _) Q E s)
  ·intro prog w E Q q;exact HT.rcLt_st A s _ _ _ _ prog w E Q q
 | succ n U =>
  intro A d e x y u v Y h h' r r' o;cases d <;> cases e <;> first | (cases o;done) | skip
  ·unfold RepV at h h';subst h;subst h';obtain⟨t,rfl⟩:=r;obtain⟨B,rfl⟩:=r';intro prog w E Q q;exact(kZ q:ay (az prog w) A (bM .Lt _ _) Q E s)
  ·unfold RepV at h h';subst h;subst h';obtain⟨t,rfl⟩:=r;obtain⟨B,rfl⟩:=r';intro prog w E Q q;exact HT.rcLt_st A s _ _ _ _ prog w E Q q
  ·rename_i ds es;unfold RepV at h h';obtain⟨a,xs,rfl,t,l⟩:=h;obtain⟨b,ys,rfl,B,O⟩:=h';cases r;cases r';obtain⟨us,L,pl,_⟩:=I.tuple t.sq;obtain⟨vs,G,i,_⟩:=I.tuple B.sq;refine HT.ltAt_tup pl i ?_ (by lia)
   exact dXd (λp q r r' o=>(eq3 I n (show A.units + 1 + n < bU by lia) p q r r' o).eq) (λp q r r' o=>U (show A.units + 1 + n < bU by lia) p q r r' o) l O L G o
  ·rename_i ds es;unfold RepV at h h';obtain⟨a,xs,rfl,t,l⟩:=h;obtain⟨b,ys,rfl,B,O⟩:=h';cases r;cases r';obtain⟨us,L,pl,_⟩:=I.list t.sq;obtain⟨vs,G,i,_⟩:=I.list B.sq;refine HT.ltAt_lst pl.isList i.isList ?_ (by lia)
   exact dXd (λp q r r' o=>(eq3 I n (show A.units + 1 + n < bU by lia) p q r r' o).eq) (λp q r r' o=>U (show A.units + 1 + n < bU by lia) p q r r' o) l O L G o
end
end L2
set_option maxHeartbeats 1000000
namespace L2
open PySem PySem.Spec PyProof.Rows
def Kp (h h':aO):Prop:=∀ b o,h.get? b=some o->h'.get? b=some o
section
variable {prog:aC} {w:aH} {A:aQ} {R:jK->ai->Prop} {s0:ai} {vs:List ae} {I S:Addr} {fp:List Addr} {St:Nat->aO->Prop} {bt:Nat->Nat->Bool} {kw:List (Str × ae)}
theorem eQy (W:Walks prog w A.in1 I fp [I] vs.length (λi v=>vs[i]?=some v) St) (hI:s0.heap.objs.size<=I) (hS:s0.heap.objs.size<=S) (hSf:S∉fp) (hIf:I∈fp)
  (cmp:∀ i j vi vj h tk,vs[i]?=some vi->vs[j]?=some vj->Kp s0.heap h->HT.LtAt A.in1 { s0 with heap:=h,toks:=tk } vi vj (bt i j))
  (fin:∀ v h tk,vs[fj bt (vs.length - 1)]?=some v->Kp s0.heap h->R (.ok (.ret v)) { s0 with heap:=h,toks:=tk }) :
  ∀ (left j:Nat) (h:aO) (tk:Nat) (vb:ae) (c:Nat),j + 1 + left=vs.length->Kp s0.heap h->St (j + 1) h->vs[fj bt j]?=some vb->h.get? S=some (b3 "list" #[vb,vb] c) ->
   d9 (az prog w) A (.builtin "min.loop" ⟨[.ref I,.none,.ref S],kw⟩) R { s0 with heap:=h,toks:=tk }:=by
 have Y:S≠I:=by rintro rfl;exact hSf hIf
 have nI:∀ b o,s0.heap.get? b=some o->b≠I:=λb o e z=>absurd (aw e) (by rw[z];exact gH.mpr (by assumption))
 have nS:∀ b o,s0.heap.get? b=some o->b≠S:=λb o e z=>absurd (aw e) (by rw[z];exact gH.mpr (by assumption))
 have word:(toString "min"++toString ".loop":String)="min.loop":=by decide
 intro left
 induction left with
 | zero =>
  intro j h tk vb c hj kp st Z U;refine bC F.entry_min_loop ?_;rw[a8 F.plain_min_loop _];show ay (az prog w) A.in1 (io (.ref S) >>= _) _ _ { s0 with heap:=h,toks:=tk }
  refine ad (bR U rfl ?_);show ay (az prog w) A.in1 (kW (eP (.ref I)) _ >>= _) _ _ { s0 with heap:=h,toks:=tk }
  refine ad (fB (W.done { s0 with heap:=h,toks:=tk } _ _ ((show j + 1=vs.length from hj) ▸ st) λh1 y O=>?_))
  have B:=O S _ (by simpa using Y) U
  show ay (az prog w) A.in1 (j4 S (λ_=>#[]) >>= _) _ _ _;refine ad ?_;refine d6 B rfl (ad (f7 (af (fin vb _ y ?_ λb o e=>?_))))
  ·have e:vs.length - 1=j:=by omega
   rw[e];exact Z
  ·exact(aX _ _ (bj (nS b o e))).trans (O b o (by simpa using nI b o e) (kp b o e))
 | succ left ih =>
  intro j h tk vb c hj kp st Z U;refine bC F.entry_min_loop ?_;rw[a8 F.plain_min_loop _];show ay (az prog w) A.in1 (io (.ref S) >>= _) _ _ { s0 with heap:=h,toks:=tk }
  refine ad (bR U rfl ?_);show ay (az prog w) A.in1 (kW (eP (.ref I)) _ >>= _) _ _ { s0 with heap:=h,toks:=tk }
  refine ad (fB (W.item (j + 1) { s0 with heap:=h,toks:=tk } _ _ (by omega) st λv h1 y hv L O=>?_))
  have B:=O S _ (by simpa using Y) U
  have G:Kp s0.heap h1:=λb o e=>O b o (by simpa using nI b o e) (kp b o e)
  show ay (az prog w) A.in1 (kW (dX [v,v] (richCompare .Lt v vb >>= _)) _ >>= _) _ _ _;refine ad (fB (bF (ad (cmp (j + 1) (fj bt j) v vb h1 y hv Z G _ _ _ _ ?_))));refine ad (bF (da (ad (f7 (af ?_)))));cases e:bt (j + 1) (fj bt j) with
  | true =>
   rw[if_pos rfl];refine ad ?_;refine d6 B rfl (ad (f7 ?_));rw[word];have hs2:(h1.update S (bQ λ_=>#[v,v])).get? S=some (b3 "list" #[v,v] _):=fK B λ_=>#[v,v];refine af ⟨cP F.plain_min_loop _,ih (j + 1) _ y v _ (by omega) (λb o eo=>(aX _ _ (bj (nS b o eo))).trans (G b o eo)) (W.frame _ _ _ L λb hb' o eo=>?_) ?_ hs2⟩
   ·exact(aX _ _ (λz:S=b=>hSf (by rw[z];exact hb'))).trans eo
   ·simp only[fj,e,if_true];exact hv
  | false =>
   rw[if_neg (by simp)]
   refine ad (f7 ?_);rw[word];refine af ⟨cP F.plain_min_loop _,ih (j + 1) h1 y vb c (by omega) G L ?_ B⟩
   simp only[fj,e,aE,if_false];exact Z
theorem eQz {E:ae->ai->Prop} {x:ae} {Q:ae->ai->Prop} {s:ai} (kwOk:(kw=[]/\vs≠[])\/∃ d,kw=[(aN "default",d)]/\(vs=[]->∀ h tk,Kp s.heap h->Q d { s with heap:=h,toks:=tk }))
  (it:∀ R':ae->ai->Prop,(∀ I h fp St,s.heap.objs.size<=I->I∈fp->(∀ b∈fp,b < h.objs.size)->Kp s.heap h->St 0 h->Walks prog w A.in1 I fp [I] vs.length (λi v=>vs[i]?=some v) St->R' (.ref I) { s with heap:=h })->ay (az prog w) A.in1 (jJ x) R' E s)
  (cmp:∀ i j vi vj h tk,vs[i]?=some vi->vs[j]?=some vj->Kp s.heap h->HT.LtAt A.in1 { s with heap:=h,toks:=tk } vi vj (bt i j))
  (fin:∀ v h tk,vs[fj bt (vs.length - 1)]?=some v->Kp s.heap h->Q v { s with heap:=h,toks:=tk }) :
  ay (az prog w) A (call (.builtin "min") [x] kw) Q E s:=by
 have word:(toString "min"++toString ".loop":String)="min.loop":=by decide
 have args:argsOk "min" ⟨[x],kw⟩:=by
  rcases kwOk with⟨e,_⟩ | ⟨d,e,_⟩
  ·rw[e];exact F.args_min1 _
  ·rw[e];unfold argsOk;kernel_rfl
 refine kmk_tree F.kind_min F.plain_min F.entry_min args ?_;have bp:∃ od,fU "min" ["key", "default"] 0 ⟨[],kw⟩=pure [none,od]/\(od.toList.map λd=>(aN "default",d))=kw:=by
  rcases kwOk with⟨e,_⟩ | ⟨d,e,_⟩
  ·rw[e];exact⟨none,rfl,rfl⟩
  ·rw[e];exact⟨some d,rfl,rfl⟩
 obtain⟨od,bp,ekw⟩:=bp;show ay (az prog w) A.in1 (fU "min" ["key", "default"] 0 ⟨[],kw⟩ >>= _) _ _ s;refine ad (iG bp ?_);show ay (az prog w) A.in1 (pure x >>= λitems=>jJ items >>= _) _ _ s;refine ad (af ?_);refine ad (it _ λI h fp St hI O hfp kp st W=>ad (bi ?_));rw[word];have L:h.objs.size∉fp:=λz=>cE _ (hfp _ z);have hS:s.heap.objs.size<=h.objs.size:=by
  rcases bO h.objs.size s.heap.objs.size with z | z
  ·exact absurd (aT (hfp I O) (gP (aT z hI))) (cE _)
  ·exact z
 rw[ekw];show ay (az prog w) A.in1 (again (Code.builtin "min.loop" ⟨[.ref I,.none,.ref h.objs.size],kw⟩)) _ _ { s with heap:=h.push (b3 "list" #[] 0) }
 have hs1:(h.push (b3 "list" #[] 0)).get? h.objs.size=some (b3 "list" #[] 0):=av _ rfl;have Y:Kp s.heap (h.push (b3 "list" #[] 0)):=λb o e=>ag _ (kp b o e);have U:St 0 (h.push (b3 "list" #[] 0)):=W.frame _ _ _ st λb _ o e=>ag _ e;have hSI:h.objs.size≠I:=by rintro e;exact L (by rw[e];exact O)
 have nI:∀ b o,s.heap.get? b=some o->b≠I:=λb o e z=>absurd (aw e) (by rw[z];exact gH.mpr (by assumption))
 have nS:∀ b o,s.heap.get? b=some o->b≠h.objs.size:=λb o e z=>absurd (aw e) (by rw[z];exact gH.mpr (by assumption))
 refine af ⟨cP F.plain_min_loop _,bC F.entry_min_loop ?_⟩;rw[a8 F.plain_min_loop _];show ay (az prog w) A.in1 (io (.ref h.objs.size) >>= _) _ _ { s with heap:=h.push (b3 "list" #[] 0) }
 refine ad (bR hs1 rfl ?_);show ay (az prog w) A.in1 (kW (eP (.ref I)) _ >>= _) _ _ { s with heap:=h.push (b3 "list" #[] 0) }
 by_cases y:vs=[]
 ·rcases kwOk with⟨_,e⟩ | ⟨d,e,hd⟩
  ·exact absurd y e
  ·subst e;refine ad (fB (W.done { s with heap:=h.push (b3 "list" #[] 0) } _ _ (by rw[y];exact U) λh1 G k1=>?_))
   show ay (az prog w) A.in1 (rule _ >>= _) _ _ _;exact ad (fD (af (hd y h1 G λb o e=>k1 b o (by simpa using nI b o e) (Y b o e))))
 ·have hn:0 < vs.length:=c8.mpr y;refine ad (fB (W.item 0 { s with heap:=h.push (b3 "list" #[] 0) } _ _ hn U λv h1 G hv st2 k1=>?_))
  have Z:=k1 h.objs.size _ (by simpa using hSI) hs1
  have kp2:Kp s.heap h1:=λb o e=>k1 b o (by simpa using nI b o e) (Y b o e)
  show ay (az prog w) A.in1 (j4 h.objs.size (λ_=>#[v,v]) >>= _) _ _ _;refine ad ?_;refine d6 Z rfl ?_;rw[word];have hs3:(h1.update h.objs.size (bQ λ_=>#[v,v])).get? h.objs.size=some (b3 "list" #[v,v] _):=fK Z λ_=>#[v,v];refine af ⟨cP F.plain_min_loop _,eQy (s0:=s) (bt:=bt) (R:=wants Q E) W hI hS L O cmp fin (vs.length - 1) 0 _ G v _ (by omega) (λb o e=>(aX _ _ (bj (nS b o e))).trans (kp2 b o e)) (W.frame _ _ _ st2 λb hb' o eo=>?_) hv hs3⟩
  exact(aX _ _ (λz:h.objs.size=b=>L (by rw[z];exact hb'))).trans eo
end
end L2
set_option maxHeartbeats 4000000
namespace L2
open PySem PySem.Spec PyProof.Rows
def CmpV (K:Fg) (H:Hp) (us:List V) (bt:Nat->Nat->Bool):Prop:=∀ {X:Cx} {pins:List (Addr × Obj)} {σ:St} {s:ai},Inv X pins σ H s->X.K=K->∀ A:aQ,A.units + 9 < bU->∀ i j x y u v,us[i]?=some x->us[j]?=some y->RelV x u->RelV y v->HT.LtAt A s u v (bt i j)
section
variable {X:Cx} {K:Fg} {pos:Pos} {k:Nat}
theorem fQy {kw:List (Str × ae)} {pins:List (Addr × Obj)} {s:ai} {σ:St} {H:Hp} {a:Addr} {us:List V} {bt:Nat->Nat->Bool} {Q:VK} (I:Inv X pins σ H s) (hK:X.K=K) (hu:X.A.units + 10 < bU) (hc:X.calm=true) (sq:SqL K H a us\/SqT K H a us) (cv:CmpV K H us bt)
  (kwOk:(kw=[]/\us≠[])\/∃ d y,kw=[(aN "default",d)]/\RelV y d/\(us=[]->Q y H)) (q:∀ v,us[fj bt (us.length - 1)]?=some v->Q v H) :
  ay (az X.prog X.w) X.A (call (.builtin "min") [.ref a] kw) (λv s'=>∃ x H',Inv X pins σ H' s'/\RelV x v/\Q x H') X.xe s:=by
 subst hK;have hh:X.A.in1.handled=none:=by simp[I.ok.hd hc]
 have main:∀ (its:List ae),Vals us its->(∀ Y:ae->ai->Prop,(∀ U h fp St,s.heap.objs.size<=U->U∈fp->(∀ b∈fp,b < h.objs.size)->Kp s.heap h->St 0 h->Walks X.prog X.w X.A.in1 U fp [U] its.length (λi v=>its[i]?=some v) St->Y (.ref U) { s with heap:=h })->ay (az X.prog X.w) X.A.in1 (jJ (.ref a)) Y X.xe s) ->
   ay (az X.prog X.w) X.A (call (.builtin "min") [.ref a] kw) (λv s'=>∃ x H',Inv X pins σ H' s'/\RelV x v/\Q x H') X.xe s:=by
  intro its G it;have hl:=G.length;refine eQz (bt:=bt) (vs:=its) ?_ it (λi j vi vj h Z hi hj kp=>?_) λv h Z hv kp=>?_
  ·rcases kwOk with⟨e,hn⟩ | ⟨d,y,e,ry,hd⟩
   ·exact .inl ⟨e,by rintro rfl;exact hn (bE (by simpa using hl))⟩
   ·exact .inr ⟨d,e,λz h Z kp=>⟨y,H,I.kept kp,ry,hd (by subst z;exact bE (by simpa using hl))⟩⟩
  ·have i1:i < its.length:=by
    rcases bO i its.length with z | z
    ·exact z
    ·rw[bB z] at hi;cases hi
   have j1:j < its.length:=by
    rcases bO j its.length with z | z
    ·exact z
    ·rw[bB z] at hj;cases hj
   obtain⟨u1,e1,r1⟩:=G.get (ah (show i < us.length by lia))
   obtain⟨u2,e2,r2⟩:=G.get (ah (show j < us.length by lia))
   rw[hi] at e1;cases e1;rw[hj] at e2;cases e2;exact cv (I.kept (t':=Z) kp) rfl X.A.in1 (show X.A.units + 1 + 9 < bU by lia) i j _ _ _ _ (ah (by lia)) (ah (by lia)) r1 r2
  ·have i1:fj bt (its.length - 1) < its.length:=by
    rcases bO (fj bt (its.length - 1)) its.length with z | z
    ·exact z
    ·rw[bB z] at hv;cases hv
   have e0:us[fj bt (us.length - 1)]?=us[fj bt (its.length - 1)]?:=by rw[hl]
   obtain⟨u1,e1,r1⟩:=G.get (ah (show fj bt (its.length - 1) < us.length by lia))
   rw[hv] at e1;cases e1;exact⟨_,H,I.kept kp,r1,q _ (e0.trans (ah (by lia)))⟩
 rcases sq with sq | sq
 ·refine hd λGq L=>?_;obtain⟨its,G,p,hz⟩:=I.list sq;refine L ?_;refine main its G λY h=>fS p.isList ?_;refine hd λGq L=>?_;obtain⟨o,n,ho,_⟩:=id p;refine L ?_;have B:a < s.heap.objs.size:=aw ho;have W:=Walks.list (prog:=X.prog) (w:=X.w) (A:=X.A.in1) hh s.heap.objs.size a (aG B) its.toArray;have e1:its.toArray.size=its.length:=by simp
  have e2:(λi v=>its.toArray[i]?=some v)=(λ(i:Nat) (v:ae)=>its[i]?=some v):=by funext i v;simp
  rw[e1,e2] at W;exact h _ _ _ _ (au _) (by simp) (λb O=>by
   rw[bv];rcases aA.mp O with rfl | O
   ·exact dN _
   ·rw[aB.mp O];exact dg B) (λb o e=>ag _ e) ⟨⟨_,av _ rfl,rfl,rfl⟩,p.isList.at λo e=>ag _ e⟩ W
 ·refine hd λGq L=>?_;obtain⟨its,G,p,hz⟩:=I.tuple sq;refine L ?_;refine main its G λY h=>dR (show s.heap.IsTuple a its.toArray from p) ?_
  refine hd λGq L=>?_;obtain⟨o,ho,_⟩:=id p;refine L ?_;have B:a < s.heap.objs.size:=aw ho;have W:=Walks.tuple (prog:=X.prog) (w:=X.w) (A:=X.A.in1) hh s.heap.objs.size a (aG B) its.toArray;have e1:its.toArray.size=its.length:=by simp
  have e2:(λi v=>its.toArray[i]?=some v)=(λ(i:Nat) (v:ae)=>its[i]?=some v):=by funext i v;simp
  rw[e1,e2] at W;exact h _ _ _ _ (au _) (by simp) (λb O=>by
   rw[bv];rcases aA.mp O with rfl | O
   ·exact dN _
   ·rw[aB.mp O];exact dg B) (λb o e=>ag _ e) ⟨⟨_,av _ rfl,rfl,rfl⟩,(show s.heap.IsTuple a its.toArray from p).at λo e=>ag _ e⟩ W
def gXq (K:Fg) (te td:TE):TE:=fun σ H Q=>te σ H λx H1=>td σ H1 λy H2=>∃ a us bt,x=.ref a/\(SqL K H2 a us\/SqT K H2 a us)/\CmpV K H2 us bt/\(us=[]->Q y H2)/\∀ v,us[fj bt (us.length - 1)]?=some v->Q v H2
theorem fQz {e d:Expr} {p kp:Pos} {te td:TE} (hu:X.A.units + 10 < bU) (hg:Gl X "min") (hm:X.mg "min"=none) (he:PE X e te) (hd:PE X d td) (hK:X.K=K:=by rfl) (hc:X.calm=true:=by rfl)
  (h1:bn pos (am [e] X.env)=[(false,eval e X.env)]:=by rfl) (h2:(eJ pos (cV [⟨some "default",d,kp⟩] X.env)).filterMap (·.1)=[("default":Str)]:=by rfl) :
  PE X (.Call (.Name "min" p) [e] [⟨some "default",d,kp⟩] pos) (gXq K te td):=by
 intro pins s σ H Q I h;refine dw (ld_blt I hg hm (show bz "min"=some (.builtin "min") from rfl) ?_ (by decide) (by decide))
 have U:(bn pos (am [e] X.env)).any (·.1)=false:=by rw[h1];rfl
 have O:bn pos (am [e] X.env)=(false,eval e X.env)::bn pos (am [] X.env):=by rw[h1];rfl
 refine callWith_kw ?_ O U rfl rfl;rw[h1,h2];refine eI (thn (he pins s σ H _ I h) λv s1 ⟨x,H1,I1,r1,L⟩=>gR ?_);refine kws_cons (thn (hd pins s1 σ H1 _ I1 L) λu s2 ⟨y,H2,I2,i,a,us,bt,Y,sq,Z,G,B⟩=>kws_nil ?_);subst Y;cases r1;exact fQy (kw:=[(aN "default",u)]) I2 hK hu hc sq Z (.inr ⟨u,y,rfl,i,G⟩) B
end
section
variable {X:Cx} {K:Fg} {pos:Pos} {k:Nat}
def bZg (b:D):List D->D
 | []=>b
 | x::xs=>bZg (if ltN 8 x b=true then x else b) xs
def fZ0 (xs:List D):Prop:=∀ a∈xs,∀ b∈xs,okL 8 a b=true
abbrev btD (xs:List D):Nat->Nat->Bool:=λi j=>ltN 8 (xs.getD i .non) (xs.getD j .non)
theorem cJl (b:D) (xs:List D) (y:D):bZg b (xs++[y])=if ltN 8 y (bZg b xs)=true then y else bZg b xs:=by
 induction xs generalizing b with
 | nil=>rfl
 | cons x xs i=>exact i _
theorem cXj (x:D) (xs:List D):∀ m,m<=xs.length->(x::xs)[fj (btD (x::xs)) m]?=some (bZg x (xs.take m))
 | 0,_=>rfl
 | m + 1,hm=>by
  have i:=cXj x xs m (by lia)
  have B:(x::xs).getD (m + 1) .non=xs[m]'(by lia):=by
   rw[aD,gM,ah (by lia)];rfl
  have e2:(x::xs).getD (fj (btD (x::xs)) m) .non=bZg x (xs.take m):=by
   rw[aD,i];rfl
  have y:xs.take (m + 1)=xs.take m++[xs[m]'(by lia)]:=by rw[dH,ah (by lia)];rfl
  rw[y,cJl];show(x::xs)[if ltN 8 ((x::xs).getD (m + 1) .non) ((x::xs).getD (fj (btD (x::xs)) m) .non)=true then m + 1 else fj (btD (x::xs)) m]?=_
  rw[B,e2]
  split
  ·rw[gM,ah (by lia)]
  ·exact i
theorem gQs {M:Am} {H:Hp} {ds:List D} {us:List V} (l:RepL K M H ds us) (ok:fZ0 ds):CmpV K H us (btD ds):=by
 intro X pins σ s I Y A hA i j x y u v hi U O L;subst Y;obtain⟨d,G,rd⟩:=l.get' hi;obtain⟨e,B,re⟩:=l.get' U;have Z:ds.getD i .non=d:=by rw[aD,G];rfl
 have e2:ds.getD j .non=e:=by rw[aD,B];rfl
 show HT.LtAt A s u v (ltN 8 (ds.getD i .non) (ds.getD j .non));rw[Z,e2];exact gXp I 8 (by lia) rd re O L (ok d (bw G) e (bw B))
def gXr (te td:ED):ED:=fun Γ S Q=>te Γ S λd S1=>td Γ S1 λy S2=>∃ xs,sqIs S2 d xs/\fZ0 xs/\Q (match xs with | []=>y | x::xs=>bZg x xs) S2
theorem eX9 {e d:Expr} {te td:ED} {p kp:Pos} (hr:Room k X.A) (hg:Gl X "min") (hm:X.mg "min"=none) (he:PD K X e te) (hd:PD K X d td) (hK:X.K=K:=by rfl) (hc:X.calm=true:=by rfl)
  (h1:bn pos (am [e] X.env)=[(false,eval e X.env)]:=by rfl) (h2:(eJ pos (cV [⟨some "default",d,kp⟩] X.env)).filterMap (·.1)=[("default":Str)]:=by rfl) :
  PD K X (.Call (.Name "min" p) [e] [⟨some "default",d,kp⟩] pos) (gXr te td) :=
 .of (fQz (lt64 hr) hg hm he.o hd.o hK hc h1 h2) fun σ H Q Z=>Z.el λF S Γ QD r g q c =>
  ⟨F,S,Γ,_,r,g,q,λv d H1 S1 L r1 v1 q1=>⟨F,S1,Γ,_,r1,g.ext L,q1,λy e H2 S2 G B v2 Y=>by
   obtain⟨xs,hs,ok,O⟩:=Y;obtain⟨a,us,rfl,sq,i⟩:=hs.sq B (v1.ext G);have U:=Cn.shift c (L.trans G);refine⟨a,us,btD xs,rfl,sq,gQs i ok,λz=>?_,λv hv=>?_⟩
   ·subst z
    have:xs=[]:=bE (by simpa using i.length.symm)
    subst this;exact U.here B v2 O
   ·cases xs with
    | nil =>
     unfold RepL at i;subst i;cases hv
    | cons x xs =>
     have hl:=i.length;have e:us.length - 1=xs.length:=by rw[hl];simp
     rw[e] at hv;obtain⟨d,ed,rd⟩:=i.get' hv;rw[cXj x xs xs.length (au _),dU] at ed;cases ed;exact U.here B rd O⟩⟩
end
end L2
set_option maxHeartbeats 1000000
namespace L2
open PySem PySem.Spec PyProof.Rows
end L2
namespace L2
open PySem PyProof.Rows
section
variable {K:aq} {k:Nat}
theorem e_fn {P:aC} {w:aH} {mg:Str->Option ae} {base:aO} {x:Str} {st:Stmt} {N ps:List Str} {sp:SpD} {f:Addr} {fd:cT} (Fn:Fun K x x st f fd) (S:FnScope N ps (aQ4 st))
  (len:∀ ds S Q,sp ds S Q->ds.length=ps.length)
  (h:∀ (cdv:ae) (A:aQ) (outer:List Env) (s:ai) (H:Hp) (E:XK),Room k (A.deeper (envOfC x (aQ4 st) s.heap.objs.size f cdv)) ->
   ∃ t,PSsD K (cxOf CX0 P w K mg base N x (aQ4 st) f cdv A outer s H E).nox (aZ6 st) t/\∀ ds S Q,sp ds S Q->t (aJy Q) (aXb N ds) S):FnOk P w K mg base CX0 (k + 1) f fd ps (spU K sp):=by
 refine Fn.ok S (λvs H Q E B=>by obtain⟨F,S,ds,QD,r,l,i,c⟩:=B;rw[l.length];exact len ds S QD i) (λcdv A outer s H vs Q E' U B=>?_)
 obtain⟨F,S,ds,QD,r,l,i,c⟩:=B;obtain⟨t,h1,h2⟩:=h cdv A outer s H E' U;have fin:∀ v d H' S',Ext S H S' H'->Rp K F S' H'->RepV K (mt S' F) H' d v->rtD QD d S'->Q v H':=λv d H' S' G y v1 O=>by
  obtain⟨Z,S2,L,Y,q⟩:=O;exact c v Z H' S2 (G.trans (Ext.less L)) (y.less L) ((cXc y L Y).1 v v1) q
 exact⟨_,h1.o,F,S,aXb N ds,aJy QD,r,bQn l,h2 ds S QD i,fun Γ' S' σ' H' G y g1 q=>fin .non .non H' S' G y (by unfold RepV;rfl) q,fin,λ_ _ _ _ _ _ _ q=>q.elim,λ_ _ _ _ _ _ _ q=>q.elim⟩
end
theorem us1 {p:List ae->Prop} (h:∀ a,p [a]) (us:List ae) (ee:us.length=1):p us:=by
 cases us with
 | nil=>cases ee
 | cons a us =>
  cases us with
  | nil=>exact h a
  | cons z us=>exact absurd (ew ee) (iw _)
theorem us2 {p:List ae->Prop} (h:∀ a b,p [a,b]) (us:List ae) (ee:us.length=2):p us:=by
 cases us with
 | nil=>cases ee
 | cons a us =>
  cases us with
  | nil=>cases ee
  | cons b us =>
   cases us with
   | nil=>exact h a b
   | cons z us=>exact absurd (ew (ew ee)) (iw _)
theorem us3 {p:List ae->Prop} (h:∀ a b c,p [a,b,c]) (us:List ae) (ee:us.length=3):p us:=by
 cases us with
 | nil=>cases ee
 | cons a us =>
  cases us with
  | nil=>cases ee
  | cons b us =>
   cases us with
   | nil=>cases ee
   | cons c us =>
    cases us with
    | nil=>exact h a b c
    | cons z us=>exact absurd (ew (ew (ew ee))) (iw _)
theorem us4 {p:List ae->Prop} (h:∀ a b c d,p [a,b,c,d]) (us:List ae) (ee:us.length=4):p us:=by
 cases us with
 | nil=>cases ee
 | cons a us =>
  cases us with
  | nil=>cases ee
  | cons b us =>
   cases us with
   | nil=>cases ee
   | cons c us =>
    cases us with
    | nil=>cases ee
    | cons d us =>
     cases us with
     | nil=>exact h a b c d
     | cons z us=>exact absurd (ew (ew (ew (ew ee)))) (iw _)
theorem fsc {N ps:List Str} {sc:Scope} (a:sc.kind=.function:=by rfl) (b:sc.isCoroutine=false:=by rfl) (c:sc.isGenerator=false:=by rfl) (d:N.Nodup:=by decide +kernel) (e:N.take ps.length=ps:=by rfl) (f:∀ x∈ps,sc.names.lookup x=some .local\/sc.names.lookup x=some .cell:=by decide +kernel) (g:∀ y∈sc.names,y.2≠.free:=by decide +kernel):FnScope N ps sc:=⟨a,b,c,d,e,f,g⟩
theorem walkD {l:kD} {q:aC} {loose:List Str} {XP:(Str->Option ae)->aO->Prop} {YP:aH->aO->Prop} {d:DefRec} {K:Params->aq} (hn:l.most=some 63) (hdf:d.params.defaults=[])
  (hY:∀ (w:aH) (h:aO),YP w h->(K w.params).In h)
  (F:∀ (w:aH) (mg:Str->Option ae) (fa:Addr) (h:aO),(K w.params).In h->h.Ns aL mg->mg d.name=some (.ref fa) ->
   ∃ fd:cT,(∀ (s:ai) (u:ae),BindsTo s fd ⟨[u],[]⟩ [("script",u)])/\∀ base:aO,(K w.params).In base->base.Ns aL mg->FnOk l.prog w (K w.params) mg base CX0 50 fa fd ["script"] (spU (K w.params) (cQ5 63))) :
  PySem.W.WalkO q loose XP YP l.row.toRowW d [] (λf vs=>PySem.call f vs) :=
 L2.walk_of (n:=63) (k:=50) (x:="script") (CX:=λ_=>CX0) (sp:=λw=>spU (K w.params) (cQ5 63)) hn (by decide) hdf ⟨rfl,by decide,by decide⟩ hY F (λ_ _ a ns hl _ i=>gQa hl i) λ_ _ _ _ _ z=>z
end L2
namespace Toy
open PySem L2
def top (i:Nat):Stmt:=PySem.Challenge.pw_corepetals_k36_kept_sets_told.main.body.getD i (.Pass ⟨0,0,0,0⟩)
end Toy
set_option maxHeartbeats 4000000
namespace L2
open PySem PySem.Spec PyProof.Rows
theorem cQa {α:Type} (l:List α) (i:Nat):∀ m,(aP m).filterMap (λk=>l[i + k]?)=(l.drop i).take m
 | 0=>rfl
 | m + 1=>by
  rw[kE,ib,cQa l i m,dH]
  congr 1
  rw[List.getElem?_drop];simp only[b8,List.filterMap_nil];cases l[i + m]? <;> rfl
theorem gQt (lo hi:Option Int) (n:Nat):bW lo hi 1 n=(aP (HT.sIx n n hi - HT.sIx n 0 lo)).map λk=>HT.sIx n 0 lo + k:=by
 have e:bW lo hi 1 n=kA (e8 lo hi none n).1 (e8 lo hi none n).2.1 1:=rfl;obtain⟨h1,h2,_⟩:=bQ4 lo hi n;rw[e,h1,h2];unfold kA;have i:(if (1:Int) > 0 then (if ((HT.sIx n 0 lo:Nat):Int) < ((HT.sIx n n hi:Nat):Int) then (((HT.sIx n n hi:Nat):Int) - ((HT.sIx n 0 lo:Nat):Int) + 1 - 1) / 1 else 0) else (if ((HT.sIx n 0 lo:Nat):Int) > ((HT.sIx n n hi:Nat):Int) then (((HT.sIx n 0 lo:Nat):Int) - ((HT.sIx n n hi:Nat):Int) - 1 - 1) / (-1) else 0)).toNat=HT.sIx n n hi - HT.sIx n 0 lo:=by
  rw[if_pos (by decide),kg]
  split <;> lia
 show(aP _).map _=_;rw[i];apply d8;intro k _;lia
theorem cutS_eq (z:Str) (lo hi:Option Int):cutS z lo hi=⟨((z.cps.toList.drop (HT.sIx z.length 0 lo)).take (HT.sIx z.length z.length hi - HT.sIx z.length 0 lo)).toArray⟩:=by
 unfold cutS;rw[gQt,aj,d0];have B:HT.sIx z.length z.length hi<=z.length:=HT.sIx_le _ _ (au _) hi;have y:z.cps.toList.length=z.length:=cy
 by_cases h:(HT.sIx z.length z.length hi - HT.sIx z.length 0 lo == z.length)=true
 ·rw[if_pos h];have h':=fL h
  by_cases h0:z.length=0
  ·have:z.cps=#[]:=Array.eq_empty_of_size_eq_zero h0
   cases z;simp only at this;subst this;simp
  ·have i:HT.sIx z.length 0 lo=0:=by lia
   rw[h',i,fy,cf (by lia)]
 ·rw[if_neg h,jf]
  congr 1
  have:=cQa z.cps.toList (HT.sIx z.length 0 lo) (HT.sIx z.length z.length hi - HT.sIx z.length 0 lo)
  rw[<- this]
  congr 2
  funext k;show z.cps[HT.sIx z.length 0 lo + k]?=_;rw[b4]
end L2
set_option maxHeartbeats 1000000
namespace L2
open PySem
def lettersZ:Str:=aN "abcdefghijklmnopqrstuvwxyz"
theorem aXk {i:Nat} (h:i < 26):atI lettersZ.cps.toList (i:Int)=some (97 + i):=by
 have:∀ j:Fin 26,lettersZ.cps.toList[j.val]?=some (97 + j.val):=by decide +kernel
 exact aZs (this ⟨i,h⟩)
end L2
set_option maxHeartbeats 4000000
namespace L2
open PySem
theorem aQ7 {n:Nat} (h:n<=9999):n<=sizeLine:=by rw[bD];lia
theorem bZh {α:Type}:∀ (l:List α) (j:Nat) (h:j < l.length),(l[j]::l.eraseIdx j).Perm l
 | a::l,0,_=>.refl _
 | a::l,j + 1,h=>by
  have i:=bZh l j (by simpa using h)
  show(l[j]'(by simpa using h)::a::l.eraseIdx j).Perm (a::l)
  exact(kS _ _ _).trans (i.cons a)
theorem aJj {α β:Type} {f:α->β} (g:β->α) (hg:∀ x,g (f x)=x) {vs us:List β} {xs:List α} (h:(vs++us).Perm (xs.map f)):∃ as bs:List α,vs=as.map f/\us=bs.map f/\(as++bs).Perm xs:=by
 have mem:∀ y∈vs++us,f (g y)=y:=λy B=>by
  obtain⟨x,_,rfl⟩:=cJ.mp (h.mem_iff.mp B);rw[hg]
 have lift:∀ l:List β,(∀ y∈l,f (g y)=y)->l=(l.map g).map f:=λl hl=>by
  rw[cM];apply fA (by simp)
  intro i h1 h2;rw[iq];exact(hl _ (dQ h1)).symm
 refine⟨vs.map g,us.map g,lift vs λy B=>mem y (bh _ B),lift us λy B=>mem y (aS _ B),?_⟩;have p:=h.map g;rw[aM,cM] at p;have e:xs.map (g ∘ f)=xs:=by
  apply fA (by simp)
  intro i h1 h2;rw[iq];exact hg _
 rwa [e] at p
def dStr':D->Str
 | .str s=>s
 | _=>⟨#[]⟩
theorem bQ9:∀ l:List Str,aZg (l.map D.str)=true
 | []=>rfl
 | x::l=>by show(true && aZg (l.map D.str))=true;rw[bQ9 l];rfl
end L2
namespace Toy
open PySem L2
theorem fZ1 (a b:Str):(a++b).length=a.length + b.length:=by
 show(a.cps++b.cps).size=_;rw[Array.size_append];rfl
end Toy
namespace Toy
variable {α:Type}
def ch:List α->Nat->List (List α)
 | _,0=>[[]]
 | [],_ + 1=>[]
 | x::xs,n + 1=>(ch xs n).map (x::·)++ch xs (n + 1)
theorem aZe (xs:List α):ch xs 0=[[]]:=by cases xs <;> rfl
theorem gQu (n:Nat):ch ([]:List α) (n + 1)=[]:=rfl
theorem aQx (x:α) (xs:List α) (n:Nat):ch (x::xs) (n + 1)=(ch xs n).map (x::·)++ch xs (n + 1):=rfl
theorem dXe:∀ (xs:List α) (n:Nat),xs.length < n->ch xs n=[]
 | [],0,h=>by simp at h
 | [],n + 1,_=>rfl
 | x::xs,0,h=>by simp at h
 | x::xs,n + 1,h=>by
  simp only[aF] at h;rw[aQx,dXe xs n (by lia),dXe xs (n + 1) (by lia)]
  rfl
theorem bXf:∀ (xs:List α) (n:Nat),(ch xs n).length<=2 ^ xs.length
 | [],0=>by simp[ch]
 | [],n + 1=>by simp[ch]
 | x::xs,0=>by
  rw[aZe];exact Nat.one_le_two_pow
 | x::xs,n + 1=>by
  rw[aQx,ax,aj,aF,Nat.pow_succ]
  have:=bXf xs n
  have:=bXf xs (n + 1)
  lia
theorem aZ5:∀ {xs:List α} {n:Nat} {s:List α},s∈ch xs n->s.length=n/\s.Sublist xs
 | [],0,s,h=>by
  have:s=[]:=by simpa [ch] using h
  subst this;exact⟨rfl,.slnil⟩
 | [],n + 1,s,h=>by simp[ch] at h
 | x::xs,0,s,h=>by
  have:s=[]:=by simpa [ch] using h
  subst this;exact⟨rfl,List.nil_sublist _⟩
 | x::xs,n + 1,s,h=>by
  rw[aQx,aW,cJ] at h;rcases h with⟨r,i,rfl⟩ | h
  ·obtain⟨a,b⟩:=aZ5 i;exact⟨by simp[a],b.cons_cons x⟩
  ·obtain⟨a,b⟩:=aZ5 h;exact⟨a,b.cons x⟩
theorem fZ2 (xs:List α) (i n:Nat) (h:i < xs.length):ch (xs.drop i) (n + 1)=(ch (xs.drop (i + 1)) n).map (xs[i]::·)++ch (xs.drop (i + 1)) (n + 1):=by
 rw[eR h]
 rfl
theorem aJk:∀ {xs:List α} {s:List α},s.Sublist xs->s∈ch xs s.length
 | [],s,h=>by
  have:s=[]:=List.sublist_nil.mp h
  subst this;simp[ch]
 | x::xs,[],h=>by simp[ch]
 | x::xs,y::s,h=>by
  rw[aF,aQx,aW,cJ];cases h with
  | cons _ h=>right;exact aJk (s:=y::s) h
  | cons_cons _ h=>left;exact⟨s,aJk h,rfl⟩
end Toy
namespace Toy
variable {α:Type}
def ext (lt:α->α->Bool) (z:α) (sets:List α) (s:List α):List (List α):=(sets.filter λo=>lt (s.getLastD z) o).map λo=>s++[o]
theorem aZp {z:α}:∀ {s:List α},s≠[]->s.getLastD z∈s
 | [],h=>absurd rfl h
 | [x],_=>by simp
 | x::y::s,_=>by
  have:=aZp (z:=z) (s:=y::s) (by simp)
  simp only[ju] at this ⊢;exact ao _ this
theorem getLastD_cons' {z x:α}:∀ {s:List α},s≠[]->(x::s).getLastD z=s.getLastD z
 | [],h=>absurd rfl h
 | y::s,_=>by simp[ju]
theorem eXa:∀ xs:List α,ch xs 1=xs.map λx=>[x]
 | []=>rfl
 | x::xs=>by rw[aQx,aZe,eXa xs];rfl
theorem bJ9 {β:Type} {f g:α->List β}:∀ {l:List α},(∀ a∈l,f a=g a)->l.flatMap f=l.flatMap g
 | [],_=>rfl
 | a::l,h=>by rw[cF,cF,h a ak,bJ9 λb i=>h b (ao _ i)]
theorem bXg {lt:α->α->Bool} {z:α}:∀ {sets:List α},sets.Pairwise (λa b=>lt a b=true/\lt b a=false)->(∀ a,lt a a=false)->∀ k,(ch sets (k + 1)).flatMap (ext lt z sets)=ch sets (k + 2)
 | [],_,_,k=>rfl
 | x::xs,hp,irr,k=>by
  obtain⟨G,y⟩:=aU.mp hp;have out:∀ s:List α,s≠[]->(∀ o∈s,o∈xs)->ext lt z (x::xs) s=ext lt z xs s:=λs i hm=>by
   unfold ext;rw[cQ,(G _ (hm _ (aZp i))).2]
   rfl
  have tail:(ch xs (k + 1)).flatMap (ext lt z (x::xs))=ch xs (k + 2):=by
   rw[<- bXg y irr k];refine bJ9 λs i=>?_;obtain⟨h1,h2⟩:=aZ5 i;exact out s (by rintro rfl;simp at h1) λo L=>h2.subset L
  rw[aQx,iU,tail,aQx (n:=k + 1)]
  congr 1
  cases k with
  | zero =>
   rw[aZe,eXa];simp only[a9,eZ,cF,List.flatMap_nil,bA];unfold ext;have e:([x]:List α).getLastD z=x:=rfl;rw[e,cQ,irr x];simp only[aE,if_false];rw[iV.mpr λo L=>(G o L).1,cM]
   rfl
  | succ k =>
   rw[<- bXg y irr k,List.flatMap_map,List.map_flatMap];refine bJ9 λs i=>?_;obtain⟨h1,h2⟩:=aZ5 i;have B:s≠[]:=by rintro rfl;simp at h1
   unfold ext;rw[getLastD_cons' B,cQ,(G _ (h2.subset (aZp B))).2];simp only[aE,if_false,cM]
   rfl
theorem aZj {β:Type} {f:α->List β}:∀ {l m:List α},l.Sublist m->(l.flatMap f).Sublist (m.flatMap f)
 | _,_,.slnil=>.slnil
 | _,_,.cons a h=>by rw[cF];exact(aZj h).trans (dM _ _)
 | _,_,.cons_cons a h=>by rw[cF,cF];exact(fk _).append (aZj h)
def flw (lt:α->α->Bool) (z:α) (ok:List α->Bool) (sets:List α):Nat->List (List α)
 | 0=>ch sets 2
 | j + 1=>((flw lt z ok sets j).flatMap (ext lt z sets)).filter ok
theorem dXf {lt:α->α->Bool} {z:α} {ok:List α->Bool} {sets:List α} (hp:sets.Pairwise (λa b=>lt a b=true/\lt b a=false)) (irr:∀ a,lt a a=false):∀ j,(flw lt z ok sets j).Sublist (ch sets (j + 2))
 | 0=>fk _
 | j + 1=>by
  refine(iW ..).trans ?_;rw[<- bXg (z:=z) hp irr (j + 1)];exact aZj (dXf hp irr j)
theorem aZu {β:Type} {f:α->List β} {q:β->Bool}:∀ l:List α,(l.flatMap f).filter q=l.flatMap λa=>(f a).filter q
 | []=>rfl
 | a::l=>by rw[cF,cF,jv,aZu l]
theorem cQb {lt:α->α->Bool} {z:α} {ok:List α->Bool} {sets:List α} (hp:sets.Pairwise (λa b=>lt a b=true/\lt b a=false)) (irr:∀ a,lt a a=false) (h2:∀ s∈ch sets 2,ok s=true)
  (pre:∀ s o,2<=s.length->(s++[o]).Sublist sets->ok (s++[o])=true->ok s=true):∀ j,flw lt z ok sets j=(ch sets (j + 2)).filter ok
 | 0=>(iV.mpr h2).symm
 | j + 1=>by
  show((flw lt z ok sets j).flatMap (ext lt z sets)).filter ok=_;rw[cQb hp irr h2 pre j,<- bXg (z:=z) hp irr (j + 1),aZu,aZu];have key:∀ l:List (List α),(∀ s∈l,s∈ch sets (j + 2))->(l.filter ok).flatMap (λa=>(ext lt z sets a).filter ok)=l.flatMap λa=>(ext lt z sets a).filter ok:=λl=>by
   induction l with
   | nil=>intro _;rfl
   | cons s l B =>
    intro h;rw[cQ,cF];cases hs:ok s with
    | true=>rw[if_pos rfl,cF,B λt i=>h t (ao _ i)]
    | false =>
     rw[if_neg (by simp),B λt i=>h t (ao _ i)]
     have:(ext lt z sets s).filter ok=[]:=by
      rw[eA];intro t i;unfold ext at i;rw[cJ] at i;obtain⟨o,G,rfl⟩:=i;intro hk;have y:s++[o]∈ch sets (j + 3):=by
       rw[<- bXg (z:=z) hp irr (j + 1),List.mem_flatMap];exact⟨s,h s ak,by unfold ext;rw[cJ];exact⟨o,G,rfl⟩⟩
      have:=pre s o (by rw[(aZ5 (h s ak)).1];lia) (aZ5 y).2 hk
      rw[hs] at this;cases this
     rw[this,bZ]
  exact key _ λs hs=>hs
end Toy
namespace Toy
variable {β:Type} [DecidableEq β]
def Sun (s:List (List β)):Prop:=s.Pairwise λa b=>∀ n,n∈a->n∈b->∀ o∈s,n∈o
def naG (s:List (List β)):List β:=(s.headD []).filter λn=>s.all λo=>decide (n∈o)
def lfG (s:List (List β)):List β:=s.flatMap λo=>o.filter λd=>!decide (d∈naG s)
def coG (s:List (List β)):Option (List β):=if s.length < 2\/¬ s.Nodup then none else if (lfG s).Nodup then some (naG s) else none
theorem bQa {s:List (List β)} (hs:s≠[]) {n:β}:n∈naG s↔∀ o∈s,n∈o:=by
 unfold naG;rw[cb,bK];simp only[decide_eq_true_eq];refine⟨λh=>h.2,λh=>⟨?_,h⟩⟩;cases s with
 | nil=>exact absurd rfl hs
 | cons a s=>exact h a ak
theorem cXk {s:List (List β)} (hs:s≠[]) (hn:∀ o∈s,o.Nodup):(lfG s).Nodup↔Sun s:=by
 unfold lfG Sun List.Nodup;rw[List.pairwise_flatMap];refine⟨λh=>h.2.imp_of_mem ?_,λh=>⟨λo Z=>(hn o Z).filter _,h.imp_of_mem ?_⟩⟩
 ·intro a b ha hb i n na nb;refine aY λhc=>?_;have B:n∉naG s:=λz=>hc ((bQa hs).mp z);exact i n (cb.mpr ⟨na,by simp[B]⟩) n (cb.mpr ⟨nb,by simp[B]⟩) rfl
 ·intro a b ha hb i x Y y U e;subst e;obtain⟨O,L⟩:=cb.mp Y;obtain⟨G,_⟩:=cb.mp U
  have:x∉naG s:=by simpa using L
  exact this ((bQa hs).mpr (i x O G))
theorem aJz {s:List (List β)} (hn:∀ o∈s,o.Nodup):(coG s).isSome=true↔2<=s.length/\s.Nodup/\Sun s:=by
 unfold coG
 by_cases h:s.length < 2\/¬ s.Nodup
 ·rw[if_pos h];simp only[Option.isSome_none,aE,false_iff];rintro⟨h1,h2,_⟩;rcases h with h | h
  ·lia
  ·exact h h2
 ·rw[if_neg h];have h2:¬ s.length < 2:=λz=>h (.inl z);have nd:s.Nodup:=Classical.not_not.mp λz=>h (.inr z);have i:s≠[]:=by rintro rfl;simp at h2
  have hi:=cXk i hn
  by_cases hl:(lfG s).Nodup
  ·rw[if_pos hl];simp only[Option.isSome_some,true_iff];exact⟨by lia,nd,hi.mp hl⟩
  ·rw[if_neg hl];simp only[Option.isSome_none,aE,false_iff];rintro⟨_,_,y⟩;exact hl (hi.mpr y)
theorem bJa {s:List (List β)} {o:List β} (h:Sun (s++[o])):Sun s:=by
 unfold Sun at h ⊢;exact(ff.mp h).1.imp λi n na nb p hp=>i n na nb p (bh _ hp)
theorem sorted_eq {lt:β->β->Prop} (irr:∀ a,¬ lt a a) (asy:∀ a b,lt a b->¬ lt b a):∀ {l m:List β},l.Pairwise lt->m.Pairwise lt->(∀ n,n∈l↔n∈m)->l=m
 | [],[],_,_,_=>rfl
 | [],b::m,_,_,h=>by have:=(h b).mpr ak;simp at this
 | a::l,[],_,_,h=>by have:=(h a).mp ak;simp at this
 | a::l,b::m,hl,hm,h=>by
  obtain⟨O,G⟩:=aU.mp hl;obtain⟨L,B⟩:=aU.mp hm;have e:a=b:=by
   rcases aA.mp ((h a).mp ak) with z | z
   ·exact z
   ·rcases aA.mp ((h b).mpr ak) with y | y
    ·exact y.symm
    ·exact absurd (L a z) (asy _ _ (O b y))
  subst e
  congr 1
  refine sorted_eq irr asy G B λn=>⟨λi=>?_,λi=>?_⟩
  ·rcases aA.mp ((h n).mp (ao _ i)) with z | z
   ·subst z;exact absurd (O n i) (irr n)
   ·exact z
  ·rcases aA.mp ((h n).mpr (ao _ i)) with z | z
   ·subst z;exact absurd (L n i) (irr n)
   ·exact z
def meG (a b:List β):List β:=a.filter λn=>decide (n∈b)
theorem mem_me {a b:List β} {n:β}:n∈meG a b↔n∈a/\n∈b:=by unfold meG;rw[cb];simp
def laG (s:List (List β)):Option (List β):=match s with
 | a::b::_=>if s.Pairwise λother one=>meG one other=meG a b then some (meG a b) else none
 | _=>none
theorem eZ0 {lt:β->β->Prop} (irr:∀ a,¬ lt a a) (asy:∀ a b,lt a b->¬ lt b a) {s:List (List β)} (h2:2<=s.length) (nd:s.Nodup) (hs:∀ o∈s,o.Pairwise lt):laG s=coG s:=by
 classical
 have i:s≠[]:=by rintro rfl;simp at h2
 have hnd:∀ o∈s,o.Nodup:=λo ho=>(hs o ho).imp (λ{x y} (h:lt x y) (e:x=y)=>irr y (e ▸ h));obtain⟨a,b,r,rfl⟩:∃ a b r,s=a::b::r:=by
  match s,h2 with
  | a::b::r,_=>exact⟨a,b,r,rfl⟩
 have G:∀ x∈a::b::r,∀ y,(meG x y).Pairwise lt:=λx Z y=>(hs x Z).filter _;have hco:coG (a::b::r)=if Sun (a::b::r) then some (naG (a::b::r)) else none:=by
  unfold coG;have hno:¬ ((a::b::r).length < 2\/¬ (a::b::r).Nodup):=λz=>z.elim (λz=>by simp only[aF] at z;lia) λz=>z nd
  rw[if_neg hno]
  have:=cXk i hnd
  by_cases h:Sun (a::b::r)
  ·rw[if_pos h,if_pos (this.mpr h)]
  ·rw[if_neg h,if_neg λz=>h (this.mp z)]
 rw[hco];show(if (a::b::r).Pairwise (λother one=>meG one other=meG a b) then some (meG a b) else none)=_
 have Y:Sun (a::b::r)->meG a b=naG (a::b::r):=λh=>by
  refine sorted_eq irr asy (G a ak b) ((hs a ak).filter _) λn=>?_;rw[mem_me,bQa i];refine⟨λ⟨na,nb⟩=>(aU.mp h).1 b ak n na nb,λz=>⟨z a ak,z b (ao _ ak)⟩⟩
 have iff:(a::b::r).Pairwise (λother one=>meG one other=meG a b)↔Sun (a::b::r):=by
  constructor
  ·intro h;refine h.imp_of_mem λ{x y} Z hy B n nx ny o ho=>?_;have hn:n∈meG a b:=B ▸ mem_me.mpr ⟨ny,nx⟩;have all:∀ u∈a::b::r,∀ v∈a::b::r,u≠v->n∈u/\n∈v:=by
    have sym:∀ {l:List (List β)},l.Pairwise (λother one=>meG one other=meG a b)->∀ u∈l,∀ v∈l,u≠v->n∈u/\n∈v:=by
     intro l hl
     induction hl with
     | nil=>intro u hu;cases hu
     | @cons p l hp _ ih =>
      intro u hu v hv i;rcases aA.mp hu with eu | O <;> rcases aA.mp hv with ev | L
      ·exact absurd (eu.trans ev.symm) i
      ·have:=mem_me.mp ((hp v L).symm ▸ hn);rw[eu];exact⟨this.2,this.1⟩
      ·have:=mem_me.mp ((hp u O).symm ▸ hn);rw[ev];exact this
      ·exact ih u O v L i
    exact sym h
   have nab:a≠b:=λe=>(bX.mp nd).1 (e ▸ ak)
   by_cases U:o=a
   ·rw[U];exact(mem_me.mp hn).1
   ·exact(all o ho a ak U).1
  ·intro h;refine h.imp_of_mem λ{x y} Z hy B=>?_;refine sorted_eq irr asy (G y hy x) (G a ak b) λn=>?_;rw[mem_me,Y h,bQa i];exact⟨λ⟨ny,nx⟩=>B n nx ny,λz=>⟨z y hy,z x Z⟩⟩
 by_cases h:Sun (a::b::r)
 ·rw[if_pos h,if_pos (iff.mpr h),Y h]
 ·rw[if_neg h,if_neg λz=>h (iff.mp z)]
end Toy
namespace Toy
variable {α β:Type}
theorem dXg (f:α->β):∀ (l:List α) (k:Nat),ch (l.map f) k=(ch l k).map λs=>s.map f
 | [],0=>rfl
 | [],k + 1=>rfl
 | x::l,0=>by rw[aZe,aZe];rfl
 | x::l,k + 1=>by
  rw[a9,aQx,aQx,dXg f l k,dXg f l (k + 1),aM,cM,cM]
  rfl
end Toy
set_option maxHeartbeats 1000000
namespace L2
open PySem
abbrev Srt (t:List Str):Prop:=t.Pairwise λa b=>HT.ltS a b=true
abbrev SrtT (ts:List (List Str)):Prop:=ts.Pairwise λa b=>HT.lexS a b=true
theorem Srt.ext {l m:List Str} (hl:Srt l) (hm:Srt m) (h:∀ n,n∈l↔n∈m):l=m :=
 Toy.sorted_eq (lt:=λa b=>HT.ltS a b=true) (λa=>by rw[HT.ltS_ir];simp) (λa b h=>by rw[HT.ltS_as h];simp) hl hm h
theorem SrtT.ext {l m:List (List Str)} (hl:SrtT l) (hm:SrtT m) (h:∀ n,n∈l↔n∈m):l=m :=
 Toy.sorted_eq (lt:=λa b=>HT.lexS a b=true) (λa=>by rw[aZn];simp) (λa b h=>by rw[HT.lexS_as h];simp) hl hm h
theorem Srt.nodup {t:List Str} (h:Srt t):t.Nodup:=h.imp λ{a b} h e=>by subst e;rw[HT.ltS_ir] at h;cases h
theorem SrtT.nodup {t:List (List Str)} (h:SrtT t):t.Nodup:=h.imp λ{a b} h e=>by subst e;rw[aZn] at h;cases h
theorem gQv {t:List Str} (nd:t.Nodup) (h:t.Pairwise λx y=>leS x y=true):Srt t:=by
 induction t with
 | nil=>exact .nil
 | cons a t B =>
  rw[aU] at h;rw[bX] at nd;refine aU.mpr ⟨λb i=>?_,B nd.2 h.2⟩
  have:=h.1 b i
  unfold leS at this;rw[dI] at this;exact HT.ltS_tot this λe=>nd.1 (by rw[<- e];exact i)
theorem fZ3 {t:List (List Str)} (nd:t.Nodup) (h:t.Pairwise λx y=>leT x y=true):SrtT t:=by
 induction t with
 | nil=>exact .nil
 | cons a t B =>
  rw[aU] at h;rw[bX] at nd;refine aU.mpr ⟨λb i=>?_,B nd.2 h.2⟩
  have:=h.1 b i
  unfold leT at this;rw[dI] at this;exact HT.lexS_tot this λe=>nd.1 (by rw[<- e];exact i)
theorem cZa {l:List Str} (nd:l.Nodup):Srt (srS l):=gQv ((aJh l).nodup_iff.mpr nd) (eX5 l)
theorem dXh {l:List (List Str)} (nd:l.Nodup):SrtT (srT l):=fZ3 ((aX7 l).nodup_iff.mpr nd) (cXe l)
theorem mem_srS {l:List Str} {x:Str}:x∈srS l↔x∈l:=(aJh l).mem_iff
theorem fZ4 {l:List (List Str)} {x:List Str}:x∈srT l↔x∈l:=(aX7 l).mem_iff
theorem cXl {l:List (List Str)} (h:SrtT l):srT l=l:=SrtT.ext (dXh h.nodup) h λn=>fZ4
def dd {α:Type} [DecidableEq α]:List α->List α
 | []=>[]
 | x::xs=>if x∈xs then dd xs else x::dd xs
theorem mem_dd {α:Type} [DecidableEq α] {x:α}:∀ {l:List α},x∈dd l↔x∈l
 | []=>Iff.rfl
 | y::l=>by
  unfold dd
  split
  ·next h =>
   rw[mem_dd,aA];exact⟨.inr,λz=>z.elim (λe=>by rw[e];exact h) id⟩
  ·rw[aA,aA,mem_dd]
theorem bJb {α:Type} [DecidableEq α]:∀ l:List α,(dd l).Nodup
 | []=>fZ
 | y::l=>by
  unfold dd
  split
  ·exact bJb l
  ·next h=>exact bX.mpr ⟨λz=>h (mem_dd.mp z),bJb l⟩
def nms (ts:List (List Str)):List Str:=srS (dd ts.flatten)
theorem fZ5 (ts:List (List Str)):Srt (nms ts):=cZa (bJb _)
theorem mem_nms {ts:List (List Str)} {x:Str}:x∈nms ts↔∃ t∈ts,x∈t:=by
 unfold nms;rw[mem_srS,mem_dd,List.mem_flatten]
def wo {α:Type} [DecidableEq α] (one row:List α):List α:=one.filter λd=>!decide (d∈row)
end L2
set_option maxHeartbeats 4000000
namespace L2
open PySem
structure Enc (α:Type) where
 e:α->D
 inj:∀ {x y},e x=e y->x=y
 pl:∀ x,plain (e x)=true
 dep:Nat
 ok:∀ n x y,dep<=n->okE n (e x) (e y)=true
 lt:α->α->Bool
 okl:∀ n x y,dep<=n->okL n (e x) (e y)=true
 lte:∀ n x y,dep<=n->ltN n (e x) (e y)=lt x y
def lexG {α:Type} [DecidableEq α] (lt:α->α->Bool):List α->List α->Bool
 | [],[]=>false
 | [],_::_=>true
 | _::_,[]=>false
 | x::xs,y::ys=>if x=y then lexG lt xs ys else lt x y
def strE:Enc Str where
 e:=D.str
 inj:=λh=>by injection h
 pl:=λ_=>rfl
 dep:=0
 ok:=λn x y _=>by cases n <;> rfl
 lt:=HT.ltS
 okl:=λn x y _=>by cases n <;> rfl
 lte:=λn x y _=>by cases n <;> rfl
def tupE {α:Type} [DecidableEq α] (E:Enc α):Enc (List α) where
 e:=λl=>.tup (l.map E.e)
 inj:=λ{x y} h=>by
  injection h with h
  exact bJ8 (λa b e=>E.inj e) h
 pl:=λl=>by
  show aZg (l.map E.e)=true
  induction l with
  | nil=>rfl
  | cons x l ih=>show(plain (E.e x) && aZg (l.map E.e))=true;rw[E.pl,ih];rfl
 dep:=E.dep + 1
 ok:=λn x y h=>by
  obtain⟨m,rfl⟩:∃ m,n=m + 1:=⟨n - 1,by lia⟩
  show((x.map E.e).zip (y.map E.e)).all (λp=>okE m p.1 p.2)=true;rw[List.zip_map,hU,bK];exact λp _=>E.ok m p.1 p.2 (by lia)
 lt:=lexG E.lt
 okl:=λn x y h=>by
  obtain⟨m,rfl⟩:∃ m,n=m + 1:=⟨n - 1,by lia⟩
  show okLs (okL m) m (x.map E.e) (y.map E.e)=true
  induction x generalizing y with
  | nil=>cases y <;> rfl
  | cons a x ih =>
   cases y with
   | nil=>rfl
   | cons b y =>
    show(okE m (E.e a) (E.e b) && (if E.e a=E.e b then okLs (okL m) m (x.map E.e) (y.map E.e) else okL m (E.e a) (E.e b)))=true
    rw[E.ok m a b (by lia),iD]
    split
    ·exact ih y
    ·exact E.okl m a b (by lia)
 lte:=λn x y h=>by
  obtain⟨m,rfl⟩:∃ m,n=m + 1:=⟨n - 1,by lia⟩
  show lexN (ltN m) (x.map E.e) (y.map E.e)=lexG E.lt x y
  induction x generalizing y with
  | nil=>cases y <;> rfl
  | cons a x ih =>
   cases y with
   | nil=>rfl
   | cons b y =>
    show(if E.e a=E.e b then lexN (ltN m) (x.map E.e) (y.map E.e) else ltN m (E.e a) (E.e b))=if a=b then lexG E.lt x y else E.lt a b
    by_cases hab:a=b
    ·subst hab;rw[if_pos rfl,if_pos rfl];exact ih y
    ·rw[if_neg λz=>hab (E.inj z),if_neg hab];exact E.lte m a b (by lia)
theorem gQw:lexG HT.ltS=HT.lexS:=by
 funext x y
 induction x generalizing y with
 | nil=>cases y <;> rfl
 | cons a x i =>
  cases y with
  | nil=>rfl
  | cons b y =>
   show(if a=b then lexG HT.ltS x y else HT.ltS a b)=if a=b then HT.lexS x y else HT.ltS a b
   rw[i]
abbrev setE:Enc (List Str):=tupE strE
abbrev flE:Enc (List (List Str)):=tupE setE
theorem dXi:setE.lt=HT.lexS:=gQw
section
variable {α:Type} [DecidableEq α] {E:Enc α}
theorem cXm:∀ l:List α,aZg (l.map E.e)=true
 | []=>rfl
 | x::l=>by show(plain (E.e x) && aZg (l.map E.e))=true;rw[E.pl,cXm l];rfl
theorem gQx {x:α} {l:List α}:E.e x∈l.map E.e↔x∈l:=by
 rw[cJ];exact⟨λ⟨y,h,e⟩=>by rw[<- E.inj e];exact h,λh=>⟨x,h,rfl⟩⟩
theorem in_e {neg:Bool} {x:α} {l:List α} [dm:Decidable (x∈l)] {d:D} {S:Sto} {Q:DK} (hE:E.dep<=8) (hd:sqIs S d (l.map E.e)) (q:Q (.bl (if neg then !decide (x∈l) else decide (x∈l))) S):inD neg (E.e x) d S Q:=by
 refine⟨l.map E.e,hd,cXm l,by rw[hU,bK];exact λy _=>E.ok 8 y x hE,?_⟩
 rw[decide_eq_decide.mpr (gQx (E:=E) (x:=x) (l:=l))];exact q
theorem eq_e {neg:Bool} {x y:α} [dm:Decidable (x=y)] {S:Sto} {Q:DK} (hE:E.dep<=9) (q:Q (.bl (if neg then !decide (x=y) else decide (x=y))) S):eqD neg (E.e x) (E.e y) S Q:=by
 have key:okE 9 (E.e x) (E.e y)=true/\Q (.bl (if neg then !decide (E.e x=E.e y) else decide (E.e x=E.e y))) S:=by
  refine⟨E.ok 9 x y hE,?_⟩;rw[show decide (E.e x=E.e y)=decide (x=y) from decide_eq_decide.mpr ⟨λe=>E.inj e,λe=>by rw[e]⟩]
  exact q
 have px:=E.pl x;generalize E.e x=d at key px;generalize E.e y=e at key;unfold eqD;cases d <;> first | (cases px;done) | exact key
theorem in_t {neg:Bool} {x:α} {l:List α} [dm:Decidable (x∈l)] {d:D} {S:Sto} {Q:Bool->Sto->Prop} (hE:E.dep<=8) (hd:sqIs S d (l.map E.e)) (q:Q (if neg then !decide (x∈l) else decide (x∈l)) S):inD neg (E.e x) d S (λd S1=>∃ b,d=.bl b/\Q b S1):=in_e hE hd ⟨_,rfl,q⟩
end
def fzIs (d:D) (xs:List D):Prop:=d=.tup xs\/d=.lst xs
theorem fzIs.sq {S:Sto} {d:D} {xs:List D} (h:fzIs d xs):sqIs S d xs:=by rcases h with rfl | rfl <;> rfl
end L2
namespace Toy
open PySem L2
def opD:Option (List Str)->D
 | none=>.non
 | some t=>tupS t
def aXc:SpD:=λds S Q=>∃ (α:Type) (_:DecidableEq α) (E:Enc α) (one row:List α) (d1 d2:D),ds=[d1,d2]/\E.dep<=4/\fzIs d1 (one.map E.e)/\fzIs d2 (row.map E.e)/\one.length<=9999/\Q (.tup ((wo one row).map E.e)) S
end Toy
namespace L2
open PySem
def cXn (t:List Str):Str:=t.getLastD ⟨#[]⟩
def eXb:Str:=aN ""
theorem dXj {α:Type} [DecidableEq α] {E:Enc α} (hE:E.dep<=8) (l:List α):fZ0 (l.map E.e):=λa B b i=>by
 obtain⟨x,_,rfl⟩:=cJ.mp B;obtain⟨y,_,rfl⟩:=cJ.mp i;exact E.okl 8 x y hE
theorem dXk {α:Type} {xs:List α} (h:xs≠[]) (z:α):atI xs (-1)=some (xs.getLastD z):=by
 rw[gX3 xs h];cases xs with
 | nil=>exact absurd rfl h
 | cons x xs=>rw[ju,List.getLast_eq_getLastD]
theorem okS (x:Str) (t:List Str):((t.map D.str).all λy=>okE 8 y (.str x))=true:=by rw[hU,bK];exact λx _=>rfl
theorem mem_strs {x:Str} {l:List Str}:D.str x∈l.map D.str↔x∈l:=gQx (E:=strE)
theorem eZ1 {x:Str} (h:1<=x.length):HT.ltS eXb x=true:=by
 unfold HT.ltS;refine decide_eq_true ?_;obtain⟨⟨l⟩⟩:=x;cases l with
 | nil=>exact absurd h (by decide)
 | cons c l =>
  show([]:List Nat) < c::l;exact List.nil_lt_cons _ _
end L2
namespace Toy
open PySem L2
structure CollB (most:Nat) (ts:List (List Str)):Prop where
 srt:SrtT ts
 each:∀ t∈ts,Srt t/\t.length<=6
 len:ts.length<=most
 nms:(nms ts).length<=12
 ne:∀ x∈L2.nms ts,HT.ltS eXb x=true
end Toy
namespace L2
open PySem
end L2
namespace Toy
open PySem L2
def DeckC (S:Sto) (a c:Addr):Prop:=∃ (cs:List Int) (n sd:Int),S a=some (.lst [.ref c,.int n,.int sd])/\S c=some (.lst (cs.map D.int))/\a≠c/\cs≠[]/\cs.length<=64
theorem DeckC.ne {S:Sto} {a c p:Addr} (h:DeckC S a c) (hp:S p=none):p≠a/\p≠c:=by
 refine hd λy i=>?_;obtain⟨cs,n,sd,h1,h2,_⟩:=h;refine i ?_;refine⟨λe=>?_,λe=>?_⟩
 ·rw[e,h1] at hp;cases hp
 ·rw[e,h2] at hp;cases hp
theorem DeckC.eq {S S':Sto} {a c:Addr} (h:DeckC S a c) (e1:S' a=S a) (e2:S' c=S c):DeckC S' a c:=by
 refine hd λy i=>?_;obtain⟨cs,n,sd,h1,h2,h⟩:=h;refine i ?_;exact⟨cs,n,sd,e1.trans h1,e2.trans h2,h⟩
theorem DeckC.supd {S:Sto} {a c p:Addr} {o:DO} (h:DeckC S a c) (h1:p≠a) (h2:p≠c):DeckC (L2.supd S p o) a c:=h.eq (supd_ne (bj h1)) (supd_ne (bj h2))
def Off2 (a c:Addr) (S S':Sto):Prop:=∀ b,b≠a->b≠c->S' b=S b
theorem Off2.trans {a c:Addr} {S S1 S2:Sto} (h:Off2 a c S S1) (h':Off2 a c S1 S2):Off2 a c S S2:=λb h1 h2=>(h' b h1 h2).trans (h b h1 h2)
def cXo:SpD:=λds S Q=>∃ ns:List Int,ds=[.lst (ns.map D.int)]/\ns.length<=63/\∀ a c S',S a=none->S c=none->Off2 a c S S'->DeckC S' a c->Q (.ref a) S'
def aQq:SpD:=λds S Q=>∃ (a c:Addr) (m:Int),ds=[.ref a,.int m]/\DeckC S a c/\1<=m/\m < 1000000/\∀ (r:Int) S',0<=r->r < m->Off2 a c S S'->DeckC S' a c->Q (.int r) S'
def Nm (w:Str):Prop:=1<=w.length/\w.length<=8/\∀ x∈w.cps.toList,97<=x/\x<=122
def cQc:SpD:=λds S Q=>∃ (a c:Addr) (many:Nat),ds=[.ref a,.int many]/\DeckC S a c/\many<=12/\∀ (names:List Str) S',names.Nodup->names.length=many->(∀ n∈names,Nm n)->Off2 a c S S'->DeckC S' a c->Q (.lst (names.map D.str)) S'
def aZq:SpD:=λds S Q=>∃ (a c:Addr) (d:D) (xs:List D),ds=[.ref a,d]/\fzIs d xs/\DeckC S a c/\xs.length<=99/\∀ (p:Addr) (ys:List D) S',ys.Perm xs->S p=none->S' p=some (.lst ys)->(∀ b,b≠a->b≠c->b≠p->S' b=S b)->DeckC S' a c->Q (.ref p) S'
theorem dXl {n k:Nat} (h:k < n):ixN n (k:Int)=some k:=by
 unfold ixN;simp;lia
theorem gQy {a c lp:Addr} (hla:lp≠a) (hlc:lp≠c) {S:Sto} {xs:List D} {m:Nat} (hS:S lp=some (.lst xs)) (hm:m<=xs.length) (hx:xs.length<=9999) (dk:DeckC S a c) {Q:List D->Sto->Prop}
  (q:∀ vs us S',(vs++us).Perm xs->vs.length=m->S' lp=some (.lst us)->DeckC S' a c->(∀ b,b≠a->b≠c->b≠lp->S' b=S b)->Q vs S') :
  aXx (aQu 0) dYes (bX0 (dMt dX4 ckL (dVar 1) (aQt (dCB aQq (aQt (dVar 2) (aQt (dCB lenD (aQt (dVar 1) dNil)) dNil))) dNil))) (λ_=>True) [none,some (.ref lp),some (.ref a)] (rngD 0 m) [] S Q:=by
 refine aZo (λi acc S'=>∃ us:List D,acc.length=i/\S' lp=some (.lst us)/\(acc++us).Perm xs/\DeckC S' a c/\∀ b,b≠a->b≠c->b≠lp->S' b=S b) ⟨xs,rfl,hS,.refl _,dk,λ_ _ _ _=>rfl⟩ ?_ ?_
 ·intro i x vs S' N Y O hN;refine hd λGq U=>?_;obtain⟨us,B,hl,pm,L,y⟩:=O;refine U ?_;obtain⟨hi,rfl⟩:=cQ6 Y;have hul:us.length + i=xs.length:=by have:=pm.length_eq;rw[ax] at this;lia
  refine⟨trivial,⟨_,hl⟩,_,hl,a,c,us.length,rfl,L,by lia,by lia,λr2 S2 r20 r21 G dk2=>?_⟩
  have Z:S2 lp=some (.lst us):=(G lp hla hlc).trans hl;obtain⟨j,rfl⟩:∃ j:Nat,r2=j:=⟨r2.toNat,by lia⟩
  have hj:j < us.length:=by lia
  refine⟨_,j,us[j],Z,rfl,by lia,ah hj,by rw[bD];lia,hN _ _ ⟨us.eraseIdx j,?_,supd_same,?_,dk2.supd hla hlc,λb h1 h2 h3=>(supd_ne h3).trans ((G b h1 h2).trans (y b h1 h2 h3))⟩⟩
  ·rw[ax,B];rfl
  ·refine kH ?_ pm;rw[bY];exact(jA vs).mpr (bZh us j hj)
 ·intro vs S' O;refine hd λGq U=>?_;obtain⟨us,B,hl,pm,L,y⟩:=O;refine U ?_;rw[aZ1] at B;exact⟨trivial,q vs us S' pm B hl L y⟩
def w14L:List Str:=["a", "b", "ab", "ba", "aa", "bb", "aab", "abb", "aba", "bab", "baa", "bba", "aaa", "bbb"]
theorem fZ6:w14L.Nodup:=by decide +kernel
theorem dXm:∀ w∈w14L,Nm w:=by unfold Nm;decide +kernel
theorem eXc {w:Str} {k:Nat} (h:∀ x∈w.cps.toList,97<=x/\x<=122) (hk:k < 26):∀ x∈(w++(⟨#[97 + k]⟩:Str)).cps.toList,97<=x/\x<=122:=λx i=>by
 have e:(w++(⟨#[97 + k]⟩:Str)).cps.toList=w.cps.toList++[97 + k]:=by
  show(w.cps++#[97 + k]).toList=_;rw[Array.toList_append]
 rw[e] at i;rcases aW.mp i with z | z
 ·exact h x z
 ·rw[aB.mp z];lia
theorem eXd {k:Nat} (hk:k < 26):Nm (⟨#[97 + k]⟩:Str):=⟨by show 1<=1;decide,by show 1<=8;decide,λx i=>by rw[aB.mp (show x∈[97 + k] from i)];lia⟩
theorem gQz {w:Str} (h1:1<=w.length) (h:∀ x∈w.cps.toList,97<=x/\x<=122):Nm (cutS w none (some 8)):=by
 have hl:w.cps.toList.length=w.length:=by show _=w.cps.size;simp
 have y:HT.sIx w.length w.length (some (8:Int))=min 8 w.length:=HT.sIx_nat w.length w.length 8;have e:cutS w none (some 8)=⟨(w.cps.toList.take (min 8 w.length)).toArray⟩:=by
  rw[cutS_eq,HT.sIx_none,y,gX,fy]
 rw[e];have ln:(⟨(w.cps.toList.take (min 8 w.length)).toArray⟩:Str).length=min 8 w.length:=by
  show(w.cps.toList.take (min 8 w.length)).toArray.size=_;rw[ar,bJ,hl];lia
 exact⟨by rw[ln];lia,by rw[ln];lia,λx i=>h x (fg (by simpa using i))⟩
def tw (i:Nat):Str:=(⟨#[97 + i]⟩:Str)++(⟨#[97]⟩:Str)
theorem gZ0 {i j:Nat} (h:tw i=tw j):i=j:=by
 have h2:#[97 + i]++#[97]=#[97 + j]++#[97]:=congrArg Str.cps h
 have:=congrArg Array.toList h2
 simp at this;lia
theorem gZ1 {found:List Str} {t:Nat} (h:∀ i,i < t->tw i∈found):t<=found.length:=by
 have nd:((aP t).map tw).Nodup:=by
  unfold List.Nodup;rw[gZ];refine(g6 (n:=t)).imp λ{a b} B e=>?_
  have:=gZ0 e
  lia
 have:=nd.length_le_of_subset (l₂:=found) λx y=>by
  obtain⟨i,hi,rfl⟩:=cJ.mp y;exact h i (bu.mp hi)
 rwa [aj,d0] at this
def cZb:SpD:=λds S Q=>∃ (a c:Addr) (d:D) (pool:List Str) (most:Nat),ds=[.ref a,d,.int most]/\fzIs d (pool.map D.str)/\DeckC S a c/\pool.Nodup/\pool.length<=24/\most<=24/\∀ t S',Srt t->(∀ n∈t,n∈pool)->t.length<=most->Off2 a c S S'->DeckC S' a c->Q (tupS t) S'
def cQd (pool:List Str) (t:List Str):Prop:=Srt t/\(∀ n∈t,n∈pool)/\t.length<=6
def bZi:SpD:=λds S Q=>∃ (a c:Addr) (d:D) (pool:List Str),ds=[.ref a,d]/\fzIs d (pool.map D.str)/\DeckC S a c/\pool.Nodup/\pool.length<=12/\∀ p (ts:List (List Str)) S',S p=none->S' p=some (.lst (ts.map tupS))->(∀ t∈ts,cQd pool t)->ts.length<=13->(∀ b,b≠a->b≠c->b≠p->S' b=S b)->DeckC S' a c->Q (.ref p) S'
structure CollC (most:Nat) (ts:List (List Str)):Prop extends CollB most ts where
 nm:∀ x∈L2.nms ts,Nm x
def aJ1:SpD:=λds S Q=>∃ (a c:Addr) (most:Nat),ds=[.ref a,.int most]/\DeckC S a c/\most<=14/\∀ ts S',CollC most ts->Off2 a c S S'->DeckC S' a c->Q (.tup (ts.map tupS)) S'
theorem cutN (xs:List D) {i:Int} (h0:0<=i) (h:i.toNat<=xs.length):cutD xs none (some i)=xs.take i.toNat:=by
 have e:i=((i.toNat:Nat):Int):=by lia
 rw[e];show((xs.drop 0).take (HT.sIx xs.length xs.length (some ((i.toNat:Nat):Int)) - 0))=_;rw[HT.sIx_nat,iQ h];rfl
theorem bZj {ys:List D} {xs:List Str} (h:ys.Perm (xs.map D.str)):∃ as:List Str,ys=as.map D.str/\as.Perm xs:=by
 obtain⟨as,bs,rfl,e,pn⟩:=aJj (f:=D.str) dStr' (λ_=>rfl) (vs:=ys) (us:=[]) (by rw[bA];exact h)
 have:bs=[]:=by simpa using e.symm
 subst this;exact⟨as,rfl,by rwa [bA] at pn⟩
theorem gZ2 {lp:Addr} {S:Sto} {xs:List D} {m:Nat} (hS:S lp=some (.lst xs)) (hm:m<=xs.length) (hx:xs.length<=9999) {Q:List D->Sto->Prop}
  (q:∀ vs us S',(vs++us).Perm xs->vs.length=m->S' lp=some (.lst us)->(∀ b,b≠lp->S' b=S b)->Q vs S') :
  aXx (aQu 0) dYes (bX0 (dMt popD ckL (dVar 1) dNil)) (λ_=>True) [none,some (.ref lp)] (rngD 0 m) [] S Q:=by
 refine aZo (λi acc S'=>∃ us:List D,acc.length=i/\S' lp=some (.lst us)/\(acc++us).Perm xs/\∀ b,b≠lp->S' b=S b) ⟨xs,rfl,hS,.refl _,λ_ _=>rfl⟩ ?_ ?_
 ·intro i x vs S' N Y O hN;refine hd λGq U=>?_;obtain⟨us,B,hl,pm,y⟩:=O;refine U ?_;obtain⟨hi,rfl⟩:=cQ6 Y;have Z:us.length + i=xs.length:=by have:=pm.length_eq;rw[ax] at this;lia
  have G:us≠[]:=by rintro rfl;simp at Z;lia
  have L:us[us.length - 1]?=some (us.getLast G):=by rw[j0,ah]
  refine⟨trivial,⟨_,hl⟩,_,_,hl,L,by rw[bD];lia,hN _ _ ⟨us.dropLast,by rw[ax,B];rfl,supd_same,?_,λb hb=>(supd_ne hb).trans (y b hb)⟩⟩
  refine kH ?_ pm;rw[bY];refine(jA vs).mpr ?_;have e:=iR G
  have:(us.dropLast++[us.getLast G]).Perm us:=by rw[e]
  exact kH List.perm_append_comm this
 ·intro vs S' O;refine hd λGq U=>?_;obtain⟨us,B,hl,pm,y⟩:=O;refine U ?_;rw[aZ1] at B;exact⟨trivial,q vs us S' pm B hl y⟩
theorem min2 (x y:Nat):∃ m:Nat,(λi j:Int=>if j < i then j else i) (x:Int) (y:Int)=(m:Int)/\m<=x/\m<=y/\(m=x\/m=y):=by
 show ∃ m:Nat,(if (y:Int) < (x:Int) then (y:Int) else (x:Int))=(m:Int)/\_
 split
 ·exact⟨y,rfl,by lia,au _,.inr rfl⟩
 ·exact⟨x,rfl,au _,by lia,.inl rfl⟩
theorem bJc {pool t:List Str} (nd:t.Nodup) (h:∀ n∈t,n∈pool) (hl:t.length<=6):cQd pool (srS t):=⟨cZa nd,λn i=>h n (mem_srS.mp i),by rw[(aJh t).length_eq];exact hl⟩
end Toy
set_option maxHeartbeats 1000000
namespace Toy
open PySem L2
abbrev s_law_deck:Stmt:=top 18
theorem sc_law_deck:FnScope ["script", "cells", "seed", "k", "mixed"] ["script"] (aQ4 s_law_deck):=fsc
section
variable {P:aC} {w:aH} {K:aq} {mg:Str->Option ae} {base:aO}
theorem cZc (T:Tx K mg "_law_deck" s_law_deck) (B:Bs mg):Df P w K mg base 1 "_law_deck" ["script"] (spU K cXo):=by
 refine aZl T sc_law_deck (λF=>F.binds λ_ _ _ _ _ _=>us1 λ_=>rfl) ?_ λf cdv A outer s H E hr=>⟨_,(aQ2 (aQ8 (i:=1) sc_law_deck.nd rfl (aR rfl) (aZ0 (k:=true) (e_sl (b:=false) (dv 0) aX3 (aX4 aQ5)) (aQr (b:=false) (aQ0 (aZd rfl B.len (aQ0 (dv 0) aQ1)) aQ1))))
  (aQ2 (aQ8 (i:=2) sc_law_deck.nd rfl (aR rfl) (aJ6 (aZ0 (k:=false) (aZ0 (k:=false) (aXw (gQm rfl B.sum (aQ0 (e_sl (b:=false) (dv 0) aX3 (aX4 aQ5)) aQ1)) aQ5) (aXw aQ5 (aZd rfl B.len (aQ0 (dv 0) aQ1)))) aQ5) aQ5))
  (bZe (aQw (aJ8 hr (aJ6 (gQm rfl B.sum (aQ0 (e_sl (b:=false) (dv 0) aX3 (aX4 aQ5)) aQ1)) aQ5) aQ5) (aQ3 (bQ8 cO rfl (aQp rfl B.range (aQ0 (aZd rfl B.len (aQ0 (dv 1) aQ1)) aQ1)) (aX5 (i:=3) sc_law_deck.nd rfl (aR rfl)) (aQ2 (aQ8 (i:=4) sc_law_deck.nd rfl (aR rfl) (aJ6 (aXw (aZ0 (k:=false) (aZ0 (k:=false) (aJ6 (e_ix (dv 1) (dv 3)) aQ5) (aXw aQ5 (dv 3))) aQ5) aQ5) aQ5))
  (aQ2 (aQ8 (i:=4) sc_law_deck.nd rfl (aR rfl) (aJ6 (aXw (aJ6 (aZ0 (k:=false) (aXw (dv 4) (dv 4)) (aXw aQ5 (dv 3))) aQ5) aQ5) aQ5))
  (aQ3 (dZs (aZ0 (k:=false) (aXw (aXw (dv 4) (dv 4)) aQ5) (aJ6 (aXw (dv 4) aQ5) aQ5)) (dZr (dv 1) (dv 3)))))))) aQd)
  (aQ3 (aQa (aQr (b:=true) (aQ0 (dv 1) (aQ0 aQ5 (aQ0 (dv 2) aQ1))))))))),?_⟩
 ·rintro ds S Q ⟨ns,rfl,_⟩;rfl
 ·rintro ds S Q ⟨ns,rfl,h63,q⟩;have y:cutD (ns.map D.int) none (some 63)=ns.map D.int:=by
   rw[aJi];have e:HT.sIx ns.length ns.length (some (63:Int))=ns.length:=(HT.sIx_nat ns.length ns.length 63).trans (by omega)
   rw[e,HT.sIx_none,gX,fy,dU]
  have hsum:∀ (P:Int->Prop),P ns.sum->∃ ns':List Int,lsIs S (.lst (cutD (ns.map D.int) none (some 63))) (ns'.map D.int)/\P ns'.sum:=λP h=>⟨ns,y,h⟩;refine⟨63,rfl,_,rfl,_,rfl,aQ7 (by show 1<=9999;decide),_,_,rfl,rfl,?_,λcp hcp=>?_⟩
  ·rw[y,aj];exact aQ7 (by show ns.length + 1<=9999;omega)
  have hcs:(cutD (ns.map D.int) none (some 63))++[D.int ((ns.map D.int).length:Int)]=(ns++[((ns.map D.int).length:Int)]).map D.int:=by rw[y,aM];rfl
  rw[hcs];have hcl:(ns++[((ns.map D.int).length:Int)]).length=ns.length + 1:=ax;have Z:ns++[((ns.map D.int).length:Int)]≠[]:=by simp
  generalize ns++[((ns.map D.int).length:Int)]=cs at hcl Z;refine⟨63,rfl,_,rfl,ns,y,.inr ⟨by decide,by decide⟩,_,rfl,.inl ⟨by decide,by decide⟩,by show(0:Int) < 2147483647;decide,?_⟩
  refine⟨fun Γ' S'=>∃ (O L:Option D) (cs':List Int) (sd:Int),Γ'=[some (.lst (ns.map D.int)),some (.ref cp),some (.int sd),O,L]/\S' cp=some (.lst (cs'.map D.int))/\cs'.length=cs.length/\∀ b,b≠cp->S' b=S b,⟨63,rfl,_,rfl,ns,y,by show(0:Int) < 2;decide,rfl,_,rfl,ite2 (λ_=>?_) λ_=>⟨none,none,cs,_,rfl,supd_same,rfl,λb U=>supd_ne U⟩⟩,?_⟩
  ·refine⟨_,supd_same,⟨by omega,by rw[aj];omega⟩,?_⟩
   refine aJ9 (λi Γ S'=>∃ (O L:Option D) (cs':List Int) (sd:Int),Γ=[some (.lst (ns.map D.int)),some (.ref cp),some (.int sd),O,L]/\S' cp=some (.lst (cs'.map D.int))/\cs'.length=cs.length/\∀ b,b≠cp->S' b=S b) ⟨none,none,cs,_,rfl,supd_same,rfl,λb U=>supd_ne U⟩ ?_ ?_
   ·rintro i x Γ S' N hx ⟨O,L,cs',sd,rfl,h1,h2,off⟩ hN;obtain⟨hi,rfl⟩:=cQ6 hx;have Y:i < cs'.length:=by rw[aj] at hi;omega
    have i64:i < 64:=by omega
    have hat:atI (cs'.map D.int) (i:Int)=some (.int cs'[i]):=aZs (by rw[br,ah Y];rfl)
    generalize cs'[i]=cell at hat
    have hix:ixN (cs'.map D.int).length (i:Int)=some i:=dXl (by rw[aj];exact Y)
    have key:∀ v:Int,∃ G:List Int,(cs'.map D.int).set i (.int v)=G.map D.int/\G.length=cs'.length:=λv=>⟨cs'.set i v,List.map_set.symm,fI⟩;refine⟨trivial,_,_,h1,hat,by show(0:Int) < 2147483587;decide,.inl ⟨by decide,by decide⟩,.inr ⟨by decide,by decide⟩,by show(0:Int) < 2147483629;decide,?_⟩
    refine⟨.inl ⟨by omega,by omega⟩,.inl ⟨by decide,by decide⟩,by show(0:Int) < 2147483563;decide,.inr ⟨by decide,by decide⟩,by show(0:Int) < 2147483549;decide,?_⟩
    refine⟨.inl ⟨by omega,by omega⟩,.inr ⟨by decide,by decide⟩,.inr ⟨by decide,by decide⟩,by show(0:Int) < 2147483579;decide,_,_,h1,hix,(key _).elim λG h=>hN _ _ ⟨_,_,G,sd,rfl,supd_same.trans (congrArg (λz=>some (DO.lst z)) h.1),h.2.trans h2,λb U=>(supd_ne U).trans (off b U)⟩⟩
   ·rintro Γ S' ⟨O,L,cs',sd,rfl,h1,h2,off⟩;exact⟨trivial,O,L,cs',sd,rfl,h1,h2,off⟩
  rintro Γ' S' ⟨O,L,cs',sd,rfl,h1,h2,off⟩;refine⟨aQ7 (by show 3<=9999;decide),λap hap=>aQb (q ap cp _ ?_ hcp (λb hb1 hb2=>(supd_ne hb1).trans (off b hb2)) ⟨cs',0,sd,supd_same,?_,?_,?_,by omega⟩)⟩
  ·have:ap≠cp:=by rintro rfl;rw[h1] at hap;cases hap
   rw[<- off ap this];exact hap
  ·rw[supd_ne (by rintro rfl;rw[h1] at hap;cases hap)];exact h1
  ·rintro rfl;rw[h1] at hap;cases hap
  ·rintro rfl;simp at h2;omega
end
abbrev s_law_take:Stmt:=top 19
theorem sc_law_take:FnScope ["deck", "many", "at", "cell", "one"] ["deck", "many"] (aQ4 s_law_take):=fsc
section
variable {P:aC} {w:aH} {K:aq} {mg:Str->Option ae} {base:aO}
theorem cZd (T:Tx K mg "_law_take" s_law_take) (B:Bs mg):Df P w K mg base 1 "_law_take" ["deck", "many"] (spU K aQq):=by
 refine aZl T sc_law_take (λF=>F.binds λ_ _ _ _ _ _=>us2 λ_ _=>rfl) ?_ λf cdv A outer s H E hr=>⟨_,(aQ2 (aQ8 (i:=2) sc_law_take.nd rfl (aR rfl) (aJ6 (e_ix (dv 0) aQ5) (aZd rfl B.len (aQ0 (e_ix (dv 0) aQ5) aQ1))))
  (aQ2 (dZs (aZ0 (k:=false) (e_ix (dv 0) aQ5) aQ5) (dZr (dv 0) aQ5))
  (aQ2 (aQ8 (i:=3) sc_law_take.nd rfl (aR rfl) (e_ix (e_ix (dv 0) aQ5) (dv 2)))
  (bZe (aQw (PWD.pt (cZ6 (aJ8 hr (dv 3) aQ5) (bZ9 (aJ8 hr (dv 3) (eQi aQ5))))) (aQ2 (aQ8 (i:=4) sc_law_take.nd rfl (aR rfl) (aJ6 (aXw (aJ6 (aZ0 (k:=false) (e_ix (dv 0) aQ5) (aXw aQ5 (e_ix (dv 0) aQ5))) aQ5) aQ5) aQ5))
  (aQ2 (aQ8 (i:=4) sc_law_take.nd rfl (aR rfl) (aJ6 (aXw (aJ6 (aZ0 (k:=false) (aXw (dv 4) (dv 4)) (aXw aQ5 (e_ix (dv 0) aQ5))) aQ5) aQ5) aQ5))
  (aQ3 (aQa (aJ6 (dZc (dv 4) aQ5) (dv 1)))))) aQd)
  (aQ2 (dZs (dZc (dv 3) (dv 1)) (dZr (e_ix (dv 0) aQ5) (dv 2)))
  (aQ3 (aQa (aJ6 (dv 3) (dv 1))))))))),?_⟩
 ·rintro ds S Q ⟨a,c,m,rfl,_⟩;rfl
 ·rintro ds S Q ⟨a,c,m,rfl,⟨cs,n,sd,hS,hC,G,L,Y⟩,Z,m2,q⟩;have h1:1<=cs.length:=c8.mpr L;have hlen:((cs.map D.int).length:Int)=(cs.length:Int):=by rw[aj]
  have hm:=md (a:=n) (b:=(cs.length:Int)) (by omega)
  refine⟨_,_,hS,rfl,_,_,hS,rfl,_,hC,?_,?_⟩
  ·show(0:Int) < ((cs.map D.int).length:Int);omega
  have eN:n % ((cs.map D.int).length:Int)=((n % (cs.length:Int)).toNat:Int):=by rw[hlen];omega
  have hk:(n % (cs.length:Int)).toNat < cs.length:=by omega
  generalize (n % (cs.length:Int)).toNat=k at eN hk;show aQu 2 (.int (n % ((cs.map D.int).length:Int))) _ _ _;rw[eN];have U:atI (cs.map D.int) (k:Int)=some (.int cs[k]):=aZs (by rw[br,ah hk];rfl)
  generalize cs[k]=cell at U
  have y:supd S a (.lst [.ref c,.int (n + 1),.int sd]) a=some (.lst [.ref c,.int (n + 1),.int sd]):=supd_same;have O:supd S a (.lst [.ref c,.int (n + 1),.int sd]) c=some (.lst (cs.map D.int)):=(supd_ne (bj G)).trans hC;refine⟨_,_,hS,rfl,_,_,hS,rfl,_,_,y,rfl,_,_,O,U,?_⟩;refine⟨fun Γ' S'=>Γ'=[some (.ref a),some (.int m),some (.int (k:Nat)),some (.int cell),none]/\S'=supd S a (.lst [.ref c,.int (n + 1),.int sd]) ,?_,?_⟩
  ·have hz:∀ z:Prop,z->z:=λ_ h=>h;refine⟨rfl,_,rfl,ite2 (λ_=>?_) λ_=>⟨rfl,_,rfl,ite2 (λ_=>?_) λ_=>⟨rfl,rfl⟩⟩⟩
   all_goals
    refine⟨_,_,y,rfl,_,_,y,rfl,.inl ⟨by decide,by decide⟩,by show(0:Int) < 2147483587;decide,.inr ⟨by decide,by decide⟩,by show(0:Int) < 2147483629;decide,?_⟩
    refine⟨.inl ⟨by omega,by omega⟩,_,_,y,rfl,.inl ⟨by decide,by decide⟩,by show(0:Int) < 2147483563;decide,.inr ⟨by decide,by decide⟩,by show(0:Int) < 2147483549;decide,?_⟩
    exact⟨⟨by decide,by decide⟩,by show(0:Int) < m;omega,aQb (q _ _ (md Z).1 (md Z).2 (λb hb _=>supd_ne hb) ⟨cs,n + 1,sd,y,O,G,L,Y⟩)⟩
  ·rintro Γ' S' ⟨rfl,rfl⟩;have hix:ixN (cs.map D.int).length (k:Int)=some k:=dXl (by rw[aj];exact hk)
   refine⟨⟨by omega,by omega⟩,_,_,y,rfl,_,_,O,hix,by show(0:Int) < m;omega,aQb (q _ _ (md Z).1 (md Z).2 (λb hb hb2=>(supd_ne hb2).trans (supd_ne hb)) ⟨cs.set k (cell / m),n + 1,sd,(supd_ne G).trans y,?_,G,?_,by rw[fI];exact Y⟩)⟩
   ·rw[supd_same,List.map_set]
   ·intro e
    have:=congrArg gK e
    rw[fI] at this;simp at this;exact L this
end
abbrev s_law_names:Stmt:=top 20
theorem sc_law_names:FnScope ["deck", "many", "letters", "found", "left", "any_word", "ahead", "word", "turn"] ["deck", "many"] (aQ4 s_law_names):=fsc
section
variable {P:aC} {w:aH} {K:aq} {mg:Str->Option ae} {base:aO}
theorem cQe (T:Tx K mg "_law_names" s_law_names) (B:Bs mg) (d_law_take:Df P w K mg base 1 "_law_take" ["deck", "many"] (spU K aQq)):Df P w K mg base 2 "_law_names" ["deck", "many"] (spU K cQc):=by
 refine aZl T sc_law_names (λF=>F.binds λ_ _ _ _ _ _=>us2 λ_ _=>rfl) ?_ λf cdv A outer s H E U=>⟨_,(aQ2 (aQ8 (i:=2) sc_law_names.nd rfl (fQ rfl) aZf)
  (aQ2 (aQ8 (i:=3) sc_law_names.nd rfl (aR rfl) (aQr (b:=true) aQ1))
  (aQ2 (aQw (aJ8 U (aQ6 d_law_take U rfl (aQ0 (dv 0) (aQ0 aQ5 aQ1))) aQ5) (aQ2 (aQ8 (i:=4) sc_law_names.nd rfl (fQ rfl) (aQr (b:=true) (aQ0 aZf (aQ0 aZf (aQ0 aZf (aQ0 aZf (aQ0 aZf (aQ0 aZf (aQ0 aZf (aQ0 aZf (aQ0 aZf (aQ0 aZf (aQ0 aZf (aQ0 aZf (aQ0 aZf (aQ0 aZf aQ1))))))))))))))))
  (aQ3 (aQa (aZa (N':=["k", "left", "deck"]) (oc:=none) (b:=false) [0] [] rfl sc_law_names.nd (λ_ _ _=>aQf ..) (.own (.cap (i:=4) rfl (by decide +kernel) (.cap (i:=0) rfl (by decide +kernel) .nil))) (aQi rfl) (aQp rfl B.range (aQ0 (dv 1) aQ1)) (cg_name (i:=0)) (λ_ _ _ _ _=>aQe (i:=0) (nd_ ["k", "left", "deck"]) rfl (aR rfl) (.inr rfl)) (λ_ _ _ _ _=>aZ7) aQh (λ_ _ _ _ _ _=>aQg rfl (by exact PD.o (dX5 (dv 1) (aQ0 (aQ6 d_law_take U rfl (aQ0 (dv 2) (aQ0 (aZd rfl B.len (aQ0 (dv 1) aQ1)) aQ1))) aQ1)))))))) aQd)
  (aQ2 (bQm cO (bJ2 U (aZd rfl B.len (aQ0 (dv 3) aQ1)) (dv 1)) (aQ2 (aQ8 (i:=5) sc_law_names.nd rfl (aR rfl) (gQf aZf (aQ0 (aZa (N':=["k", "letters", "deck"]) (oc:=none) (b:=false) [0] [] rfl sc_law_names.nd (λ_ _ _=>aQf ..) (.own (.cap (i:=2) rfl (by decide +kernel) (.cap (i:=0) rfl (by decide +kernel) .nil))) (aQi rfl) (aQp rfl B.range (aQ0 (aZ0 (k:=false) aQ5 (aQ6 d_law_take U rfl (aQ0 (dv 0) (aQ0 aQ5 aQ1)))) aQ1)) (cg_name (i:=0)) (λ_ _ _ _ _=>aQe (i:=0) (nd_ ["k", "letters", "deck"]) rfl (aR rfl) (.inr rfl)) (λ_ _ _ _ _=>aZ7) aQh (λ_ _ _ _ _ _=>aQg rfl (by exact PD.o (e_ix (dv 1) (aQ6 d_law_take U rfl (aQ0 (dv 2) (aQ0 aQ5 aQ1))))))) aQ1)))
  (aQ2 (aQ8 (i:=6) sc_law_names.nd rfl (aR rfl) (aZ0 (k:=false) (e_ix (aZ0 (k:=false) (aQr (b:=false) (aQ0 aZf aQ1)) (dv 3)) (eQi aQ5)) (e_ix (dv 2) (aQ6 d_law_take U rfl (aQ0 (dv 0) (aQ0 aQ5 aQ1))))))
  (aQ2 (aQ8 (i:=7) sc_law_names.nd rfl (aR rfl) (e_ix (aQr (b:=false) (aQ0 (dv 5) (aQ0 (e_sl (b:=false) (dv 6) aX3 (aX4 aQ5)) (aQ0 (e_ix (dv 2) (aQ6 d_law_take U rfl (aQ0 (dv 0) (aQ0 aQ5 aQ1)))) aQ1)))) (aQ6 d_law_take U rfl (aQ0 (dv 0) (aQ0 aQ5 aQ1)))))
  (aQ2 (aQ8 (i:=8) sc_law_names.nd rfl (aR rfl) aQ5)
  (aQ2 (bQm cO (dZf U (dv 7) (dv 3)) (aQ2 (aQ8 (i:=7) sc_law_names.nd rfl (aR rfl) (aZ0 (k:=false) (e_ix (dv 2) (aJ6 (dv 8) aQ5)) (e_ix (dv 2) (dZc (dv 8) aQ5))))
  (aQ3 (aQ8 (i:=8) sc_law_names.nd rfl (aR rfl) (aZ0 (k:=false) (dv 8) aQ5)))))
  (aQ3 (aXi (bQo (dv 3) (aQ0 (dv 7) aQ1))))))))))
  (aQ3 (aQa (dv 3))))))),?_⟩
 ·rintro ds S Q ⟨a,c,many,rfl,_⟩;rfl
 ·rintro ds S Q ⟨a,c,many,rfl,dk,h12,q⟩;refine⟨aQ7 (by decide),λfp hfp=>?_⟩
  obtain⟨L,G⟩:=dk.ne hfp;refine⟨a,c,4,rfl,dk.supd L G,by decide,by decide,λr1 S1 r10 r11 y dk1=>⟨rfl,_,rfl,ite2 (λc1=>?_) λc1=>?_⟩⟩
  ·refine⟨aQ7 (by show 14<=9999;decide),λlp hlp=>?_⟩
   obtain⟨Z,Y⟩:=dk1.ne hlp;have hlf:lp≠fp:=by rintro rfl;rw[y _ Z Y,supd_same] at hlp;cases hlp
   refine⟨⟨by omega,by omega⟩,?_⟩
   rw[bN];refine gQy Z Y (xs:=w14L.map D.str) supd_same (by show many<=14;omega) (by show 14<=9999;decide) (dk1.supd Z Y) λvs us S' pm hvl hl dk' off'=>?_
   obtain⟨as,bs,rfl,rfl,pn⟩:=aJj (f:=D.str) dStr' (λ_=>rfl) pm;rw[aj] at hvl;refine aX6 (S':=sdel (sdel S' lp) fp) (λb o e=>aJu b o (aJu b o e)) (q as _ (cg.mp (pn.nodup_iff.mpr fZ6)).1 hvl (λn hn=>dXm n (pn.mem_iff.mp (bh _ hn))) (λb h1 h2=>?_) ((dk'.eq (aQl (bj Z)) (aQl (bj Y))).eq (aQl (bj L)) (aQl (bj G))))
   by_cases e1:b=fp
   ·subst e1;rw[aZ8,hfp]
   ·rw[aQl e1]
    by_cases e2:b=lp
    ·subst e2;rw[aZ8];rw[y b h1 h2,supd_ne e1] at hlp;exact hlp.symm
    ·rw[aQl e2,off' b h1 h2 e2,supd_ne e2,y b h1 h2,supd_ne e1]
  ·refine⟨λm Γ S'=>∃ (x4 x5 x6 x7 x8:Option D) (found:List Str),Γ=[some (.ref a),some (.int many),some (.str lettersZ),some (.ref fp),x4,x5,x6,x7,x8]/\m=many - found.length/\found.length<=many/\found.Nodup/\(∀ n∈found,Nm n)/\S' fp=some (.lst (found.map D.str))/\DeckC S' a c/\∀ b,b≠a->b≠c->b≠fp->S' b=S b,⟨_,none,none,none,none,none,[],rfl,rfl,bL _,fZ,by simp,(y fp L G).trans supd_same,dk1,λb h1 h2 h3=>(y b h1 h2).trans (supd_ne h3)⟩,?_⟩
   rintro m Γ S' ⟨x4,x5,x6,x7,x8,found,rfl,rfl,hfl,hnd,hnm,hf,dk2,off2⟩;refine⟨_,hf,_,rfl,ite2 (λc2=>?_) λc2=>?_⟩
   ·have hlt:found.length < many:=by
     have:=of_decide_eq_true c2
     rw[aj] at this;omega
    refine⟨trivial,a,c,8,rfl,dk2,by decide,by decide,λr2 S2 r20 r21 off3 dk3=>⟨⟨by omega,by omega⟩,?_⟩⟩
    refine aZo (λi acc Sx=>∃ cs:List Nat,acc=(cs.map sg).map D.str/\cs.length=i/\(∀ x∈cs,97<=x/\x<=122)/\Off2 a c S' Sx/\DeckC Sx a c) ⟨[],rfl,rfl,by simp,off3,dk3⟩ ?_ ?_
    ·rintro i x acc Sx N hx ⟨cs,rfl,hcl,hcs,ox,dkx⟩ hN;refine⟨trivial,a,c,26,rfl,dkx,by decide,by decide,λr3 S3 r30 r31 O dk4=>?_⟩
     obtain⟨k,rfl⟩:∃ k:Nat,r3=k:=⟨r3.toNat,by omega⟩
     have hi8:i < 9:=by
      have:=(bd.mp hx).1
      rw[aZ1] at this;omega
     refine⟨aQ7 (by decide),_,aXk (by omega:k < 26),aQ7 (by rw[aj,aj];omega),hN _ _ ⟨cs++[97 + k],by rw[aM,aM];rfl,by rw[ax,hcl];rfl,λx hx=>?_,ox.trans O,dk4⟩⟩
     rcases aW.mp hx with z | z
     ·exact hcs x z
     ·rw[aB.mp z];omega
    ·rintro acc S3 ⟨cs,rfl,hcl,hcs,O,dk4⟩;rw[aZ1] at hcl;have c9:cs.length<=8/\1<=cs.length:=by omega
     have hf3:S3 fp=some (.lst (found.map D.str)):=(O fp L G).trans hf;have sl:((cs.map sg).map (·.length)).sum=cs.length:=by
      clear hcl hcs c9
      induction cs with
      | nil=>rfl
      | cons x cs ih=>rw[a9,a9,List.sum_cons,ih,gQo,aF];omega
     refine⟨trivial,cs.map sg,rfl,?_,?_⟩
     ·rw[sl];show cs.length + _ * 0<=_;omega
     rw[fQu];have nm5:Nm (⟨cs.toArray⟩:Str):=⟨by show 1<=cs.toArray.size;rw[ar];omega,by show cs.toArray.size<=8;rw[ar];omega,λx hx=>hcs x (by simpa using hx)⟩
     generalize (⟨cs.toArray⟩:Str)=w5 at nm5;have lst:atI ((aN "a"::found).map D.str) (-1)=some (D.str (cXn (aN "a"::found))):=by rw[dXa,dXk (by simp) ⟨#[]⟩];rfl
     have lm:Nm (cXn (aN "a"::found)):=by
      have:cXn (aN "a"::found)∈aN "a"::found:=aZp (by simp)
      rcases aA.mp this with e | e
      ·rw[e];exact dXm _ (by decide +kernel)
      ·exact hnm _ e
     generalize cXn (aN "a"::found)=lw at lst lm;refine⟨aQ7 (by show 1<=9999;decide),_,_,rfl,hf3,aQ7 (by show 1 + (found.map D.str).length<=9999;rw[aj];omega),_,_,rfl,lst,a,c,26,rfl,dk4,by decide,by decide,λr4 S4 r40 r41 off5 dk5=>?_⟩
     obtain⟨k4,rfl⟩:∃ k:Nat,r4=k:=⟨r4.toNat,by omega⟩
     have al:(lw++(⟨#[97 + k4]⟩:Str)).length=lw.length + 1:=fZ1 _ _;have nm6:=gQz (w:=lw++(⟨#[97 + k4]⟩:Str)) (by omega) (eXc lm.2.2 (by omega))
     refine⟨aQ7 (by decide),_,aXk (by omega:k4 < 26),aQ7 (by show lw.length + 1<=9999;have:=lm.2.1;omega),?_⟩
     refine⟨8,rfl,by have:=lm.2.1;rw[al];omega,a,c,26,rfl,dk5,by decide,by decide,λr5 S5 r50 r51 off6 dk6=>?_⟩
     obtain⟨k5,rfl⟩:∃ k:Nat,r5=k:=⟨r5.toNat,by omega⟩
     refine⟨aQ7 (by decide),_,aXk (by omega:k5 < 26),aQ7 (by show 3<=9999;decide),a,c,3,rfl,dk6,by decide,by decide,λr6 S6 r60 r61 off7 dk7=>?_⟩
     obtain⟨word,hw,nmw⟩:∃ word:Str,atI [D.str w5,D.str (cutS (lw++(⟨#[97 + k4]⟩:Str)) none (some 8)),D.str (⟨#[97 + k5]⟩:Str)] r6=some (.str word)/\Nm word:=by
      have h:r6=0\/r6=1\/r6=2:=by omega
      rcases h with rfl | rfl | rfl
      ·exact⟨_,rfl,nm5⟩
      ·exact⟨_,rfl,nm6⟩
      ·exact⟨_,rfl,eXd (by omega)⟩
     have offA:Off2 a c S' S6:=((O.trans off5).trans off6).trans off7;have hf6:S6 fp=some (.lst (found.map D.str)):=(offA fp L G).trans hf;refine⟨_,_,rfl,hw,?_⟩;refine⟨λm Γ Sx=>Sx=S6/\∃ (x5 x6:Option D) (t:Nat) (wd:Str),Γ=[some (.ref a),some (.int many),some (.str lettersZ),some (.ref fp),x4,x5,x6,some (.str wd),some (.int (t:Nat))]/\m=found.length + 2 - t/\t<=found.length + 1/\Nm wd/\(t=0\/wd=tw (t - 1))/\∀ i,i + 1 < t->tw i∈found,⟨_,rfl,_,_,0,word,rfl,rfl,by omega,nmw,.inl rfl,λi h=>by omega⟩,?_⟩
     rintro m2 Γ Sx ⟨rfl,y5,y6,t,wd,rfl,rfl,ht,nwd,hwd,htw⟩;refine⟨_,hf6,bQ9 found,okS wd found,_,rfl,ite2 (λc3=>?_) λc3=>?_⟩
     ·have hin:wd∈found:=mem_strs.mp (of_decide_eq_true c3);have hall:∀ i,i < t->tw i∈found:=λi hi=>by
       rcases bO (i + 1) t with z | z
       ·exact htw i z
       ·rcases hwd with e | e
        ·omega
        ·have:i=t - 1:=by omega
         rw[this,<- e];exact hin
      have tf:=gZ1 hall;have t26:((t:Int) % 26)=(t:Int):=by omega
      have t0:((t:Int) / 26)=((0:Nat):Int):=by omega
      refine⟨by show(0:Int) < 26;decide,aQ7 (by decide),97 + t,(by rw[t26];exact aXk (by omega:t < 26):atI lettersZ.cps.toList ((t:Int) % 26)=some (97 + t)),⟨by decide,by decide⟩,aQ7 (by decide),_,(by rw[t0];exact aXk (by decide:0 < 26):atI lettersZ.cps.toList ((t:Int) / 26)=some (97 + 0)),aQ7 (by show 1 + 1<=9999;decide),?_⟩
      refine⟨found.length + 2 - (t + 1),by omega,rfl,_,_,t + 1,tw t,rfl,rfl,by omega,?_,.inr rfl,λi hi=>hall i (by omega)⟩
      exact⟨by show 1<=2;decide,by show 2<=8;decide,eXc (k:=0) (eXd (by omega:t < 26)).2.2 (by decide)⟩
     ·have hno:wd∉found:=λz=>c3 (decide_eq_true (mem_strs.mpr z));refine⟨⟨_,hf6⟩,_,hf6,aQ7 (by rw[aj];omega),many - (found.length + 1),by omega,x4,y5,y6,_,_,found++[wd],rfl,by rw[ax];rfl,by rw[ax];show _ + 1<=_;omega,?_,λn hn=>?_,by rw[supd_same,aM];rfl,dk7.supd L G,λb h1 h2 h3=>(supd_ne h3).trans ((offA b h1 h2).trans (off2 b h1 h2 h3))⟩
      ·rw[cg];exact⟨hnd,bX.mpr ⟨by simp,fZ⟩,λu hu v hv=>by rw[aB.mp hv];rintro rfl;exact hno hu⟩
      ·rcases aW.mp hn with z | z
       ·exact hnm n z
       ·rw[aB.mp z];exact nwd
   ·have he:found.length=many:=by
     have:¬ ((found.map D.str).length:Int) < (many:Int):=λz=>c2 (decide_eq_true z)
     rw[aj] at this;omega
    refine eX4 (S':=sdel S' fp) hf aJu aZ8 (q found _ hnd he hnm (λb h1 h2=>?_) (dk2.eq (aQl (bj L)) (aQl (bj G))))
    by_cases e:b=fp
    ·subst e;rw[aZ8,hfp]
    ·rw[aQl e];exact off2 b h1 h2 e
end
abbrev s_law_shuffled:Stmt:=top 21
theorem sc_law_shuffled:FnScope ["deck", "things", "left"] ["deck", "things"] (aQ4 s_law_shuffled):=fsc
section
variable {P:aC} {w:aH} {K:aq} {mg:Str->Option ae} {base:aO}
theorem bZk (T:Tx K mg "_law_shuffled" s_law_shuffled) (B:Bs mg) (d_law_take:Df P w K mg base 1 "_law_take" ["deck", "many"] (spU K aQq)):Df P w K mg base 2 "_law_shuffled" ["deck", "things"] (spU K aZq):=by
 refine aZl T sc_law_shuffled (λF=>F.binds λ_ _ _ _ _ _=>us2 λ_ _=>rfl) ?_ λf cdv A outer s H E hr=>⟨_,(aQ2 (aQ8 (i:=2) sc_law_shuffled.nd rfl (fQ rfl) (dZo (b:=true) rfl B.list (aQ0 (dv 1) aQ1)))
  (aQ3 (aQa (aZa (N':=["k", "left", "deck"]) (oc:=none) (b:=true) [0] [] rfl sc_law_shuffled.nd (λ_ _ _=>aQf ..) (.own (.cap (i:=2) rfl (by decide +kernel) (.cap (i:=0) rfl (by decide +kernel) .nil))) (aQi rfl) (aQp rfl B.range (aQ0 (aZd rfl B.len (aQ0 (dv 2) aQ1)) aQ1)) (cg_name (i:=0)) (λ_ _ _ _ _=>aQe (i:=0) (nd_ ["k", "left", "deck"]) rfl (aR rfl) (.inr rfl)) (λ_ _ _ _ _=>aZ7) aQh (λ_ _ _ _ _ _=>aQg rfl (by exact PD.o (dX5 (dv 1) (aQ0 (aQ6 d_law_take hr rfl (aQ0 (dv 2) (aQ0 (aZd rfl B.len (aQ0 (dv 1) aQ1)) aQ1))) aQ1)))))))),?_⟩
 ·rintro ds S Q ⟨a,c,d,xs,rfl,_⟩;rfl
 ·rintro ds S Q ⟨a,c,d,xs,rfl,hd,dk,h99,q⟩;refine⟨xs,hd.sq,λlp Z=>?_⟩;obtain⟨O,L⟩:=dk.ne Z;refine⟨_,supd_same,⟨by omega,by omega⟩,?_⟩
  rw[bN];refine gQy O L (xs:=xs) supd_same (au _) (by omega) (dk.supd O L) λvs us S' pm hvl hl dk' y=>?_
  have eu:us=[]:=by
   have:=pm.length_eq
   rw[ax] at this;exact bE (by omega)
  subst eu;rw[bA] at pm;intro p hp;have G:p≠lp:=by rintro rfl;rw[hl] at hp;cases hp
  obtain⟨Y,U⟩:=dk'.ne hp;refine aX6 (S':=sdel (supd S' p (.lst vs)) lp) aJu (q p vs _ pm ?_ ?_ (λb h1 h2 h3=>?_) ?_)
  ·rw[<- (supd_ne G:supd S lp _ p=S p),<- y p Y U G];exact hp
  ·rw[aQl G];exact supd_same
  ·by_cases e:b=lp
   ·subst e;rw[aZ8,Z]
   ·rw[aQl e,supd_ne h3,y b h1 h2 e,supd_ne e]
  ·exact(dk'.supd Y U).eq (aQl (bj O)) (aQl (bj L))
end
abbrev s_law_planted:Stmt:=top 23
theorem sc_law_planted:FnScope ["deck", "pool", "left", "core", "found", "size", "more"] ["deck", "pool"] (aQ4 s_law_planted):=fsc
section
variable {P:aC} {w:aH} {K:aq} {mg:Str->Option ae} {base:aO}
theorem bX2 (T:Tx K mg "_law_planted" s_law_planted) (B:Bs mg) (d_law_take:Df P w K mg base 2 "_law_take" ["deck", "many"] (spU K aQq)) (d_law_shuffled:Df P w K mg base 2 "_law_shuffled" ["deck", "things"] (spU K aZq)):Df P w K mg base 3 "_law_planted" ["deck", "pool"] (spU K bZi):=by
 refine aZl T sc_law_planted (λF=>F.binds λ_ _ _ _ _ _=>us2 λ_ _=>rfl) ?_ λf cdv A outer s H E hr=>⟨_,(aQ2 (aQ8 (i:=2) sc_law_planted.nd rfl (fQ rfl) (aQ6 d_law_shuffled hr rfl (aQ0 (dv 0) (aQ0 (dv 1) aQ1))))
  (aQ2 (aXj (i:=3) rfl (aR rfl) (N':=["k", "left"]) (oc:=none) (b:=false) [0] [] rfl sc_law_planted.nd (λ_ _ _=>aQf ..) (.own (.cap (i:=2) rfl (by decide +kernel) .nil)) (aQi rfl) (aQp rfl B.range (aQ0 (fQe rfl B.min (aQ0 (aZd rfl B.len (aQ0 (dv 2) aQ1)) (aQ0 (aQ6 d_law_take hr rfl (aQ0 (dv 0) (aQ0 aQ5 aQ1))) aQ1))) aQ1)) (cg_name (i:=0)) (λ_ _ _ _ _=>aQe (i:=0) (nd_ ["k", "left"]) rfl (aR rfl) (.inr rfl)) (λ_ _ _ _ _=>aZ7) aQh (λ_ _ _ _ _ _=>aQg rfl (by exact PD.o (fQp (dv 1)))))
  (aQ2 (aQ8 (i:=4) sc_law_planted.nd rfl (aR rfl) (aQr (b:=true) aQ1))
  (bZe (aQw (aJ8 hr (aQ6 d_law_take hr rfl (aQ0 (dv 0) (aQ0 aQ5 aQ1))) aQ5) (aQ3 (aXi (bQo (dv 4) (aQ0 (aZi rfl B.tuple (aQ0 (aXv (b:=false) hr rfl B.sorted (aQ0 (dv 3) aQ1)) aQ1)) aQ1)))) aQd)
  (aQ2 (bQm cO (bQe hr (dv 2) (aQr (b:=false) aQ1)) (aQ2 (aQ8 (i:=5) sc_law_planted.nd rfl (aR rfl) (aZ0 (k:=false) aQ5 (aQ6 d_law_take hr rfl (aQ0 (dv 0) (aQ0 (e_ix (aQr (b:=false) (aQ0 aQ5 (aQ0 aQ5 (aQ0 aQ5 aQ1)))) (aQ6 d_law_take hr rfl (aQ0 (dv 0) (aQ0 aQ5 aQ1)))) aQ1)))))
  (aQ2 (aXj (i:=6) rfl (aR rfl) (N':=["k", "left"]) (oc:=none) (b:=false) [0] [] rfl sc_law_planted.nd (λ_ _ _=>aQf ..) (.own (.cap (i:=2) rfl (by decide +kernel) .nil)) (aQi rfl) (aQp rfl B.range (aQ0 (fQe rfl B.min (aQ0 (aZd rfl B.len (aQ0 (dv 2) aQ1)) (aQ0 (dv 5) aQ1))) aQ1)) (cg_name (i:=0)) (λ_ _ _ _ _=>aQe (i:=0) (nd_ ["k", "left"]) rfl (aR rfl) (.inr rfl)) (λ_ _ _ _ _=>aZ7) aQh (λ_ _ _ _ _ _=>aQg rfl (by exact PD.o (fQp (dv 1)))))
  (aQ3 (aXi (bQo (dv 4) (aQ0 (aZi rfl B.tuple (aQ0 (aXv (b:=false) hr rfl B.sorted (aQ0 (aZ0 (k:=false) (dv 3) (dv 6)) aQ1)) aQ1)) aQ1)))))))
  (aQ3 (aQa (dv 4)))))))),?_⟩
 ·rintro ds S Q ⟨a,c,d,pool,rfl,_⟩;rfl
 ·rintro ds S Q ⟨a,c,d,pool,rfl,hd,dk,nd,n12,q⟩;refine⟨a,c,d,pool.map D.str,rfl,hd,dk,by rw[aj];omega,λlp ys S1 pm hlp h1 off1 dk1=>?_⟩
  obtain⟨as,rfl,pa⟩:=bZj pm;have al:=pa.length_eq;obtain⟨O,L⟩:=dk.ne hlp;refine⟨_,h1,a,c,4,rfl,dk1,by decide,by decide,λr2 S2 r20 r21 off2 dk2=>?_⟩
  obtain⟨k2,rfl⟩:∃ k:Nat,r2=k:=⟨r2.toNat,by omega⟩
  obtain⟨m,hm,mm,mp,_⟩:=min2 (as.map D.str).length k2;rw[aj] at mm;have h2:S2 lp=some (.lst (as.map D.str)):=(off2 lp O L).trans h1;refine⟨?_,?_⟩
  ·rw[hm];exact⟨by omega,by omega⟩
  rw[hm,bN];refine gZ2 h2 (by rw[aj];exact mm) (by rw[aj];omega) λvs us S3 pm3 hvl h3 G=>?_
  obtain⟨cs,us,rfl,rfl,pn⟩:=aJj (f:=D.str) dStr' (λ_=>rfl) pm3;rw[aj] at hvl;have pp:(cs++us).Perm pool:=pn.trans pa;have cnd:(cs++us).Nodup:=pp.nodup_iff.mpr nd;have dk3:DeckC S3 a c:=dk2.eq (G a (bj O)) (G c (bj L));have kp3:∀ b,b≠a->b≠c->b≠lp->S3 b=S b:=λb h4 h5 h6=>(G b h6).trans ((off2 b h4 h5).trans (off1 b h4 h5 h6));refine⟨aQ7 (by decide),λfp hfp=>?_⟩
  obtain⟨Z,Y⟩:=dk3.ne hfp;have U:fp≠lp:=by rintro rfl;rw[h3] at hfp;cases hfp
  have hSfp:S fp=none:=(kp3 fp Z Y U).symm.trans hfp;have ul:us.length<=12:=by have:=pp.length_eq;rw[ax] at this;omega
  refine⟨fun Γ' S'=>∃ (ts:List (List Str)),Γ'=[some (.ref a),some d,some (.ref lp),some (.lst (cs.map D.str)),some (.ref fp),none,none]/\S' fp=some (.lst (ts.map tupS))/\ts.length<=1/\(∀ t∈ts,cQd pool t)/\S' lp=some (.lst (us.map D.str))/\DeckC S' a c/\∀ b,b≠a->b≠c->b≠lp->b≠fp->S' b=S b,?_,?_⟩
  ·refine⟨a,c,3,rfl,dk3.supd Z Y,by decide,by decide,λr4 S4 r40 r41 off4 dk4=>⟨rfl,_,rfl,?_⟩⟩
   have h4f:S4 fp=some (.lst []):=(off4 fp Z Y).trans supd_same;have h4l:S4 lp=some (.lst (us.map D.str)):=(off4 lp O L).trans ((supd_ne (bj U)).trans h3);have kp4:∀ b,b≠a->b≠c->b≠lp->b≠fp->S4 b=S b:=λb h5 h6 h7 h8=>(off4 b h5 h6).trans ((supd_ne h8).trans (kp3 b h5 h6 h7));refine ite2 (λ_=>?_) λ_=>⟨[],rfl,h4f,bL _,by simp,h4l,dk4,kp4⟩
   refine⟨⟨_,h4f⟩,.inl ⟨cs,rfl,by omega,_,rfl,_,h4f,aQ7 (by decide),[srS cs],rfl,supd_same,au _,λt ht=>?_,(supd_ne (bj U)).trans h4l,dk4.supd Z Y,λb h5 h6 h7 h8=>(supd_ne h8).trans (kp4 b h5 h6 h7 h8)⟩⟩
   rw[aB.mp ht];exact bJc (cg.mp cnd).1 (λn hn=>pp.mem_iff.mp (bh _ hn)) (by omega)
  rintro Γ' S' ⟨ts,rfl,hf,tl,hts,hl,dk',kp⟩;refine⟨λm Γ S'=>∃ (x5 x6:Option D) (ts:List (List Str)) (us:List Str),Γ=[some (.ref a),some d,some (.ref lp),some (.lst (cs.map D.str)),some (.ref fp),x5,x6]/\m=us.length/\S' fp=some (.lst (ts.map tupS))/\ts.length + us.length<=13/\(∀ t∈ts,cQd pool t)/\S' lp=some (.lst (us.map D.str))/\(cs++us).Nodup/\(∀ n∈us,n∈pool)/\DeckC S' a c/\∀ b,b≠a->b≠c->b≠lp->b≠fp->S' b=S b,⟨_,none,none,ts,us,rfl,rfl,hf,by omega,hts,hl,cnd,λn hn=>pp.mem_iff.mp (aS _ hn),dk',kp⟩,?_⟩
  have csp:∀ n∈cs,n∈pool:=λn hn=>pp.mem_iff.mp (bh _ hn);clear hf tl hts hl dk' kp pp cnd ul pn kp3 h3 dk3 G pm3 hfp;rintro m' Γ S5 ⟨x5,x6,ts,us,rfl,rfl,hf,tl,hts,hl,cnd,usp,dk5,kp⟩;refine⟨aQ7 (by decide),_,_,hl,rfl,?_,_,rfl,ite2 (λc1=>?_) λc1=>?_⟩
  ·unfold okEs;rw[b0];rfl
  ·have une:us≠[]:=by
    rintro rfl
    have:(!decide (([]:List Str).map D.str=[]))=true:=c1
    simp at this
   have u1:1<=us.length:=c8.mpr une;refine⟨aQ7 (by show 3<=9999;decide),a,c,3,rfl,dk5,by decide,by decide,λr6 S6 r60 r61 off6 dk6=>?_⟩
   obtain⟨s,hs,hs1,hs3⟩:∃ s:Nat,atI [D.int 1,.int 2,.int 3] r6=some (.int (s:Nat))/\1<=s/\s<=3:=by
    have h:r6=0\/r6=1\/r6=2:=by omega
    rcases h with rfl | rfl | rfl
    ·exact⟨1,rfl,by decide,by decide⟩
    ·exact⟨2,rfl,by decide,by decide⟩
    ·exact⟨3,rfl,by decide,by decide⟩
   refine⟨_,_,rfl,hs,a,c,s,rfl,dk6,by omega,by omega,λr7 S7 r70 r71 off7 dk7=>?_⟩
   obtain⟨k7,hk7⟩:∃ k:Nat,1 + r7=(k:Int):=⟨(1 + r7).toNat,by omega⟩
   have offA:Off2 a c S5 S7:=off6.trans off7;have hl7:S7 lp=some (.lst (us.map D.str)):=(offA lp O L).trans hl;obtain⟨m8,hm8,mm8,mp8,mo8⟩:=min2 (us.map D.str).length k7;rw[aj] at mm8 mo8;have hm8':(λi j:Int=>if j < i then j else i) ((us.map D.str).length:Int) (1 + r7)=(m8:Int):=by rw[hk7];exact hm8
   refine⟨_,hl7,?_,?_⟩
   ·rw[hm8'];exact⟨by omega,by omega⟩
   rw[hm8',bN];refine gZ2 hl7 (by rw[aj];exact mm8) (by rw[aj];omega) λvs us' S8 pm8 hvl8 h8 y=>?_
   obtain⟨ms,us',rfl,rfl,pn8⟩:=aJj (f:=D.str) dStr' (λ_=>rfl) pm8;rw[aj] at hvl8;have ul8:=pn8.length_eq;rw[ax] at ul8;have hf8:S8 fp=some (.lst (ts.map tupS)):=(y fp U).trans ((offA fp Z Y).trans hf);have dk8:DeckC S8 a c:=dk7.eq (y a (bj O)) (y c (bj L));have cnd8:(cs++(ms++us')).Nodup:=(kJ cs pn8).nodup_iff.mpr cnd;have cm:(cs++ms).Nodup:=cnd8.sublist (k8 (fk _) (gC _ _));have cml:(cs++ms).length<=6:=by rw[ax];omega
   refine⟨⟨_,hf8⟩,_,_,rfl,rfl,aQ7 (by rw[aj,aj];rw[ax] at cml;omega),.inl ⟨cs++ms,(by rw[aM];rfl),by omega,_,rfl,_,hf8,aQ7 (by rw[aj];omega),us'.length,by omega,_,_,ts++[srS (cs++ms)],us',rfl,rfl,by rw[supd_same,aM];rfl,by rw[ax];show _ + 1 + _<=13;omega,λt ht=>?_,(supd_ne (bj U)).trans h8,cnd8.sublist (k8 (fk _) (dM _ _)),λn hn=>usp n (pn8.mem_iff.mp (aS _ hn)),dk8.supd Z Y,λb h5 h6 h7 h9=>(supd_ne h9).trans ((y b h7).trans ((offA b h5 h6).trans (kp b h5 h6 h7 h9)))⟩⟩
   rcases aW.mp ht with z | z
   ·exact hts t z
   ·rw[aB.mp z];refine bJc cm (λn hn=>?_) cml;rcases aW.mp hn with z | z
    ·exact csp n z
    ·exact usp n (pn8.mem_iff.mp (bh _ z))
  ·refine aX6 (S':=sdel S5 lp) aJu (q fp ts _ hSfp ((aQl U).trans hf) hts (by omega) (λb h5 h6 h7=>?_) (dk5.eq (aQl (bj O)) (aQl (bj L))))
   by_cases e:b=lp
   ·subst e;rw[aZ8,hlp]
   ·rw[aQl e];exact kp b h5 h6 e h7
end
abbrev s_law_set:Stmt:=top 22
theorem cJm:FnScope ["deck", "pool", "most"] ["deck", "pool", "most"] (aQ4 s_law_set):=fsc
section
variable {P:aC} {w:aH} {K:aq} {mg:Str->Option ae} {base:aO}
theorem cJn (T:Tx K mg "_law_set" s_law_set) (B:Bs mg) (d_law_take:Df P w K mg base 2 "_law_take" ["deck", "many"] (spU K aQq)) (d_law_shuffled:Df P w K mg base 2 "_law_shuffled" ["deck", "things"] (spU K aZq)):Df P w K mg base 3 "_law_set" ["deck", "pool", "most"] (spU K cZb):=by
 refine aZl T cJm (λF=>F.binds λ_ _ _ _ _ _=>us3 λ_ _ _=>rfl) ?_ λf cdv A outer s H E Z=>⟨_,(aQ3 (aQa (aZi rfl B.tuple (aQ0 (aXv (b:=false) Z rfl B.sorted (aQ0 (e_sl (b:=false) (aQ6 d_law_shuffled Z rfl (aQ0 (dv 0) (aQ0 (dv 1) aQ1))) aX3 (aX4 (aQ6 d_law_take Z rfl (aQ0 (dv 0) (aQ0 (aZ0 (k:=false) (fQe rfl B.min (aQ0 (dv 2) (aQ0 (aZd rfl B.len (aQ0 (dv 1) aQ1)) aQ1))) aQ5) aQ1))))) aQ1)) aQ1)))),?_⟩
 ·rintro ds S Q ⟨a,c,d,i,most,rfl,_⟩;rfl
 ·rintro ds S Q ⟨a,c,d,i,most,rfl,hd,dk,nd,n24,m24,q⟩;refine⟨a,c,d,i.map D.str,rfl,hd,dk,by rw[aj];omega,λp ys S1 pm hp h1 G dk1=>?_⟩
  obtain⟨as,rfl,Y⟩:=bZj pm;obtain⟨O,L⟩:=dk.ne hp;obtain⟨m,hm,mm,mp,_⟩:=min2 most (i.map D.str).length;have al:=Y.length_eq;rw[aj] at mp;rcases hd with rfl | rfl
  all_goals
   refine⟨_,rfl,a,c,(m:Int) + 1,congrArg (λz:Int=>[D.ref a,.int (z + 1)]) hm,dk1,by omega,by omega,λr S2 r0 r1 y dk2=>⟨r,rfl,_,(y p O L).trans h1,?_⟩⟩
   rw[cutN _ r0 (by rw[aj];omega),<- List.map_take]
   have tl:(as.take r.toNat).length<=most:=by rw[bJ];omega
   have U:(as.take r.toNat).Nodup:=(Y.nodup_iff.mpr nd).sublist (dY _ _);refine .inl ⟨as.take r.toNat,rfl,by omega,_,rfl,aX6 (S':=sdel S2 p) aJu (q _ _ (cZa U) (λn hn=>Y.mem_iff.mp (fg (mem_srS.mp hn))) (by rw[(aJh _).length_eq];exact tl) (λb h2 h3=>?_) (dk2.eq (aQl (bj O)) (aQl (bj L))))⟩
   by_cases e:b=p
   ·subst e;rw[aZ8,hp]
   ·rw[aQl e,y b h2 h3,G b h2 h3 e]
end
abbrev s_law_collection:Stmt:=top 24
theorem sc_law_collection:FnScope ["deck", "most", "pool", "way", "some", "many", "size", "k", "one"] ["deck", "most"] (aQ4 s_law_collection):=fsc
section
variable {P:aC} {w:aH} {K:aq} {mg:Str->Option ae} {base:aO}
theorem bQ0 (T:Tx K mg "_law_collection" s_law_collection) (B:Bs mg) (d_law_take:Df P w K mg base 3 "_law_take" ["deck", "many"] (spU K aQq)) (d_law_names:Df P w K mg base 3 "_law_names" ["deck", "many"] (spU K cQc)) (d_law_planted:Df P w K mg base 3 "_law_planted" ["deck", "pool"] (spU K bZi)) (d_law_set:Df P w K mg base 3 "_law_set" ["deck", "pool", "most"] (spU K cZb)) (d_law_shuffled:Df P w K mg base 3 "_law_shuffled" ["deck", "things"] (spU K aZq)):Df P w K mg base 4 "_law_collection" ["deck", "most"] (spU K aJ1):=by
 refine aZl T sc_law_collection (λF=>F.binds λ_ _ _ _ _ _=>us2 λ_ _=>rfl) ?_ λf cdv A outer s H E L=>⟨_,(aQ2 (aQ8 (i:=2) sc_law_collection.nd rfl (aR rfl) (aQ6 d_law_names L rfl (aQ0 (dv 0) (aQ0 (aZ0 (k:=false) aQ5 (aQ6 d_law_take L rfl (aQ0 (dv 0) (aQ0 (e_ix (aQr (b:=false) (aQ0 aQ5 (aQ0 aQ5 aQ1))) (aQ6 d_law_take L rfl (aQ0 (dv 0) (aQ0 aQ5 aQ1)))) aQ1)))) aQ1))))
  (aQ2 (aQ8 (i:=3) sc_law_collection.nd rfl (aR rfl) (aQ6 d_law_take L rfl (aQ0 (dv 0) (aQ0 aQ5 aQ1))))
  (aQ2 (aQ8 (i:=4) sc_law_collection.nd rfl (aR rfl) (aQr (b:=true) aQ1))
  (bZe (aQw (bJ2 L (dv 3) aQ5) (aQ3 (aQ8 (i:=4) sc_law_collection.nd rfl (aR rfl) (aQ6 d_law_planted L rfl (aQ0 (dv 0) (aQ0 (dv 2) aQ1))))) aQd)
  (aQ2 (aQ8 (i:=5) sc_law_collection.nd rfl (aR rfl) (aQ6 d_law_take L rfl (aQ0 (dv 0) (aQ0 (aZ0 (k:=false) (dv 1) aQ5) aQ1))))
  (aQ2 (aQ8 (i:=6) sc_law_collection.nd rfl (aR rfl) (aQ6 d_law_take L rfl (aQ0 (dv 0) (aQ0 aQ5 aQ1))))
  (aQ2 (bQ8 cO rfl (aQp rfl B.range (aQ0 (aXw (dv 5) (eX2 rfl B.int (aQ0 (e_gt L (dv 3) aQ5) aQ1))) aQ1)) (aX5 (i:=7) sc_law_collection.nd rfl (aR rfl)) (aQ2 (aQ8 (i:=8) sc_law_collection.nd rfl (aR rfl) (aQ6 d_law_set L rfl (aQ0 (dv 0) (aQ0 (dv 2) (aQ0 aQ5 aQ1)))))
  (bZe (aQw (aJ8 L (dv 3) aQ5) (aQ3 (aQ8 (i:=8) sc_law_collection.nd rfl (aR rfl) (aZi rfl B.tuple (aQ0 (aXv (b:=false) L rfl B.sorted (aQ0 (e_sl (b:=false) (aQ6 d_law_shuffled L rfl (aQ0 (dv 0) (aQ0 (dv 2) aQ1))) aX3 (aX4 (dv 6))) aQ1)) aQ1)))) aQd)
  (aQ3 (aXi (bQo (dv 4) (aQ0 (dv 8) aQ1)))))))
  (aQ3 (aQa (aZi rfl B.tuple (aQ0 (bZf (b:=false) L rfl B.sorted rfl B.set (e_sl (b:=false) (dv 4) aX3 (aX4 (dv 1)))) aQ1))))))))))),?_⟩
 ·rintro ds S Q ⟨a,c,most,rfl,_⟩;rfl
 ·rintro ds S Q ⟨a,c,most,rfl,dk,h14,q⟩;refine⟨aQ7 (by show 2<=9999;decide),a,c,2,rfl,dk,by decide,by decide,λr1 S1 r10 r11 off1 dk1=>?_⟩
  obtain⟨s,hs,hs1,hs3⟩:∃ s:Nat,atI [D.int 12,.int 5] r1=some (.int (s:Nat))/\1<=s/\s<=12:=by
   have h:r1=0\/r1=1:=by omega
   rcases h with rfl | rfl
   ·exact⟨12,rfl,by decide,by decide⟩
   ·exact⟨5,rfl,by decide,by decide⟩
  refine⟨_,_,rfl,hs,a,c,s,rfl,dk1,by omega,by omega,λr2 S2 r20 r21 off2 dk2=>?_⟩
  obtain⟨k2,hk2⟩:∃ k:Nat,1 + r2=(k:Int):=⟨(1 + r2).toNat,by omega⟩
  refine⟨a,c,k2,congrArg (λz:Int=>[D.ref a,.int z]) hk2,dk2,by omega,λpool S3 nd pl hnm off3 dk3=>?_⟩
  refine⟨a,c,4,rfl,dk3,by decide,by decide,λr4 S4 r40 r41 off4 dk4=>?_⟩
  have offA:Off2 a c S S4:=((off1.trans off2).trans off3).trans off4;refine⟨aQ7 (by decide),λsp0 hsp0=>?_⟩
  obtain⟨y,Y⟩:=dk4.ne hsp0;refine⟨fun Γ' S'=>∃ (sp:Addr) (ts:List (List Str)),Γ'=[some (.ref a),some (.int most),some (.lst (pool.map D.str)),some (.int r4),some (.ref sp),none,none,none,none]/\S sp=none/\S' sp=some (.lst (ts.map tupS))/\ts.length<=13/\(∀ t∈ts,cQd pool t)/\DeckC S' a c/\∀ b o,b≠a->b≠c->S b=some o->S' b=some o,?_,?_⟩
  ·have kp0:∀ b o,b≠a->b≠c->S b=some o->supd S4 sp0 (.lst []) b=some o:=λb o h1 h2 e=>by
    have:=(offA b h1 h2).trans e
    rw[supd_ne (by rintro rfl;rw[this] at hsp0;cases hsp0)];exact this
   have hS0:S sp0=none:=(offA sp0 y Y).symm.trans hsp0;refine⟨_,rfl,ite2 (λ_=>?_) λ_=>⟨sp0,[],rfl,hS0,supd_same,by decide,by simp,dk4.supd y Y,kp0⟩⟩
   refine⟨a,c,_,pool,rfl,.inr rfl,dk4.supd y Y,nd,by omega,λp ts S' hp h5 G tl off5 dk5=>⟨p,ts,rfl,?_,h5,tl,G,dk5,λb o h1 h2 e=>?_⟩⟩
   ·obtain⟨hpa,hpc⟩:=(dk4.supd y Y).ne hp;cases e:S p with
    | none=>rfl
    | some o=>rw[kp0 p o hpa hpc e] at hp;cases hp
   ·have h6:=kp0 b o h1 h2 e;rw[off5 b h1 h2 (by rintro rfl;rw[hp] at h6;cases h6)];exact h6
  rintro Γ' S5 ⟨sp,ts,rfl,hSsp,h5,tl,G,dk5,kp5⟩;clear hsp0 y Y;have y:sp≠a/\sp≠c:=dk.ne hSsp;refine⟨a,c,(most:Int) + 1,rfl,dk5,by omega,by omega,λr6 S6 r60 r61 off6 dk6=>?_⟩
  refine⟨a,c,7,rfl,dk6,by decide,by decide,λO S7 r70 r71 off7 dk7=>?_⟩
  have kp7:∀ b o,b≠a->b≠c->S b=some o->S7 b=some o:=λb o h1 h2 e=>(off7 b h1 h2).trans ((off6 b h1 h2).trans (kp5 b o h1 h2 e));have h7:S7 sp=some (.lst (ts.map tupS)):=(off7 sp y.1 y.2).trans ((off6 sp y.1 y.2).trans h5);obtain⟨n8,hn8,hn14⟩:∃ n:Nat,r6 * (if decide (r4 > 0) then 1 else 0)=(n:Int)/\n<=14:=by
   split
   ·exact⟨r6.toNat,by omega,by omega⟩
   ·exact⟨0,by omega,by omega⟩
  refine⟨.inr ⟨by split <;> decide,by split <;> decide⟩,?_,?_⟩
  ·show _/\_;rw[hn8];exact⟨by omega,by omega⟩
  have en:(r6 * (if decide (r4 > 0) then 1 else 0)).toNat=n8:=by rw[hn8];rfl
  refine aJ9 (λi Γ S'=>∃ (x7 x8:Option D) (ts:List (List Str)),Γ=[some (.ref a),some (.int most),some (.lst (pool.map D.str)),some (.int r4),some (.ref sp),some (.int r6),some (.int O),x7,x8]/\S' sp=some (.lst (ts.map tupS))/\ts.length<=13 + i/\(∀ t∈ts,cQd pool t)/\DeckC S' a c/\∀ b o,b≠a->b≠c->S b=some o->S' b=some o) ⟨none,none,ts,rfl,h7,by omega,G,dk7,kp7⟩ ?_ ?_
  ·rintro i x Γ S8 N hx ⟨x7,x8,ts,rfl,h8,tl,G,dk8,kp8⟩ hN;have hi:i < n8:=by
    have:=(bd.mp hx).1
    rwa [aZ1,en] at this
   refine⟨trivial,a,c,_,pool,6,rfl,.inr rfl,dk8,nd,by omega,by decide,λt S9 t1 t2 t3 off9 dk9=>?_⟩
   refine⟨fun Γ' S'=>∃ t:List Str,Γ'=[some (.ref a),some (.int most),some (.lst (pool.map D.str)),some (.int r4),some (.ref sp),some (.int r6),some (.int O),some x,some (tupS t)]/\cQd pool t/\S' sp=some (.lst (ts.map tupS))/\DeckC S' a c/\∀ b o,b≠a->b≠c->S b=some o->S' b=some o,?_,?_⟩
   ·have h9:S9 sp=some (.lst (ts.map tupS)):=(off9 sp y.1 y.2).trans h8;have kp9:∀ b o,b≠a->b≠c->S b=some o->S9 b=some o:=λb o h1 h2 e=>(off9 b h1 h2).trans (kp8 b o h1 h2 e);refine⟨rfl,_,rfl,ite2 (λ_=>?_) λ_=>⟨t,rfl,⟨t1,t2,t3⟩,h9,dk9,kp9⟩⟩;refine⟨a,c,_,pool.map D.str,rfl,.inr rfl,dk9,by rw[aj];omega,λp ys S10 pm hp h10 U dk10=>?_⟩
    obtain⟨as,rfl,pa⟩:=bZj pm;have hps:sp≠p:=by rintro rfl;rw[h9] at hp;cases hp
    have e7:O=((O.toNat:Nat):Int):=by omega
    have Z:cutD (as.map D.str) none (some O)=(as.take O.toNat).map D.str:=by
     rw[aJi]
     have:HT.sIx as.length as.length (some O)=min O.toNat as.length:=by rw[e7,HT.sIx_nat,bN]
     rw[this,HT.sIx_none,gX,fy]
     congr 1
     rcases Nat.le_total O.toNat as.length with z | z
     ·rw[iQ z]
     ·rw[Nat.min_eq_right z,dU,cf z]
    have tnd:(as.take O.toNat).Nodup:=(pa.nodup_iff.mpr nd).sublist (dY _ _);refine⟨O,rfl,_,h10,?_⟩;rw[Z];refine .inl ⟨as.take O.toNat,rfl,by rw[bJ];have:=pa.length_eq;omega,_,rfl,srS (as.take O.toNat),rfl,bJc tnd (λn hn=>pa.mem_iff.mp (fg hn)) (by rw[bJ];omega),?_,dk10,λb o h1 h2 e=>?_⟩
    ·rw[U sp y.1 y.2 hps];exact h9
    ·have h6:=kp9 b o h1 h2 e;rw[U b h1 h2 (by rintro rfl;rw[hp] at h6;cases h6)];exact h6
   ·rintro Γ' S' ⟨t,rfl,hst,h9,dk9,kp9⟩;refine⟨⟨_,h9⟩,_,h9,aQ7 (by rw[aj];omega),hN _ _ ⟨_,_,ts++[t],rfl,by rw[supd_same,aM];rfl,by rw[ax];show _ + 1<=_;omega,λu hu=>?_,dk9.supd y.1 y.2,λb o h1 h2 e=>?_⟩⟩
    ·rcases aW.mp hu with z | z
     ·exact G u z
     ·rw[aB.mp z];exact hst
    ·rw[supd_ne (by rintro rfl;rw[hSsp] at e;cases e)];exact kp9 b o h1 h2 e
  ·rintro Γ S8 ⟨x7,x8,ts,rfl,h8,tl,G,dk8,kp8⟩;rw[aZ1,en] at tl;have Z:cutD (ts.map tupS) none (some (most:Int))=(ts.take most).map tupS:=by
    rw[aJi,HT.sIx_none,HT.sIx_nat,gX,fy]
    congr 1
    rcases Nat.le_total most ts.length with z | z
    ·rw[iQ z]
    ·rw[Nat.min_eq_right z,dU,cf z]
   refine⟨trivial,(most:Int),rfl,_,h8,?_⟩;rw[Z];have tk:(ts.take most).length<=most:=by rw[bJ];omega
   refine⟨ts.take most,rfl,by omega,λout ond omem opw=>⟨_,rfl,?_⟩⟩
   have osi:∀ t∈out,cQd pool t:=λt ht=>G t (fg ((omem t).mp ht));have onm:∀ x∈L2.nms out,x∈pool:=λx hx=>by
    obtain⟨t,ht,hxt⟩:=mem_nms.mp hx;exact(osi t ht).2.1 x hxt
   have ol:out.length<=most:=bc (ond.length_le_of_subset λt ht=>(omem t).mp ht) tk;refine aX6 (S':=λb=>if b=a\/b=c then S8 b else S b) (λb o e=>?_) (q out _ { srt:=opw,each:=λt ht=>⟨(osi t ht).1,(osi t ht).2.2⟩,len:=ol,nms:=bc ((fZ5 _).nodup.length_le_of_subset onm) (by omega),ne:=λx hx=>eZ1 (hnm x (onm x hx)).1,nm:=λx hx=>hnm x (onm x hx) } (λb h1 h2=>if_neg (by rintro(z | z);exact h1 z;exact h2 z)) (dk8.eq (if_pos (.inl rfl)) (if_pos (.inr rfl))))
   by_cases h:b=a\/b=c
   ·rw[if_pos h] at e;exact e
   ·rw[if_neg h] at e;exact kp8 b o (λz=>h (.inl z)) (λz=>h (.inr z)) e
end
end Toy
namespace L2
open PySem PySem.Spec PyProof.Rows
def CX1 (P:aC) (w:aH):CXT:=λouter H s E e s'=>∃ (ea t L C:Addr) (G B:aO) (H':Hp),e=.ref ea/\s'.os=s.os/\i0 s'.gens/\Un (frs outer) [] H H' s.heap G/\HOk P w H' G/\s.heap.get? L=none/\H' L=none /\
 (∀ b o,G.get? b=some o->b∉frs outer->b≠L->B.get? b=some o)/\G.UpToSlots s'.heap/\aO.FlyingW B outer ea (.ref C) (.ref t) s'.heap/\E (.ref C) none H'
section
variable {P:aC} {w:aH} {K:aq} {mg:Str->Option ae} {base:aO} {N:List Str} {qual:Str} {scope:Scope} {f:Addr} {cd:ae} {A:aQ} {outer:List Env} {s₀:ai} {H₀:Hp} {E:XK}
theorem cJo {pins:List (Addr × Obj)} {σ:St} {H:Hp} {s:ai} {h':aO} {ea C:Addr} {us:List ae} (I:Inv (cxOf (CX1 P w) P w K mg base N qual scope f cd A outer s₀ H₀ E) pins σ H s)
  (hx:aO.MadeExcOf s.heap h' ea (.ref C) us) (q:E (.ref C) none H):(cxOf (CX1 P w) P w K mg base N qual scope f cd A outer s₀ H₀ E).xe (.ref ea) { s with heap:=h' }:=by
 have stk:=I.stack;have i:∀ env∈(envOfC qual scope s₀.heap.objs.size f cd::outer),∀ b,env.frame=some b->b∈frs (envOfC qual scope s₀.heap.objs.size f cd::outer):=λenv he b y=>du.mpr ⟨env,he,y⟩;refine wpAny_leaves_madeW (base:=PySem.W.hideAll s.heap (frs (envOfC qual scope s₀.heap.objs.size f cd::outer))) (outer:=outer) (L:=s₀.heap.objs.size) I.ok.frames rfl (λb o q=>PySem.W.of_hideAll _ q) (PySem.W.funFrames_hide stk i) hx λh2 t G Z Y B=>?_;have lk:s₀.heap.get? s₀.heap.objs.size=none:=by
  cases e:s₀.heap.get? s₀.heap.objs.size with
  | none=>rfl
  | some o=>exact absurd (aw e) (cE _)
 refine⟨ea,t,s₀.heap.objs.size,C,s.heap,_,H,rfl,I.os,I.bare,I.base,I.hok,lk,I.free,λb o e y U=>PySem.W.hideAll_get _ e λhm=>?_,?_,G,q⟩
 ·refine hd λGq O=>?_;obtain⟨env,he,hf⟩:=du.mp hm;refine O ?_;rcases aA.mp he with rfl | he
  ·exact U (aK hf).symm
  ·exact y (du.mpr ⟨env,he,hf⟩)
 ·exact(aO.UpToSlots.of_keeps hx.keeps).trans B
theorem cXp {x:Str} {C:Addr} {bmB:List ae} {B newId initId:String} {e:Expr} {ta:TA} {np cpos pos:Pos} (O:OwnCls x C bmB newId mg base) (FB:ExcBaseFacts B newId initId bmB)
  (hg:Gl (cxOf (CX1 P w) P w K mg base N qual scope f cd A outer s₀ H₀ E) x) (ha:PA (cxOf (CX1 P w) P w K mg base N qual scope f cd A outer s₀ H₀ E) [e] ta) (hdb:dbg x=false:=by decide)
  (he:am [e] (envOfC qual scope s₀.heap.objs.size f cd)=(false,eval e (envOfC qual scope s₀.heap.objs.size f cd))::am [] (envOfC qual scope s₀.heap.objs.size f cd):=by rfl) :
  PS (cxOf (CX1 P w) P w K mg base N qual scope f cd A outer s₀ H₀ E) (.Raise (some (.Call (.Name x np) [e] [] cpos)) none pos) (λD σ H=>ta σ H λvs H1=>vs.length<=9/\E (.ref C) none H1):=by
 intro pins s σ H D I h;refine hd λGq kq=>?_;obtain⟨tl,N',nm,q,bs,hdct,sn,sub,ab,col,dd,k0,k1,k2,k3,k5,mN,hC,hN,G,T⟩:=O.obj;refine kq ?_;refine wpAny_Raise_call_subT (C:=C) (nm:=nm) (q:=q) (N:=N') (bs:=bs) (bm:=tl) (hdct:=hdct) (sn:=sn) (sub:=sub) (ab:=ab) (col:=col) (dd:=dd) (k0:=k0) (k1:=k1) (k2:=k2) (k3:=k3) (k5:=k5)
  FB (mN:=mN) (T.hasType FB.hasBase) (I.ok.hd rfl) (by show(bn cpos (am [e] (envOfC qual scope s₀.heap.objs.size f cd))).any (·.1)=false;rw[he];rfl) G (ld_glob I hg O.bound ⟨rfl,?_⟩ hdb)
 have U:=ha cpos pins s σ H _ I h;have L:am [e] (cxOf (CX1 P w) P w K mg base N qual scope f cd A outer s₀ H₀ E).env=(false,eval e (cxOf (CX1 P w) P w K mg base N qual scope f cd A outer s₀ H₀ E).env)::am [] (cxOf (CX1 P w) P w K mg base N qual scope f cd A outer s₀ H₀ E).env:=he;rw[L] at U ⊢;refine Calls.evalArgs_plain (c6 U (λus i ⟨vs,H2,Y,Z,hl,q2⟩=>?_) λ_ _ y=>y);have kp:∀ b o,base.get? b=some o->i.heap.get? b=some o:=Y.bk;exact⟨rfl,by rw[<- Z.length,bD];omega,kp _ _ hC,hN.keeps kp,T.keeps kp,λh' ea hm=>cJo Y hm q2⟩
end
theorem eXe {fs:List Addr} {H H':Hp} {h G h' B:aO} {L:Addr} (u:Un fs [] H H' h G) (hB:∀ b o,G.get? b=some o->b∉fs->b≠L->B.get? b=some o) (hL:h.get? L=none) (st:B.StaysIn h') (sl:G.UpToSlots h')
  (nf:∀ b∈fs,∀ o,G.get? b=some o->∀ vs,o.data≠.fields vs):Un fs [] H H' h h':=by
 have ne:∀ b o,h.get? b=some o->b≠L:=λb o e z=>by rw[z,hL] at e;cases e
 refine⟨λb o q n i y=>st _ _ (hB b o (u.keep b o q n i y) i (ne b o q)),λb o q n i y=>?_,u.free,λb o q y=>?_,u.tups,u.frzs,u.tbls⟩
 ·obtain⟨s1,U⟩:=u.slot b o q n i y;obtain⟨s2,e2⟩:=sl b _ U (nf b i _ U);exact⟨s2,e2⟩
 ·obtain⟨o',O⟩:=u.there b o q y
  by_cases i:b∈fs
  ·obtain⟨s2,e2⟩:=sl b _ O (nf b i _ O);exact⟨_,e2⟩
  ·exact⟨o',st _ _ (hB b o' O i (ne b o q))⟩
theorem dXn {P:aC} {w:aH} {fs:List Addr} {H':Hp} {G h' B:aO} {L:Addr} (ok:HOk P w H' G) (hB:∀ b o,G.get? b=some o->b∉fs->b≠L->B.get? b=some o) (hL:H' L=none) (hf:∀ b∈fs,H' b=none) (st:B.StaysIn h'):HOk P w H' h':=λa o e =>
 (ok a o e).stay (λc v i r=>st _ _ (hB c v r (λm=>by
   have z:=hf c m;rcases i with rfl | i
   ·rw[e] at z;cases z
   ·rw[i] at z;cases z) (by
   rintro rfl;rcases i with rfl | i
   ·rw[e] at hL;cases hL
   ·rw[i] at hL;cases hL))) (λ_ q=>q) λ_ _ q=>q
abbrev Cx.caught (X:Cx) (ea:Addr):Cx:={ X with A:=X.A.mark (some (.ref ea)),calm:=false,xe:=λ_ _=>False }
section
variable {X:Cx} {pins:List (Addr × Obj)} {σ:St} {H:Hp} {s:ai} {ea:Addr}
theorem Inv.caught (I:Inv X pins σ H s) (ea:Addr):Inv (X.caught ea) pins σ H s:=by
 have ok:=I.ok;exact⟨⟨ok.mod,ok.kind,ok.glob,ok.blt,ok.above,ok.inj,ok.has,ok.cab,λz=>Bool.noConfusion z,ok.frames,ok.gd,ok.stk,ok.exf,ok.bs,ok.bsz,ok.noex,ok.exfs,ok.funs,ok.frf⟩,I.os,I.bare,I.base,I.loc,I.cell,I.free,I.freeC,I.pin,I.hok,I.len⟩
theorem Inv.uncaught (ok:X.Ok) (I:Inv (X.caught ea) pins σ H s):Inv X pins σ H s:=⟨ok,I.os,I.bare,I.base,I.loc,I.cell,I.free,I.freeC,I.pin,I.hok,I.len⟩
end
abbrev SpX:=List D->Sto->DK->(Sto->Prop)->Prop
abbrev SX:=EndsD->(Sto->Prop)->Gm->Sto->Prop
def spUX (K:Fg) (C:Addr) (sp:SpX):Sp:=λvs H Q E=>∃ F S ds QD XD,Rp K F S H/\RepL K (mt S F) H ds vs/\sp ds S QD XD/\Cn K F S H QD Q/\∀ H' S',Ext S H S' H'->Rp K F S' H'->XD S'->E (.ref C) none H'
def upX (K:Fg) (E:XK) (C:Addr) (t:SX):TS:=λD' σ H=>∃ F S Γ ED XD,Rp K F S H/\RepG K (mt S F) H Γ σ/\t ED XD Γ S/\CnS K F S H ED D'/\∀ H' S',Ext S H S' H'->Rp K F S' H'->XD S'->E (.ref C) none H'
theorem PSs.le {X:Cx} {st:List Stmt} {t t':TS} (h:PSs X st t) (i:∀ D' σ H,t' D' σ H->t D' σ H):PSs X st t':=λpins s σ H D' I q=>h pins s σ H D' I (i D' σ H q)
section
variable {X:Cx} {K:Fg} {E:XK} {C:Addr} {pos:Pos}
def gXs (t:SD):SX:=λED _ Γ S=>t ED Γ S
theorem dXo {st:List Stmt} {t:SD} (h:PSsD K X.nox st t):PSs X st (upX K E C (gXs t)) :=
 (PSs.nox h.o).le λB σ H ⟨F,S,Γ,ED,y,r,g,q,c,i⟩=>⟨F,S,Γ,ED,r,g,q,c⟩
def xIfR (tt:TD) (u:SX):SX:=λED XD Γ S=>tt Γ S λb S1=>if b=true then XD S1 else u ED XD Γ S1
theorem eXf {c:Expr} {st:Stmt} {rest:List Stmt} {tt:TD} {ta:TA} {u:SX} (h:PTD K X.nox c tt) (hs:PS X st (λD σ H=>ta σ H λvs H1=>vs.length<=9/\E (.ref C) none H1)) (ht:∀ σ H (Q:List V->Hp->Prop),(∀ v,Q [v] H)->ta σ H Q)
  (hr:PSs X rest (upX K E C u)):PSs X (.If c [st] [] pos::rest) (upX K E C (xIfR tt u)) :=
 (bXi (fX3 (PT.nox h.o) (cJx hs) cJw) hr).le λZ σ H ⟨F,S,Γ,ED,U,r,g,q,cn,G⟩ =>
  ⟨F,S,Γ,_,r,g,q,λb H1 L i y B=>by
   cases b with
   | true=>exact ht _ _ _ λv=>⟨by show 1<=9;decide,G H1 L i y B⟩
   | false=>exact⟨F,L,Γ,ED,U,y,g.ext i,B,cn.ext i,λH2 Y O=>G H2 Y (i.trans O)⟩⟩
end
section
variable {K:Fg} {k:Nat}
def xlD (XQ:Sto->Prop):Sto->Prop:=λS=>∃ S',(∀ a o,S' a=some o->S a=some o)/\XQ S'
end
theorem gZ3 {K:aq} {h:aO} {mg:Str->Option ae} {x nm qn:Str} {C N:Addr} {dd:Option Addr} {bs bm sub:List ae} {hd ab:Bool} {sn:List Str} {col:Option Bool} {k0 k1 k2 k3 k5:Option ae} (X:K.In h) (G:h.Ns aL mg) (e:a7 K aL x=some (some (.ref C)))
  (l:K.lookup C=some (excClassObj nm qn C N bs bm hd sn sub ab col dd k0 k1 k2 k3 k5 "ValueError.__new__")) (q:lg K C [.type "ValueError",.type "Exception",.type "BaseException",.type "object"] "ValueError.__new__"=true) :
  OwnCls x C [.type "ValueError",.type "Exception",.type "BaseException",.type "object"] "ValueError.__new__" mg h:=by
 unfold lg at q;rw[l] at q;have q:(C == C && "ValueError.__new__" == "ValueError.__new__" && !false && PySem.W.tailIn K [.type "ValueError",.type "Exception",.type "BaseException",.type "object"] bm && PySem.W.nsOkIn K N && a7 K N "__init__" == some none)=true:=q;rw[aI,aI,aI] at q;exact⟨eB X G e,bm,N,nm,qn,bs,hd,sn,sub,ab,col,dd,k0,k1,k2,k3,k5,_,X _ _ l,.of_isNs (PySem.W.isNs_of_in X q.1.2),PySem.W.nsMap_none_of_in X q.1.2 (fL q.2),PySem.W.tail_of_in X q.1.1.2⟩
def excO (a C:Addr):HO:=.ext λh=>∃ o,h.get? a=some o/\o.cls=.ref C
theorem ObjOk.there {P:aC} {w:aH} {H:Hp} {h:aO} {a:Addr} {o:HO} (x:ObjOk P w H h a o):∃ u,h.get? a=some u:=by
 induction o with
 | lst xs=>obtain⟨_,_,_,_,e⟩:=x;exact⟨_,e⟩
 | tup xs=>obtain⟨_,_,_,⟨o,e,_⟩,_⟩:=x;exact⟨o,e⟩
 | dK i=>obtain⟨_,_,_,_,o,_,_,e,_⟩:=x;exact⟨o,e⟩
 | dT i=>obtain⟨_,_,_,_,o,_,_,e,_⟩:=x;exact⟨o,e⟩
 | set S n=>obtain⟨o,_,_,_,e,_⟩:=x;exact⟨o,e⟩
 | ins C dx fs=>obtain⟨_,_,_,e,_⟩:=x;exact⟨_,e⟩
 | own y=>exact x
 | xd fs=>obtain⟨_,⟨o,_,_,e,_⟩,_⟩:=x;exact⟨o,e⟩
 | met f y=>exact⟨_,x⟩
 | rng lo hi=>obtain⟨_,_,_,e⟩:=x;exact⟨_,e⟩
 | frz o u B=>exact⟨_,x.1⟩
 | tbl ps=>exact⟨_,x⟩
 | ext φ=>exact x.2.1
theorem fZ7 {fs:List Addr} {H H':Hp} {h G h' B:aO} {L ea:Addr} {o:HO} (u:Un fs [] H H' h G) (hB:∀ b o,G.get? b=some o->b∉fs->b≠L->B.get? b=some o) (hL:h.get? L=none) (st:B.StaysIn h') (sl:G.UpToSlots h')
  (nf:∀ b∈fs,∀ o,G.get? b=some o->∀ vs,o.data≠.fields vs) (he:h.get? ea=none) (hn:H ea=none):Un fs [] H (upd H' ea o) h h':=by
 have v:=eXe u hB hL st sl nf;refine⟨v.keep,v.slot,λb x q n i=>?_,v.there,λb xs q=>?_,λb x y q=>?_,λb ps q=>?_⟩
 ·rw[upd_ne (λz=>by rw[z,he] at q;cases q)];exact v.free b x q n i
 ·rw[upd_ne (aQ9 q hn)];exact v.tups b xs q
 ·rw[upd_ne (aQ9 q hn)];exact v.frzs b x y q
 ·rw[upd_ne (aQ9 q hn)];exact v.tbls b ps q
section
variable {X:Cx} {pins:List (Addr × Obj)} {σ:St} {H:Hp} {s:ai} {ea:Addr}
theorem fZ8 {M:Model} {A:aQ} {E:ae->ai->Prop} {i:Nat} {x:Str} {pos:Pos} {Q:Unit->ai->Prop} (I:Inv X pins σ H s) (hN:X.N.Nodup) (hi:X.N[i]?=some x) (hk:X.env.scope.names.lookup x=some .local)
  (h:∀ s',Inv X pins (σ.set i none) H s'->Q () s'):ay M A (do bindName X.env x .none;unbindBehindTheSuite X.env x pos) Q E s:=by
 obtain⟨m,hn,hl⟩:=id I.loc;have O:(X.env.scope.kind == .class || (X.env.scope.kind == .module && X.env.locals != X.env.globals))=false:=by rw[I.ok.kind];rfl
 have hiσ:i < σ.length:=by rw[I.len];exact(bd.mp hi).1
 have cne:=I.cne;obtain⟨oL,_,_,hoL,_⟩:=id hn;refine wpAny_nameGoes_keeps hk hn O λh' v U B=>?_;have tracked:HOk X.prog X.w H h':=λb ob e=>by
  refine(I.hok b ob e).stay (λc w' Z q=>(B.2 c ?_).trans q) (λ_ q=>q) λ_ _ q=>q;rintro rfl;have z:=I.free;rcases Z with rfl | Z
  ·rw[e] at z;cases z
  ·rw[Z] at z;cases z
 refine h _ ⟨I.ok,I.os,I.bare,⟨λb o e n hb L=>?_,λb o e n hb L=>?_,I.base.free,λb o e L=>?_,I.base.tups,I.base.frzs,I.base.tbls⟩,⟨_,U,λj y v' G e2 e3=>?_⟩,λy c e=>?_,I.free,I.freeC,λp hp=>?_,tracked,by rw[fI];exact I.len⟩
 ·exact(B.2 b (aG (aT (aw e) I.ok.above))).trans (I.base.keep b o e n hb L)
 ·obtain⟨sl,G⟩:=I.base.slot b o e n hb L;exact⟨sl,(B.2 b (aG (aT (aw e) I.ok.above))).trans G⟩
 ·obtain⟨o',G⟩:=I.base.there b o e L;exact⟨o',(B.2 b (aG (aT (aw e) I.ok.above))).trans G⟩
 ·by_cases Y:j=i
  ·subst Y;rw[gQ hiσ] at e2;cases e2
  ·rw[eV (bj Y)] at e2;obtain⟨u',r',q⟩:=hl j y v' G e2 e3;refine⟨u',r',?_⟩;rcases q with⟨k,e⟩ | ⟨k,c,e,z⟩
   ·refine .inl ⟨k,?_⟩
    have:y≠x:=λe=>Y (nodup_ix hN G (e ▸ hi))
    simp[this,e]
   ·exact .inr ⟨k,c,e,z.sameBut B (cne y c e)⟩
 ·obtain⟨w',z⟩:=I.cell y c e;exact⟨w',z.sameBut B (cne y c e)⟩
 ·obtain⟨e,n,ne,nf,d⟩:=I.pin p hp;exact⟨(B.2 p.1 ne).trans e,n,ne,nf,d⟩
def cQf (D:Ends) (j:Nat):Ends:={ nx:=fun σ' H'=>D.nx (σ'.set j none) H',rt:=λ_ _=>False }
theorem dXp {E:XK} {e:ae} {s':ai} {x n:Str} {C':Addr} {j:Nat} {D:Ends} {ts:TS} {b₀:Stmt} {suite:List Stmt} {np hpos:Pos} {rest:List ExceptHandler} (I:Inv X pins σ H s) (hc:CX1 X.prog X.w X.stack H s E e s')
  (hstk:X.stack=X.env::X.outer) (hfr:X.env.frame=some X.env.locals) (hg:Gl X x) (hm:X.mg x=some (.ref C')) (hN:X.N.Nodup) (hj:X.N[j]?=some n) (hk:X.env.scope.names.lookup n=some .local)
  (hE:∀ cls o H',E cls o H'->∃ C,cls=.ref C/\jw X.K cls (.ref C')=some true/\∀ ea,H' ea=none->ts (cQf D j) (σ.set j (some (.ref ea))) (upd H' ea (excO ea C))) (hs:∀ ea,PSs (X.caught ea) (b₀::suite) ts) (hdb:dbg x=false:=by decide) :
  ay (az X.prog X.w) X.A (noteFrame e X.env) (λ_ s₂=>ay (az X.prog X.w) X.A (setFlight e none) (λ_ s₃=>ay (az X.prog X.w) X.A (handleBy e X.env (.ExceptHandler (some (.Name x np)) (some n) (b₀::suite) hpos::rest)) (SP X pins D) X.xe s₃) X.xe s₂) X.xe s':=by
 obtain⟨ea,t,L,C,G,B,H',rfl,os,bare,un,hok,hL,hL',hB,up,fl,q⟩:=hc;obtain⟨C2,eC,hx,q⟩:=hE _ _ _ q;cases eC;have frf:∀ b∈frs X.stack,H' b=none:=λb Y=>by
  obtain⟨_,o,ho,_⟩:=I.stack.mem Y;exact un.free b o ho (I.stkFree b Y) (by simp)
 have nf:∀ b∈frs X.stack,∀ o,G.get? b=some o->∀ vs,o.data≠.fields vs:=λb Y o e=>by
  obtain⟨_,o0,ho,hd⟩:=I.stack.mem Y;obtain⟨sl,e1⟩:=un.slot b o0 ho (I.stkFree b Y) Y (by simp)
  rw[e] at e1;cases e1;exact hd
 have inv:∀ h',B.StaysIn h'->G.UpToSlots h'->Inv X pins σ H' { s' with heap:=h' }:=λh' st sl =>
  I.call' (ch:=[]) os (eXe un hB hL st sl nf) (dXn hok hB hL' frf st) bare λb z=>absurd z (by simp)
 have fr:X.A.frames=some (X.env::X.outer):=by rw[<- hstk];exact I.ok.frames
 have gea:G.get? ea=none\/ea=L:=by
  by_cases z:ea=L
  ·exact .inr z
  ·left
   cases e:G.get? ea with
   | none=>rfl
   | some o =>
    exfalso
    by_cases Y:ea∈frs X.stack
    ·obtain⟨sl,h2⟩:=up ea o e (nf ea Y o e);obtain⟨oe,vs,h3,_,h4,_⟩:=fl.first;rw[h3] at h2;cases h2;exact nf ea Y o e vs h4
    ·have:=hB ea o e Y z
     rw[fl.2.1] at this;cases this
 have hea:H' ea=none:=by
  rcases gea with z | z
  ·cases e:H' ea with
   | none=>rfl
   | some u =>
    obtain⟨o,ho⟩:=(hok ea u e).there;rw[z] at ho;cases ho
  ·rw[z];exact hL'
 have sea:s.heap.get? ea=none:=by
  rcases gea with z | z
  ·cases e:s.heap.get? ea with
   | none=>rfl
   | some o =>
    obtain⟨o',e'⟩:=un.there ea o e (by simp)
    rw[z] at e';cases e'
  ·rw[z];exact hL
 have Hea:H ea=none:=by
  cases e:H ea with
  | none=>rfl
  | some u =>
   obtain⟨o,ho⟩:=(I.hok ea u e).there;rw[sea] at ho;cases ho
 have inv2:∀ h',B.StaysIn h'->G.UpToSlots h'->(∃ o,h'.get? ea=some o/\o.cls=.ref C)->Inv X pins σ (upd H' ea (excO ea C)) { s' with heap:=h' }:=λh' st sl he=>by
  refine I.call' (ch:=[]) os (fZ7 un hB hL st sl nf sea Hea) (λa o e=>?_) bare λb z=>absurd z (by simp)
  by_cases ha:a=ea
  ·subst ha;rw[aQc] at e;cases e;obtain⟨o,h1,h2⟩:=he;exact⟨⟨o,h1,h2⟩,⟨o,h1⟩,λk1 k2 z w=>by obtain⟨o',y1,y2⟩:=z;exact⟨o',w o' y1,y2⟩⟩
  ·rw[upd_ne ha] at e;exact(dXn hok hB hL' frf st a o e).stay (λ_ _ _ r=>r) (λb r=>by rw[upd_ne (aQ9 r hea)];exact r) λb xs r=>by rw[upd_ne (aQ9 r hea)];exact r
 rw[hstk] at fl;refine wpAny_looks_onW fr hfr fl λh₄ hh₄ O=>?_;refine wpAny_landsW hh₄ λZ i y=>?_;have I5:=inv Z i.1 ((up.trans O).trans y);obtain⟨ob,hob,hobc⟩:=i.there;refine wpAny_handleBy_cons (codeAny_handlers_test (ld_glob (X:=X.caught ea) (I5.caught ea) hg hm ?_ hdb)) (by intro q;cases q)
 have LT:PySem.W.Looks (az X.prog X.w) Z (typeOf (.ref ea)) (.ref C):=by rw[<- hobc];exact(PySem.W.Looks.ld hob).andThen .now
 refine(PySem.W.exm_one (M:=az X.prog X.w) I5.kIn LT hx).here ?_;refine codeAny_handlers_suite_as ?_;refine lands_againW i λh₆ U sm₆=>?_;have I6:=inv2 h₆ U.1 (((up.trans O).trans y).trans sm₆) U.there;refine store_ok (X:=X.caught ea) (I6.caught ea) hN hj (.inl hk) (v:=.ref ea) rfl (λs7 I7=>?_) (.inr hk);refine c6 (hs ea pins _ _ _ (cQf D j) I7 (q ea hea)) (λf s2 z=>?_) λ_ _ z=>z.elim;cases f with
 | next =>
  obtain⟨σ',H2,I8,z⟩:=z;exact fZ8 (I8.uncaught I.ok) hN hj hk λs9 I9=>⟨_,_,I9,z⟩
 | brk=>obtain⟨_,_,_,z⟩:=z;exact z.elim
 | cont=>obtain⟨_,_,_,z⟩:=z;exact z.elim
 | ret u=>obtain⟨_,_,_,_,_,z⟩:=z;exact z.elim
end
def excD (C:Addr):DO:=.ex (λ_ H a=>H a=some (excO a C)) (λ_ _ _ _ _ _ e h=>e.trans h) λ_ _ _ h=>⟨_,h,trivial⟩
theorem RepG.del {K:Fg} {M:Am} {H:Hp}:∀ {g:Gm} {σ:St} (i:Nat),RepG K M H g σ->RepG K M H (g.set i none) (σ.set i none)
 | [],_,_,h=>by cases h;rfl
 | none::g,_,0,⟨w,τ,e,r⟩=>by subst e;exact⟨none,τ,rfl,r⟩
 | some _::g,_,0,⟨w,τ,e,_,r⟩=>by subst e;exact⟨none,τ,rfl,r⟩
 | none::g,_,i + 1,⟨w,τ,e,r⟩=>by subst e;exact⟨w,_,rfl,RepG.del i r⟩
 | some _::g,_,i + 1,⟨w,τ,e,z,r⟩=>by subst e;exact⟨w,_,rfl,z,RepG.del i r⟩
section
variable {X:Cx} {K:Fg} {k:Nat}
def asD (ED:EndsD) (j:Nat):EndsD:={ nx:=fun Γ' S'=>ED.nx (Γ'.set j none) S',rt:=λ_ _=>False }
def dAs (C:Addr) (j:Nat) (ts:SD) (ED:EndsD) (Γ:Gm):Sto->Prop:=λS=>∀ ea,S ea=none->ts (asD ED j) (Γ.set j (some (.ref ea))) (supd S ea (excD C))
theorem eXg {C:Addr} {j:Nat} {ts:SD} {ED:EndsD} {Γ:Gm} {F:Am} {S S2:Sto} {H H2:Hp} {σ:St} {D':Ends} (g:RepG K (mt S F) H Γ σ) (c:CnS K F S H ED D') (x:Ext S H S2 H2) (r:Rp K F S2 H2) (q:dAs C j ts ED Γ S2) (ea:Addr) (hea:H2 ea=none) :
  upS K ts (cQf D' j) (σ.set j (some (.ref ea))) (upd H2 ea (excO ea C)):=by
 have B:Ext S2 H2 (supd S2 ea (excD C)) (upd H2 ea (excO ea C)):=Ext.mk' hea;have L:Rp K F (supd S2 ea (excD C)) (upd H2 ea (excO ea C)):=r.mk' hea aQc;have i:=x.trans B;exact⟨F,supd S2 ea (excD C),Γ.set j (some (.ref ea)),asD ED j,L,(g.ext i).set (by unfold RepV;rfl) j,q ea (r.sn hea),fun Γ' S' σ' H' y G U O=>c.nx _ S' _ H' (i.trans y) G (U.del j) O,λ_ _ _ _ _ _ _ z=>z.elim,λ_ _ _ _ _ _ _ z=>z.elim,λ_ _ _ _ _ _ _ z=>z.elim⟩
end
open PySem.W
structure ExcK (K:Fg) (C:Addr):Prop where
 ga:findIn K (.ref C) "__getattribute__"=some (some (.builtin "BaseException.__getattribute__"))
 no:findIn K (.ref C) "__getattr__"=some none
 cl:findIn K (.ref C) "__class__"=some (some (.builtin "object.__class__"))
 ob:mroIn K C (.type "object")=some true
 be:mroIn K C (.type "BaseException")=some true
 co:isClsIn K C=true
section
variable {K:Fg} {C a:Addr} {prog:aC} {w:aH} {A:aQ} {E:ae->ai->Prop} {hp:aO} {g:Array GenState} {d:Drawn} {t:Nat} {os:OsState} {o:Obj}
theorem dXq {M:Model} (hx:hp.get? a=some o) (hc:o.cls=.ref C):Looks M hp (typeOf (.ref a)) (.ref C):=hc ▸ (Looks.ld hx).andThen .now
theorem gZ4 (Z:ExcK K C) (X:K.In hp) (hx:hp.get? a=some o) (hc:o.cls=.ref C) {R:jK->ai->Prop} (hq:R (.ok (.ret (.ref C))) ⟨hp,g,d,t,os⟩) :
  d9 (az prog w) A (.call (.builtin "getset_descriptor.__get__") ⟨[.builtin "object.__class__",.ref a,.ref C],[]⟩) R ⟨hp,g,d,t,os⟩:=by
 have O:=dXq (M:=az prog w) hx hc;have B:(⟨hp,g,d,t,os⟩:ai).TypeIs (.builtin "object.__class__") "getset_descriptor":=F.typeOf_object_class;have L:=looks_mroIn (M:=az prog w) X Z.ob;have G:Looks (az prog w) hp (isSubtype (.ref C) (.type (".".intercalate ("object.__class__".cutAt '.').dropLast))) true:=by rw[F.owner_object_class];exact L
 refine fY F.slot_gs_get.plain F.entry_gs_get (F.slot_gs_get.check _ _ _ _ _ _ _ _ B (F.args_gs_get _ _ _) ?_)
 repeat (first | with_reducible refine O.at ?_ | with_reducible refine G.at ?_ | with_reducible refine L.at ?_ | wp_step)
 refine⟨jq _ (by decide +kernel),bC F.entry_object_class ?_⟩
 repeat (any_goals (first | assumption | with_reducible refine O.at ?_ | wp_step))
theorem eZ2 (Z:ExcK K C) (X:K.In hp) (hx:hp.get? a=some o) (hc:o.cls=.ref C) {tk:Tok} {Q:Fin->ai->Prop} (hq:Q (.done (.ret (.ref C))) ⟨hp,g,d,t,os⟩) :
  ay (az prog w) A (cu.«object.__getattribute__» ⟨[.ref a,.str "__class__" tk],[]⟩) Q E ⟨hp,g,d,t,os⟩:=by
 have L:=dXq (M:=az prog w) hx hc;have G:=looks_findIn (M:=az prog w) X Z.cl;have B:(⟨hp,g,d,t,os⟩:ai).TypeIs (.builtin "object.__class__") "getset_descriptor":=F.typeOf_object_class;have f5:=F.typeOf_object_class;have U:=F.slot_gs_get.lookup;have O:=F.slot_gs_set.lookup;unfold cu.«object.__getattribute__»
 repeat (first | with_reducible refine L.at ?_ | with_reducible refine G.at ?_ | wp_step)
 refine gZ4 Z X hx hc ?_
 repeat (any_goals (first | assumption | wp_step))
theorem fZ9 (Z:ExcK K C) (X:K.In hp) (hx:hp.get? a=some o) (hc:o.cls=.ref C) {tk:Tok} {R:jK->ai->Prop} (hq:R (.ok (.ret (.ref C))) ⟨hp,g,d,t,os⟩) :
  d9 (az prog w) A (.call (.builtin "BaseException.__getattribute__") ⟨[.ref a,.str "__class__" tk],[]⟩) R ⟨hp,g,d,t,os⟩:=by
 refine fY F.excAttr_ValueError.ga.plain F.entry_bexc_ga ?_;have O:=dXq (M:=az prog w) hx hc;have L:Looks (az prog w) hp (isInstance (.ref a) (.type "BaseException")) true:=O.andThen (looks_mroIn (M:=az prog w) X Z.be);have G:builtinKind "BaseException.__getattribute__"=some .slot:=by decide +kernel
 have B:splitId "BaseException.__getattribute__"=some ("BaseException", "__getattribute__"):=by decide +kernel
 have U:=F.args_bexc_ga (.ref a) (.str "__class__" tk);simp only[checkBuiltinCall,G,B];refine ad (L.at ?_);have go:ay (az prog w) A.in1 (cu.«object.__getattribute__» ⟨[.ref a,.str "__class__" tk],[]⟩) (λfin s'=>match fin with
   | Fin.done f=>R (Except.ok f) s'
   | Fin.again y=>y.quiet=true/\d9 (az prog w) A y R s') (λe s'=>R (Except.error e) s') ⟨hp,g,d,t,os⟩:=eZ2 Z X hx hc hq
 repeat (any_goals (first | assumption | wp_step))
theorem gXt (Z:ExcK K C) (X:K.In hp) (hx:hp.get? a=some o) (hc:o.cls=.ref C) {tk:Tok} {Q:ae->ai->Prop} (hq:Q (.ref C) ⟨hp,g,d,t,os⟩):ay (az prog w) A (getAttrBy (.ref a) (.str "__class__" tk) false) Q E ⟨hp,g,d,t,os⟩:=by
 have L:=dXq (M:=az prog w) hx hc;have G:=looks_findIn (M:=az prog w) X Z.ga;have L2:=looks_findIn (M:=az prog w) X Z.no;have U:=F.excAttr_ValueError.ga.bind (.ref a);have B:(jQ "BaseException.__getattribute__" == jQ "object.__getattribute__")=false:=by decide +kernel
 have O:(onTheHeap (bI C) && jQ "BaseException.__getattribute__" == jQ "object.__getattribute__")=false:=by rw[B];rfl
 repeat (any_goals (first | assumption | with_reducible refine L.at ?_ | with_reducible refine G.at ?_ | with_reducible refine L2.at ?_ | wp_step))
 refine fZ9 Z X hx hc ?_;exact handed_on rfl hq
theorem fZa (Z:ExcK K C) (X:K.In hp) (hx:hp.get? a=some o) (hc:o.cls=.ref C) {Q:Option ae->ai->Prop} (hq:Q (some (.ref C)) ⟨hp,g,d,t + 1,os⟩):ay (az prog w) A (getAttr? (.ref a) "__class__") Q E ⟨hp,g,d,t,os⟩:=by
 unfold getAttr? getAttrBy?
 repeat (any_goals (first | assumption | with_reducible apply gXt Z X hx hc | wp_step))
end
theorem eZ3 {K:Fg} {C a:Addr} (Z:ExcK K C):KitX K (.ref a) (.ref C) (λh=>∃ o,h.get? a=some o/\o.cls=.ref C):=by
 have co:(clsIn K C).isSome=true:=Z.co;unfold clsIn at co
 split at co
 ·next U O cd sl lk =>
  refine⟨λM h _ z=>?_,λM h X _ A' Y E' s' k q=>?_,λh i dd y n sl X htp=>?_,λ{prog w A E Q s} X z k=>?_⟩
  ·obtain⟨o,h1,h2⟩:=z;exact dXq h1 h2
  ·unfold isType loadHead;refine ad (wpAny_loadPart (k _ _ (X _ _ lk)) ?_);exact af q
  ·cases e:(bI C == bI i) with
   | false=>rfl
   | true =>
    have e:=bI.inj (fL e);rw[<- e,X _ _ lk] at htp;cases htp
  ·obtain⟨o,h1,h2⟩:=z;obtain⟨G,L,dd,tt,B⟩:=s;exact fZa Z X h1 h2 k
 ·cases co
end L2
namespace L2
open PySem PySem.Spec PyProof.Rows
section
variable {X:Cx} {K:Fg} {pos:Pos}
def isXV (K:Fg) (c:ae) (te:TE):TE:=fun σ H Q=>te σ H λv H1=>∃ a C b,v=.ref a/\H1 a=some (excO a C)/\ExcK K C/\bH K (.ref C) c=some b/\Q (.bl b) H1
theorem dXr {pins:List (Addr × Obj)} {s:ai} {σ:St} {H:Hp} {Q:VK} {c:ae} {v:V} {u:ae} (I:Inv X pins σ H s) (r:RelV v u) (h:∃ a C b,v=.ref a/\H a=some (excO a C)/\ExcK X.K C/\bH X.K (.ref C) c=some b/\Q (.bl b) H) :
  ay (az X.prog X.w) X.A (call (.builtin "isinstance") [u,c]) (EP X pins σ Q) X.xe s:=by
 obtain⟨a,C,b,rfl,y,Z,hk,q⟩:=h;cases r;exact ce (eZ3 Z) I.kIn (I.hok a _ y).1 hk (λz=>by cases z) λi=>⟨.bl b,H,I.tok i,rfl,q⟩
theorem gZ5 {e:Expr} {te:TE} {x:Str} {C':Addr} {p np:Pos} (hg:Gl X "isinstance") (hm:X.mg "isinstance"=none) (he:PE X e te) (hgx:Gl X x) (hmx:X.mg x=some (.ref C')) (hdx:dbg x=false:=by decide)
  (h1:am [e,.Name x np] X.env=(false,eval e X.env)::am [.Name x np] X.env:=by rfl) (h2:am [.Name x np] X.env=(false,eval (.Name x np) X.env)::am [] X.env:=by rfl) (hpl:(bn pos (am [.Name x np] X.env)).any (·.1)=false:=by rfl) :
  PE X (.Call (.Name "isinstance" p) [e,.Name x np] [] pos) (isXV X.K (.ref C') te):=by
 intro pins s σ H Q I h;refine dw (ld_blt I hg hm bt_isinstance ?_ (by decide) (by decide))
 refine fw ?_ h1 hpl;rw[h1];refine eI (thn (he pins s σ H _ I h) λu s1 i=>?_);obtain⟨v,H1,y,B,G⟩:=i;rw[h2];refine eI (ld_glob y hgx hmx (gR ?_) hdx);exact dXr y B G
theorem fZb {e:Expr} {te:TE} {x:Str} {T:String} {p np:Pos} (hg:Gl X "isinstance") (hm:X.mg "isinstance"=none) (he:PE X e te) (hgx:Gl X x) (hmx:X.mg x=none) (hv:bz x=some (.type T)) (hn:x ≠ "__name__":=by decide) (hdx:dbg x=false:=by decide)
  (h1:am [e,.Name x np] X.env=(false,eval e X.env)::am [.Name x np] X.env:=by rfl) (h2:am [.Name x np] X.env=(false,eval (.Name x np) X.env)::am [] X.env:=by rfl) (hpl:(bn pos (am [.Name x np] X.env)).any (·.1)=false:=by rfl) :
  PE X (.Call (.Name "isinstance" p) [e,.Name x np] [] pos) (isXV X.K (.type T) te):=by
 intro pins s σ H Q I h;refine dw (ld_blt I hg hm bt_isinstance ?_ (by decide) (by decide))
 refine fw ?_ h1 hpl;rw[h1];refine eI (thn (he pins s σ H _ I h) λu s1 i=>?_);obtain⟨v,H1,y,B,G⟩:=i;rw[h2];refine eI (ld_blt y hgx hmx hv (gR ?_) hn hdx);exact dXr y B G
def dIsX (K:Fg) (c:ae) (te:ED):ED:=fun Γ S Q=>te Γ S λd S1=>∃ a C b,d=.ref a/\S1 a=some (excD C)/\ExcK K C/\bH K (.ref C) c=some b/\Q (.bl b) S1
theorem eXh {c:ae} {te:ED}:∀ σ H Q,upE K (dIsX K c te) σ H Q->isXV K c (upE K te) σ H Q:=fun σ H Q y=>y.el λF S Γ QD r g q cn =>
 ⟨F,S,Γ,_,r,g,q,λv d H1 O B i v1 z=>by
  obtain⟨a,C,b,rfl,L,Z,hk,G⟩:=z;exact⟨a,C,b,rref v1,i.obj a _ L,Z,hk,cn _ _ _ _ B i (by unfold RepV;rfl) G⟩⟩
theorem dXs {e:Expr} {te:ED} {x:Str} {C':Addr} {p np:Pos} (hg:Gl X "isinstance") (hm:X.mg "isinstance"=none) (he:PD K X e te) (hgx:Gl X x) (hmx:X.mg x=some (.ref C')) (hK:X.K=K:=by rfl) (hdx:dbg x=false:=by decide)
  (h1:am [e,.Name x np] X.env=(false,eval e X.env)::am [.Name x np] X.env:=by rfl) (h2:am [.Name x np] X.env=(false,eval (.Name x np) X.env)::am [] X.env:=by rfl) (hpl:(bn pos (am [.Name x np] X.env)).any (·.1)=false:=by rfl) :
  PD K X (.Call (.Name "isinstance" p) [e,.Name x np] [] pos) (dIsX K (.ref C') te):=by
 subst hK;exact .of (gZ5 hg hm he.o hgx hmx hdx h1 h2 hpl) eXh
theorem gZ6 {e:Expr} {te:ED} {x:Str} {T:String} {p np:Pos} (hg:Gl X "isinstance") (hm:X.mg "isinstance"=none) (he:PD K X e te) (hgx:Gl X x) (hmx:X.mg x=none) (hv:bz x=some (.type T)) (hK:X.K=K:=by rfl) (hn:x ≠ "__name__":=by decide) (hdx:dbg x=false:=by decide)
  (h1:am [e,.Name x np] X.env=(false,eval e X.env)::am [.Name x np] X.env:=by rfl) (h2:am [.Name x np] X.env=(false,eval (.Name x np) X.env)::am [] X.env:=by rfl) (hpl:(bn pos (am [.Name x np] X.env)).any (·.1)=false:=by rfl) :
  PD K X (.Call (.Name "isinstance" p) [e,.Name x np] [] pos) (dIsX K (.type T) te):=by
 subst hK;exact .of (fZb hg hm he.o hgx hmx hv hn hdx h1 h2 hpl) eXh
end
abbrev FX (K:Fg) (M:Am) (H:Hp) (p:Str × V) (q:Str × D):Prop:=p.1=q.1/\RepV K M H q.2 p.2
def insF (K:Fg) (C:Addr) (fds:List (Str × D)):Am->Hp->Addr->Prop:=λM H a=>∃ dx fs,H a=some (.ins C dx fs)/\aZ (FX K M H) fs fds
theorem insF.keep {K:Fg} {C:Addr} {fds:List (Str × D)} {M M':Am} {H H':Hp} {a:Addr} (k:Keep M H M' H') (e:H' a=H a) (h:insF K C fds M H a):insF K C fds M' H' a:=by
 refine hd λy i=>?_;obtain⟨dx,fs,h1,h2⟩:=h;refine i ?_;exact⟨dx,fs,e.trans h1,Paired.imp (λ_ _ z=>⟨z.1,z.2.keep k⟩) h2⟩
def bQf (K:Fg) (C:Addr) (fds:List (Str × D)):DO:=.ex (insF K C fds) (λ_ _ _ _ _ k e h=>h.keep k e) λ_ _ _ h=>by
 refine hd λGq kq=>?_;obtain⟨dx,fs,h1,_⟩:=h;refine kq ?_;exact⟨_,h1,trivial⟩
def putD (f:Str) (d:D):List (Str × D)->List (Str × D)
 | []=>[(f,d)]
 | (g,x)::r=>if g=f then (g,d)::r else (g,x)::putD f d r
section
variable {K:Fg} {M:Am} {H:Hp}
theorem bJd {fs:List (Str × V)} {fds:List (Str × D)} (h:aZ (FX K M H) fs fds) (f:Str):(fs.lookup f=none/\fds.lookup f=none)\/∃ v d,fs.lookup f=some v/\fds.lookup f=some d/\RepV K M H d v:=by
 induction h with
 | nil=>exact .inl ⟨rfl,rfl⟩
 | @cons p q ps O h t B =>
  refine hd λL i=>?_;obtain⟨a,x⟩:=p;refine i ?_;refine hd λL i=>?_;obtain⟨b,y⟩:=q;refine i ?_;obtain⟨rfl,r⟩:=h
  by_cases e:f=a
  ·subst e;exact .inr ⟨x,y,by simp[eY],by simp[eY],r⟩
  ·have G:(f == a)=false:=beq_eq_false_iff_ne.mpr e;simp only[eY,G];exact B
theorem gZ7 {fs:List (Str × V)} {fds:List (Str × D)} (h:aZ (FX K M H) fs fds) (f:Str) {v:V} {d:D} (r:RepV K M H d v):aZ (FX K M H) (putF f v fs) (putD f d fds):=by
 induction h with
 | nil=>exact .cons ⟨rfl,r⟩ .nil
 | @cons p q ps B h t O =>
  refine hd λG i=>?_;obtain⟨a,x⟩:=p;refine i ?_;refine hd λG i=>?_;obtain⟨b,y⟩:=q;refine i ?_;refine hd λG i=>?_;obtain⟨e,L⟩:=h;refine i ?_;have e:a=b:=e;subst e;show aZ _ (if a=f then (a,v)::ps else (a,x)::putF f v ps) (if a=f then (a,d)::B else (a,y)::putD f d B)
  split
  ·exact .cons ⟨rfl,r⟩ t
  ·exact .cons ⟨rfl,L⟩ O
end
section
variable {X:Cx} {K:Fg} {C:Addr} {pos pos':Pos} {f m:Str} {k:Nat}
def dFld (K:Fg) (te:ED) (f:Str):ED:=fun Γ S Q=>te Γ S λd S1=>∃ a C fds v,d=.ref a/\S1 a=some (bQf K C fds)/\Cls K C/\NoAttr K C f/\fds.lookup f=some v/\Q v S1
theorem bJe {e:Expr} {te:ED} (he:PD K X e te) (hb:cX e f X.env (eval e X.env)=eval e X.env:=by rfl) (hK:X.K=K:=by rfl):PD K X (.Attribute e f pos) (dFld K te f):=by
 subst hK;refine .of (fXh he.o hb) fun σ H Q B=>B.el λF S Γ QD r g q cn=>⟨F,S,Γ,_,r,g,q,λx d H1 S1 G y v1 z=>?_⟩;obtain⟨a,C,Z,v,rfl,Y,c,n,hl,O⟩:=z;refine hd λGq U=>?_;obtain⟨dx,fs,h1,h2⟩:=y.obj a _ Y;refine U ?_;rcases bJd h2 f with⟨_,e2⟩ | ⟨i,d',e1,e2,L⟩
 ·rw[hl] at e2;cases e2
 ·rw[hl] at e2;cases e2;exact⟨a,C,dx,fs,i,rref v1,h1,c,n,e1,cn i _ H1 S1 G y L O⟩
def fZc (K:Fg) (te tv:ED) (f:Str):SD:=λE Γ S=>tv Γ S λv S1=>te Γ S1 λd S2=>∃ a C fds,d=.ref a/\S2 a=some (bQf K C fds)/\Cls K C/\NoAttr K C f/\fds.length < 1000/\E.nx Γ (supd S2 a (bQf K C (putD f v fds)))
theorem cXq {o value:Expr} {te tv:ED} (ho:PD K X o te) (hv:PD K X value tv) (hs:gc value (some (.Attribute o f pos')) pos.line X.env=pure false:=by rfl) (hK:X.K=K:=by rfl):PSD K X (.Assign [.Attribute o f pos'] value pos) (fZc K te tv f):=by
 subst hK;refine .of (fXi ho.o hv.o hs) λD' σ H z0=>z0.el λF S Γ E r g q c=>⟨F,S,Γ,_,r,g,q,λv d H1 S1 U r1 v1 q1=>⟨F,S1,Γ,_,r1,g.ext U,q1,λx od H2 G O Y v2 z=>?_⟩⟩;obtain⟨a,C,B,rfl,Z,cl,n,hl,q2⟩:=z;refine hd λGq kq=>?_;obtain⟨dx,fs,h1,h2⟩:=Y.obj a _ Z;refine kq ?_;have i:G a≠none:=by rw[Z];exact λz=>by cases z
 have y:Ext G H2 (supd G a (bQf X.K C (putD f d B))) (upd H2 a (.ins C dx (putF f v fs))):=Ext.write i;have L:=U.trans (O.trans y);refine⟨a,C,dx,fs,rref v2,h1,cl,n,by rw[b7 h2];exact hl,c.nx Γ _ σ _ L (Y.write i ⟨dx,_,aQc,gZ7 (Paired.imp (λ_ _ z=>⟨z.1,z.2.ext y⟩) h2) f (v1.ext (O.trans y))⟩) (g.ext L) q2⟩
end
structure TxM (K:aq) (C:Addr) (m qual:Str) (st:Stmt):Prop where
 ex:∃ (f:Addr) (fd:cT),Fun K m qual st f fd/\Meth K C m f
structure DfM (P:aC) (w:aH) (K:aq) (mg:Str->Option ae) (base:aO) (k:Nat) (C:Addr) (m:Str) (ps:List Str) (sp:Sp):Prop where
 ex:∃ (f:Addr) (fd:cT),FnOk P w K mg base CX0 k f fd ps sp/\Binds K fd ps []/\Meth K C m f
structure DfMX (P:aC) (w:aH) (K:aq) (mg:Str->Option ae) (base:aO) (k:Nat) (C:Addr) (m:Str) (ps:List Str) (sp:Sp):Prop where
 ex:∃ (f:Addr) (fd:cT),FnOk P w K mg base (CX1 P w) k f fd ps sp/\Binds K fd ps []/\Meth K C m f
section
variable {P:aC} {w:aH} {K:aq} {mg:Str->Option ae} {base:aO} {j k:Nat} {C C':Addr} {m:Str} {ps:List Str}
theorem DfM.mono {sp:Sp} (D:DfM P w K mg base j C m ps sp) (h:j<=k):DfM P w K mg base k C m ps sp:=by
 refine hd λy i=>?_;obtain⟨f,fd,a,b,c⟩:=D.ex;refine i ?_;exact⟨f,fd,a.mono h,b,c⟩
theorem DfMX.mono {sp:Sp} (D:DfMX P w K mg base j C m ps sp) (h:j<=k):DfMX P w K mg base k C m ps sp:=by
 refine hd λy i=>?_;obtain⟨f,fd,a,b,c⟩:=D.ex;refine i ?_;exact⟨f,fd,a.mono h,b,c⟩
theorem DfMX.df {sp:SpX} (D:DfMX P w K mg base k C m ps (spUX K C' sp)):DfM P w K mg base k C m ps (spU K λds S Q=>sp ds S Q λ_=>False):=by
 refine hd λB i=>?_;obtain⟨f,fd,a,b,c⟩:=D.ex;refine i ?_;have up:∀ vs H Q E,spU K (λds S Q=>sp ds S Q λ_=>False) vs H Q E->spUX K C' sp vs H Q λ_ _ _=>False:=λvs H Q E z=>by
  refine hd λB i=>?_;obtain⟨F,S,ds,QD,r,l,q,cn⟩:=z;refine i ?_;exact⟨F,S,ds,QD,_,r,l,q,cn,λ_ _ _ _ z=>z.elim⟩
 refine⟨f,fd,⟨λvs H Q E z=>a.len _ _ _ _ (up vs H Q E z),λA outer s H args us vs Q E L U O G z=>?_⟩,b,c⟩;refine ec (a.run A outer s H args us vs Q _ L U O G (up vs H Q E z)) λr s' y=>?_;cases r with
 | error e =>
  refine hd λB i=>?_;obtain⟨_,_,_,_,_,_,_,_,_,_,_,_,_,_,_,_,_,z⟩:=y;refine i ?_;exact z.elim
 | ok fl=>cases fl <;> exact y
theorem dXt {qual:Str} {st:Stmt} {N:List Str} {sp:SpD} (T:TxM K C m qual st) (S:FnScope N ps (aQ4 st))
  (b:∀ {f:Addr} {fd:cT},Fun K m qual st f fd->Binds K fd ps []) (len:∀ ds S Q,sp ds S Q->ds.length=ps.length)
  (h:∀ (f:Addr) (cdv:ae) (A:aQ) (outer:List Env) (s:ai) (H:Hp) (E:XK),Room k (A.deeper (envOfC qual (aQ4 st) s.heap.objs.size f cdv)) ->
   ∃ t,PSsD K (cxOf CX0 P w K mg base N qual (aQ4 st) f cdv A outer s H E).nox (aZ6 st) t/\∀ ds S Q,sp ds S Q->t (aJy Q) (aXb N ds) S):DfM P w K mg base (k + 1) C m ps (spU K sp):=by
 refine hd λU i=>?_;obtain⟨f,fd,Y,M⟩:=T.ex;refine i ?_;refine⟨f,fd,Y.ok S (λvs H Q E G=>by obtain⟨F,S,ds,QD,r,l,y,c⟩:=G;rw[l.length];exact len ds S QD y) (λcdv A outer s H vs Q E' hr G=>?_),b Y,M⟩
 refine hd λU i=>?_;obtain⟨F,S,ds,QD,r,l,y,c⟩:=G;refine i ?_;refine hd λU i=>?_;obtain⟨t,h1,h2⟩:=h f cdv A outer s H E' hr;refine i ?_;have fin:∀ v d H' S',Ext S H S' H'->Rp K F S' H'->RepV K (mt S' F) H' d v->rtD QD d S'->Q v H':=λv d H' S' L B v1 Z=>by
  refine hd λU i=>?_;obtain⟨d',S2,O,fz,q⟩:=Z;refine i ?_;exact c v d' H' S2 (L.trans (Ext.less O)) (B.less O) ((cXc B O fz).1 v v1) q
 exact⟨_,h1.o,F,S,aXb N ds,aJy QD,r,bQn l,h2 ds S QD y,fun Γ' S' σ' H' L B g1 q=>fin .non .non H' S' L B (by unfold RepV;rfl) q,fin,λ_ _ _ _ _ _ _ q=>q.elim,λ_ _ _ _ _ _ _ q=>q.elim⟩
theorem dXu {qual:Str} {st:Stmt} {N:List Str} {sp:SpX} (T:TxM K C m qual st) (S:FnScope N ps (aQ4 st))
  (b:∀ {f:Addr} {fd:cT},Fun K m qual st f fd->Binds K fd ps []) (len:∀ ds S Q XQ,sp ds S Q XQ->ds.length=ps.length)
  (h:∀ (f:Addr) (cdv:ae) (A:aQ) (outer:List Env) (s:ai) (H:Hp) (E:XK),Room k (A.deeper (envOfC qual (aQ4 st) s.heap.objs.size f cdv)) ->
   ∃ t,PSs (cxOf (CX1 P w) P w K mg base N qual (aQ4 st) f cdv A outer s H E) (aZ6 st) (upX K E C' t)/\∀ ds S Q XQ,sp ds S Q XQ->t (aJy Q) (xlD XQ) (aXb N ds) S):DfMX P w K mg base (k + 1) C m ps (spUX K C' sp):=by
 refine hd λU i=>?_;obtain⟨f,fd,Fn,M⟩:=T.ex;refine i ?_;refine⟨f,fd,?_,b Fn,M⟩;obtain⟨oc,od,kV,doc,pm,an,cdv,ct,osl,rfl,lk,hcd⟩:=Fn.ex;refine fXm lk hcd S (λvs H Q E Z=>by obtain⟨F,S,ds,QD,O,r,l,y,c⟩:=Z;rw[l.length];exact len ds S QD O y) λA outer s H vs Q E' hr Z=>?_
 refine hd λU i=>?_;obtain⟨F,S,ds,QD,O,r,l,y,c,cx⟩:=Z;refine i ?_;refine hd λU i=>?_;obtain⟨t,h1,h2⟩:=h f cdv A outer s H E' hr;refine i ?_;have fin:∀ v d H' S',Ext S H S' H'->Rp K F S' H'->RepV K (mt S' F) H' d v->rtD QD d S'->Q v H':=λv d H' S' L B v1 Y=>by
  refine hd λU i=>?_;obtain⟨d',S2,G,fz,q⟩:=Y;refine i ?_;exact c v d' H' S2 (L.trans (Ext.less G)) (B.less G) ((cXc B G fz).1 v v1) q
 refine⟨_,h1,F,S,aXb N ds,aJy QD,xlD O,r,bQn l,h2 ds S QD O y,⟨fun Γ' S' σ' H' L B g1 q=>fin .non .non H' S' L B (by unfold RepV;rfl) q,fin,λ_ _ _ _ _ _ _ q=>q.elim,λ_ _ _ _ _ _ _ q=>q.elim⟩,λH' S' L B Y=>?_⟩
 refine hd λU i=>?_;obtain⟨S2,G,q⟩:=Y;refine i ?_;exact cx H' S2 (L.trans (Ext.less G)) (B.less G) q
end
section
variable {X:Cx} {K:Fg} {C:Addr} {m:Str} {ps:List Str} {k:Nat} {pos apos:Pos}
def eZ4 (K:Fg) (C:Addr) (m:Str) (sp:SpD) (te:ED) (ta:AD):ED:=fun Γ S Q=>te Γ S λd S1=>∃ a fds,d=.ref a/\S1 a=some (bQf K C fds)/\fds.lookup m=none/\ta Γ S1 λds S2=>sp (.ref a::ds) S2 Q
theorem cQg {pl:Sem Bool} {o e:Expr} {es:List Expr} {te:ED} {ta:AD} {sp:SpD} (D:DfM X.prog X.w X.K X.mg X.base k C m ps (spU K sp)) (c:Cls K C) (hr:Room k X.A) (ho:PD K X o te) (ha:PAD K X (e::es) ta) (hK:X.K=K:=by rfl)
  (hst:am (e::es) X.env=(false,eval e X.env)::am es X.env:=by rfl) (hpl:(bn pos (am es X.env)).any (·.1)=false:=by rfl)
  (ht:eval (.Call (.Attribute o m apos) (e::es) [] pos) X.env=(do
   let ov <- eval o X.env
   fu apos.atName
   let (f,first) <- dX [ov] (gI ov m pl)
   jT pos f first (bn pos (am (e::es) X.env)) (eJ pos (cV [] X.env))):=by rfl) :
  PD K X (.Call (.Attribute o m apos) (e::es) [] pos) (eZ4 K C m sp te ta):=by
 subst hK;refine hd λGq i=>?_;obtain⟨f,fd,Fk,hb,hm⟩:=D.ex;refine i ?_;refine .of (eJ1 (E:=E0) ho.o c hm Fk hr hb .nil dQg ha.o hst hpl ht) fun σ H Q G=>G.el λF S Γ QD r g q cn=>⟨F,S,Γ,_,r,g,q,λx d H1 S1 y B v1 z=>?_⟩;obtain⟨a,fds,rfl,hS,hl,Y⟩:=z;refine hd λGq i=>?_;obtain⟨dx,fs,h1,h2⟩:=B.obj a _ hS;refine i ?_;have hn:fs.lookup m=none:=by
  rcases bJd h2 m with⟨e1,_⟩ | ⟨_,_,_,e2,_⟩
  ·exact e1
  ·rw[hl] at e2;cases e2
 have ev:=rref v1;subst ev;refine⟨a,dx,fs,rfl,h1,hn,F,S1,Γ,_,B,g.ext y,Y,λvs ds H2 S2 L O Z U=>?_⟩;show spU X.K sp (.ref a::(vs++[])) H2 Q E0;rw[bA];exact⟨F,S2,_,QD,O,RepL.cons (by unfold RepV;rfl) Z,U,Cn.shift cn (y.trans L)⟩
theorem bZl {pl:Sem Bool} {o:Expr} {te:ED} {sp:SpD} (D:DfM X.prog X.w X.K X.mg X.base k C m ps (spU K sp)) (c:Cls K C) (hr:Room k X.A) (ho:PD K X o te) (hK:X.K=K:=by rfl)
  (ht:eval (.Call (.Attribute o m apos) [] [] pos) X.env=(do
   let ov <- eval o X.env
   fu apos.atName
   let (f,first) <- dX [ov] (gI ov m pl)
   jT pos f first (bn pos (am [] X.env)) (eJ pos (cV [] X.env))):=by rfl) :
  PD K X (.Call (.Attribute o m apos) [] [] pos) (eZ4 K C m sp te dNil):=by
 subst hK;refine hd λGq i=>?_;obtain⟨f,fd,Fk,U,hm⟩:=D.ex;refine i ?_;refine .of (dJq (E:=E0) ho.o c hm Fk hr U .nil dQg ht) fun σ H Q B=>B.el λF S Γ QD r g q cn=>⟨F,S,Γ,_,r,g,q,λx d H1 S1 G y v1 z=>?_⟩;obtain⟨a,Z,rfl,Y,hl,L⟩:=z;refine hd λGq i=>?_;obtain⟨dx,fs,h1,h2⟩:=y.obj a _ Y;refine i ?_;have O:fs.lookup m=none:=by
  rcases bJd h2 m with⟨e1,_⟩ | ⟨_,_,_,e2,_⟩
  ·exact e1
  ·rw[hl] at e2;cases e2
 have ev:=rref v1;subst ev;refine⟨a,dx,fs,rfl,h1,O,?_⟩;exact⟨F,S1,_,QD,y,RepL.cons (by unfold RepV;rfl) RepL.nil,L,Cn.shift cn G⟩
def gXu (K:Fg) (C:Addr) (sp:SpD) (ta:AD):ED:=fun Γ S Q=>ta Γ S λds S1=>∀ x,S1 x=none->sp (.ref x::ds) (supd S1 x (bQf K C [])) λd S2=>d=.non/\Q (.ref x) S2
structure DfI (P:aC) (w:aH) (K:aq) (mg:Str->Option ae) (base:aO) (k:Nat) (C:Addr) (ps:List Str) (sp:Sp):Prop where
 ex:∃ (f:Addr) (fd:cT),FnOk P w K mg base CX0 k f fd ps sp/\Binds K fd ps []/\Mk K C f
theorem dXv {x:Str} {e:Expr} {es:List Expr} {ta:AD} {sp:SpD} {p:Pos} (D:DfI X.prog X.w X.K X.mg X.base k C ps (spU K sp)) (hr:Room (k + 1) X.A) (hg:Gl X x) (hm:X.mg x=some (.ref C)) (ha:PAD K X (e::es) ta) (hK:X.K=K:=by rfl)
  (hdb:dbg x=false:=by decide) (he:am (e::es) X.env=(false,eval e X.env)::am es X.env:=by rfl) (hpl:(bn pos (am es X.env)).any (·.1)=false:=by rfl) :
  PD K X (.Call (.Name x p) (e::es) [] pos) (gXu K C sp ta):=by
 subst hK;refine hd λGq kq=>?_;obtain⟨f,fd,Fk,hb,M⟩:=D.ex;refine kq ?_;refine .of (eJ2 (E:=E0) M Fk hr hg hm hb .nil dQg ha.o hdb he hpl) fun σ H Q U=>U.el λF S Γ QD r g q cn=>⟨F,S,Γ,_,r,g,q,λvs ds H1 i x1 L l1 q1 x dx O B ne=>?_⟩;have x2:Ext i H1 i (upd H1 dx (.own x)):=Ext.same (aQm B);have r2:Rp X.K F i (upd H1 dx (.own x)):=L.same (aQm B);have y:upd H1 dx (.own x) x=none:=(upd_ne (bj ne)).trans O;have Z:Ext i (upd H1 dx (.own x)) (supd i x (bQf X.K C [])) (upd (upd H1 dx (.own x)) x (.ins C dx [])):=Ext.mk' y;have r3:Rp X.K F (supd i x (bQf X.K C [])) (upd (upd H1 dx (.own x)) x (.ins C dx [])):=r2.mk' y ⟨dx,[],aQc,.nil⟩;have G:=x2.trans Z;show spU X.K sp (.ref x::(vs++[])) _ _ E0;rw[bA];refine⟨F,_,_,_,r3,RepL.cons (by unfold RepV;rfl) (l1.ext G),q1 x (L.sn O),λv d H4 S4 Y r4 v4 z=>?_⟩
 obtain⟨rfl,q4⟩:=z;unfold RepV at v4;exact⟨v4,cn _ _ H4 S4 (x1.trans (G.trans Y)) r4 (by unfold RepV;rfl) q4⟩
theorem DfM.init {P:aC} {w:aH} {K:aq} {mg:Str->Option ae} {base:aO} {k:Nat} {sp:Sp} (D:DfM P w K mg base k C "__init__" ps sp) (mk:fG K C=true) (kp:cB K (.ref C)=true):DfI P w K mg base k C ps sp:=by
 refine hd λy i=>?_;obtain⟨f,fd,a,b,c⟩:=D.ex;refine i ?_;exact⟨f,fd,a,b,mk,c.at_,c.fn,kp⟩
end
def clsB (s:Stmt) (j:Nat):Stmt:=match s with
 | .ClassDef _ _ _ b _ _ _ _ _ _ _=>b.getD j (.Pass ⟨0,0,0,0⟩)
 | _=>.Pass ⟨0,0,0,0⟩
theorem txm_mk {K:aq} {C:Addr} {m qual:Str} {st:Stmt} {f:Addr} {od an:Option Addr} {sl:Array (Option ae)} {oc kV dc pm cd ct:ae}
  (a:di K (.ref C) m=some (some (.ref f))) (l:K.lookup f=some ⟨oc,od,.func (eg m qual (aXg st) (aZ6 st) (aQ4 st) .none kV dc pm an cd ct),sl⟩) (c:fX K cd qual=true) (k:cB K (.ref f)=true) (n:kc K (.ref f)=true):TxM K C m qual st :=
 ⟨f,_,dQh (st:=st) l c k,⟨a,n,k⟩⟩
section
variable {X:Cx} {K:Fg} {C C0:Addr} {m:Str} {ps:List Str} {k:Nat} {apos:Pos}
theorem dXw {pl:Sem Bool} {o e:Expr} {es:List Expr} {te:ED} {ta:AD} {sp:SpX} {cp:Pos} {pins:List (Addr × Obj)} {s:ai} {σ:St} {H:Hp} {F:Am} {S:Sto} {Γ:Gm} {QD:DK} {XD:Sto->Prop} {QV:VK} {EV:Hp->Prop} {xe:ae->ai->Prop}
  (D:DfMX X.prog X.w X.K X.mg X.base k C m ps (spUX K C0 sp)) (c:Cls X.K C) (hr:Room k X.A) (ho:PD K X.nox o te) (ha:PAD K X.nox (e::es) ta) (hK:X.K=K)
  (hst:am (e::es) X.env=(false,eval e X.env)::am es X.env) (hpl:(bn cp (am es X.env)).any (·.1)=false)
  (ht:eval (.Call (.Attribute o m apos) (e::es) [] cp) X.env=(do
   let ov <- eval o X.env
   fu apos.atName
   let (f,first) <- dX [ov] (gI ov m pl)
   jT cp f first (bn cp (am (e::es) X.env)) (eJ cp (cV [] X.env))))
  (I:Inv X pins σ H s) (r:Rp K F S H) (g:RepG K (mt S F) H Γ σ) (q:te Γ S λd S1=>∃ a fds,d=.ref a/\S1 a=some (bQf K C fds)/\fds.lookup m=none/\ta Γ S1 λds S2=>sp (.ref a::ds) S2 QD XD)
  (cq:∀ v d H' S',Ext S H S' H'->Rp K F S' H'->RepV K (mt S' F) H' d v->QD d S'->QV v H') (cx:∀ H' S',Ext S H S' H'->Rp K F S' H'->XD S'->EV H')
  (hx:∀ H1 s1 e s',Inv X pins σ H1 s1->CX1 X.prog X.w X.stack H1 s1 (λcls _ H2=>cls=.ref C0/\EV H2) e s'->xe e s') :
  ay (az X.prog X.w) X.A (eval (.Call (.Attribute o m apos) (e::es) [] cp) X.env) (EP X pins σ QV) xe s:=by
 subst hK;refine hd λGq G=>?_;obtain⟨f,fd,Fk,hb,hm⟩:=D.ex;refine G ?_;refine ia (pl:=pl) (c6 (ho.o pins s σ H (λv H1=>∃ a dx fs,v=.ref a/\H1 a=some (.ins C dx fs)/\fs.lookup m=none/\upA X.K ta σ H1 λvs H2=>spUX X.K C0 sp (.ref a::(vs++[])) H2 QV λcls _ H2=>cls=.ref C0/\EV H2) (I.wish _) ⟨F,S,Γ,_,r,g,q,λv d H1 S1 Y r1 v1 z=>?_⟩) (λu s1 z=>?_) λ_ _ z=>z.elim) ht
 ·obtain⟨a,fds,rfl,hS,hl,q1⟩:=z;refine hd λGq G=>?_;obtain⟨dx,fs,h1,h2⟩:=r1.obj a _ hS;refine G ?_;have Z:fs.lookup m=none:=by
   rcases bJd h2 m with⟨e1,_⟩ | ⟨_,_,_,e2,_⟩
   ·exact e1
   ·rw[hl] at e2;cases e2
  refine⟨a,dx,fs,rref v1,h1,Z,F,S1,Γ,_,r1,g.ext Y,q1,λvs ds H2 S2 x2 r2 l2 q2=>?_⟩;show spUX X.K C0 sp (.ref a::(vs++[])) H2 QV _;rw[bA];exact⟨F,S2,_,QD,XD,r2,RepL.cons (by unfold RepV;rfl) l2,q2,λv d H3 S3 U=>cq v d H3 S3 (Y.trans (x2.trans U)),λH3 S3 U r3 q3=>⟨rfl,cx H3 S3 (Y.trans (x2.trans U)) r3 q3⟩⟩
 ·obtain⟨v,H1,O,rv,a,dx,fs,rfl,h1,Z,qa⟩:=z;have O:=O.unwish;obtain rfl:u=bI a:=rv;refine aJm O h1 c hm Z ?_;refine gG (first:=[.ref a]) (h₀:=X.base) O.ok.mod.kin hm.kp (c6 (ha.o cp pins s1 σ H1 _ (O.wish _) qa) (λus s2 z=>?_) λ_ _ z=>z.elim) hst hpl;refine hd λGq G=>?_;obtain⟨vs,H2,y,rl,i⟩:=z;refine G ?_;have y:=y.unwish;rw[bA] at i;have B:Vals (.ref a::vs) (.ref a::us):=.cons rfl rl;refine⟨y.kIn,ke (ec (Fk.run X.A X.stack s2 H2 ⟨.ref a::us,[]⟩ (.ref a::us) (.ref a::vs) _ _ hr y.env0 (by have:=hb s2 (.ref a::us) y.kIn (by rw[bA,<- B.length];exact Fk.len _ _ _ _ i);rwa [bA] at this) B i) λres s' L=>?_)⟩
  cases res with
  | error e=>exact hx H2 s2 e s' y L
  | ok fl =>
   cases fl with
   | ret u=>exact y.after L
   | next=>exact cI L
   | brk=>exact cI L
   | cont=>exact cI L
end
section
variable {X:Cx} {K:Fg} {C C0:Addr} {k:Nat}
def eZ5 (K:Fg) (C:Addr) (m:Str) (sp:SpX) (C0:Addr) (j:Nat) (te:ED) (ta:AD) (ts:SD):SD:=λED Γ S=>te Γ S λd S1=>∃ a fds,d=.ref a/\S1 a=some (bQf K C fds)/\fds.lookup m=none/\ta Γ S1 λds S2=>sp (.ref a::ds) S2 (λ_ S3=>ED.nx Γ S3) (dAs C0 j ts ED Γ)
def gZ8 (K:Fg) (C:Addr) (m1 m2:Str) (sp1 sp2:SpX) (C0:Addr) (j:Nat) (tt:TD) (te1:ED) (ta1:AD) (te2:ED) (ta2:AD) (ts:SD):SD:=λED Γ S=>tt Γ S λb S1=>if b=true then eZ5 K C m1 sp1 C0 j te1 ta1 ts ED Γ S1 else eZ5 K C m2 sp2 C0 j te2 ta2 ts ED Γ S1
theorem eZ6 {pl1 pl2:Sem Bool} {m1 m2 x n:Str} {j:Nat} {ps1 ps2:List Str} {sp1 sp2:SpX} {C':Addr} {c o1 e1 o2 e2:Expr} {es1 es2:List Expr} {tt:TD} {te1 te2:ED} {ta1 ta2:AD} {ts:SD} {b₀:Stmt} {suite:List Stmt} {ap1 ap2 cp1 cp2 ep1 ep2 ip np hp tp:Pos}
  (hc:PTD K X.nox c tt) (D1:DfMX X.prog X.w X.K X.mg X.base k C m1 ps1 (spUX K C0 sp1)) (D2:DfMX X.prog X.w X.K X.mg X.base k C m2 ps2 (spUX K C0 sp2)) (cl:Cls K C) (hr:Room k X.A) (ho1:PD K X.nox o1 te1) (ha1:PAD K X.nox (e1::es1) ta1) (ho2:PD K X.nox o2 te2) (ha2:PAD K X.nox (e2::es2) ta2)
  (hN:X.N.Nodup) (hj:X.N[j]?=some n) (hk:X.env.scope.names.lookup n=some .local) (hgx:Gl X x) (hmx:X.mg x=some (.ref C')) (hx:jw X.K (.ref C0) (.ref C')=some true) (hs:∀ ea,PSsD K (X.caught ea) (b₀::suite) ts) (hK:X.K=K:=by rfl)
  (hstk:X.stack=X.env::X.outer:=by rfl) (hfr:X.env.frame=some X.env.locals:=by rfl) (hdx:dbg x=false:=by decide)
  (h1:am (e1::es1) X.env=(false,eval e1 X.env)::am es1 X.env:=by rfl) (h2:am (e2::es2) X.env=(false,eval e2 X.env)::am es2 X.env:=by rfl) (p1:(bn cp1 (am es1 X.env)).any (·.1)=false:=by rfl) (p2:(bn cp2 (am es2 X.env)).any (·.1)=false:=by rfl)
  (ht1:eval (.Call (.Attribute o1 m1 ap1) (e1::es1) [] cp1) X.env=(do
   let ov <- eval o1 X.env
   fu ap1.atName
   let (f,first) <- dX [ov] (gI ov m1 pl1)
   jT cp1 f first (bn cp1 (am (e1::es1) X.env)) (eJ cp1 (cV [] X.env))):=by rfl)
  (ht2:eval (.Call (.Attribute o2 m2 ap2) (e2::es2) [] cp2) X.env=(do
   let ov <- eval o2 X.env
   fu ap2.atName
   let (f,first) <- dX [ov] (gI ov m2 pl2)
   jT cp2 f first (bn cp2 (am (e2::es2) X.env)) (eJ cp2 (cV [] X.env))):=by rfl)
  (s1:gc (.Call (.Attribute o1 m1 ap1) (e1::es1) [] cp1) none ep1.line X.env=pure false:=by rfl) (s2:gc (.Call (.Attribute o2 m2 ap2) (e2::es2) [] cp2) none ep2.line X.env=pure false:=by rfl) :
  PSD K X (.Try [.If c [.Expr (.Call (.Attribute o1 m1 ap1) (e1::es1) [] cp1) ep1] [.Expr (.Call (.Attribute o2 m2 ap2) (e2::es2) [] cp2) ep2] ip] [.ExceptHandler (some (.Name x np)) (some n) (b₀::suite) hp] [] [] tp) (gZ8 K C m1 m2 sp1 sp2 C0 j tt te1 ta1 te2 ta2 ts):=⟨by
 intro pins s σ H D' I h;refine hd λGq G=>?_;obtain⟨F,S,Γ,ED,r,g,q,c0⟩:=h;refine G ?_;refine wpAny_Try_except (f9 (wpAny_If (c6 (hc.o pins s σ H (λb H1=>∃ L,Ext S H L H1/\Rp K F L H1/\if b=true then eZ5 K C m1 sp1 C0 j te1 ta1 ts ED Γ L else eZ5 K C m2 sp2 C0 j te2 ta2 ts ED Γ L) (I.wish _) ⟨F,S,Γ,_,r,g,q,λb H1 L Z r1 z=>⟨L,Z,r1,z⟩⟩) (λb s3 z=>?_) λ_ _ z=>z.elim)))
 refine hd λGq G=>?_;obtain⟨H1,U,L,Z,r1,z⟩:=z;refine G ?_;have U:=U.unwish;have g1:=g.ext Z;have c1:=c0.ext Z;cases b with
 | true =>
  refine f9 (wpAny_Expr_any (thn (dXw (QV:=λv H2=>D'.nx σ H2) (EV:=λH2=>∀ ea,H2 ea=none->upS K ts (cQf D' j) (σ.set j (some (.ref ea))) (upd H2 ea (excO ea C0))) D1 (hK ▸ cl) hr ho1 ha1 hK h1 p1 ht1 U r1 g1 z (λv d H2 Y i y v2 B=>c1.nx _ Y _ H2 i y (g1.ext i) B) (λH2 Y i y B=>eXg g1 c1 i y B)
   λH2 s4 e s' O hq=>dXp (ts:=upS K ts) O hq hstk hfr hgx hmx hN hj hk (λcls o H' z=>⟨C0,z.1,z.1 ▸ hx,z.2⟩) (λea=>(hs ea).o) hdx) λv s4 z=>?_) U.quiet s1)
  refine hd λGq G=>?_;obtain⟨u,H2,O,_,q1⟩:=z;refine G ?_;exact dq (dq (dq ⟨_,H2,O,q1⟩))
 | false =>
  refine f9 (wpAny_Expr_any (thn (dXw (QV:=λv H2=>D'.nx σ H2) (EV:=λH2=>∀ ea,H2 ea=none->upS K ts (cQf D' j) (σ.set j (some (.ref ea))) (upd H2 ea (excO ea C0))) D2 (hK ▸ cl) hr ho2 ha2 hK h2 p2 ht2 U r1 g1 z (λv d H2 Y i y v2 B=>c1.nx _ Y _ H2 i y (g1.ext i) B) (λH2 Y i y B=>eXg g1 c1 i y B)
   λH2 s4 e s' O hq=>dXp (ts:=upS K ts) O hq hstk hfr hgx hmx hN hj hk (λcls o H' z=>⟨C0,z.1,z.1 ▸ hx,z.2⟩) (λea=>(hs ea).o) hdx) λv s4 z=>?_) U.quiet s2)
  refine hd λGq G=>?_;obtain⟨u,H2,O,_,q1⟩:=z;refine G ?_;exact dq (dq (dq ⟨_,H2,O,q1⟩))⟩
end
end L2
set_option maxHeartbeats 4000000
namespace L2
open PySem
theorem cXr (xs:List D) (i:Nat):cutD xs (some ((i:Int) + 1)) none=xs.drop (i + 1):=by
 rcases bO i xs.length with h | h
 ·have e:cutD xs (some ((i:Int) + 1)) none=cutD (xs.map id) (some (((i + 1:Nat):Int))) none:=by rw[kX];rfl
  rw[e,aJi,HT.sIx_none,HT.sIx_nat,iQ (by lia),cf (by rw[dO];exact au _),kX]
 ·have e:cutD xs (some ((i:Int) + 1)) none=cutD (xs.map id) (some (((i + 1:Nat):Int))) none:=by rw[kX];rfl
  rw[e,aJi,HT.sIx_none,HT.sIx_nat,er (by lia),er (by lia),List.take_nil]
  rfl
end L2
namespace Toy
open PySem L2
def eZ7 (n:Nat):SpD:=λds S Q=>∃ (xs:List D) (m:Nat),ds=[.tup xs,.int m]/\m < n/\xs.length<=20/\Q (.lst ((ch xs m).map D.tup)) S
def aXl:SpD:=λds S Q=>∃ ts:List (List Str),ds=[.tup (ts.map tupS)]/\ts≠[]/\ts.length<=99/\(∀ t∈ts,t.length<=99)/\Q (tupS (naG ts)) S
def bXh:SpD:=λds S Q=>∃ ts:List (List Str),ds=[.tup (ts.map tupS)]/\ts.length<=99/\(∀ t∈ts,t.length<=99)/\(lfG ts).length<=99/\Q (opD (coG ts)) S
end Toy
namespace L2
open PySem
open Toy (ch aQx aZe aZ5 aJk coG naG lfG meG laG Sun aJz bJa eZ0 flw cQb bQa mem_me)
theorem dXx {α:Type} [DecidableEq α] {lt:α->α->Bool} (irr:∀ a,lt a a=false):∀ {N:List α} (k:Nat),N.Pairwise (λa b=>lt a b=true)->(ch N k).Pairwise λa b=>lexG lt a b=true
 | N,0,_=>by rw[aZe];exact b5 _ _
 | [],k + 1,_=>lq
 | a::N,k + 1,O=>by
  have i:=aU.mp O;rw[aQx];refine ff.mpr ⟨?_,dXx irr (k + 1) i.2,?_⟩
  ·rw[gZ];refine(dXx irr k i.2).imp λ{x y} h=>?_;show(if a=a then lexG lt x y else lt a a)=true
   rw[if_pos rfl];exact h
  ·intro x G y B;obtain⟨r,U,rfl⟩:=cJ.mp G;obtain⟨h1,h2⟩:=aZ5 B;cases y with
   | nil=>simp at h1
   | cons b y =>
    have L:b∈N:=h2.subset ak;have hab:=i.1 b L;show(if a=b then lexG lt r y else lt a b)=true
    rw[if_neg (by rintro rfl;rw[irr] at hab;cases hab)]
    exact hab
def flO (ts:List (List Str)) (m:Nat):List (List (List Str)):=(ch ts m).filter λs=>(coG s).isSome
theorem cZe {ts:List (List Str)} (h:SrtT ts):ts.Pairwise λa b=>HT.lexS a b=true/\HT.lexS b a=false:=h.imp λh=>⟨h,HT.lexS_as h⟩
theorem dXy {ts:List (List Str)} (hs:SrtT ts) (he:∀ t∈ts,Srt t) (j:Nat):flw HT.lexS [] (λs=>(coG s).isSome) ts j=flO ts (j + 2):=by
 refine cQb (cZe hs) aZn (λs h=>?_) (λs o h2 sub ok=>?_) j
 ·obtain⟨h1,h2⟩:=aZ5 h;refine(aJz λo i=>(he o (h2.subset i)).nodup).mpr ⟨by lia,hs.nodup.sublist h2,?_⟩
  match s,h1 with
  | [a,b],_ =>
   unfold Sun;refine aU.mpr ⟨λy B n na nb o i=>?_,b5 _ _⟩;rw[aB.mp B] at nb;rcases aA.mp i with rfl | i
   ·exact na
   ·rw[aB.mp i];exact nb
 ·have nd:∀ o'∈s++[o],o'.Nodup:=λo' i=>(he o' (sub.subset i)).nodup;obtain⟨_,L,G⟩:=(aJz nd).mp ok;exact(aJz λo' i=>nd o' (bh _ i)).mpr ⟨h2,(cg.mp L).1,bJa G⟩
theorem mem_flO {ts:List (List Str)} {m:Nat} {s:List (List Str)}:s∈flO ts m↔s.length=m/\s.Sublist ts/\(coG s).isSome=true:=by
 unfold flO;rw[cb];constructor
 ·rintro⟨h1,h2⟩;exact⟨(aZ5 h1).1,(aZ5 h1).2,h2⟩
 ·rintro⟨rfl,h2,i⟩;exact⟨aJk h2,i⟩
theorem dXz {ts:List (List Str)} (hs:SrtT ts) (m:Nat):(flO ts m).Pairwise λa b=>flE.lt a b=true:=by
 have e:flE.lt=lexG HT.lexS:=by show lexG setE.lt=_;rw[dXi]
 rw[e];exact(dXx aZn m hs).filter _
theorem dJ0 {α:Type} [DecidableEq α] {lt:α->α->Bool} (as:∀ {a b},lt a b=true->lt b a=false):∀ {a b:List α},lexG lt a b=true->lexG lt b a=false
 | [],[],h=>by cases h
 | [],_::_,_=>rfl
 | _::_,[],h=>by cases h
 | x::a,y::b,h=>by
  have h':(if x=y then lexG lt a b else lt x y)=true:=h
  show(if y=x then lexG lt b a else lt y x)=false
  by_cases e:x=y
  ·rw[if_pos e] at h';rw[if_pos e.symm];exact dJ0 as h'
  ·rw[if_neg e] at h';rw[if_neg λz=>e z.symm];exact as h'
theorem eXi {a b:List (List Str)} (h:flE.lt a b=true):flE.lt b a=false:=by
 have e:flE.lt=lexG HT.lexS:=by show lexG setE.lt=_;rw[dXi]
 rw[e] at h ⊢;exact dJ0 HT.lexS_as h
theorem bZm {α:Type} [DecidableEq α] {E:Enc α} (hE:E.dep<=8) (as:∀ {a b},E.lt a b=true->E.lt b a=false) {x:α}:∀ {xs:List α},(∀ y∈xs,E.lt x y=true)->bZg (E.e x) (xs.map E.e)=E.e x
 | [],_=>rfl
 | y::xs,h=>by
  show bZg (if ltN 8 (E.e y) (E.e x)=true then E.e y else E.e x) (xs.map E.e)=_
  rw[E.lte 8 y x hE,as (h y ak),if_neg (by simp)]
  exact bZm hE as λz i=>h z (ao _ i)
theorem gZ9 {ts:List (List Str)} {a b:Nat} (hl:ts.length<=a) (he:∀ t∈ts,t.length<=b):(lfG ts).length<=a * b:=by
 have gen:∀ l:List (List Str),(∀ t∈l,t.length<=b)->(l.flatMap λo=>o.filter λd=>!decide (d∈naG ts)).length<=l.length * b:=by
  intro l
  induction l with
  | nil=>intro _;simp
  | cons t l i =>
   intro h;rw[cF,ax,aF,Nat.succ_mul];have h1:=dh (λd=>!decide (d∈naG ts)) t;have h2:=h t ak;have B:=i λt y=>h t (ao _ y);lia
 exact bc (gen ts he) (Nat.mul_le_mul_right b hl)
end L2
namespace Toy
open PySem L2
def aX8:SpD:=λds S Q=>∃ (ts:List (List Str)) (m:Nat),ds=[.tup (ts.map tupS),.int m]/\2<=m/\m<=6/\SrtT ts/\ts.length<=15/\(∀ t∈ts,Srt t/\t.length<=12)/\Q (.lst ((flO ts m).map flE.e)) S
def opF:Option (List (List Str))->D
 | none=>.non
 | some s=>flE.e s
def aXm:SpD:=λds S Q=>∃ (ts:List (List Str)) (m:Nat),ds=[.tup (ts.map tupS),.int m]/\2<=m/\m<=6/\SrtT ts/\ts.length<=15/\(∀ t∈ts,Srt t/\t.length<=12)/\Q (opF (flO ts m).head?) S
end Toy
namespace L2
open PySem
open Toy (ch aQx aZe aZ5 aJk coG naG lfG meG laG Sun aJz bJa eZ0 flw cQb bQa mem_me)
end L2
namespace L2
open PySem
open Toy (ch aQx aZe aZ5 aJk coG naG lfG meG laG Sun aJz bJa eZ0 flw cQb bQa mem_me)
theorem me_comm {a b:List Str} (ha:Srt a) (hb:Srt b):meG a b=meG b a:=Srt.ext (f8 _ ha) (f8 _ hb) λn=>by rw[mem_me,mem_me];exact⟨λh=>⟨h.2,h.1⟩,λh=>⟨h.2,h.1⟩⟩
def Fm (s:List (List Str)) (c:List Str):Prop:=s.Pairwise λa b=>meG a b=c
theorem gZa {s:List (List Str)} (h2:2<=s.length) (nd:s.Nodup) (hs:∀ o∈s,Srt o) {c:List Str}:coG s=some c↔Fm s c:=by
 rw[<- eZ0 (lt:=λa b=>HT.ltS a b=true) (λa=>by rw[HT.ltS_ir];simp) (λa b h=>by rw[HT.ltS_as h];simp) h2 nd hs]
 match s,h2,hs with
 | a::b::r,_,hs =>
  have eq:∀ d:List Str,((a::b::r).Pairwise λother one=>meG one other=d)↔Fm (a::b::r) d:=λd=>by
   unfold Fm;constructor
   ·intro h;refine gD ?_ h;intro x y B i e;rw[me_comm (hs x B) (hs y i)];exact e
   ·intro h;refine gD ?_ h;intro x y B i e;rw[me_comm (hs y i) (hs x B)];exact e
  have G:∀ d,Fm (a::b::r) d->meG a b=d:=λd h=>(aU.mp h).1 b ak;show(if (a::b::r).Pairwise (λother one=>meG one other=meG a b) then some (meG a b) else none)=some c↔_
  constructor
  ·intro h
   split at h
   ·next hp=>cases h;exact(eq _).mp hp
   ·cases h
  ·intro h
   have:=G c h
   subst this;rw[if_pos ((eq _).mpr h)]
end L2
namespace Toy
open PySem L2
end Toy
namespace L2
open PySem
open Toy (ch aZ5 aJk bXf meG opD)
end L2
namespace L2
open PySem
open Toy (ch aZ5 aJk coG naG lfG meG bQa mem_me)
end L2
namespace L2
open PySem
open Toy (meG mem_me)
end L2
namespace L2
open PySem
open Toy
theorem gXv {P:Prop} [Decidable P] (h:P):D.bl (if false=true then !decide P else decide P)=D.bl true:=by rw[decide_eq_true h];rfl
theorem gXw {P:Prop} [Decidable P] (h:P):D.bl (if true=true then !decide P else decide P)=D.bl false:=by rw[decide_eq_true h];rfl
end L2
set_option maxHeartbeats 1000000
namespace Toy
open PySem L2 PyProof.Rows
def aQo (K:Fg) (C:Addr) (m:Nat) (ts:List (List Str)):DO:=bQf K C [("many",.int m),("sets",.tup (ts.map tupS))]
structure Kpt (ts:List (List Str)):Prop where
 srt:SrtT ts
 len:ts.length<=14
 each:∀ t∈ts,Srt t/\t.length<=6
def bQ1 (K:Fg) (C:Addr):SpD:=λds S Q=>∃ (a:Addr) (m:Nat),ds=[.ref a,.int m]/\S a=some (bQf K C [])/\Q .non (supd S a (aQo K C m []))
def bZn (K:Fg) (C:Addr):SpD:=λds S Q=>∃ (a:Addr) (m:Nat) (ts:List (List Str)),ds=[.ref a]/\S a=some (aQo K C m ts)/\Q (.tup (ts.map tupS)) S
def bZo (K:Fg) (C:Addr):SpD:=λds S Q=>∃ (a:Addr) (m:Nat) (ts:List (List Str)),ds=[.ref a]/\S a=some (aQo K C m ts)/\2<=m/\m<=6/\Kpt ts/\Q (.bl (flO ts m).head?.isSome) S
def fstW (ts:List (List Str)) (m:Nat) (one:List Str):Option (List (List Str)):=((flO ts m).filter λs=>decide (one∈s)).head?
def aXn (K:Fg) (C:Addr):SpX:=λds S Q XQ=>∃ (a:Addr) (m:Nat) (ts:List (List Str)) (one:List Str),ds=[.ref a,tupS one]/\S a=some (aQo K C m ts)/\2<=m/\m<=6/\Kpt ts/\Srt one/\one.length<=6/\(one∈ts->XQ S) /\
 (one∉ts->ts.length < 14/\Q (opF (fstW (srT (ts++[one])) m one)) (supd S a (aQo K C m (srT (ts++[one])))))
def wot (ts:List (List Str)) (one:List Str):List (List Str):=ts.filter λo=>!decide (o=one)
def aZz (K:Fg) (C:Addr):SpX:=λds S Q XQ=>∃ (a:Addr) (m:Nat) (ts:List (List Str)) (one:List Str),ds=[.ref a,tupS one]/\S a=some (aQo K C m ts)/\ts.length<=14/\(one∉ts->XQ S)/\(one∈ts->Q .non (supd S a (aQo K C m (wot ts one))))
theorem dJ1 {ts:List (List Str)} {one:List Str} (k:Kpt ts) (h:one∉ts) (hl:ts.length < 14) (o:Srt one) (o6:one.length<=6):Kpt (srT (ts++[one])):=by
 have nd:(ts++[one]).Nodup:=cg.mpr ⟨k.srt.nodup,b5 ..,λx B y i e=>h (by rw[aB.mp i] at e;exact e ▸ B)⟩
 refine⟨dXh nd,by rw[(aX7 _).length_eq,ax];show ts.length + 1<=14;omega,λt G=>?_⟩
 rcases aW.mp ((aX7 _).mem_iff.mp G) with h | h
 ·exact k.each t h
 ·rw[aB.mp h];exact⟨o,o6⟩
theorem fZd {ts:List (List Str)} {one:List Str} (k:Kpt ts):Kpt (wot ts one) :=
 ⟨List.Pairwise.sublist iW k.srt,bc (dh _ _) k.len,λt i=>k.each t (cb.mp i).1⟩
end Toy
namespace L2
open PySem PySem.Spec PyProof.Rows
end L2
namespace SF
open PySem PyProof.Rows
end SF
set_option maxHeartbeats 4000000
namespace SF
open PySem PyProof.Rows
end SF
namespace KS
open PySem PySem.W PyProof.Rows
section
variable {prog:aC} {w:aH} {A:aQ} {E:ae->ai->Prop} {s:ai}
open Classical in
end
end KS
set_option maxHeartbeats 1000000
namespace L2
open PySem PySem.Spec PyProof.Rows
end L2
set_option maxHeartbeats 4000000
namespace L2
open PySem PySem.Spec PyProof.Rows
section
variable {prog:aC} {w:aH} {A:aQ} {R:jK->ai->Prop} {I:Addr} {fp wr:List Addr} {n:Nat} {P:Nat->ae->Prop} {St:Nat->aO->Prop}
def preL (val:Nat->Array ae):Nat->Array ae
 | 0=>#[]
 | i + 1=>preL val i++val i
theorem dJ2 (W:Walks prog w A.in1 I fp wr n P St) (hlt:∀ i h,St i h->∀ b∈fp,b < h.objs.size) (val:Nat->Array ae) (S:Addr) (hSf:S∉fp) (hz:∀ j,j<=n->(preL val j).size<=sizeLine) :
  ∀ (k i:Nat) (s:ai) (L:Addr) (c:Nat),n - i=k->i<=n->St i s.heap->s.heap.get? S=some { cls:=.type "list",dict:=none,data:=.seq #[.ref L] c,slots:=#[] }->s.heap.IsList L (preL val i)->L∉wr->L≠S ->
  (∀ j v,i<=j->P j v->∃ b,v=.ref b/\s.heap.IsList b (val j)/\b∉wr/\b≠S) ->
  (∀ h' tk L',(∀ b o,b∉wr->b≠S->s.heap.get? b=some o->h'.get? b=some o)->(i=n/\L'=L\/(S < L'/\∃ c,h'.get? L'=some (b3 "list" (preL val n) c)))->R (.ok (.ret (.ref L'))) { s with heap:=h',toks:=tk }) ->
  d9 (az prog w) A (.builtin "sum.loop" ⟨[.ref I,.ref S,eG 2,eG 0],[]⟩) R s:=by
 have hSw:S∉wr:=λh=>hSf (W.sub _ h);intro k
 induction k with
 | zero =>
  intro i s L c hk hi Y hS hL hLw hLS hP hR;have hin:i=n:=by lia
  subst hin;refine bC F.entry_sum_loop ?_;rw[a8 F.plain_sum_loop _];show ay _ A.in1 (io (.ref S) >>= _) _ _ s;refine ad (bR hS rfl ?_);show ay _ A.in1 (kW (eP (.ref I)) _ >>= _) _ _ s;refine ad (fB (W.done s _ _ Y λh' tk y=>?_));exact af (hR h' tk L (λb o B _ e=>y b o B e) (.inl ⟨rfl,rfl⟩))
 | succ k ih =>
  intro i s L c hk hi Y hS hL hLw hLS hP hR;have Z:i < n:=by lia
  refine bC F.entry_sum_loop ?_;rw[a8 F.plain_sum_loop _];show ay _ A.in1 (io (.ref S) >>= _) _ _ s;refine ad (bR hS rfl ?_);show ay _ A.in1 (kW (eP (.ref I)) _ >>= _) _ _ s;refine ad (fB (W.item i s _ _ Z Y λv h' tk hPv O y=>?_));obtain⟨b,rfl,⟨⟨cls2,dd2,data2,sl2⟩,hb0,hc2,n2,hd2⟩,B,hbS⟩:=hP i v (au _) hPv;obtain⟨⟨cls,dd,data,sl⟩,hL0,hc,n1,hd⟩:=hL;simp only at hc hd hc2 hd2;subst hc hd hc2 hd2;have hS1:=y S _ hSw hS;have hL1:=y L _ hLw hL0;have hb1:=y b _ B hb0;show ay _ A.in1 ((dX [bI b] (eX .Add (.ref L) (.ref b))).attempt >>= _) _ _ _;refine ad (iC (bF (i4 ⟨_,hL1,rfl⟩ ⟨_,hb1,rfl⟩ noFill_list_add seq_list_add kL kz (j6 _ _)
   (list_addW L b (preL val i) (val i) n1 n2 dd dd2 sl sl2 (by have:=hz (i + 1) Z;rwa [preL,Array.size_append] at this)) ⟨hL1,hb1,?_⟩)))
  have hS2:(h'.push (b3 "list" (preL val i++val i) 0)).get? S=some { cls:=.type "list",dict:=none,data:=.seq #[.ref L] c,slots:=#[] }:=ag _ hS1;show ay _ A.in1 (j4 S (λ_=>#[.ref h'.objs.size]) >>= _) _ _ { s with heap:=h'.push (b3 "list" (preL val i++val i) 0),toks:=tk }
  refine ad (d6 hS2 rfl ?_);have hS3:=bP (bQ λ_=>#[bI h'.objs.size]) hS2 rfl;have G:S < h'.objs.size:=aw hS1;have keep:∀ b o,b≠S->(h'.push (b3 "list" (preL val i++val i) 0)).get? b=some o->(((h'.push (b3 "list" (preL val i++val i) 0)).update S (bQ λ_=>#[bI h'.objs.size])).update S (bQ λ_=>#[bI h'.objs.size])).get? b=some o:=λb o hb e=>(aX _ _ (bj hb)).trans ((aX _ _ (bj hb)).trans e);have hLn:(h'.push (b3 "list" (preL val i++val i) 0)).get? h'.objs.size=some (b3 "list" (preL val i++val i) 0):=av _ rfl;have nw:h'.objs.size∉wr:=λz=>cE _ (hlt _ _ O _ (W.sub _ z));refine ad (f7 ?_);refine ad (d6 hS3 rfl (af ⟨cP F.plain_sum_loop _,ih (i + 1) _ h'.objs.size _ (by lia) Z (W.frame _ _ _ O λb hb o e=>keep b o (λh:b=S=>hSf (by rw[<- h];exact hb)) (ag _ e)) (bP _ hS3 rfl) ⟨_,keep _ _ (dD G) hLn,rfl,0,rfl⟩ nw (dD G) (λj v hj hPv=>?_) λh'' tk'' L' U alt=>?_⟩))
  ·obtain⟨b,e,⟨o,h1,h2⟩,h3,h4⟩:=hP j v (by lia) hPv
   exact⟨b,e,⟨o,keep b o h4 (ag _ (y b o h3 h1)),h2⟩,h3,h4⟩
  ·refine hR h'' tk'' L' (λb o B hbS e=>U b o B hbS (keep b o hbS (ag _ (y b o B e)))) (.inr ?_);rcases alt with⟨e,rfl⟩ | alt
   ·refine⟨G,0,?_⟩;rw[<- e];exact U _ _ nw (dD G) (keep _ _ (dD G) hLn)
   ·exact alt
theorem dJ3 (a b:ae):argsOk "sum" ⟨[a,b],[]⟩:=by unfold argsOk;kernel_rfl
end
section
variable {X:Cx} {K:Fg}
inductive RowsL (K:Fg) (H:Hp):List V->List (List V)->Prop
 | nil:RowsL K H [] []
 | cons {a:Addr} {xs:List V} {us:List V} {rs:List (List V)} (h:SqL K H a xs) (t:RowsL K H us rs):RowsL K H (.ref a::us) (xs::rs)
theorem RowsL.vals {pins:List (Addr × Obj)} {σ:St} {H:Hp} {s:ai} (I:Inv X pins σ H s) {us:List V} {rs:List (List V)} (h:RowsL X.K H us rs):∀ {its:List ae},Vals us its->∃ vss:List (List ae),vss.length=its.length/\Vals rs.flatten vss.flatten/\∀ (j:Nat) (v:ae),its[j]?=some v->∃ b,v=.ref b/\s.heap.IsList b (vss.getD j []).toArray:=by
 induction h with
 | nil =>
  intro its r;cases r;exact⟨[],rfl,.nil,λj v e=>by simp at e⟩
 | cons h t B =>
  intro its r;cases r with
  | cons r1 y =>
   obtain⟨vss,L,e2,G⟩:=B y;cases r1;obtain⟨ys,i,pl,_⟩:=I.list h;refine⟨ys::vss,by simp[L],i.append e2,λj v e=>?_⟩
   cases j with
   | zero =>
    have e:some (bI _)=some v:=e;cases e;exact⟨_,rfl,pl.isList⟩
   | succ j=>exact G j v e
theorem bZp (vss:List (List ae)):∀ j,preL (λj=>(vss.getD j []).toArray) j=((vss.take j).flatten).toArray
 | 0=>rfl
 | j + 1=>by
  rw[preL,bZp vss j,dH,iX];rw[aD];cases vss[j]? <;> simp
def gXx (K:Fg):List V->Hp->VK->Prop:=λxs H Q=>∃ (a b:Addr) (us:List V) (rs:List (List V)),xs=[.ref a,.ref b]/\SqL K H a us/\SqL K H b []/\RowsL K H us rs/\(rs=[]->Q (.ref b) H)/\rs.flatten.length<=sizeLine/\∀ p,H p=none->Q (.ref p) (upd H p (.lst rs.flatten))
theorem dJ4 (hK:X.K=K:=by rfl) (hc:X.calm=true:=by rfl):CallR X (.builtin "sum") (gXx K):=by
 subst hK;intro pins s σ H xs us Q I r h;obtain⟨a,b,us',rs,rfl,sa,sb,rl,hne,hz,q⟩:=h;obtain⟨u1,u2,rfl,x1,x2⟩:=fXg r;cases x1;cases x2;obtain⟨L,rv,pl,_⟩:=I.list sa;obtain⟨its2,rv2,pl2,_⟩:=I.list sb;cases rv2;obtain⟨vss,e1,e2,e3⟩:=rl.vals I rv;have hl:=pl.isList;have Z:a < s.heap.objs.size:=by obtain⟨_,e,_⟩:=hl;exact aw e
 obtain⟨ob,U,y,nb,Y⟩:=pl2.isList;have G:b < s.heap.objs.size:=aw U;refine call_function_tree F.kind_sum F.plain_sum F.entry_sum (dJ3 _ _) ?_;unfold cu.«sum»;simp only[aF,dr];rw[if_neg (by decide)]
 refine ad (iG (show fU "sum" ["start"] 0 ⟨[.ref b],[]⟩=pure [some (.ref b)] from rfl) ?_)
 refine ad (fS hl ?_);refine ad (af ?_);simp only[d5,jp];have B:(s.heap.push { cls:=.type "list_iterator",data:=.fields #[.ref a,.int 0 0] }).get? b=some ob:=ag _ U;refine ad (ad (ad (eF (T:="list") (b:=false) ⟨_,B,y⟩ F.sub_list_str ?_)));simp only[aE,if_false];refine af (ad (ad (eF (T:="list") (b:=false) ⟨_,B,y⟩ F.sub_list_bytes ?_)));simp only[aE,if_false];refine af (ad (ad (eF (T:="list") (b:=false) ⟨_,B,y⟩ F.sub_list_bytearray ?_)));simp only[aE,if_false];refine af (af ?_);refine ad (bi ?_);have hS:(s.heap.push { cls:=.type "list_iterator",data:=.fields #[.ref a,.int 0 0] }).objs.size=s.heap.objs.size + 1:=bv _ _;have up:∀ (x:Addr) (o:Obj),s.heap.get? x=some o->((s.heap.push { cls:=.type "list_iterator",data:=.fields #[.ref a,.int 0 0] }).push { cls:=.type "list",data:=.seq #[.ref b] }).get? x=some o:=λx o e=>ag _ (ag _ e);have off:∀ x:Addr,x < s.heap.objs.size->x∉[s.heap.objs.size]/\x≠(s.heap.push { cls:=.type "list_iterator",data:=.fields #[.ref a,.int 0 0] }).objs.size:=λx O=>⟨λz=>aG O (aB.mp z),λz=>by rw[z,hS] at O;exact absurd O (gH.mpr (dJ _))⟩
 have tot:∀ j,((vss.take j).flatten).length<=sizeLine:=λj=>by
  have h1:=congrArg (λl=>l.flatten.length) (eO j vss);simp only[iX,ax] at h1;have h2:=e2.length;lia
 refine af ⟨cP F.plain_sum_loop _,dJ2 (Walks.list (A:=X.A.in1) (by simp[I.ok.hd hc]) s.heap.objs.size a (aG Z) L.toArray) (λi h ⟨⟨o,g1,_⟩,⟨o2,g2,_⟩⟩ x O=>?_) (λj=>(vss.getD j []).toArray) _ (λz=>?_) (λj _=>by rw[bZp,ar];exact tot j) _ 0 _ b 0 rfl (bL _) ⟨⟨_,ag _ (av _ rfl),rfl,rfl⟩,?_⟩ (av _ rfl) ⟨ob,up _ _ U,y,nb,Y⟩ (off b G).1 (off b G).2 (λj v _ e=>?_) λh' tk L' hk alt=>?_⟩
 ·rcases aA.mp O with rfl | O
  ·exact aw g1
  ·rw[aB.mp O];exact aw g2
 ·rcases aA.mp z with z | z
  ·have z:(s.heap.push _).objs.size=s.heap.objs.size:=z;rw[hS] at z;exact absurd z (Nat.succ_ne_self _)
  ·exact(off a Z).2 (aB.mp z).symm
 ·obtain⟨o,g1,g2⟩:=hl;exact⟨o,up _ _ g1,g2⟩
 ·obtain⟨x,ex,⟨o,g1,g2⟩⟩:=e3 j v (by simpa using e)
  exact⟨x,ex,⟨o,up _ _ g1,g2⟩,off x (aw g1)⟩
 ·rcases alt with⟨z,eL⟩ | ⟨hSL,c,hg⟩
  ·
   have hr:rs=[]:=by
    cases rl with
    | nil=>rfl
    | cons h t =>
     exfalso;have z2:L.length=0:=by simpa using z.symm
     have:=rv.length
     rw[z2,aF] at this;exact absurd this (by lia)
   cases eL;exact⟨.ref b,_,I.kept (t':=tk) (λx o e=>hk x o (off x (aw e)).1 (off x (aw e)).2 (up x o e)),rfl,hne hr⟩
  ·have hle:s.heap.objs.size<=L':=by
    have:(s.heap.push _).objs.size < L':=hSL
    rw[hS] at this;exact gP (Nat.lt_of_succ_lt this)
   have ef:preL (λj=>(vss.getD j []).toArray) L.toArray.size=vss.flatten.toArray:=by
    rw[bZp,ar,<- e1,dU]
   rw[ef] at hg;exact⟨.ref L',_,I.laid (a:=L') (o:=.lst rs.flatten) (t':=tk) (λx o e=>hk x o (off x (aw e)).1 (off x (aw e)).2 (up x o e)) hle ⟨hz,vss.flatten,c,e2,hg⟩,rfl,q _ (I.hok.fresh hle)⟩
end
section
variable {X:Cx} {K:Fg} {pos:Pos} {k:Nat} {e e2:Expr} {t:AD} {p:Pos}
theorem dJ5 {S:Sto} {F:Am} {H:Hp} (r:Rp K F S H):∀ {rs:List (List D)} {us:List V},RepL K (mt S F) H (rs.map D.lst) us->∃ vs:List (List V),RowsL K H us vs/\RepL K (mt S F) H rs.flatten vs.flatten/\vs.length=rs.length
 | [],us,h=>by rw[eZ] at h;unfold RepL at h;subst h;exact⟨[],.nil,RepL.nil,rfl⟩
 | a::as,xs,h=>by
  rw[a9] at h;unfold RepL at h;obtain⟨v,us,rfl,B,h2⟩:=h;obtain⟨vs,g1,g2,g3⟩:=dJ5 r h2;obtain⟨G,i,rfl,sq,y⟩:=lsIs.sl (S:=S) r B (show lsIs S (.lst a) a from rfl)
  exact⟨i::vs,.cons sq g1,y.app g2,by simp[g3]⟩
def gXy:RCD:=λds S Q=>match ds with
 | [d,.lst []]=>∃ rs:List (List D),lsIs S d (rs.map D.lst)/\rs.flatten.length<=sizeLine/\Q (.lst rs.flatten) S
 | _=>False
theorem gZb (hg:Gl X "sum") (hm:X.mg "sum"=none) (ha:PAD K X [e,e2] t) (hK:X.K=K:=by rfl) (hc:X.calm=true:=by rfl) (he:am [e,e2] X.env=(false,eval e X.env)::am [e2] X.env:=by rfl) (hpl:(bn pos (am [e2] X.env)).any (·.1)=false:=by rfl):PD K X (.Call (.Name "sum" p) [e,e2] [] pos) (dCB gXy t):=aJ7 (dJ4 hK hc) (by
 intro F S H ds vs Q QD r l h c
 match ds,h with
 | [d,.lst []],⟨rs,h1,O,q⟩ =>
  obtain⟨v,U,rfl,G,i⟩:=l.two;obtain⟨a,us,rfl,sq,L⟩:=lsIs.sl r G h1;obtain⟨b,us2,rfl,B,y⟩:=lsIs.sl (S:=S) r i (show lsIs S (.lst []) [] from rfl)
  obtain⟨vs,g1,g2,g3⟩:=dJ5 r L;unfold RepL at y;subst y;refine⟨a,b,us,vs,rfl,sq,B,g1,λz=>?_,by rw[g2.length];exact O,λp hp=>c.new (b:=false) r hp g2 q⟩
  rw[z] at g3;obtain rfl:=bE g3.symm;exact c.here r i q) hg hm eZm ha (by decide) (by decide) he hpl
end
end L2
set_option maxHeartbeats 1000000
namespace L2
open PySem PySem.Spec PyProof.Rows
end L2
namespace Toy
open PySem L2
abbrev s_law_every:Stmt:=top 30
theorem sc_law_every:FnScope ["deck", "sets", "pool"] ["deck"] (aQ4 s_law_every):=fsc
def bQb:SpD:=λds S Q=>∃ (a c:Addr),ds=[.ref a]/\DeckC S a c/\∀ us S',SrtT us->(∀ t∈us,Srt t/\t.length<=6)->us.length<=28->Off2 a c S S'->DeckC S' a c->Q (.lst (us.map tupS)) S'
section
variable {P:aC} {w:aH} {K:aq} {mg:Str->Option ae} {base:aO}
theorem cQh (T:Tx K mg "_law_every" s_law_every) (B:Bs mg) (d_law_collection:Df P w K mg base 4 "_law_collection" ["deck", "most"] (spU K aJ1)) (d_law_take:Df P w K mg base 4 "_law_take" ["deck", "many"] (spU K aQq)) (d_law_set:Df P w K mg base 4 "_law_set" ["deck", "pool", "most"] (spU K cZb)):Df P w K mg base 5 "_law_every" ["deck"] (spU K bQb):=by
 refine aZl T sc_law_every (λF=>F.binds λ_ _ _ _ _ _=>us1 λ_=>rfl) ?_ λf cdv A outer s H E hr=>⟨_,(aQ2 (aQ8 (i:=1) sc_law_every.nd rfl (aR rfl) (dZo (b:=false) rfl B.list (aQ0 (aQ6 d_law_collection hr rfl (aQ0 (dv 0) (aQ0 aQ5 aQ1))) aQ1)))
  (aQ2 (aQ8 (i:=2) sc_law_every.nd rfl (fQ rfl) (cQ8 (b:=false) hr rfl B.sorted rfl B.set (gZb rfl B.sum (aQ0 (aZa (N':=["one"]) (oc:=none) (b:=false) [0] [] rfl sc_law_every.nd (λ_ _ _=>aQf ..) (.own .nil) (aQi rfl) (aZy (dv 1)) (cg_name (i:=0)) (λ_ _ _ _ _=>aQe (i:=0) (nd_ ["one"]) rfl (aR rfl) (.inr rfl)) (λ_ _ _ _ _=>aZ7) aQh (λ_ _ _ _ _ _=>aQg rfl (by exact PD.o (dZo (b:=false) rfl B.list (aQ0 (dv 0) aQ1))))) (aQ0 (aQr (b:=false) aQ1) aQ1)))))
  (aQ2 (aQw (aJ8 hr (aQ6 d_law_take hr rfl (aQ0 (dv 0) (aQ0 aQ5 aQ1))) aQ5) (aQ3 (aQ8 (i:=1) sc_law_every.nd rfl (aR rfl) (aZ0 (k:=false) (dv 1) (aZa (N':=["k", "deck", "pool"]) (oc:=none) (b:=false) [0] [] rfl sc_law_every.nd (λ_ _ _=>aQf ..) (.own (.cap (i:=0) rfl (by decide +kernel) (.cap (i:=2) rfl (by decide +kernel) .nil))) (aQi rfl) (aQp rfl B.range (aQ0 aQ5 aQ1)) (cg_name (i:=0)) (λ_ _ _ _ _=>aQe (i:=0) (nd_ ["k", "deck", "pool"]) rfl (aR rfl) (.inr rfl)) (λ_ _ _ _ _=>aZ7) aQh (λ_ _ _ _ _ _=>aQg rfl (by exact PD.o (aQ6 d_law_set hr rfl (aQ0 (dv 1) (aQ0 (dv 2) (aQ0 aQ5 aQ1)))))))))) aQd)
  (aQ3 (aQa (bZf (b:=false) hr rfl B.sorted rfl B.set (dv 1))))))),?_⟩
 ·rintro ds S Q ⟨a,c,rfl,_⟩;rfl
 ·rintro ds S Q ⟨a,c,rfl,dk,q⟩;refine⟨a,c,14,rfl,dk,by decide,λts S1 hC O dk1=>⟨_,rfl,?_⟩⟩
  have l14:=hC.len;have e6:=hC.each;have Y:(ts.map λt=>t.map D.str).flatten=(ts.flatten).map D.str:=by rw[List.map_flatten]
  have f72:ts.flatten.length<=84:=by
   have:∀ l:List (List Str),(∀ t∈l,t.length<=6)->l.flatten.length<=6 * l.length:=λl=>by
    induction l with
    | nil=>intro _;exact au _
    | cons a l ih =>
     intro h
     have:=h a ak
     have:=ih λt y=>h t (ao _ y)
     rw[fV,ax,aF];omega
   have:=this ts λt y=>(e6 t y).2
   omega
  refine⟨_,rfl,bQp (enc:=tupS) (f:=λt=>D.lst (t.map D.str)) (λt y Q q=>⟨_,rfl,q⟩) (aQ7 (by show 0 + ts.length<=_;omega)) ?_⟩
  rw[bZ];refine⟨aQ7 (by decide),ts.map λt=>t.map D.str,by show _=_;rw[cM];rfl,by rw[Y,aj];exact aQ7 (by omega),?_⟩
  rw[Y];have nmO:∀ out:List Str,out.Nodup->(∀ t,t∈out↔t∈ts.flatten)->out.length<=12:=λout nd mem=>bc (nd.length_le_of_subset λn hn=>by
   obtain⟨t,y,hnt⟩:=List.mem_flatten.mp ((mem n).mp hn);exact mem_nms.mpr ⟨t,y,hnt⟩) hC.nms
  refine⟨ts.flatten,rfl,by omega,λout nd mem=>by have:=nmO out nd mem;omega,λout nd mem pw=>?_⟩
  have out12:=nmO out nd mem;have fin:∀ (us:List (List Str)) S',(∀ t∈us,Srt t/\t.length<=6)->us.length<=28->Off2 a c S S'->DeckC S' a c->dRet (dXc false (dVar 1)) (aJy Q) [some (.ref a),some (.lst (us.map tupS)),some (.lst (out.map D.str))] S':=λus S' he hl off dk =>
   ⟨us,rfl,by omega,λo2 nd2 U pw2=>aQb (q o2 S' pw2 (λt y=>he t ((U t).mp y)) (bc (nd2.length_le_of_subset λt y=>(U t).mp y) hl) off dk)⟩
  refine⟨a,c,2,rfl,dk1,by decide,by decide,λr S2 r0 r1 L dk2=>⟨rfl,_,rfl,ite2 (λ_=>?_) λ_=>fin ts S2 e6 (by omega) (O.trans L) dk2⟩⟩
  refine⟨⟨by decide,by decide⟩,aZo (λi acc S'=>∃ us:List (List Str),acc=us.map tupS/\us.length=i/\(∀ t∈us,Srt t/\t.length<=6)/\Off2 a c S2 S'/\DeckC S' a c) ⟨[],rfl,rfl,(λ_ h=>nomatch h),λ_ _ _=>rfl,dk2⟩ ?_ ?_⟩
  ·rintro i x acc S' N Z ⟨us,rfl,ul,ue,G,dk3⟩ hN;obtain⟨hi,rfl⟩:=cQ6 Z;have hi:i < 14:=hi;refine⟨trivial,a,c,_,out,6,rfl,.inr rfl,dk3,nd,by omega,by decide,λt S4 t1 t2 t3 off4 dk4=>⟨aQ7 (by rw[aj];omega),hN _ _ ⟨us++[t],by rw[aM];rfl,by rw[ax,ul];rfl,λx Z=>?_,G.trans off4,dk4⟩⟩⟩
   rcases aW.mp Z with Z | Z
   ·exact ue x Z
   ·rw[aB.mp Z];exact⟨t1,t3⟩
  ·rintro acc S' ⟨us,rfl,ul,ue,G,dk3⟩;have ul:us.length=14:=ul;refine⟨trivial,_,_,rfl,rfl,aQ7 (by rw[aj,aj];omega),?_⟩
   rw[<- aM];refine fin (ts++us) S' (λt y=>?_) (by rw[ax];omega) (O.trans (L.trans G)) dk3
   rcases aW.mp y with y | y
   ·exact e6 t y
   ·exact ue t y
end
abbrev s_choices_of:Stmt:=top 8
theorem sc_choices_of:FnScope ["things", "many", "found", "at", "one"] ["things", "many"] (aQ4 s_choices_of):=fsc
def aJl:SpD:=eZ7 8
section
variable {P:aC} {w:aH} {K:aq} {mg:Str->Option ae} {base:aO}
theorem fZe {k n:Nat} (T:Tx K mg "choices_of" s_choices_of) (B:Bs mg) (d_choices_of:Df P w K mg base k "choices_of" ["things", "many"] (spU K (eZ7 n))):Df P w K mg base (k + 1) "choices_of" ["things", "many"] (spU K (eZ7 (n + 1))):=by
 refine aZl T sc_choices_of (λF=>F.binds λ_ _ _ _ _ _=>us2 λ_ _=>rfl) ?_ λf cdv A outer s H E hr=>⟨_,(aQ2 (aQw (aJ8 hr (dv 1) aQ5) (aQ3 (aQa (aQr (b:=false) (aQ0 (bZ7 aQ1) aQ1)))) aQd)
  (aQ2 (aQw (aXa (fQv aQ5 (dv 1) (aZd rfl B.len (aQ0 (dv 0) aQ1)))) (aQ3 (aQa (aQr (b:=false) aQ1))) aQd)
  (aQ2 (aQ8 (i:=2) sc_choices_of.nd rfl (aR rfl) (aQr (b:=true) aQ1))
  (aQ2 (bQ8 cO rfl (gQ4 rfl B.enumerate (aQ0 (dv 0) aQ1)) (fJz rfl (cX9 (aX5 (i:=3) sc_choices_of.nd rfl (aR rfl)) (cX9 (aX5 (i:=4) sc_choices_of.nd rfl (fQ rfl)) fQh))) (aQ3 (aXi (cXg (dv 2) (aQ0 (aZa (N':=["more", "one"]) (oc:=none) (b:=true) [0] [] rfl sc_choices_of.nd (λ_ _ _=>aQf ..) (.own (.cap (i:=4) rfl (by decide +kernel) .nil)) (aQi rfl) (aZy (aQ6 d_choices_of hr rfl (aQ0 (e_sl (b:=false) (dv 0) (aX4 (aZ0 (k:=false) (dv 3) aQ5)) aX3) (aQ0 (gX6 (dv 1) aQ5) aQ1)))) (cg_name (i:=0)) (λ_ _ _ _ _=>aQe (i:=0) (nd_ ["more", "one"]) rfl (aR rfl) (.inr rfl)) (λ_ _ _ _ _=>aZ7) aQh (λ_ _ _ _ _ _=>aQg rfl (by exact PD.o (aZ0 (k:=false) (bZ7 (aQ0 (dv 1) aQ1)) (dv 0))))) aQ1)))))
  (aQ3 (aQa (dv 2))))))),?_⟩
 ·rintro ds S Q ⟨xs,m,rfl,_⟩;rfl
 ·rintro ds S Q ⟨xs,m,rfl,hm,hx,q⟩;refine⟨rfl,_,rfl,ite2 (λc1=>?_) λc1=>?_⟩
  ·have e:m=0:=by
    have:=of_decide_eq_true c1
    injection this with this
    omega
   subst e;rw[aZe] at q;exact⟨aQ7 (by decide),aQ7 (by show 1<=9999;decide),aQb q⟩
  have m0:m≠0:=λe=>c1 (decide_eq_true (by rw[e];rfl))
  refine⟨_,rfl,ite2 (λ_=>?_) λc=>absurd (decide_eq_true (by omega)) c⟩
  refine⟨_,rfl,_,rfl,ite2 (λc2=>?_) λc2=>?_⟩
  ·have hb:xs.length < m:=by simp at c2;omega
   rw[dXe xs m hb] at q;exact⟨aQ7 (by decide),aQb q⟩
  have hb:m<=xs.length:=by simp at c2;omega
  obtain⟨c,rfl⟩:∃ c,m=c + 1:=⟨m - 1,by omega⟩
  refine⟨aQ7 (by decide),λfp L=>?_⟩
  have hcl:∀ m,(ch xs m).length<=2 ^ 20:=λm=>bc (bXf xs m) (iK (by decide) hx)
  refine aJ9 (λi Γ S'=>∃ (Y U:Option D) (acc:List (List D)),Γ=[some (.tup xs),some (.int ((c + 1:Nat):Int)),some (.ref fp),Y,U]/\S' fp=some (.lst (acc.map D.tup))/\acc++ch (xs.drop i) (c + 1)=ch xs (c + 1)/\∀ b o,S b=some o->S' b=some o)
   ⟨none,none,[],rfl,supd_same,rfl,λb o e=>by rw[supd_ne (by rintro rfl;rw[L] at e;cases e)];exact e⟩ ?_ ?_
  ·rintro i x Γ S' N hxi ⟨Y,U,acc,rfl,hf,G,O⟩ hN;obtain⟨y,hy,rfl⟩:=bZb xs 0 i x hxi;have hi:i < xs.length:=by
    rcases bO i xs.length with z | z
    ·exact z
    ·rw[bB z] at hy;cases hy
   have Z:xs[i]=y:=by rw[ah hi] at hy;exact aK hy
   have hd:=fZ2 xs i c hi;rw[Z] at hd;have hlen:acc.length + (ch (xs.drop (i + 1)) c).length<=2 ^ 20:=by
    have h1:=congrArg gK G;rw[hd,ax,ax,aj] at h1
    have:=hcl (c + 1)
    omega
   refine⟨trivial,rfl,rfl,⟨_,hf⟩,_,rfl,xs.drop (i + 1),c,?_,by omega,by rw[dO];omega,_,rfl,bQp (enc:=D.tup) (f:=λmore=>D.tup (y::more)) (λmore hm Q q=>?_) ?_ ?_⟩
   ·show [D.tup (cutD xs (some (0 + (i:Int) + 1)) none),D.int (((c + 1:Nat):Int) - 1)]=_;rw[Int.zero_add,cXr,show((c + 1:Nat):Int) - 1=(c:Int) by omega]
   ·have h1:=(aZ5 hm).1;exact⟨aQ7 (by show 1<=9999;decide),aQ7 (by show 1 + more.length<=9999;omega),q⟩
   ·rw[bD];show 0 + (ch (xs.drop (i + 1)) c).length<=_;omega
   ·intro p2 hp2;have hne:p2≠fp:=by rintro rfl;rw[hp2] at hf;cases hf
    refine⟨_,_,(supd_ne (bj hne)).trans hf,supd_same,?_,hN _ _ ⟨_,_,acc++(ch (xs.drop (i + 1)) c).map (y::·),rfl,?_,?_,λb o e=>?_⟩⟩
    ·rw[bZ,aj,aj,bD];omega
    ·rw[supd_same,aM,cM];rfl
    ·rw[bY,<- hd];exact G
    ·rw[supd_ne (by rintro rfl;rw[L] at e;cases e),supd_ne (by rintro rfl;rw[O _ _ e] at hp2;cases hp2)]
     exact O b o e
  ·rintro Γ S' ⟨Y,U,acc,rfl,hf,G,O⟩;rw[bZa,er (au _),gQu,bA] at G;refine⟨trivial,eX4 (S':=S) hf O L (G ▸ q)⟩
theorem eXj (T:Tx K mg "choices_of" s_choices_of) (B:Bs mg):∀ n:Nat,Df P w K mg base (1 + n) "choices_of" ["things", "many"] (spU K (eZ7 n))
 | 0=>T.df (λF=>F.binds λ_ _ _ _ _ _=>us2 λ_ _=>rfl) λF=>F.ok sc_choices_of (λvs H Q E ⟨_,_,_,_,_,_,⟨_,_,_,h,_⟩,_⟩=>absurd h (cN _)) λi A outer s H vs Q G y ⟨_,_,_,_,_,_,⟨_,_,_,h,_⟩,_⟩=>absurd h (cN _)
 | n + 1=>fZe T B (eXj T B n)
theorem bJf (T:Tx K mg "choices_of" s_choices_of) (B:Bs mg):Df P w K mg base 9 "choices_of" ["things", "many"] (spU K aJl):=by
 exact eXj T B 8
end
abbrev s_names_of_all:Stmt:=top 11
theorem sc_names_of_all:FnScope ["some"] ["some"] (aQ4 s_names_of_all):=fsc
section
variable {P:aC} {w:aH} {K:aq} {mg:Str->Option ae} {base:aO}
theorem bZq (T:Tx K mg "names_of_all" s_names_of_all) (B:Bs mg):Df P w K mg base 1 "names_of_all" ["some"] (spU K aXl):=by
 refine aZl T sc_names_of_all (λF=>F.binds λ_ _ _ _ _ _=>us1 λ_=>rfl) ?_ λf U A outer s H E O=>⟨_,(aQ3 (aQa (aZi rfl B.tuple (aQ0 (aZa (N':=["name", "some"]) (oc:=some "name") (b:=false) [0] [] rfl sc_names_of_all.nd (λ_ _ _=>aQf ..) (.own (.cap (i:=0) rfl (by decide +kernel) .nil)) (aQi rfl) (aZy (e_ix (dv 0) aQ5)) (cg_name (i:=0)) (λ_ _ _ _ _=>aQe (i:=0) (nd_ ["name", "some"]) rfl (fQ rfl) (.inl fJ8)) (λ_ _ _ _ _=>aZ2 (by exact(aZh (gXe rfl B.all (aQ0 (aZa (N':=["one", "name"]) (oc:=none) (b:=false) [0] [] rfl (nd_ ["name", "some"]) (λ_ _ _=>aQf ..) (.own (.cap (i:=0) rfl (by decide +kernel) .nil)) (aQi rfl) (aZy (dv 1)) (cg_name (i:=0)) (λ_ _ _ _ _=>aQe (i:=0) (nd_ ["one", "name"]) rfl (aR rfl) (.inr rfl)) (λ_ _ _ _ _=>aZ7) aQh (λ_ _ _ _ _ _=>aQg rfl (by exact PD.o (e_in O (dv 1) (dv 0))))) aQ1))))) aQh (λ_ _ _ _ _ _=>aQg rfl (by exact PD.o (dv 0)))) aQ1)))),?_⟩
 ·rintro ds S Q ⟨ts,rfl,_⟩;rfl
 ·rintro ds S Q ⟨ts,rfl,G,hl,h,q⟩
  match ts,G with
  | t::y,_ =>
   refine⟨(t::y).map tupS,tupS t,rfl,aZs (j:=0) rfl,t.map D.str,rfl,aQn (p:=λn=>(t::y).all λo=>decide (n∈o)) (f:=D.str) (λx L Q q=>⟨(t::y).map tupS,rfl,bQp (f:=λo=>D.bl (decide (x∈o))) (λo Y Q q=>in_e (neg:=false) (E:=strE) (l:=o) (by decide) rfl q) (aQ7 (by show 0 + (t::y).length<=_;omega)) ⟨((t::y).map λo=>decide (x∈o)),?_,?_⟩⟩) (λx L _ Q q=>q) (aQ7 (by show 0 + t.length<=_;have:=h t ak;omega)) ⟨_,rfl,aQb q⟩⟩
   ·show _=_;rw[cM];rfl
   ·show Q (((t::y).map λo=>decide (x∈o)).all id) S;rw[hU];exact q
end
abbrev s_without_names:Stmt:=top 7
theorem sc_without_names:FnScope ["one", "row"] ["one", "row"] (aQ4 s_without_names):=fsc
section
variable {P:aC} {w:aH} {K:aq} {mg:Str->Option ae} {base:aO}
theorem bQg (T:Tx K mg "without_names" s_without_names) (B:Bs mg):Df P w K mg base 1 "without_names" ["one", "row"] (spU K aXc):=by
 refine aZl T sc_without_names (λF=>F.binds λ_ _ _ _ _ _=>us2 λ_ _=>rfl) ?_ λf Y A outer s H E O=>⟨_,(aQ3 (aQa (aZi rfl B.tuple (aQ0 (aZa (N':=["name", "row"]) (oc:=none) (b:=false) [0] [] rfl sc_without_names.nd (λ_ _ _=>aQf ..) (.own (.cap (i:=1) rfl (by decide +kernel) .nil)) (aQi rfl) (aZy (dv 0)) (cg_name (i:=0)) (λ_ _ _ _ _=>aQe (i:=0) (nd_ ["name", "row"]) rfl (aR rfl) (.inr rfl)) (λ_ _ _ _ _=>aZ2 (by exact(dZg O (dv 0) (dv 1)))) aQh (λ_ _ _ _ _ _=>aQg rfl (by exact PD.o (dv 0)))) aQ1)))),?_⟩
 ·rintro ds S Q ⟨α,dα,E,one,row,U,y,rfl,_⟩;rfl
 ·rintro ds S Q ⟨α,dα,E,one,row,U,y,rfl,Z,h1,h2,hl,q⟩;have go:∀ Q':List D->Sto->Prop,Q' ((wo one row).map E.e) S->aXx (aQu 0) (aZ9 (dOp (inD true) (dVar 0) (dVar 1))) (bX0 (dVar 0)) (λ_=>True) [none,some y] (one.map E.e) [] S Q':=λQ' G =>
   aQn (p:=λn=>!decide (n∈row)) (f:=E.e) (λx L Q q=>in_t (neg:=true) (E:=E) (by omega) h2.sq q) (λx L _ Q q=>q) (aQ7 (by show 0 + one.length<=_;omega)) G
  rcases h1 with rfl | rfl
  ·exact⟨one.map E.e,rfl,go _ ⟨_,rfl,aQb q⟩⟩
  ·exact⟨one.map E.e,rfl,go _ ⟨_,rfl,aQb q⟩⟩
end
abbrev s_core_of:Stmt:=top 10
theorem sc_core_of:FnScope ["some", "core", "left"] ["some"] (aQ4 s_core_of):=fsc
section
variable {P:aC} {w:aH} {K:aq} {mg:Str->Option ae} {base:aO}
theorem cJp (T:Tx K mg "core_of" s_core_of) (B:Bs mg) (d_names_of_all:Df P w K mg base 1 "names_of_all" ["some"] (spU K aXl)) (d_without_names:Df P w K mg base 1 "without_names" ["one", "row"] (spU K aXc)):Df P w K mg base 2 "core_of" ["some"] (spU K bXh):=by
 refine aZl T sc_core_of (λF=>F.binds λ_ _ _ _ _ _=>us1 λ_=>rfl) ?_ λf cdv A outer s H E y=>⟨_,(aQ2 (aQw (PWD.pt (cZ6 (bJ2 y (aZd rfl B.len (aQ0 (dv 0) aQ1)) aQ5) (bZ9 (bJ2 y (eX8 y rfl B.len rfl B.set (dv 0)) (aZd rfl B.len (aQ0 (dv 0) aQ1)))))) (aQ3 (aQa aJ5)) aQd)
  (aQ2 (aQ8 (i:=1) sc_core_of.nd rfl (fQ rfl) (aQ6 d_names_of_all y rfl (aQ0 (dv 0) aQ1)))
  (aQ2 (aXj (i:=2) rfl (aR rfl) (N':=["one", "name", "core"]) (oc:=none) (b:=false) [0,1] [1] rfl sc_core_of.nd (λ_ _ _=>bJt _ _ _ _ _ _ _ _ _ _ _ _) (.own (.own (.cap (i:=1) rfl (by decide +kernel) .nil))) (aQi rfl) (aZy (dv 0)) (cg_name (i:=0)) (λ_ _ _ _ _=>aQe (i:=0) (nd_ ["one", "name", "core"]) rfl (aR rfl) (.inr rfl)) (λ_ _ _ _ _=>aZ7) (cXa (cg_name (i:=1)) aQh) (λ_ _ _ _ _ _=>cZn (m:=λacc=>emitOf _ acc _) rfl rfl rfl (λ_=>bJu _ _ _ _ _ _ _ _ _ _ _ _) (by exact PID.o (aZy (aQ6 d_without_names y rfl (aQ0 (dv 0) (aQ0 (dv 2) aQ1))))) (aQe (i:=1) (nd_ ["one", "name", "core"]) rfl (aR rfl) (.inr rfl)) (aZ7) (aQg rfl (by exact PD.o (dv 1))) (λ_=>rfl) (λ_=>rfl) (λ_=>rfl) (λ_=>rfl) (λ_=>rfl)))
  (aQ3 (aQa (fQd (aJ8 y (eX8 y rfl B.len rfl B.set (dv 2)) (aZd rfl B.len (aQ0 (dv 2) aQ1))) (dv 1) aJ5)))))),?_⟩
 ·rintro ds S Q ⟨ts,rfl,_⟩;rfl
 ·rintro ds S Q ⟨ts,rfl,hl,h,hlf,q⟩;have hlen:(ts.map tupS).length=ts.length:=aj ..;refine⟨_,rfl,_,rfl,ite2 (λc1=>?_) λc1=>?_⟩
  ·have h2:ts.length < 2:=by have:=of_decide_eq_true c1;rw[hlen] at this;omega
   have e:coG ts=none:=by unfold coG;rw[if_pos (.inl h2)]
   rw[e] at q;exact aQb q
  ·have h2:¬ ts.length < 2:=by simp at c1;omega
   refine .inl ⟨ts,rfl,by omega,λn Y=>⟨_,rfl,_,rfl,ite2 (λU=>?_) λU=>?_⟩⟩
   ·have c3:=of_decide_eq_true U;rw[hlen] at c3;have nd:¬ ts.Nodup:=λz=>by have:=Y.2.mpr z;omega
    have e:coG ts=none:=by unfold coG;rw[if_pos (.inr nd)]
    rw[e] at q;exact aQb q
   ·have c3:ts.length<=n:=by simp at U;exact U
    have nd:ts.Nodup:=Y.2.mp (by have:=Y.1;omega)
    have hne:ts≠[]:=by rintro rfl;simp at h2
    refine⟨ts,rfl,hne,hl,h,_,rfl,?_⟩;have O:∀ i t,ts[i]?=some t->(ts.take (i + 1)).flatMap (λo=>o.filter λd=>!decide (d∈naG ts))=(ts.take i).flatMap (λo=>o.filter λd=>!decide (d∈naG ts))++t.filter λd=>!decide (d∈naG ts):=λi t L=>by
     rw[dH,L,iU];show _=_++_
     congr 1
     simp
    have hle:∀ i,((ts.take i).flatMap (λo=>o.filter λd=>!decide (d∈naG ts))).length<=99:=λi=>bc (aZj (dY i ts)).length_le hlf;refine aZo (λi acc S'=>S'=S/\acc=((ts.take i).flatMap (λo=>o.filter λd=>!decide (d∈naG ts))).map D.str) ⟨rfl,rfl⟩ ?_ ?_
    ·rintro i x acc S' N Z ⟨rfl,rfl⟩ hN;rw[br,fC] at Z;obtain⟨t,L,rfl⟩:=Z;refine⟨trivial,Str,inferInstance,strE,t,naG ts,tupS t,tupS (naG ts),rfl,by decide,.inl rfl,.inl rfl,by have:=h t (bw L);omega,_,rfl,bQp (enc:=D.str) (f:=D.str) (λx Z Q q=>q) ?_ ?_⟩
     ·have:=hle (i + 1)
      rw[O i t L,ax] at this;rw[aj];have e9:(wo t (naG ts)).length=(t.filter λd=>!decide (d∈naG ts)).length:=rfl;exact aQ7 (by omega)
     ·refine hN _ _ ⟨rfl,?_⟩;rw[O i t L,aM];rfl
    ·rintro acc S' ⟨rfl,rfl⟩;rw[aj,dU];refine⟨trivial,.inr ⟨lfG ts,rfl,by omega,λn G=>⟨_,rfl,rfl,_,rfl,ite2 (λc4=>?_) λc4=>?_⟩⟩⟩
     ·have c5:n=(lfG ts).length:=by
       have:=of_decide_eq_true c4
       injection this with this
       rw[aj] at this;exact Int.ofNat_inj.mp this
      have e:coG ts=some (naG ts):=by unfold coG;rw[if_neg (by rintro(z | z);exact h2 z;exact z nd),if_pos (G.2.mp c5)]
      rw[e] at q;exact aQb q
     ·have c5:¬ (lfG ts).Nodup:=λz=>c4 (decide_eq_true (by rw[aj];exact congrArg (λn:Nat=>D.int n) (G.2.mpr z)))
      have e:coG ts=none:=by unfold coG;rw[if_neg (by rintro(z | z);exact h2 z;exact z nd),if_neg c5]
      rw[e] at q;exact aQb q
end
abbrev s_flowers_of:Stmt:=top 14
theorem sc_flowers_of:FnScope ["sets", "many", "flowers", "size", "longer"] ["sets", "many"] (aQ4 s_flowers_of):=fsc
section
variable {P:aC} {w:aH} {K:aq} {mg:Str->Option ae} {base:aO}
theorem bJg (T:Tx K mg "flowers_of" s_flowers_of) (B:Bs mg) (d_choices_of:Df P w K mg base 9 "choices_of" ["things", "many"] (spU K aJl)) (d_core_of:Df P w K mg base 9 "core_of" ["some"] (spU K bXh)):Df P w K mg base 10 "flowers_of" ["sets", "many"] (spU K aX8):=by
 refine aZl T sc_flowers_of (λF=>F.binds λ_ _ _ _ _ _=>us2 λ_ _=>rfl) ?_ λf cdv A outer s H E hr=>⟨_,(aQ2 (aQw (bJ2 hr (dv 1) aQ5) (aQ3 (aQa (aQr (b:=false) aQ1))) aQd)
  (aQ2 (aQ8 (i:=2) sc_flowers_of.nd rfl (aR rfl) (aQ6 d_choices_of hr rfl (aQ0 (dv 0) (aQ0 aQ5 aQ1))))
  (aQ2 (bQ8 cO rfl (dZu rfl B.range (aQ0 aQ5 (aQ0 (dv 1) aQ1))) (aX5 (i:=3) sc_flowers_of.nd rfl (aR rfl)) (aQ2 (aXj (i:=4) rfl (aR rfl) (N':=["some", "one", "sets"]) (oc:=none) (b:=false) [0,1] [1] rfl sc_flowers_of.nd (λ_ _ _=>bJt _ _ _ _ _ _ _ _ _ _ _ _) (.own (.own (.cap (i:=0) rfl (by decide +kernel) .nil))) (aQi rfl) (aZy (dv 2)) (cg_name (i:=0)) (λ_ _ _ _ _=>aQe (i:=0) (nd_ ["some", "one", "sets"]) rfl (aR rfl) (.inr rfl)) (λ_ _ _ _ _=>aZ7) (cXa (cg_name (i:=1)) aQh) (λ_ _ _ _ _ _=>cZn (m:=λacc=>emitOf _ acc _) rfl rfl rfl (λ_=>bJu _ _ _ _ _ _ _ _ _ _ _ _) (by exact PID.o (aZy (dv 2))) (aQe (i:=1) (nd_ ["some", "one", "sets"]) rfl (aR rfl) (.inr rfl)) (aZ2 (by exact(bJ2 hr (e_ix (dv 0) (eQi aQ5)) (dv 1)))) (aQg rfl (by exact PD.o (aZ0 (k:=false) (dv 0) (bZ7 (aQ0 (dv 1) aQ1))))) (λ_=>rfl) (λ_=>rfl) (λ_=>rfl) (λ_=>rfl) (λ_=>rfl)))
  (aQ3 (aXj (i:=2) rfl (aR rfl) (N':=["some"]) (oc:=none) (b:=false) [0] [] rfl sc_flowers_of.nd (λ_ _ _=>aQf ..) (.own .nil) (aQi rfl) (aZy (dv 4)) (cg_name (i:=0)) (λ_ _ _ _ _=>aQe (i:=0) (nd_ ["some"]) rfl (aR rfl) (.inr rfl)) (λ_ _ _ _ _=>aZ2 (by exact(cZ4 hr (aQ6 d_core_of hr rfl (aQ0 (dv 0) aQ1)) aJ5))) aQh (λ_ _ _ _ _ _=>aQg rfl (by exact PD.o (dv 0)))))))
  (aQ3 (aQa (dv 2)))))),?_⟩
 ·rintro ds S Q ⟨ts,m,rfl,_⟩;rfl
 ·rintro ds S Q ⟨ts,m,rfl,m2,m6,hs,hl,he,q⟩;have big:∀ n:Nat,n<=40000->n<=sizeLine:=λn h=>by rw[bD];omega
  have chL:∀ k,(ch ts k).length<=32768:=λk=>bc (bXf ts k) (iK (n:=2) (j:=15) (by decide) hl)
  have c2:ch (ts.map tupS) 2=(ch ts 2).map λs=>s.map tupS:=dXg tupS ts 2;refine⟨_,rfl,ite2 (λc=>absurd (of_decide_eq_true c) (by omega)) λc=>?_⟩
  refine⟨ts.map tupS,2,rfl,by decide,by rw[aj];omega,?_⟩
  have e0:(ch (ts.map tupS) 2).map D.tup=(flw HT.lexS [] (λs=>(coG s).isSome) ts 0).map flE.e:=by
   rw[c2,cM];rfl
  rw[e0];refine⟨⟨by decide,by decide,by omega,by omega⟩,?_⟩
  have e1:((m:Int) - 2).toNat=m - 2:=by omega
  rw[e1];refine aJ9 (λi Γ S'=>∃ x3 x4:Option D,Γ=[some (.tup (ts.map tupS)),some (.int m),some (.lst ((flw HT.lexS [] (λs=>(coG s).isSome) ts i).map flE.e)),x3,x4]/\S'=S) ⟨none,none,rfl,rfl⟩ ?_ ?_
  ·rintro i x Γ S' N hx ⟨x3,x4,rfl,rfl⟩ hN;have hi:i < m - 2:=by have:=(bd.mp hx).1;rwa [aZ1] at this
   have U:∀ s∈flw HT.lexS [] (λs=>(coG s).isSome) ts i,s.length=i + 2/\s.Sublist ts:=λs h=>by
    rw[dXy hs λt G=>(he t G).1] at h;exact⟨(mem_flO.mp h).1,(mem_flO.mp h).2.1⟩
   have L:∀ j,((((flw HT.lexS [] (λs=>(coG s).isSome) ts i).take j).flatMap (ext HT.lexS [] ts))).length<=32768:=λj=>by
    refine bc ?_ (chL (i + 3));rw[<- bXg (z:=[]) (cZe hs) aZn (i + 1)];exact(aZj ((dY j _).trans (dXf (cZe hs) aZn i))).length_le
   have efl:∀ j s,(flw HT.lexS [] (λs=>(coG s).isSome) ts i)[j]?=some s->((flw HT.lexS [] (λs=>(coG s).isSome) ts i).take (j + 1)).flatMap (ext HT.lexS [] ts)=((flw HT.lexS [] (λs=>(coG s).isSome) ts i).take j).flatMap (ext HT.lexS [] ts)++ext HT.lexS [] ts s:=λj s h=>by
    rw[dH,h,iU];simp
   refine⟨trivial,_,rfl,aZo (λj acc S2=>S2=S'/\acc=(((flw HT.lexS [] (λs=>(coG s).isSome) ts i).take j).flatMap (ext HT.lexS [] ts)).map flE.e) ⟨rfl,rfl⟩ ?_ ?_⟩
   ·rintro j y acc S2 N2 hy ⟨rfl,rfl⟩ hN2;rw[br,fC] at hy;obtain⟨s,Y,rfl⟩:=hy;obtain⟨O,hss⟩:=U s (bw Y);have hne:s≠[]:=by rintro rfl;simp at O
    refine⟨trivial,_,rfl,aQn (p:=λo=>HT.lexS (s.getLastD []) o) (f:=λo=>flE.e (s++[o])) (λo ho Q q=>?_) (λo ho _ Q q=>?_) (big _ ?_) ?_⟩
    ·exact⟨_,_,rfl,(by rw[dXa,dXk hne []];rfl:atI (s.map tupS) (-1)=some (tupS (s.getLastD []))),s.getLastD [],o,rfl,rfl,_,rfl,q⟩
    ·refine⟨aQ7 (by show 1<=9999;decide),aQ7 (by show(s.map tupS).length + 1<=9999;rw[aj];omega),?_⟩
     have e:flE.e (s++[o])=.tup (s.map tupS++[tupS o]):=by show D.tup ((s++[o]).map setE.e)=_;rw[aM];rfl
     rw[e] at q;exact q
    ·have h1:=L j;rw[aj];omega
    ·refine hN2 _ _ ⟨rfl,?_⟩;rw[efl j s Y,aM];unfold ext;rw[cM];rfl
   ·rintro acc S2 ⟨rfl,rfl⟩;rw[aj,dU];have hL:=L (flw HT.lexS [] (λs=>(coG s).isSome) ts i).length;rw[dU] at hL;refine⟨trivial,_,rfl,aQn (p:=λs=>(coG s).isSome) (f:=flE.e) (λs hsm Q q=>?_) (λs _ _ Q q=>q) (big _ (by show 0 + _<=_;omega)) (hN _ _ ⟨_,_,rfl,rfl⟩)⟩
    obtain⟨s0,Z,hse⟩:=List.mem_flatMap.mp hsm;obtain⟨o,ho,rfl⟩:=cJ.mp hse;have O:=(U s0 Z).1;have hel:∀ t∈s0++[o],t.length<=12:=λt G=>by
     rcases aW.mp G with G | G
     ·exact(he t ((U s0 Z).2.subset G)).2
     ·rw[aB.mp G];exact(he o (cb.mp ho).1).2
    have hll:(s0++[o]).length<=6:=by rw[ax,O];show i + 2 + 1<=6;omega
    refine⟨s0++[o],rfl,by omega,λt G=>by have:=hel t G;omega,bc (gZ9 hll hel) (by decide),?_⟩
    cases hc:coG (s0++[o]) with
    | none=>rw[hc] at q;exact⟨_,rfl,q⟩
    | some c=>rw[hc] at q;exact⟨_,rfl,q⟩
  ·rintro Γ S' ⟨x3,x4,rfl,rfl⟩;rw[aZ1,dXy hs λt G=>(he t G).1,show m - 2 + 2=m by omega]
   exact⟨trivial,aQb q⟩
end
abbrev aZ3:Stmt:=clsB (top 16) 1
theorem sc_KeptSets_put_set:FnScope ["self", "one", "having"] ["self", "one"] (aQ4 aZ3):=fsc
open PyProof.Rows
section
variable {P:aC} {w:aH} {K:aq} {mg:Str->Option ae} {base:aO} {cNoSet cKeptSets:Addr}
theorem aJa (T:TxM K cKeptSets "put_set" "KeptSets.put_set" aZ3) (B:Bs mg) (ONoSet:OwnCls "NoSet" cNoSet [.type "ValueError",.type "Exception",.type "BaseException",.type "object"] "ValueError.__new__" mg base) (ZKeptSets:Cls K cKeptSets) (AKeptSets_many:NoAttr K cKeptSets "many") (AKeptSets_sets:NoAttr K cKeptSets "sets") (d_flowers_of:Df P w K mg base 10 "flowers_of" ["sets", "many"] (spU K aX8)):DfMX P w K mg base 11 cKeptSets "put_set" ["self", "one"] (spUX K cNoSet (aXn K cKeptSets)):=by
 refine dXu T sc_KeptSets_put_set (λF=>F.binds λ_ _ _ _ _ _=>us2 λ_ _=>rfl) ?_ λf cdv A outer s H E L=>⟨_,(eXf (dZf L (dv 1) (bJe (dv 0))) (cXp ONoSet jx rfl (aX1 cJv aJb)) (λ_ _ _ h=>h _)
  (dXo (aQ2 (cXq (dv 0) (aZi rfl B.tuple (aQ0 (aXv (b:=false) L rfl B.sorted (aQ0 (aZ0 (k:=false) (bJe (dv 0)) (bZ7 (aQ0 (dv 1) aQ1))) aQ1)) aQ1)))
  (aQ2 (aXj (i:=2) rfl (aR rfl) (N':=["some", "one"]) (oc:=none) (b:=false) [0] [] rfl sc_KeptSets_put_set.nd (λ_ _ _=>aQf ..) (.own (.cap (i:=1) rfl (by decide +kernel) .nil)) (aQi rfl) (aZy (aQ6 d_flowers_of L rfl (aQ0 (bJe (dv 0)) (aQ0 (bJe (dv 0)) aQ1)))) (cg_name (i:=0)) (λ_ _ _ _ _=>aQe (i:=0) (nd_ ["some", "one"]) rfl (aR rfl) (.inr rfl)) (λ_ _ _ _ _=>aZ2 (by exact(dZf L (dv 1) (dv 0)))) aQh (λ_ _ _ _ _ _=>aQg rfl (by exact PD.o (dv 0))))
  (aQ3 (aQa (eX9 L rfl B.min (dv 2) aJ5))))))),?_⟩
 ·rintro ds S Q XQ ⟨a,m,ts,one,rfl,_⟩;rfl
 ·rintro ds S Q XQ ⟨a,m,ts,one,rfl,U,m2,m6,kp,o1,o6,Z,q⟩;have hit:∀ Q':Bool->Sto->Prop,Q' (decide (one∈ts)) S->aZ9 (dOp (inD false) (dVar 1) (dFld K (dVar 0) (aN "sets"))) (aXb [aN "self",aN "one",aN "having"] [D.ref a,tupS one]) S Q':=λQ' h=>⟨a,cKeptSets,_,_,rfl,U,ZKeptSets,AKeptSets_sets,rfl,in_t (neg:=false) (E:=setE) (by decide) rfl h⟩
  refine hit _ ?_
  by_cases hm:one∈ts
  ·rw[decide_eq_true hm];exact⟨S,λ_ _ e=>e,Z hm⟩
  ·rw[decide_eq_false hm];obtain⟨tl,q⟩:=q hm;have G:=dJ1 kp hm tl o1 o6;have nd:(ts++[one]).Nodup:=cg.mpr ⟨kp.srt.nodup,b5 ..,λx hx y hy e=>hm (by rw[aB.mp hy] at e;exact e ▸ hx)⟩
   have e1:ts.map tupS++[tupS one]=(ts++[one]).map tupS:=by rw[aM];rfl
   refine⟨a,cKeptSets,_,_,rfl,U,ZKeptSets,AKeptSets_sets,rfl,aQ7 (by show 1<=9999;decide),aQ7 (by rw[aj];show ts.length + 1<=9999;omega),?_⟩
   show srtD false [D.tup (ts.map tupS++[tupS one])] _ _;rw[e1];refine .inr (.inr ⟨ts++[one],rfl,nd,by rw[ax];show ts.length + 1 < 64;omega,_,rfl,?_⟩)
   generalize srT (ts++[one])=us at G q;have O:supd S a (aQo K cKeptSets m us) a=some (aQo K cKeptSets m us):=supd_same;refine⟨a,cKeptSets,_,rfl,U,ZKeptSets,AKeptSets_sets,by show 2 < 1000;decide,?_⟩
   refine⟨a,cKeptSets,_,_,rfl,O,ZKeptSets,AKeptSets_sets,rfl,a,cKeptSets,_,_,rfl,O,ZKeptSets,AKeptSets_many,rfl,?_⟩;refine⟨us,m,rfl,m2,m6,G.srt,by have:=G.len;omega,λt Y=>⟨(G.each t Y).1,by have:=(G.each t Y).2;omega⟩,?_⟩
   have fl:(flO us m).length<=32768:=bc (dh _ _) (bc (bXf us m) (iK (n:=2) (j:=15) (by decide) (by have:=G.len;omega)))
   refine⟨_,rfl,aQn (p:=λs=>decide (one∈s)) (f:=flE.e) (λs hs Q' h=>in_t (neg:=false) (E:=setE) (by decide) rfl h) (λs _ _ Q' h=>h) (by rw[bD];show 0 + (flO us m).length<=_;omega) ?_⟩
   rw[bZ];refine⟨_,rfl,dXj (by decide) _,?_⟩
   have hp:=(dXz G.srt m).sublist (iW (p:=λs=>decide (one∈s)));unfold fstW at q;cases e:(flO us m).filter λs=>decide (one∈s) with
   | nil=>rw[e] at q;exact aQb q
   | cons s r =>
    rw[e] at q hp;show rtD Q (bZg (flE.e s) (r.map flE.e)) _;rw[bZm (by decide) eXi (aU.mp hp).1]
    exact aQb q
end
end Toy
namespace Toy
open PySem L2
abbrev aQy:Stmt:=clsB (top 16) 2
theorem sc_KeptSets_take_set:FnScope ["self", "one"] ["self", "one"] (aQ4 aQy):=fsc
open PyProof.Rows
section
variable {P:aC} {w:aH} {K:aq} {mg:Str->Option ae} {base:aO} {cNoSet cKeptSets:Addr}
theorem aXy (T:TxM K cKeptSets "take_set" "KeptSets.take_set" aQy) (B:Bs mg) (ONoSet:OwnCls "NoSet" cNoSet [.type "ValueError",.type "Exception",.type "BaseException",.type "object"] "ValueError.__new__" mg base) (ZKeptSets:Cls K cKeptSets) (AKeptSets_sets:NoAttr K cKeptSets "sets"):DfMX P w K mg base 1 cKeptSets "take_set" ["self", "one"] (spUX K cNoSet (aZz K cKeptSets)):=by
 refine dXu T sc_KeptSets_take_set (λF=>F.binds λ_ _ _ _ _ _=>us2 λ_ _=>rfl) ?_ λf U A outer s H E G=>⟨_,(eXf (dZg G (dv 1) (bJe (dv 0))) (cXp ONoSet jx rfl (aX1 cJv aJb)) (λ_ _ _ h=>h _)
  (dXo (aQ3 (cXq (dv 0) (aZi rfl B.tuple (aQ0 (aZa (N':=["other", "one"]) (oc:=none) (b:=false) [0] [] rfl sc_KeptSets_take_set.nd (λ_ _ _=>aQf ..) (.own (.cap (i:=1) rfl (by decide +kernel) .nil)) (aQi rfl) (aZy (bJe (dv 0))) (cg_name (i:=0)) (λ_ _ _ _ _=>aQe (i:=0) (nd_ ["other", "one"]) rfl (aR rfl) (.inr rfl)) (λ_ _ _ _ _=>aZ2 (by exact(bQe G (dv 0) (dv 1)))) aQh (λ_ _ _ _ _ _=>aQg rfl (by exact PD.o (dv 0)))) aQ1)))))),?_⟩
 ·rintro ds S Q Y ⟨a,m,ts,one,rfl,_⟩;rfl
 ·rintro ds S Q Y ⟨a,m,ts,one,rfl,y,tl,L,q⟩;have hit:∀ Q':Bool->Sto->Prop,Q' (!decide (one∈ts)) S->aZ9 (dOp (inD true) (dVar 1) (dFld K (dVar 0) (aN "sets"))) (aXb [aN "self",aN "one"] [D.ref a,tupS one]) S Q':=λQ' h=>⟨a,cKeptSets,_,_,rfl,y,ZKeptSets,AKeptSets_sets,rfl,in_t (neg:=true) (E:=setE) (by decide) rfl h⟩
  refine hit _ ?_
  by_cases hm:one∈ts
  ·rw[decide_eq_true hm];refine⟨a,cKeptSets,_,_,rfl,y,ZKeptSets,AKeptSets_sets,rfl,_,rfl,aQn (p:=λo=>!decide (o=one)) (f:=tupS) (λo O Q' h=>?_) (λo O _ Q' h=>h) (aQ7 (by show 0 + ts.length<=_;omega)) ?_⟩
   ·show eqD true (setE.e o) (setE.e one) S λd Z=>∃ b,d=.bl b/\Q' b Z;exact eq_e (E:=setE) (by decide) ⟨_,rfl,h⟩
   ·rw[bZ];exact⟨_,rfl,a,cKeptSets,_,rfl,y,ZKeptSets,AKeptSets_sets,by show 2 < 1000;decide,aQb (q hm)⟩
  ·rw[decide_eq_false hm];exact⟨S,λ_ _ e=>e,L hm⟩
end
end Toy
namespace Toy
open PySem L2
abbrev s_law_flags:Stmt:=top 25
theorem sc_law_flags:FnScope ["thing", "found"] ["thing"] (aQ4 s_law_flags):=fsc
def aXo (C:Addr):SpD:=λds S Q=>∃ ea,ds=[.ref ea]/\S ea=some (excD C)/\Q (.lst [.bl false,.bl false,.bl true,.bl false,.bl false,.bl false]) S
section
variable {P:aC} {w:aH} {K:aq} {mg:Str->Option ae} {base:aO} {cNoSet cNoSets cNoFlower cNoAsk cPetalError:Addr}
theorem cQi (T:Tx K mg "_law_flags" s_law_flags) (B:Bs mg) (XNoSet:ExcK K cNoSet) (MNoSets:mg "NoSets"=some (.ref cNoSets)) (MNoFlower:mg "NoFlower"=some (.ref cNoFlower)) (MNoSet:mg "NoSet"=some (.ref cNoSet)) (MNoAsk:mg "NoAsk"=some (.ref cNoAsk)) (MPetalError:mg "PetalError"=some (.ref cPetalError)) (BV:mg "ValueError"=none) (JNoSet_NoSets:bH K (.ref cNoSet) (.ref cNoSets)=some false) (JNoSet_NoFlower:bH K (.ref cNoSet) (.ref cNoFlower)=some false) (JNoSet_NoSet:bH K (.ref cNoSet) (.ref cNoSet)=some true) (JNoSet_NoAsk:bH K (.ref cNoSet) (.ref cNoAsk)=some false) (JNoSet_PetalError:bH K (.ref cNoSet) (.ref cPetalError)=some true) (VNoSet:bH K (.ref cNoSet) (.type "ValueError")=some true):Df P w K mg base 1 "_law_flags" ["thing"] (spU K (aXo cNoSet)):=by
 refine aZl T sc_law_flags (λF=>F.binds λ_ _ _ _ _ _=>us1 λ_=>rfl) ?_ λf y A outer s H E G=>⟨_,(aQ2 (aQ8 (i:=1) sc_law_flags.nd rfl (aR rfl) (aQr (b:=false) (aQ0 (dXs rfl B.isinstance (dv 0) rfl MNoSets) (aQ0 (dXs rfl B.isinstance (dv 0) rfl MNoFlower) (aQ0 (dXs rfl B.isinstance (dv 0) rfl MNoSet) aQ1)))))
  (aQ3 (aQa (aZ0 (k:=false) (dv 1) (aQr (b:=false) (aQ0 (dXs rfl B.isinstance (dv 0) rfl MNoAsk) (aQ0 (fQc (dXs rfl B.isinstance (dv 0) rfl MPetalError)) (aQ0 (fQc (gZ6 rfl B.isinstance (dv 0) rfl BV PyProof.Rows.Boot.«ValueError»)) aQ1)))))))),?_⟩
 ·rintro ds S Q ⟨ea,rfl,_⟩;rfl
 ·rintro ds S Q ⟨ea,rfl,he,q⟩;refine⟨ea,cNoSet,false,rfl,he,XNoSet,JNoSet_NoSets,ea,cNoSet,false,rfl,he,XNoSet,JNoSet_NoFlower,ea,cNoSet,true,rfl,he,XNoSet,JNoSet_NoSet,?_⟩;refine⟨aQ7 (by show 3<=9999;decide),ea,cNoSet,false,rfl,he,XNoSet,JNoSet_NoAsk,ea,cNoSet,true,rfl,he,XNoSet,JNoSet_PetalError,true,rfl,ea,cNoSet,true,rfl,he,XNoSet,VNoSet,true,rfl,aQ7 (by show 3<=9999;decide),_,_,rfl,rfl,aQ7 (by show 6<=9999;decide),aQb q⟩
end
abbrev s_law_refused:Stmt:=top 31
theorem sc_law_refused:FnScope ["kept", "way", "one", "caught", "e"] ["kept", "way", "one"] (aQ4 s_law_refused):=fsc
def aZv (K:Fg) (C:Addr):SpD:=λds S Q=>∃ (a:Addr) (m:Nat) (ts:List (List Str)) (one:List Str) (way:Int),ds=[.ref a,.int way,tupS one]/\S a=some (aQo K C m ts)/\2<=m/\m<=6/\Kpt ts/\((way=0/\one∈ts)\/(way=1/\one∉ts))/\Q (.bl true) S
section
variable {P:aC} {w:aH} {K:aq} {mg:Str->Option ae} {base:aO} {cNoSet cPetalError cKeptSets:Addr}
theorem bX3 (T:Tx K mg "_law_refused" s_law_refused) (B:Bs mg) (MPetalError:mg "PetalError"=some (.ref cPetalError)) (HNoSet_PetalError:jw K (.ref cNoSet) (.ref cPetalError)=some true) (ZKeptSets:Cls K cKeptSets) (d_KeptSets_put_set:DfMX P w K mg base 11 cKeptSets "put_set" ["self", "one"] (spUX K cNoSet (aXn K cKeptSets))) (d_KeptSets_take_set:DfMX P w K mg base 11 cKeptSets "take_set" ["self", "one"] (spUX K cNoSet (aZz K cKeptSets))) (d_law_flags:Df P w K mg base 11 "_law_flags" ["thing"] (spU K (aXo cNoSet))):Df P w K mg base 12 "_law_refused" ["kept", "way", "one"] (spU K (aZv K cKeptSets)):=by
 refine aZl T sc_law_refused (λF=>F.binds λ_ _ _ _ _ _=>us3 λ_ _ _=>rfl) ?_ λf cdv A outer s H E G=>⟨_,(aQ2 (aQ8 (i:=3) sc_law_refused.nd rfl (aR rfl) aJ5)
  (aQ2 (eZ6 (aJ8 G (dv 1) aQ5) d_KeptSets_put_set d_KeptSets_take_set ZKeptSets G (dv 0) (aQ0 (dv 2) aQ1) (dv 0) (aQ0 (dv 2) aQ1) sc_law_refused.nd (j:=4) rfl rfl rfl MPetalError HNoSet_PetalError (λea=>(aQ3 (aQ8 (i:=3) sc_law_refused.nd rfl (aR rfl) (dv 4)))))
  (aQ3 (aQa (cZ5 (cX6 G (dv 3) aJ5) (dZl (e_eq G (aQ6 d_law_flags G rfl (aQ0 (dv 3) aQ1)) (aZa (N':=["k"]) (oc:=none) (b:=false) [0] [] rfl sc_law_refused.nd (λ_ _ _=>aQf ..) (.own .nil) (aQi rfl) (aQp rfl B.range (aQ0 aQ5 aQ1)) (cg_name (i:=0)) (λ_ _ _ _ _=>aQe (i:=0) (nd_ ["k"]) rfl (aR rfl) (.inr rfl)) (λ_ _ _ _ _=>aZ7) aQh (λ_ _ _ _ _ _=>aQg rfl (by exact PD.o (e_eq G (dv 0) aQ5))))))))))),?_⟩
 ·rintro ds S Q ⟨a,m,ts,one,way,rfl,_⟩;rfl
 ·rintro ds S Q ⟨a,m,ts,one,way,rfl,L,U,O,kp,hw,q⟩;have fin:∀ ea,S ea=none->∀ x:Option D,dRet (fQb (dOp (isD true) (dVar 3) (dC D.non)) (dOp (eqD false) (dCB (aXo cNoSet) (aQt (dVar 3) dNil)) (dZw false [none] (gQ3 (aQt (dC (D.int 6)) dNil)) (aQu 0) dYes (bX0 (dOp (eqD false) (dVar 0) (dC (D.int 2))))))) (aJy Q) [some (D.ref a),some (D.int way),some (tupS one),some (D.ref ea),x] (supd S ea (excD cNoSet)):=by
   intro ea y x;refine⟨true,rfl,ea,rfl,supd_same,⟨by decide,by decide⟩,?_⟩
   refine aZo (λi acc S'=>S'=supd S ea (excD cNoSet)/\acc=(aP i).map λk:Nat=>D.bl (decide (k=2))) ⟨rfl,rfl⟩ ?_ ?_
   ·rintro i x acc S' N Y ⟨rfl,rfl⟩ hN;obtain⟨hi,rfl⟩:=cQ6 Y;have Z:i < 6:=hi;refine⟨trivial,rfl,aQ7 (by rw[aj,d0];omega),hN _ _ ⟨rfl,?_⟩⟩
    rw[kE,aM]
    congr 1
    show [D.bl (decide (D.int (i:Int)=D.int 2))]=[D.bl (decide (i=2))]
    congr 2
    exact decide_eq_decide.mpr ⟨λe=>by injection e with e;omega,λe=>by rw[e];rfl⟩
   ·rintro acc S' ⟨rfl,rfl⟩;have el:(aP (rngD 0 (Int.toNat 6)).length).map (λk:Nat=>D.bl (decide (k=2)))=[.bl false,.bl false,.bl true,.bl false,.bl false,.bl false]:=by rw[aZ1];rfl
    rw[el];refine⟨trivial,rfl,?_⟩;show(aJy Q).rt (D.bl (decide (D.lst [.bl false,.bl false,.bl true,.bl false,.bl false,.bl false]=D.lst [.bl false,.bl false,.bl true,.bl false,.bl false,.bl false]))) _;rw[decide_eq_true rfl];exact aX6 (λb o e=>(supd_ne (λz=>by rw[z,y] at e;cases e)).trans e) q
  rcases hw with⟨rfl,hm⟩ | ⟨rfl,hm⟩
  ·refine⟨rfl,true,rfl,a,_,rfl,L,rfl,a,m,ts,one,rfl,L,U,O,kp,(kp.each one hm).1,(kp.each one hm).2,λ_ ea y=>?_,λh=>absurd hm h⟩;exact fin ea y _
  ·refine⟨rfl,false,rfl,a,_,rfl,L,rfl,a,m,ts,one,rfl,L,kp.len,λ_ ea y=>?_,λh=>absurd h hm⟩;exact fin ea y _
end
abbrev s_law_refusals_right:Stmt:=top 32
theorem aXp:FnScope ["deck", "kept", "there", "left"] ["deck", "kept", "there", "left"] (aQ4 s_law_refusals_right):=fsc
def aZb (K:Fg) (C:Addr):SpD:=λds S Q=>∃ (a c kp:Addr) (m:Nat) (ts ls:List (List Str)),ds=[.ref a,.ref kp,.lst (ts.map tupS),.lst (ls.map tupS)]/\DeckC S a c/\kp≠a/\kp≠c/\S kp=some (aQo K C m ts)/\2<=m/\m<=6/\Kpt ts/\(∀ x∈ls,x∉ts)/\ls.length<=28/\∀ S',Off2 a c S S'->DeckC S' a c->Q (.bl true) S'
abbrev gZc (K:Fg) (C:Addr):SD:=dSeq (dIfS (dAnd (aZ9 (dOp (eqD true) (dVar 3) (dLst false dNil)))
     (aZ9 (dOp (eqD false) (dCB aQq (aQt (dVar 0) (aQt (dC (D.int 4)) dNil))) (dC (D.int 0)))))
    (dRet (dCB (aZv K C) (aQt (dVar 1) (aQt (dC (D.int 1))
        (aQt (dOp ixD (dVar 3) (dCB aQq (aQt (dVar 0) (aQt (dCB lenD (aQt (dVar 3) dNil)) dNil)))) dNil)))))
    bJ3)
   (dRet (dC (D.bl true)))
section
variable {P:aC} {w:aH} {K:aq} {mg:Str->Option ae} {base:aO} {cKeptSets:Addr}
theorem aXq (T:Tx K mg "_law_refusals_right" s_law_refusals_right) (B:Bs mg) (d_law_refused:Df P w K mg base 12 "_law_refused" ["kept", "way", "one"] (spU K (aZv K cKeptSets))) (d_law_take:Df P w K mg base 12 "_law_take" ["deck", "many"] (spU K aQq)):Df P w K mg base 13 "_law_refusals_right" ["deck", "kept", "there", "left"] (spU K (aZb K cKeptSets)):=by
 refine aZl T aXp (λF=>F.binds λ_ _ _ _ _ _=>us4 λ_ _ _ _=>rfl) ?_ λf cdv A outer s H E O=>⟨_,(aQ2 (aQw (PWD.pt (bXc (bQe O (dv 2) (aQr (b:=false) aQ1)) (bZ8 (aJ8 O (aQ6 d_law_take O rfl (aQ0 (dv 0) (aQ0 aQ5 aQ1))) aQ5)))) (aQ3 (aQw (aXa (aZh (aQ6 d_law_refused O rfl (aQ0 (dv 1) (aQ0 aQ5 (aQ0 (e_ix (dv 2) (aQ6 d_law_take O rfl (aQ0 (dv 0) (aQ0 (aZd rfl B.len (aQ0 (dv 2) aQ1)) aQ1)))) aQ1)))))) (aQ3 (aQa e_bl)) aQd)) aQd)
  (aQ2 (aQw (PWD.pt (bXc (bQe O (dv 3) (aQr (b:=false) aQ1)) (bZ8 (aJ8 O (aQ6 d_law_take O rfl (aQ0 (dv 0) (aQ0 aQ5 aQ1))) aQ5)))) (aQ3 (aQa (aQ6 d_law_refused O rfl (aQ0 (dv 1) (aQ0 aQ5 (aQ0 (e_ix (dv 3) (aQ6 d_law_take O rfl (aQ0 (dv 0) (aQ0 (aZd rfl B.len (aQ0 (dv 3) aQ1)) aQ1)))) aQ1)))))) aQd)
  (aQ3 (aQa e_bl)))),?_⟩
 ·rintro ds S Q ⟨a,c,kp,m,ts,ls,rfl,_⟩;rfl
 ·rintro ds S Q ⟨a,c,kp,m,ts,ls,rfl,dk,na,nc,hS,m2,m6,kt,ho,l28,q⟩;have second:∀ S1,Off2 a c S S1->DeckC S1 a c->gZc K cKeptSets (aJy Q) [some (.ref a),some (.ref kp),some (.lst (ts.map tupS)),some (.lst (ls.map tupS))] S1:=λS1 G Z=>by
   refine⟨aQ7 (by decide),by show okE 9 (.lst (ls.map tupS)) (.lst [])=true;unfold okE;rw[b0];rfl,_,rfl,ite2 (λh0=>⟨a,c,4,rfl,Z,by decide,by decide,λr S2 r0 r1 i L=>⟨rfl,_,rfl,ite2 (λ_=>?_) λ_=>aQb (q S2 (G.trans i) L)⟩⟩) λ_=>aQb (q S1 G Z)⟩
   have l0:0 < ls.length:=c8.mpr λe=>by subst e;exact absurd h0 (by decide)
   refine⟨_,rfl,a,c,_,rfl,L,by rw[aj];omega,by rw[aj];omega,λv S3 v0 v1 y U=>?_⟩
   rw[aj] at v1;obtain⟨v,rfl⟩:∃ v':Nat,v=v':=⟨v.toNat,by omega⟩
   have Y:v < ls.length:=by omega
   refine⟨_,_,rfl,aZs (v:=tupS ls[v]) (by rw[br,ah Y];rfl),kp,m,ts,ls[v],1,rfl,(y kp na nc).trans ((i kp na nc).trans ((G kp na nc).trans hS)),m2,m6,kt,.inr ⟨rfl,ho _ (dQ Y)⟩,aQb (q S3 ((G.trans i).trans y) U)⟩
  refine⟨aQ7 (by decide),by show okE 9 (.lst (ts.map tupS)) (.lst [])=true;unfold okE;rw[b0];rfl,_,rfl,ite2 (λh0=>⟨a,c,4,rfl,dk,by decide,by decide,λr S2 r0 r1 i L=>⟨rfl,_,rfl,ite2 (λ_=>?_) λ_=>second S2 i L⟩⟩) λ_=>second S (λ_ _ _=>rfl) dk⟩
  have l0:0 < ts.length:=c8.mpr λe=>by subst e;exact absurd h0 (by decide)
  have l14:=kt.len;refine⟨_,rfl,a,c,_,rfl,L,by rw[aj];omega,by rw[aj];omega,λv S3 v0 v1 y U=>?_⟩
  rw[aj] at v1;obtain⟨v,rfl⟩:∃ v':Nat,v=v':=⟨v.toNat,by omega⟩
  have Y:v < ts.length:=by omega
  exact⟨_,_,rfl,aZs (v:=tupS ts[v]) (by rw[br,ah Y];rfl),kp,m,ts,ts[v],0,rfl,(y kp na nc).trans ((i kp na nc).trans hS),m2,m6,kt,.inl ⟨rfl,dQ Y⟩,second S3 (i.trans y) U⟩
end
end Toy
namespace Toy
section
variable {A:Type} (J:List A->A->Bool)
def extS:List A->List A->Nat->List (List A)
 | s,_,0=>[s]
 | _,[],_ + 1=>[]
 | s,a::r,k + 1=>(if J s a=true then extS (s++[a]) r k else [])++extS s r (k + 1)
def kidS (go:A->Bool) (s:List A):List A->List (List A × List A)
 | []=>[]
 | a::r=>if go a=true/\J s a=true then (s++[a],r)::kidS go s r else kidS go s r
theorem extS_zero (s r:List A):extS J s r 0=[s]:=by cases r <;> rfl
theorem eZ8 {k:Nat}:∀ {r s c:List A},c∈extS J s r k->∀ x∈c,x∈s\/x∈r:=by
 induction k with
 | zero =>
  intro r s c h x i;rw[extS_zero,aB] at h;exact .inl (h ▸ i)
 | succ k y =>
  intro r
  induction r with
  | nil=>intro s c h;cases h
  | cons a r ir =>
   intro s c h x i;rcases aW.mp h with h | h
   ·by_cases e:J s a=true
    ·rw[if_pos e] at h;rcases y h x i with h | h
     ·rcases aW.mp h with h | h
      ·exact .inl h
      ·exact .inr (aB.mp h ▸ ak)
     ·exact .inr (ao _ h)
    ·rw[if_neg e] at h;cases h
   ·rcases ir h x i with h | h
    ·exact .inl h
    ·exact .inr (ao _ h)
def wanS (ok:List A->Bool) (s r:List A) (k:Nat):List (List A):=(extS J s r k).filter ok
theorem cXs (ok:List A->Bool) (go:A->Bool) (s:List A) (k:Nat):∀ (r:List A),(∀ l a r',r=l++a::r'->go a=false->J s a=true->wanS J ok (s++[a]) r' k=[])->wanS J ok s r (k + 1)=((kidS J go s r).map λx=>wanS J ok x.1 x.2 k).flatten
 | [],_=>rfl
 | a::r,h=>by
  have y:=cXs ok go s k r λl b r' e=>h (a::l) b r' (by rw[e];rfl)
  show((if J s a=true then extS J (s++[a]) r k else [])++extS J s r (k + 1)).filter ok=((if go a=true/\J s a=true then (s++[a],r)::kidS J go s r else kidS J go s r).map _).flatten
  rw[jv]
  by_cases i:J s a=true
  ·rw[if_pos i];cases hg:go a with
   | true =>
    rw[if_pos ⟨rfl,i⟩,a9,fV,<- y];rfl
   | false =>
    rw[if_neg (λz=>by cases z.1),<- y,show(extS J (s++[a]) r k).filter ok=[] from h [] a r rfl hg i];rfl
  ·rw[if_neg i,if_neg (λz=>i z.2),<- y];rfl
theorem dJ6 {w:A} {ok:List A->Bool} (ho:∀ c,ok c=true->w∈c) {s r:List A} {k:Nat} (h1:w∉s) (h2:w∉r):wanS J ok s r k=[] :=
 eA.mpr λc i hw=>by
  rcases eZ8 J i w (ho c hw) with h | h
  ·exact h1 h
  ·exact h2 h
def wgtS (p:List (List A × List A)):Nat:=(p.map λx=>2 ^ x.2.length).sum
theorem bZr (p q:List (List A × List A)):wgtS (p++q)=wgtS p + wgtS q:=by unfold wgtS;rw[aM,List.sum_append]
theorem cXt (go:A->Bool) (s:List A):∀ r:List A,wgtS (kidS J go s r) < 2 ^ r.length
 | []=>au _
 | a::r=>by
  have i:=cXt go s r;rw[aF,Nat.pow_succ];show wgtS (if _ then _ else _) < _
  split
  ·show 2 ^ r.length + wgtS (kidS J go s r) < _;omega
  ·omega
theorem eZ9 (p:List (List A × List A)):wgtS p.reverse=wgtS p:=by unfold wgtS;rw[ix,List.sum_reverse]
def lowS (p:List (List A × List A)) (B:Nat):Prop:=∀ (i:Nat) (h:i < p.length),p[i].2.length * (p[i].2.length + 1) / 2 + 1 + i<=B
theorem eZa {p:List (List A × List A)} {B:Nat} (h:lowS p B):p.length<=B:=by
 rcases Nat.eq_zero_or_pos p.length with z | z
 ·omega
 ·have:=h (p.length - 1) (by omega)
  omega
theorem bJh (go:A->Bool) (s:List A):∀ (r:List A) (i:Nat) (h:i < (kidS J go s r).length),(kidS J go s r)[i].2.length + i + 1<=r.length/\(kidS J go s r).length<=r.length
 | [],i,h=>absurd h (cN _)
 | a::r,i,h=>by
  by_cases c:go a=true/\J s a=true
  ·have e:kidS J go s (a::r)=(s++[a],r)::kidS J go s r:=if_pos c;simp only[e] at h ⊢;cases i with
   | zero =>
    refine⟨au _,?_⟩;rw[aF,aF];cases hk:kidS J go s r with
    | nil=>exact Nat.succ_le_succ (bL _)
    | cons x l =>
     have:=(bJh go s r 0 (by rw[hk];exact i5 _)).2
     rw[hk] at this;omega
   | succ i =>
    have:=bJh go s r i (by simpa using h)
    simp only[List.getElem_cons_succ,aF];omega
  ·have e:kidS J go s (a::r)=kidS J go s r:=if_neg c;simp only[e] at h ⊢
   have:=bJh go s r i h
   rw[aF];omega
theorem dJ7 {p:List (List A × List A)} {s r:List A} {B:Nat} (go:A->Bool) (h:lowS (p++[(s,r)]) B):lowS (p++(kidS J go s r).reverse) B:=by
 intro i hi;rcases bO i p.length with c | c
 ·have:=h i (by rw[ax];omega)
  rw[jR c] at this ⊢;exact this
 ·have h0:=h p.length (by rw[ax];exact dN _)
  rw[jB (au _)] at h0;simp only[i6,List.getElem_cons_zero] at h0;rw[ax,d7] at hi;rw[jB c,List.getElem_reverse];obtain⟨j,G⟩:∃ j,j=(kidS J go s r).length - 1 - (i - p.length):=⟨_,rfl⟩;have k:=bJh J go s r j (by omega)
  simp only[<- G];generalize L:((kidS J go s r)[j]'(by omega)).2.length=x at k ⊢
  have:x * (x + 1) / 2 + r.length<=r.length * (r.length + 1) / 2:=by
   obtain⟨n,y⟩:∃ n,r.length=n + 1:=⟨r.length - 1,by omega⟩
   rw[y];have h2:x * (x + 1)<=n * (n + 1):=Nat.mul_le_mul (by omega) (by omega)
   have O:(n + 1) * (n + 1 + 1)=n * (n + 1) + (n + 1) * 2:=by rw[Nat.mul_comm n,<- Nat.mul_add]
   omega
  omega
def bZs (ok:List A->Bool) (m:Nat) (p:List (List A × List A)):Option (List A):=((p.reverse.map λx=>wanS J ok x.1 x.2 (m - x.1.length)).flatten).head?
theorem cJq {ok:List A->Bool} {m:Nat} {p:List (List A × List A)} {s r:List A} (h:s.length=m) (o:ok s=true):bZs J ok m (p++[(s,r)])=some s:=by
 unfold bZs;rw[gv,hW,fO,a9,fV];show(wanS J ok s r (m - s.length)++_).head?=_;rw[h,i6];unfold wanS;rw[extS_zero,cQ,if_pos o]
 rfl
theorem cJr {ok:List A->Bool} {m:Nat} {p:List (List A × List A)} {s r:List A} (h:s.length=m) (o:ok s=false):bZs J ok m (p++[(s,r)])=bZs J ok m p:=by
 unfold bZs;rw[gv,hW,fO,a9,fV];show(wanS J ok s r (m - s.length)++_).head?=_;rw[h,i6];unfold wanS;rw[extS_zero,cQ,if_neg (by rw[o];exact bo)]
 rfl
theorem dJ8 {ok:List A->Bool} {m:Nat} {p:List (List A × List A)} {s r:List A} (go:A->Bool) (h:s.length < m) (hp:∀ l a r',r=l++a::r'->go a=false->J s a=true->wanS J ok (s++[a]) r' (m - s.length - 1)=[]):bZs J ok m (p++[(s,r)])=bZs J ok m (p++(kidS J go s r).reverse):=by
 unfold bZs;rw[gv,hW,fO,a9,fV,gv,List.reverse_reverse,aM,iX]
 congr 2
 obtain⟨k,hk⟩:∃ k,m - s.length=k + 1:=⟨m - s.length - 1,by omega⟩
 show wanS J ok s r (m - s.length)=_;rw[hk];rw[hk,Nat.add_sub_cancel] at hp;rw[cXs J ok go s k r hp]
 congr 1
 refine d8 λx hx=>?_
 have:∀ (r:List A),∀ x∈kidS J go s r,x.1.length=s.length + 1:=λr=>by
  induction r with
  | nil=>intro x hx;cases hx
  | cons a r i =>
   intro x hx;unfold kidS at hx
   split at hx
   ·rcases aA.mp hx with rfl | hx
    ·show(s++[a]).length=_;rw[ax];rfl
    ·exact i x hx
   ·exact i x hx
 rw[this r x hx,show m - (s.length + 1)=k by omega]
end
end Toy
namespace L2
open PySem
open Toy (ch aZe aQx aZ5 aJk)
end L2
set_option maxHeartbeats 4000000
namespace L2
open PySem Toy
end L2
set_option maxHeartbeats 1000000
namespace L2
open PySem Toy
end L2
set_option maxHeartbeats 4000000
namespace L2
open PySem Toy
section
variable {α:Type} [DecidableEq α] (ok:List α->Bool)
variable {ok}
variable {lt:α->α->Bool}
variable (ok lt) in
end
end L2
set_option maxHeartbeats 1000000
namespace Toy
open PySem L2
end Toy
namespace L2
open PySem Toy
end L2
namespace L2
open PySem PySem.Spec PyProof.Rows
end L2
set_option maxHeartbeats 4000000
namespace L2
open PySem
open Toy
end L2
set_option maxHeartbeats 1000000
namespace L2
open PySem Toy
end L2
set_option maxHeartbeats 4000000
namespace Toy
open PySem L2
end Toy
set_option maxHeartbeats 1000000
namespace L2
open PySem Toy
theorem cZf {a b:List Str} (ha:Srt a) (hb:Srt b):meG a b=meG b a:=Srt.ext (f8 _ ha) (f8 _ hb) λx=>by rw[mem_me,mem_me];exact And.comm
theorem gZd {α:Type} {l:List α} {R:α->α->Prop} (sy:∀ a∈l,∀ b∈l,R a b->R b a) (h:l.Pairwise R):∀ a∈l,∀ b∈l,a≠b->R a b:=λa G b B ne=>by
 obtain⟨i,hi,rfl⟩:=b9 G;obtain⟨j,y,rfl⟩:=b9 B;rcases gW i j with q | q | q
 ·exact cZ.mp h i j hi y q
 ·subst q;exact absurd rfl ne
 ·exact sy _ B _ G (cZ.mp h j i y hi q)
theorem dJ9 {p:List (List Str)} (h2:2<=p.length) (nd:p.Nodup) (hs:∀ o∈p,Srt o):(coG p).isSome=true↔∃ c,∀ a∈p,∀ b∈p,a≠b->meG a b=c:=by
 constructor
 ·intro h;obtain⟨c,i⟩:=cj.mp h;exact⟨c,gZd (λa B b y e=>by rw[cZf (hs b y) (hs a B)];exact e) ((gZa h2 nd hs).mp i)⟩
 ·rintro⟨c,i⟩
  have:coG p=some c:=(gZa h2 nd hs).mpr (gD (λ{a b} B y n=>i a B b y n) nd)
  rw[this];rfl
section
variable {ns ms:List Str} (hl:ms.length=ns.length) (nn:ns.Nodup) (nm:ms.Nodup)
include hl nm
include nn in
include nn in
end
end L2
namespace Toy
open PySem L2
section
variable {A:Type} (J:List A->A->Bool)
def chnS:List A->List A->Bool
 | _,[]=>true
 | s,a::c=>J s a && chnS (s++[a]) c
theorem cQj:∀ (c s:List A) (a:A),chnS J s (c++[a])=(chnS J s c && J (s++c) a)
 | [],s,a=>by
  show(J s a && true)=(true && J (s++[]) a);rw[bA,Bool.and_true,iD]
 | b::c,s,a=>by
  show(J s b && chnS J (s++[b]) (c++[a]))=((J s b && chnS J (s++[b]) c) && J (s++b::c) a);rw[cQj c (s++[b]) a,Bool.and_assoc,bY];rfl
theorem fZf:∀ (k:Nat) (r s:List A),extS J s r k=((ch r k).filter (chnS J s)).map λc=>s++c:=by
 intro k
 induction k with
 | zero =>
  intro r s;rw[extS_zero,aZe];show [s]=[s++[]];rw[bA]
 | succ k i =>
  intro r
  induction r with
  | nil=>intro s;rfl
  | cons a r ir =>
   intro s;show(if J s a=true then extS J (s++[a]) r k else [])++extS J s r (k + 1)=_
   rw[aQx,jv,aM,ir s]
   congr 1
   rw[List.filter_map,cM]
   by_cases h:J s a=true
   ·rw[if_pos h,i r (s++[a])];have e:(chnS J s ∘ λc=>a::c)=chnS J (s++[a]):=funext λc=>by
     show(J s a && chnS J (s++[a]) c)=_;rw[h,iD]
    rw[e];refine d8 λc _=>?_;show s++[a]++c=s++a::c;rw[bY];rfl
   ·rw[if_neg h];have e:(ch r k).filter (chnS J s ∘ λc=>a::c)=[]:=eA.mpr λc _ z=>by
     have z:(J s a && chnS J (s++[a]) c)=true:=z;rw[aI] at z;exact h z.1
    rw[e];rfl
end
def joiG (s:List (List Str)) (x:List Str):Bool:=decide (s.length < 2) || decide (∀ o∈s,meG o x=meG (s.getD 0 []) (s.getD 1 []))
theorem eXk:∀ (n:Nat) (s:List (List Str)),s.length=n + 2->s.Nodup->(∀ o∈s,Srt o)->chnS joiG [] s=(coG s).isSome
 | 0,[a,b],_,nd,O=>by
  have e:(coG [a,b]).isSome=true:=(dJ9 (au _) nd O).mpr ⟨meG a b,λx Z y hy n=>by
   have Y:∀ z,z∈[a,b]->z=a\/z=b:=λz hz=>by simpa using hz
   rcases Y x Z with rfl | rfl <;> rcases Y y hy with rfl | rfl
   ·exact absurd rfl n
   ·rfl
   ·exact cZf (O _ Z) (O _ hy)
   ·exact absurd rfl n⟩
  rw[e];rfl
 | n + 1,s,h,nd,O=>by
  obtain⟨c,x,rfl⟩:∃ c x,s=c++[x]:=⟨s.dropLast,s.getLast (by rintro rfl;cases h),(iR _).symm⟩
  have hc:c.length=n + 2:=by rw[ax] at h;simpa using h
  have L:=(cg.mp nd).1;have Z:x∉c:=λz=>(cg.mp nd).2.2 x z x ak rfl;have sc:∀ o∈c,Srt o:=λo ho=>O o (bh _ ho);have sx:Srt x:=O x (aS _ ak);rw[cQj,eXk n c hc L sc,bZ,fJ,aI,dJ9 (by omega) L sc,dJ9 (by omega) nd O]
  have a0:c.getD 0 []∈c:=by rw[aD,ah (by omega)];exact dQ (by omega)
  have a1:c.getD 1 []∈c:=by rw[aD,ah (by omega)];exact dQ (by omega)
  have U:c.getD 0 []≠c.getD 1 []:=λe=>by
   rw[aD,aD,ah (by omega:0 < c.length),ah (by omega:1 < c.length)] at e
   have:=(ie L).mp (show c[0]=c[1] from e)
   omega
  have jo:joiG c x=true↔∀ o∈c,meG o x=meG (c.getD 0 []) (c.getD 1 []):=by
   unfold joiG;rw[Bool.or_eq_true,decide_eq_true_iff,decide_eq_true_iff];exact⟨λz=>z.resolve_left (by omega),.inr⟩
  rw[jo];constructor
  ·rintro⟨⟨k,hk⟩,hj⟩;have e:=hk _ a0 _ a1 U;rw[e] at hj;refine⟨k,λa i b B G=>?_⟩;rcases aW.mp i with i | i <;> rcases aW.mp B with B | B
   ·exact hk a i b B G
   ·rw[aB.mp B];exact hj a i
   ·rw[aB.mp i,cZf sx (sc b B)];exact hj b B
   ·exact absurd ((aB.mp i).trans (aB.mp B).symm) G
  ·rintro⟨k,hk⟩;have up:∀ a∈c,a∈c++[x]:=λa i=>bh _ i;refine⟨⟨k,λa i b B G=>hk a (up a i) b (up b B) G⟩,λo ho=>?_⟩;rw[hk _ (up _ a0) _ (up _ a1) U];exact hk o (up o ho) x (aS _ ak) λe=>Z (e ▸ ho)
theorem fZg {ts:List (List Str)} (hs:SrtT ts) (he:∀ t∈ts,Srt t) {m:Nat} (m2:2<=m):extS joiG [] ts m=flO ts m:=by
 rw[fZf];unfold flO;rw[show(λc:List (List Str)=>[]++c)=id from funext λc=>bZ c,kX]
 refine List.filter_congr λs h=>?_;obtain⟨h1,h2⟩:=aZ5 h;exact eXk (m - 2) s (by omega) (hs.nodup.sublist h2) λo i=>he o (h2.subset i)
theorem cZg {ts:List (List Str)} (hs:SrtT ts) (he:∀ t∈ts,Srt t) {m:Nat} (m2:2<=m) (ok:List (List Str)->Bool):bZs joiG ok m [([],ts)]=((flO ts m).filter ok).head?:=by
 rw[<- fZg hs he m2];show((wanS joiG ok [] ts (m - 0))++[]).head?=_;rw[bA,gX];rfl
theorem eZb {ts:List (List Str)} (hs:SrtT ts) {w:List Str} {k:Nat} {s l r:List (List Str)} {a:List Str} (ht:(l++a::r).Sublist ts) (hw:w∉s) (h:HT.lexS w a=true):wanS joiG (λc=>decide (w∈c)) (s++[a]) r k=[]:=by
 have p:=hs.sublist ht;have p2:=aU.mp (ff.mp p).2.1;refine dJ6 joiG (w:=w) (λc h=>of_decide_eq_true h) ?_ ?_
 ·intro z;rcases aW.mp z with z | z
  ·exact hw z
  ·rw[aB.mp z,aZn] at h;cases h
 ·intro z
  have:=HT.lexS_as (p2.1 w z)
  rw[this] at h;cases h
abbrev s_law_joins:Stmt:=top 27
theorem sc_law_joins:FnScope ["some", "one", "core"] ["some", "one"] (aQ4 s_law_joins):=fsc
def bQc:SpD:=λds S Q=>∃ (s:List (List Str)) (x:List Str),ds=[.lst (s.map tupS),tupS x]/\s.length<=14/\(∀ o∈s,o.length<=6)/\x.length<=6/\Q (.bl (joiG s x)) S
theorem gXz (l m:List Str):decide (D.lst (l.map D.str)=D.lst (m.map D.str))=decide (l=m):=by
 refine fJ.mpr ?_;rw[decide_eq_true_iff,decide_eq_true_iff];refine⟨λh=>?_,λh=>by rw[h]⟩
 injection h with h
 exact bJ8 (λa b e=>strE.inj e) h
section
variable {P:aC} {w:aH} {K:aq} {mg:Str->Option ae} {base:aO}
theorem cQk (T:Tx K mg "_law_joins" s_law_joins) (B:Bs mg):Df P w K mg base 1 "_law_joins" ["some", "one"] (spU K bQc):=by
 refine aZl T sc_law_joins (λF=>F.binds λ_ _ _ _ _ _=>us2 λ_ _=>rfl) ?_ λf cdv A outer s H E O=>⟨_,(aQ2 (aQw (bJ2 O (aZd rfl B.len (aQ0 (dv 0) aQ1)) aQ5) (aQ3 (aQa e_bl)) aQd)
  (aQ2 (aQ8 (i:=2) sc_law_joins.nd rfl (fQ rfl) (aZa (N':=["name", "some"]) (oc:=none) (b:=false) [0] [] rfl sc_law_joins.nd (λ_ _ _=>aQf ..) (.own (.cap (i:=0) rfl (by decide +kernel) .nil)) (aQi rfl) (aZy (e_ix (dv 0) aQ5)) (cg_name (i:=0)) (λ_ _ _ _ _=>aQe (i:=0) (nd_ ["name", "some"]) rfl (aR rfl) (.inr rfl)) (λ_ _ _ _ _=>aZ2 (by exact(dZf O (dv 0) (e_ix (dv 1) aQ5)))) aQh (λ_ _ _ _ _ _=>aQg rfl (by exact PD.o (dv 0)))))
  (aQ3 (aQa (e_eq O (aZa (N':=["other", "one", "core"]) (oc:=none) (b:=false) [0] [] rfl sc_law_joins.nd (λ_ _ _=>aQf ..) (.own (.cap (i:=1) rfl (by decide +kernel) (.cap (i:=2) rfl (by decide +kernel) .nil))) (aQi rfl) (aZy (dv 0)) (cg_name (i:=0)) (λ_ _ _ _ _=>aQe (i:=0) (nd_ ["other", "one", "core"]) rfl (aR rfl) (.inr rfl)) (λ_ _ _ _ _=>aZ2 (by exact(bQe O (aZa (N':=["name", "one"]) (oc:=none) (b:=false) [0] [] rfl (nd_ ["other", "one", "core"]) (λ_ _ _=>aQf ..) (.own (.cap (i:=1) rfl (by decide +kernel) .nil)) (aQi rfl) (aZy (dv 0)) (cg_name (i:=0)) (λ_ _ _ _ _=>aQe (i:=0) (nd_ ["name", "one"]) rfl (aR rfl) (.inr rfl)) (λ_ _ _ _ _=>aZ2 (by exact(dZf O (dv 0) (dv 1)))) aQh (λ_ _ _ _ _ _=>aQg rfl (by exact PD.o (dv 0)))) (dv 2)))) aQh (λ_ _ _ _ _ _=>aQg rfl (by exact PD.o (dv 0)))) (aQr (b:=false) aQ1)))))),?_⟩
 ·rintro ds S Q ⟨s,x,rfl,_⟩;rfl
 ·rintro ds S Q ⟨s,x,rfl,Z,U,x6,q⟩;refine⟨_,rfl,_,rfl,ite2 (λy=>?_) λy=>?_⟩
  ·have y:((s.map tupS).length:Int) < 2:=of_decide_eq_true y;have e:joiG s x=true:=by
    unfold joiG;rw[decide_eq_true (show s.length < 2 by rw[aj] at y;omega)]
    rfl
   rw[e] at q;exact aQb q
  have y:¬ ((s.map tupS).length:Int) < 2:=λz=>y (decide_eq_true z);obtain⟨a,b,r,rfl⟩:∃ a b r,s=a::b::r:=by
   rw[aj] at y;cases s with
   | nil=>exact absurd (show((0:Nat):Int) < 2 by decide) y
   | cons a s =>
    cases s with
    | nil=>exact absurd (show((1:Nat):Int) < 2 by decide) y
    | cons b s=>exact⟨a,b,s,rfl⟩
  have a6:=U a ak;have b6:=U b (ao _ ak);refine⟨_,_,rfl,aZs (j:=0) rfl,_,rfl,aQn (p:=λn=>decide (n∈b)) (f:=D.str) (λn Y L h=>⟨_,_,rfl,aZs (j:=1) rfl,in_t (neg:=false) (E:=strE) (by decide) rfl h⟩) (λn Y _ L h=>h) (aQ7 (by show 0 + a.length<=_;omega)) ?_⟩
  rw[bZ];refine⟨_,rfl,aQn (p:=λo=>!decide (meG o x=meG a b)) (f:=tupS) (λo G L h=>?_) (λo G _ L h=>h) (aQ7 (by show 0 + (a::b::r).length<=_;omega)) ?_⟩
  ·refine⟨_,rfl,aQn (p:=λn=>decide (n∈x)) (f:=D.str) (λn Y L h=>in_t (neg:=false) (E:=strE) (by decide) rfl h) (λn Y _ L h=>h) (aQ7 (by have:=U o G;show 0 + o.length<=_;omega)) ?_⟩
   rw[bZ];refine⟨(tupE strE).ok 9 _ _ (by decide),_,rfl,?_⟩
   show L (!decide _) S;rw[gXz];exact h
  rw[bZ];refine⟨aQ7 (by decide),by unfold okE;rw[b0];rfl,aQb ?_⟩
  have e:decide (D.lst (((a::b::r).filter λo=>!decide (meG o x=meG a b)).map tupS)=D.lst [])=joiG (a::b::r) x:=by
   refine fJ.mpr ?_;unfold joiG;rw[decide_eq_true_iff,Bool.or_eq_true,decide_eq_true_iff,decide_eq_true_iff];constructor
   ·intro h;injection h with h
    rw[iY,eA] at h;refine .inr λo G=>?_
    have:=h o G
    simpa using this
   ·rintro(h | h)
    ·exact absurd h (by rw[aF,aF];omega)
    ·congr 1
     rw[iY,eA];intro o G
     have:=h o G
     show ¬ (!decide (meG o x=meG a b))=true;rw[decide_eq_true (show meG o x=meG a b from this)]
     exact bo
  show Q (.bl (decide _)) S;rw[e];exact q
end
end Toy
namespace L2
open PySem PySem.Spec PyProof.Rows
section
variable {X:Cx} {K:Fg} {pos:Pos} {k:Nat}
def ckSq (d:D) (S:Sto):Prop:=∃ xs,lsIs S d xs
end
section
variable {X:Cx} {K:Fg} {pos:Pos} {k:Nat}
def cXu (K:Fg):V->List V->Hp->VK->Prop:=λx vs H Q=>∃ (a:Addr) (us:List V) (j:Nat) (y:V) (M:Am) (ds:List D) (d:D),x=.ref a/\vs=[y]/\SqL K H a us/\RepL K M H ds us/\RepV K M H d y/\(ds.all λe=>okE 8 e d)=true/\ds[j]?=some d/\(∀ m,m < j->ds[m]?≠some d)/\j < 10000/\Q (.int j) H
theorem cJs (hu:X.A.units + 10 < bU) (hK:X.K=K:=by rfl):MtR X "list.index" (cXu K):=by
 subst hK;intro pins s σ H x xs v us Q I rx rs h;obtain⟨a,ws,j,y,M,ds,d,rfl,rfl,sq,lu,ry,ok,hj,Y,hs,q⟩:=h;cases rx;obtain⟨u,rfl,ru⟩:=rs.one;obtain⟨i,r,⟨⟨oc,od,dt,sl⟩,n,e,hc,hd,O⟩,hz⟩:=I.list sq;have l1:=lu.length;have l2:=r.length;have jl:j < ds.length:=(bd.mp hj).1;dsimp only at hc hd O;subst hc O;have at':∀ m (hm:m < i.length),∃ c w,ds[m]?=some c/\RepV X.K M H c w/\RelV w i[m]:=λm hm=>by
  obtain⟨c,L,e2⟩:=lu.get' (ah (show m < ws.length by omega))
  obtain⟨u',eu,U⟩:=r.get (ah (show m < ws.length by omega))
  rw[ah hm] at eu;cases eu;exact⟨c,_,L,e2,U⟩
 have un:∀ m B (hm:m < i.length) (G:B < i.length),i[m]=i[B]->ds[B]?=some d->ds[m]?=some d:=λm B hm G ev L=>by
  obtain⟨c,w,e2,c1,r1⟩:=at' m hm;obtain⟨c',w',e3,c2,r2⟩:=at' B G;rw[L] at e3;cases e3;rw[ev] at r1;rw[RelV.inj r2 r1] at c2;rw[e2,uniq I 8 c1 c2 (bK.mp ok c (bw e2))]
 refine jh F.slot_list_index ⟨_,e,rfl⟩ F.entry_list_index (F.args_list_index_2 _ _) (SeqAt.list_indexAt a i.toArray n od sl u (λz=>decide (∃ m,∃ (_:m < i.length),i[m]=z/\ds[m]?=some d)) j (by rw[ar];omega) (by omega) ?_ ?_) ⟨e,λz hz=>?_,⟨.int j,H,I.tok _,⟨_,rfl⟩,q⟩⟩
 ·refine decide_eq_true ⟨j,by omega,?_,hj⟩
  rw[fh]
 ·intro m hm Z;refine decide_eq_false λ⟨B,G,L,e2⟩=>Y m Z ?_;rw[ar] at hm;rw[fh] at L;exact un m B hm G L.symm e2
 ·obtain⟨m,hm,rfl⟩:=Array.mem_iff_getElem.mp hz;rw[ar] at hm;obtain⟨c,w,L,e2,e3⟩:=at' m hm;have h1:=(eq3 I 8 (show X.A.in1.units + 8 < _ by show X.A.units + 1 + 8 < _;omega) e2 ry e3 ru (bK.mp ok c (bw L))).eq
  have h2:decide (∃ B,∃ (_:B < i.length),i[B]=i.toArray[m]'(by rw[ar];exact hm)/\ds[B]?=some d)=decide (c=d):=by
   refine fJ.mpr ?_;rw[decide_eq_true_iff,decide_eq_true_iff];rw[fh];constructor
   ·rintro⟨B,G,e4,e5⟩
    have:=un m B hm G e4.symm e5
    rw[L] at this;exact aK this
   ·rintro rfl;exact⟨m,hm,rfl,L⟩
  rw[h2];rw[fh];exact h1
def dJa:D->List D->Sto->DK->Prop:=λo ds S Q=>∃ (xs:List D) (d:D) (j:Nat),lsIs S o xs/\ds=[d]/\(xs.all λe=>okE 8 e d)=true/\xs[j]?=some d/\(∀ m,m < j->xs[m]?≠some d)/\j < 10000/\Q (.int j) S
theorem cJt:MtD K "list" (cXu K) dJa ckSq:=⟨λF S H d x r h c=>by
 obtain⟨xs,G⟩:=c;obtain⟨a,us,rfl,sq,_⟩:=lsIs.sl r h G;exact .inl ⟨rfl,us,sq⟩,λF S H d ds x vs Q QD r h l q c=>by
 obtain⟨xs,y,j,h1,rfl,ok,U,O,L,q⟩:=q;obtain⟨v,rfl,i⟩:=l.one;obtain⟨a,us,rfl,sq,B⟩:=lsIs.sl r h h1;exact⟨a,us,j,v,_,xs,y,rfl,rfl,sq,B,i,ok,U,O,L,c _ _ _ S (Ext.refl _ _) r (by unfold RepV;rfl) q⟩⟩
theorem dJb {o e:Expr} {to:ED} {t:AD} {apos cpos:Pos} (hr:Room k X.A) (ho:PD K X o to) (ha:PAD K X [e] t) (hK:X.K=K:=by rfl)
  (hbase:cX o "index" X.env (eval o X.env)=eval o X.env:=by rfl)
  (hfew:((bn cpos (am [e] X.env)).all (λx=>!x.1) && (eJ cpos (cV [] X.env)).all (λx=>x.1.isSome)
   && decide (([e]:List Expr).length + ([]:List gj).length + (if ([]:List gj).isEmpty then 0 else 1) < 30))=true:=by rfl)
  (hline:(apos.endLine == cpos.line)=true:=by rfl) (hs:am [e] X.env=(false,eval e X.env)::am [] X.env:=by rfl) (hplain:(bn cpos (am [] X.env)).any (·.1)=false:=by rfl) :
  PD K X (.Call (.Attribute o "index" apos) [e] [] cpos) (dMt dJa ckSq to t):=e_bm cJt d3 PySem.F.slot_list_index PySem.F.type_list_index (cJs (lt64 hr) hK) ho ha hK hbase hfew hline hs hplain
end
end L2
set_option maxHeartbeats 4000000
namespace HT
open PySem PyProof.Rows
theorem fZh (A:aQ) (s:ai) (a:Str) (t:Tok) (c:Str) (u:Tok) (prog:aC) (w:aH) (E:ae->ai->Prop) (Q:ae->ai->Prop) (h:Q (.bool (!ltS c a)) s) :
  ay (az prog w) A (richCompare .LtE (.str a t) (.str c u)) Q E s :=
 (PySem.P.le_str h:ay (az prog w) A (bM .LtE (.str a t) (.str c u)) Q E s)
section
open PySem.SeqAt
open PySem.AutoSeq1 (wpAny_loadPart')
open PySem.MeetsSeq PySem.MeetsSeq2 PySem.MeetsSeq3
theorem bJi (l b:Addr) (items items2:Array ae) (n n2:Nat) (dd dd2:Option Addr) (sl sl2:Array (Option ae)) (ns ms:List Str) (hi:SAre items.toList ns) (hj:SAre items2.toList ms) :
  Meets (cu.«tuple.__le__» ⟨[.ref l,.ref b],[]⟩)
   (λ_ R s=>s.heap.get? l=some { cls:=.type "tuple",dict:=dd,data:=.seq items n,slots:=sl }/\s.heap.get? b=some { cls:=.type "tuple",dict:=dd2,data:=.seq items2 n2,slots:=sl2 } /\
    R (.ok (.ret (.bool (!lexS ms ns)))) s) :=
 .of_wp λprog w A R s h=>by
  obtain⟨hp,g,d,tk,os⟩:=s;obtain⟨hl,hb,h⟩:=h;have f2:=gB;have z1:items.size=ns.length:=by rw[<- hi.len];simp
  have z2:items2.size=ms.length:=by rw[<- hj.len];simp
  wp_walk using bf hl,bf hb,gk _ (λrest b s'=>b.1=none/\s'=⟨hp,g,d,tk,os⟩/\∃ (vs ws:List ae) (B G:List Str),rest=vs.zip ws /\
   SAre vs B/\SAre ws G/\B.length + items2.size=G.length + items.size/\R (.ok (.ret (.bool (!lexS G B)))) ⟨hp,g,d,tk,os⟩) _
  case turn =>
   rintro⟨y,x⟩ rest b s' ⟨Y,rfl,vs,ws,B,G,hz,hvi,hwi,hlen,O⟩;cases hvi with
   | nil=>rw[fT] at hz;cases hz
   | @cons va a _ _ ha hvi' =>
    obtain⟨t,rfl⟩:=ha;cases hwi with
    | nil=>rw[b0] at hz;cases hz
    | @cons vc c _ _ hc Z =>
     obtain⟨u,rfl⟩:=hc;rw[cK] at hz;injection hz with hyx U
     injection hyx with hy hx
     subst hy hx;rw[lexS_cons] at O;simp only[aF] at hlen;obtain⟨e,he,L⟩:=dZ3 A.in1 ⟨hp,g,d,tk,os⟩ a t c u;refine ad (he prog w _ _ ?_);cases e with
     | true =>
      rw[if_pos (L.mp rfl).symm] at O
      wp_walk
      exact⟨rfl,rfl,_,_,_,_,U,hvi',Z,by lia,O⟩
     | false =>
      rw[if_neg (λq=>absurd (L.mpr q.symm) bo)] at O;have hri:=fZh A.in1 ⟨hp,g,d,tk,os⟩ a t c u prog w
      wp_walk using hri
      exact⟨_,rfl,by simpa using O⟩
  case fin =>
   rintro⟨b1,b2⟩ s' ⟨Y,rfl,vs,ws,B,G,hz,hvi,hwi,hlen,O⟩;simp only at Y;subst Y;have hv:(!lexS G B)=decide (items.size<=items2.size):=by
    cases hvi with
    | nil =>
     cases hwi with
     | nil =>
      simp only[dr] at hlen;rw[bQ6];exact(decide_eq_true (by lia)).symm
     | cons hc hw =>
      simp only[dr,aF] at hlen;rw[lexS_cons_nil];exact(decide_eq_true (by lia)).symm
    | cons ha hv =>
     cases hwi with
     | nil =>
      simp only[dr,aF] at hlen;rw[lexS_nil_cons];exact(decide_eq_false (by lia)).symm
     | cons hc hw =>
      rw[cK] at hz;cases hz
   rw[hv] at O
   wp_walk
   exact⟨_,rfl,by simpa [fq] using O⟩
  case h =>
   exact⟨rfl,rfl,items.toList,items2.toList,ns,ms,rfl,hi,hj,by lia,h⟩
end
section
variable {prog:aC} {w:aH} {A:aQ} {E:ae->ai->Prop} {s:ai}
theorem le_tupStrs {l b:Addr} {items items2:Array ae} {ns ms:List Str} {Q:ae->ai->Prop} (hl:iF s.heap l items) (hb:iF s.heap b items2) (hi:SAre items.toList ns) (hj:SAre items2.toList ms)
  (hu:A.units < bU) (h:Q (.bool (!lexS ms ns)) s):ay (az prog w) A (bM .LtE (.ref l) (.ref b)) Q E s:=by
 obtain⟨⟨cls,dd,data,sl⟩,L,O,n,hd⟩:=id hl;obtain⟨⟨U,G,data2,B⟩,i,y,Y,hd2⟩:=id hb;simp only at O hd y hd2;subst O hd y hd2;exact fE (op:=.LtE) ⟨_,L,rfl⟩ ⟨_,i,rfl⟩ PySem.F.slot_tuple_le PySem.F.entry_tuple_le (PySem.F.args_tuple_le_2 _ _) (bJi l b items items2 n Y dd G sl B ns ms hi hj)
  ⟨L,i,show gF (!lexS ms ns)≠f6/\Q (.bool (!lexS ms ns)) s from⟨(λx=>nomatch x),h⟩⟩ hu
end
end HT
namespace L2
open PySem PySem.Spec PyProof.Rows
section
variable {X:Cx} {K:Fg} {pos:Pos} {k:Nat}
def rLeT (K:Fg):R2:=λx y H Q=>∃ d e,dT K dS H x d/\dT K dS H y e/\Q (.bl (!HT.lexS e d)) H
theorem gZe (hu:X.A.units < bU) (hK:X.K=K:=by rfl):OpR X (bM .LtE) (rLeT K):=by
 subst hK;intro pins s σ H x y v u Q I rx ry h;obtain⟨d,e,⟨a,xs,rfl,ha,O⟩,⟨b,ys,rfl,Z,L⟩,q⟩:=h;cases rx;cases ry;obtain⟨Y,G,U,_⟩:=I.tuple ha;obtain⟨i,B,p2,_⟩:=I.tuple Z;exact HT.le_tupStrs U p2 (aJ4 O G) (aJ4 L B) hu ⟨.bl (!HT.lexS e d),H,I,rfl,q⟩
def leTD:R2D:=λd e S Q=>∃ a b:List Str,d=tupS a/\e=tupS b/\Q (.bl (!HT.lexS b a)) S
theorem gZf:OpD K (rLeT K) leTD:=by
 intro F S H d e x y Q QD r hd he h c;obtain⟨a,b,rfl,rfl,q⟩:=h;have one:∀ {t:List Str} {v:V},RepV K (mt S F) H (tupS t) v->dT K dS H v t:=λ{t v} h=>by
  unfold tupS RepV at h;obtain⟨p,us,rfl,tt,l⟩:=h;exact⟨p,us,rfl,tt.sq,aJw l⟩
 exact⟨a,b,one hd,one he,c.bl r q⟩
theorem gZg {a b:Expr} {ta tb:ED} (hr:Room k X.A) (ha:PD K X a ta) (hb:PD K X b tb) (hK:X.K=K:=by rfl):PTD K X (.Compare a [.LtE] [b] pos) (aZ9 (dOp leTD ta tb)):=aJf (gZe (lt10 (n:=0) hr) hK) gZf ha hb (nomark _)
end
end L2
set_option maxHeartbeats 1000000
namespace Toy
open PySem L2
abbrev s_law_first:Stmt:=top 28
theorem sc_law_first:FnScope ["sets", "many", "wanted", "pile", "some", "lacks", "begin", "further"] ["sets", "many", "wanted"] (aQ4 s_law_first):=fsc
theorem if_tst {tst:TD} {A B:SD} {E:EndsD} {Γ:Gm} {S:Sto} (b:Bool) (h:∀ Q:Bool->Sto->Prop,Q b S->tst Γ S Q) (ha:b=true->A E Γ S) (hb:b=false->B E Γ S):dIfS tst A B E Γ S:=h _ (by
 cases b with
 | true=>rw[if_pos rfl];exact ha rfl
 | false=>rw[if_neg (by simp)];exact hb rfl)
theorem or_t {t u:TD} {Γ:Gm} {S:Sto} {Q:Bool->Sto->Prop} (h:∀ Q':Bool->Sto->Prop,Q' true S->t Γ S Q') (q:Q true S):dOr t u Γ S Q:=h _ (by rw[if_pos rfl];exact q)
theorem or_f {t u:TD} {Γ:Gm} {S:Sto} {Q:Bool->Sto->Prop} (h:∀ Q':Bool->Sto->Prop,Q' false S->t Γ S Q') (q:u Γ S Q):dOr t u Γ S Q:=h _ (by rw[if_neg (by decide)];exact q)
theorem dJc (xs:List D) (b:Nat):cutD xs (some (b:Int)) none=xs.drop b:=by
 cases b with
 | zero=>exact cX8 xs (by rfl) (by rfl)
 | succ b=>exact cXr xs b
def opS:Option (List Str)->D
 | none=>.non
 | some w=>tupS w
def okW:Option (List Str)->List (List Str)->Bool
 | none=>λ_=>true
 | some w=>λc=>decide (w∈c)
def eZc:Option (List Str)->List (List Str)->Bool
 | none=>λ_=>false
 | some w=>λs=>!decide (w∈s)
def goW (ow:Option (List Str)) (s:List (List Str)) (a:List Str):Bool:=!eZc ow s || match ow with
 | none=>true
 | some w=>!HT.lexS w a
theorem fZi (ow:Option (List Str)) (s:List (List Str)):okW ow s=!eZc ow s:=by
 cases ow with
 | none=>rfl
 | some w=>exact(Bool.not_not _).symm
def ndD (z:List (List Str) × List (List Str)):D:=.lst (z.1.map tupS)
theorem bJj {A:Type} (J:List A->A->Bool) (go:A->Bool) (s:List A):∀ r:List A,(kidS J go s r).map (·.1)=((r.filter go).filter (J s)).map λa=>s++[a]
 | []=>rfl
 | a::r=>by
  have y:=bJj J go s r;show(if go a=true/\J s a=true then (s++[a],r)::kidS J go s r else kidS J go s r).map _=_
  cases hg:go a with
  | false =>
   rw[if_neg (λz=>by cases z.1),y,cQ,if_neg (by rw[hg];exact bo)]
  | true =>
   rw[cQ,if_pos hg,cQ]
   by_cases i:J s a=true
   ·rw[if_pos ⟨rfl,i⟩,if_pos i,a9,a9,y]
   ·rw[if_neg (λz=>i z.2),if_neg i,y]
theorem cXv {A:Type} (J:List A->A->Bool) (go:A->Bool) (s:List A):∀ (r:List A) (z:List A × List A),z∈kidS J go s r->∃ l a,r=l++a::z.2/\z.1=s++[a]
 | a::r,z,h=>by
  have h:z∈(if go a=true/\J s a=true then (s++[a],r)::kidS J go s r else kidS J go s r):=h
  have i:z∈kidS J go s r->∃ l b,a::r=l++b::z.2/\z.1=s++[b]:=λh=>by
   obtain⟨l,b,y,e2⟩:=cXv J go s r z h;exact⟨a::l,b,by rw[y];rfl,e2⟩
  split at h
  ·rcases aA.mp h with rfl | h
   ·exact⟨[],a,rfl,rfl⟩
   ·exact i h
  ·exact i h
structure NdS (ts:List (List Str)) (m:Nat) (z:List (List Str) × List (List Str)):Prop where
 sub:(z.1++z.2).Sublist ts
 len:z.1.length<=m
 at0:z.1=[]->z.2=ts
 at1:∀ l a,z.1=l++[a]->∃ p,ts=p++a::z.2
def aZr:SpD:=λds S Q=>∃ (ts:List (List Str)) (m:Nat) (ow:Option (List Str)),ds=[.lst (ts.map tupS),.int m,opS ow]/\Kpt ts/\2<=m/\m<=6/\(∀ w,ow=some w->w.length<=6)/\Q (opF ((flO ts m).filter (okW ow)).head?) S
section
variable {P:aC} {w:aH} {K:aq} {mg:Str->Option ae} {base:aO}
theorem cQl (T:Tx K mg "_law_first" s_law_first) (B:Bs mg) (d_law_joins:Df P w K mg base 1 "_law_joins" ["some", "one"] (spU K bQc)):Df P w K mg base 2 "_law_first" ["sets", "many", "wanted"] (spU K aZr):=by
 refine aZl T sc_law_first (λF=>F.binds λ_ _ _ _ _ _=>us3 λ_ _ _=>rfl) ?_ λf cdv A outer s H E U=>⟨_,(aQ2 (aQ8 (i:=3) sc_law_first.nd rfl (aR rfl) (aQr (b:=true) (aQ0 (aQr (b:=false) aQ1) aQ1)))
  (aQ2 (bQm cO (bQe U (dv 3) (aQr (b:=false) aQ1)) (aQ2 (aQ8 (i:=4) sc_law_first.nd rfl (fQ rfl) (fQp (dv 3)))
  (aQ2 (aQ8 (i:=5) sc_law_first.nd rfl (fQ rfl) (cZ5 (cX6 U (dv 2) aJ5) (dZl (gX7 U (dv 2) (dv 4)))))
  (aQ2 (aQw (PWD.pt (bXc (aJ8 U (aZd rfl B.len (aQ0 (dv 4) aQ1)) (dv 1)) (bZ8 (aXa (aZh (dv 5)))))) (aQ3 (aQa (aZi rfl B.tuple (aQ0 (dv 4) aQ1)))) aQd)
  (aQ3 (aQw (bJ2 U (aZd rfl B.len (aQ0 (dv 4) aQ1)) (dv 1)) (aQ2 (aQ8 (i:=6) sc_law_first.nd rfl (aR rfl) aQ5)
  (aQ2 (aQw (bQe U (dv 4) (aQr (b:=false) aQ1)) (aQ3 (aQ8 (i:=6) sc_law_first.nd rfl (aR rfl) (aZ0 (k:=false) (dJb U (dv 0) (aQ0 (e_ix (dv 4) (eQi aQ5)) aQ1)) aQ5))) aQd)
  (aQ2 (aXj (i:=7) rfl (aR rfl) (N':=["one", "lacks", "wanted"]) (oc:=none) (b:=false) [0] [] rfl sc_law_first.nd (λ_ _ _=>aQf ..) (.own (.cap (i:=5) rfl (by decide +kernel) (.cap (i:=2) rfl (by decide +kernel) .nil))) (aQi rfl) (aZy (e_sl (b:=false) (dv 0) (aX4 (dv 6)) aX3)) (cg_name (i:=0)) (λ_ _ _ _ _=>aQe (i:=0) (nd_ ["one", "lacks", "wanted"]) rfl (aR rfl) (.inr rfl)) (λ_ _ _ _ _=>aZ2 (by exact(PWD.pt (cZ6 (aXa (aZh (dv 1))) (bZ9 (gZg U (dv 0) (dv 2))))))) aQh (λ_ _ _ _ _ _=>aQg rfl (by exact PD.o (dv 0))))
  (aQ3 (aXi (cXg (dv 3) (aQ0 (aZa (N':=["one", "some"]) (oc:=none) (b:=true) [0] [] rfl sc_law_first.nd (λ_ _ _=>aQf ..) (.own (.cap (i:=4) rfl (by decide +kernel) .nil)) (aQi rfl) (aZy (e_rv (b:=false) (dv 7))) (cg_name (i:=0)) (λ_ _ _ _ _=>aQe (i:=0) (nd_ ["one", "some"]) rfl (aR rfl) (.inr rfl)) (λ_ _ _ _ _=>aZ2 (by exact(aZh (aQ6 d_law_joins U rfl (aQ0 (dv 1) (aQ0 (dv 0) aQ1)))))) aQh (λ_ _ _ _ _ _=>aQg rfl (by exact PD.o (aZ0 (k:=false) (dv 1) (aQr (b:=false) (aQ0 (dv 0) aQ1)))))) aQ1))))))) aQd))))))
  (aQ3 (aQa aJ5)))),?_⟩
 ·rintro ds S Q ⟨ts,m,ow,rfl,_⟩;rfl
 ·rintro ds S Q ⟨ts,m,ow,rfl,kp,m2,m6,w6,q⟩;have l14:=kp.len;rw[<- cZg kp.srt (λt Z=>(kp.each t Z).1) m2] at q;generalize hR:bZs joiG (okW ow) m [([],ts)]=R at q;refine⟨aQ7 (by decide),aQ7 (by show 1<=9999;decide),λpp hpp=>?_⟩
  have keep:∀ (o:DO) b o',S b=some o'->supd S pp o b=some o':=λo b o' e=>(supd_ne (λz=>by rw[z,hpp] at e;cases e)).trans e
  refine⟨λn Γ S'=>∃ (p:List (List (List Str) × List (List Str))) (x4 x5 x6 x7:Option D),Γ=[some (.lst (ts.map tupS)),some (.int m),some (opS ow),some (.ref pp),x4,x5,x6,x7]/\S' pp=some (.lst (p.map ndD))/\(∀ b o,S b=some o->S' b=some o)/\(∀ z∈p,NdS ts m z)/\lowS p 106/\bZs joiG (okW ow) m p=R/\n=wgtS p,
   ⟨_,[([],ts)],none,none,none,none,rfl,supd_same,keep _,λz O=>?_,?_,hR,rfl⟩,?_⟩
  ·rw[aB.mp O];exact⟨fk _,bL _,λ_=>rfl,λl a e=>by cases l <;> cases e⟩
  ·intro i hi;have hi:i < 1:=hi;obtain rfl:i=0:=by omega
   show ts.length * (ts.length + 1) / 2 + 1 + 0<=106
   have:ts.length * (ts.length + 1)<=14 * 15:=Nat.mul_le_mul l14 (by omega)
   omega
  rintro n Γ S' ⟨p,x4,x5,x6,x7,rfl,G,hk,hn,hl,Z,rfl⟩;refine⟨aQ7 (by decide),_,[],G,rfl,by unfold okEs;rw[b0];rfl,_,rfl,?_⟩
  rcases List.eq_nil_or_concat p with rfl | ⟨y,⟨s,r⟩,rfl⟩
  ·rw[if_neg (λz=>by cases z)]
   have e:none=R:=Z;subst e;exact aX6 hk q
  rw[List.concat_eq_append] at *
  rw[if_pos (by rw[aM];show(!decide (_++[_]=[]))=true;rw[decide_eq_false (by simp)];rfl)]
  have nd:=hn (s,r) (aS _ ak);have sub:=nd.sub;have sl:=nd.len;dsimp only at sub sl;have hin:∀ x,x∈s++r->x∈ts:=λx hx=>sub.subset hx;have s14:s.length<=14:=by have:=(gC s r).trans sub;have:=this.length_le;omega
  have r14:r.length<=14:=by have:=(dM s r).trans sub;have:=this.length_le;omega
  have e6:∀ x,x∈s++r->x.length<=6:=λx hx=>(kp.each x (hin x hx)).2;have sn:s.Nodup:=kp.srt.nodup.sublist ((gC s r).trans sub);have w2:wgtS (y++[(s,r)])=wgtS y + 2 ^ r.length:=by rw[bZr];rfl
  have w0:0 < 2 ^ r.length:=Nat.pow_pos (by decide)
  refine⟨⟨_,G⟩,_,ndD (s,r),G,by rw[aM];simp,?_⟩
  have h2:supd S' pp (.lst ((y++[(s,r)]).map ndD).dropLast) pp=some (.lst (y.map ndD)):=by
   rw[supd_same,aM];simp
  have L:∀ b o,S b=some o->supd S' pp (.lst ((y++[(s,r)]).map ndD).dropLast) b=some o:=λb o e=>(supd_ne (λz=>by rw[z,hpp] at e;cases e)).trans (hk b o e)
  generalize supd S' pp (.lst ((y++[(s,r)]).map ndD).dropLast)=S2 at h2 L;have lk:∀ (Q':DK),Q' (.bl (eZc ow s)) S2->fQb (dOp (isD true) (dVar 2) (dC D.non)) (dOp (inD true) (dVar 2) (dVar 4)) [some (.lst (ts.map tupS)),some (.int m),some (opS ow),some (.ref pp),some (ndD (s,r)),x5,x6,x7] S2 Q':=by
   intro Q' h;cases ow with
   | none=>refine⟨_,rfl,?_⟩;rw[if_neg (by decide)];exact h
   | some w=>refine⟨_,rfl,?_⟩;rw[if_pos rfl];exact in_e (neg:=true) (E:=setE) (by decide) rfl h
  refine lk _ ?_;have ol:=fZi ow s;generalize hlb:eZc ow s=lb at ol;have ln:((s.map tupS).length:Int)=(s.length:Int):=by rw[aj]
  refine if_tst (tst:=dAnd (aZ9 (dOp (eqD false) (dCB lenD (aQt (dVar 4) dNil)) (dVar 1))) (dNot (dTru (dVar 5)))) (A:=dRet (dCB tupD (aQt (dVar 4) dNil))) (B:=bJ3) (Γ:=[some (.lst (ts.map tupS)),some (.int m),some (opS ow),some (.ref pp),some (ndD (s,r)),some (.bl lb),x6,x7]) (decide (s.length=m) && !lb) (λQ' h=>⟨_,rfl,rfl,_,rfl,?_⟩) (λY=>?_) λY=>?_
  ·have e:decide (D.int ((s.map tupS).length:Int)=D.int (m:Int))=decide (s.length=m):=by
    refine fJ.mpr ?_;rw[decide_eq_true_iff,decide_eq_true_iff,ln];exact⟨λh=>by injection h with h;omega,λh=>by rw[h]⟩
   show if decide (D.int ((s.map tupS).length:Int)=D.int (m:Int))=true then _ else _
   rw[e];cases hd:decide (s.length=m) with
   | false=>rw[if_neg bo];rw[hd] at h;exact h
   | true=>rw[if_pos rfl];rw[hd] at h;exact h
  ·rw[aI,decide_eq_true_iff] at Y;have e:=cJq (J:=joiG) (p:=y) (r:=r) Y.1 (ol.trans Y.2);rw[e] at Z;subst Z;exact⟨_,rfl,aX6 L q⟩
  refine if_tst (tst:=aZ9 (dOp ltD (dCB lenD (aQt (dVar 4) dNil)) (dVar 1))) (B:=bJ3) (Γ:=[some (.lst (ts.map tupS)),some (.int m),some (opS ow),some (.ref pp),some (ndD (s,r)),some (.bl lb),x6,x7]) (decide (s.length < m)) (λQ' h=>⟨_,rfl,_,rfl,?_⟩) (λhc=>?_) λhc=>?_
  ·show Q' (decide (((s.map tupS).length:Int) < (m:Int))) S2;rw[show decide (((s.map tupS).length:Int) < (m:Int))=decide (s.length < m) from decide_eq_decide.mpr (by rw[ln];omega)]
   exact h
  case refine_3 =>
   have hc:=of_decide_eq_false hc;have sm:s.length=m:=by omega
   have o0:okW ow s=false:=by
    rw[ol];rw[decide_eq_true sm,iD] at Y;exact Y
   rw[cJr joiG sm o0] at Z;exact⟨wgtS y,by omega,y,_,_,_,_,rfl,h2,L,λz O=>hn z (bh _ O),λi hi=>by
    have:=hl i (by rw[ax];omega)
    rw[jR hi] at this;exact this,Z,rfl⟩
  have hc:=of_decide_eq_true hc;have bg:∀ E':EndsD,(∀ b:Nat,ts.drop b=r->E'.nx [some (.lst (ts.map tupS)),some (.int m),some (opS ow),some (.ref pp),some (ndD (s,r)),some (.bl lb),some (.int (b:Nat)),x7] S2)->dIfS (aZ9 (dOp (eqD true) (dVar 4) (dLst false dNil))) (dAsg (dOp (addD false) (dMt dJa ckSq (dVar 0) (aQt (dOp ixD (dVar 4) (dUn (unD λi=>D.int (-i)) (dC (D.int 1)))) dNil)) (dC (D.int 1))) (aQu 6)) bJ3 E' [some (.lst (ts.map tupS)),some (.int m),some (opS ow),some (.ref pp),some (ndD (s,r)),some (.bl lb),some (.int 0),x7] S2:=by
   intro E' main;refine if_tst (tst:=aZ9 (dOp (eqD true) (dVar 4) (dLst false dNil))) (B:=bJ3) (Γ:=[some (.lst (ts.map tupS)),some (.int m),some (opS ow),some (.ref pp),some (ndD (s,r)),some (.bl lb),some (.int 0),x7]) (!decide (s=[])) (λQ' h=>⟨aQ7 (by decide),by show okE 9 (D.lst (s.map tupS)) (D.lst [])=true;unfold okE;rw[b0];rfl,_,rfl,?_⟩) (λhs=>?_) λhs=>?_
   ·show Q' (!decide (D.lst (s.map tupS)=D.lst [])) S2;rw[show decide (D.lst (s.map tupS)=D.lst [])=decide (s=[]) from decide_eq_decide.mpr ⟨λh=>by injection h with h;exact iY.mp h,λh=>by rw[h];rfl⟩]
    exact h
   ·obtain⟨l,a,rfl⟩:∃ l a,s=l++[a]:=by
     rcases List.eq_nil_or_concat s with rfl | ⟨l,a,rfl⟩
     ·cases hs
     ·exact⟨l,a,by rw[List.concat_eq_append]⟩
    obtain⟨pr,ep⟩:=nd.at1 l a rfl;have hpr:pr.length < ts.length:=by rw[ep,ax,aF];omega
    have nn:=kp.srt.nodup;refine⟨⟨_,rfl⟩,_,_,rfl,by rw[aM];exact dJu _ _,ts.map tupS,tupS a,pr.length,rfl,rfl,?_,?_,λj hj e=>?_,by omega,?_⟩
    ·rw[hU];exact bK.mpr λx _=>setE.ok 8 x a (by decide)
    ·rw[ep,aM,eK (by rw[aj];exact au _),aj,i6];rfl
    ·rw[br,fC] at e;obtain⟨x,hx,e⟩:=e;have e:=eQx _ _ e;subst e;rw[ep,eQ hj] at hx;rw[ep] at nn;exact(cg.mp nn).2.2 x (bw hx) x ak rfl
    ·exact main (pr.length + 1) (by rw[ep,List.drop_append,er (by omega)];simp)
   ·have e:s=[]:=by
     rw[Bool.not_eq_false',decide_eq_true_iff] at hs;exact hs
    exact main 0 (by rw[fy];exact(nd.at0 e).symm)
  refine bg _ λb Y=>?_;have go1:∀ a∈r,∀ (Q':Bool->Sto->Prop),Q' (goW ow s a) S2->dOr (dNot (dTru (dVar 1))) (aZ9 (dOp leTD (dVar 0) (dVar 2))) [some (tupS a),some (.bl lb),some (opS ow)] S2 Q':=λa _ Q' h=>by
   unfold goW at h;rw[hlb] at h;cases lb with
   | false=>exact or_t (λ_ z=>z) h
   | true =>
    cases ow with
    | none=>cases hlb
    | some w=>exact or_f (λ_ z=>z) ⟨a,w,rfl,rfl,_,rfl,h⟩
  refine⟨_,rfl,_,rfl,_,?_,aQn (p:=goW ow s) (f:=tupS) go1 (λa _ _ Q' h=>h) (aQ7 (by show 0 + r.length<=_;omega)) ?_⟩
  ·rw[dJc,<- List.map_drop,Y];rfl
  rw[bZ];have fl:(r.filter (goW ow s)).length<=14:=bc (dh _ _) r14;refine⟨⟨_,h2⟩,_,rfl,_,?_,aQn (enc:=tupS) (p:=joiG s) (f:=λa=>D.lst ((s++[a]).map tupS)) (λa ha Q' h=>?_) (λa ha _ Q' h=>?_) (xs:=(r.filter (goW ow s)).reverse) (aQ7 (by show 0 + _<=_;rw[d7];omega)) ?_⟩
  ·rw[<- ix];rfl
  ·have ha:a∈r:=(cb.mp (List.mem_reverse.mp ha)).1;exact⟨s,a,rfl,s14,λo ho=>e6 o (bh _ ho),e6 a (aS _ ha),h⟩
  ·refine⟨aQ7 (by show 1<=9999;decide),_,_,rfl,rfl,aQ7 (by rw[aj];show s.length + 1<=_;omega),?_⟩
   rw[aM] at h;exact h
  rw[bZ];intro r' hr';have hrp:r'≠pp:=by rintro rfl;rw[h2] at hr';cases hr'
  have ek:(y.map ndD)++((r.filter (goW ow s)).reverse.filter (joiG s)).map (λa=>D.lst ((s++[a]).map tupS))=(y++(kidS joiG (goW ow s) s r).reverse).map ndD:=by
   rw[aM,ix]
   congr 1
   rw[List.filter_reverse,ix]
   congr 1
   have:=bJj joiG (goW ow s) s r
   have:=congrArg (List.map λl=>D.lst (l.map tupS)) this
   rw[cM,cM] at this;exact this.symm
  have kl:(kidS joiG (goW ow s) s r).length<=14:=by
   have:=congrArg gK (bJj joiG (goW ow s) s r)
   rw[aj,aj] at this;rw[this];exact bc (dh _ _) fl
  have l0:y.length<=106:=by have:=eZa hl;rw[ax] at this;omega
  have hsk:∀ l a r',r=l++a::r'->goW ow s a=false->joiG s a=true->wanS joiG (okW ow) (s++[a]) r' (m - s.length - 1)=[]:=λl a r' e g _=>by
   unfold goW at g;rw[Bool.or_eq_false_iff] at g;cases ow with
   | none=>exact absurd g.2 (by simp)
   | some w =>
    have hw:w∉s:=λz=>by
     have g1:(!!decide (w∈s))=false:=g.1;rw[Bool.not_not,decide_eq_true z] at g1;cases g1
    exact eZb kp.srt (l:=l) (r:=r') (by rw[<- e];exact(dM s r).trans sub) hw (by simpa using g.2)
  refine⟨_,_,by rw[supd_ne (bj hrp)];exact h2,supd_same,aQ7 (by rw[aj,aj];have:=dh (joiG s) (r.filter (goW ow s)).reverse;rw[d7] at this;omega),?_⟩
  rw[ek];have w3:=cXt joiG (goW ow s) s r;refine⟨wgtS (y++(kidS joiG (goW ow s) s r).reverse),by rw[bZr,eZ9];omega,_,_,_,_,_,rfl,supd_same,λb' o e=>?_,λz O=>?_,dJ7 joiG _ hl,(dJ8 joiG (goW ow s) hc hsk).symm.trans Z,rfl⟩
  ·rw[supd_ne (by rintro rfl;rw[hpp] at e;cases e),supd_ne (by rintro rfl;rw[L b' o e] at hr';cases hr')]
   exact L b' o e
  ·rcases aW.mp O with O | O
   ·exact hn z (bh _ O)
   ·obtain⟨l,a,e1,e2⟩:=cXv joiG (goW ow s) s r z (List.mem_reverse.mp O);obtain⟨z1,z2⟩:=z;dsimp only at e1 e2;subst e2;refine⟨?_,by show(s++[a]).length<=m;rw[ax];show s.length + 1<=m;omega,λe=>absurd (congrArg gK e) (by show(s++[a]).length≠0;rw[ax];show s.length + 1≠0;omega),λl' a' e=>?_⟩
    ·refine List.Sublist.trans ?_ sub;rw[bY];refine(fk s).append ?_;rw[e1];exact dM l ([a]++z2)
    ·have e:=List.append_inj_right' e rfl;cases e;exact⟨ts.take b++l,by rw[bY,<- e1,<- Y,eO]⟩
end
end Toy
namespace L2
open PySem PySem.Spec PyProof.Rows
section
variable {prog:aC} {w:aH} {A:aQ} {E:ae->ai->Prop} {s:ai} {z ti to j1 j2 t1 t2:Addr} {m:Nat} {us vs:Array ae} {p q:ae}
theorem fZj {u v:ae} {R:ae->ai->Prop} (ap:ZipApart z ti to j1 j2 t1 t2) (g:iZ s.heap z ti to .none) (gi:fo s.heap ti (.ref j1) (.ref j2)) (go:fo s.heap to p q)
  (e1:s.heap.IsTupleIter j1 t1 m) (e2:s.heap.IsTupleIter j2 t2 m) (b1:s.heap.IsTuple t1 us) (b2:s.heap.IsTuple t2 vs) (hu:us[m]?=some u) (hv:vs[m]?=some v)
  (k:∀ h',iZ h' z ti to (eG s.heap.objs.size)->fo h' to u v->h'.IsTupleIter j1 t1 (m + 1)->h'.IsTupleIter j2 t2 (m + 1)->fo h' s.heap.objs.size u v ->
   (∀ c o,c≠z->c≠to->c≠j1->c≠j2->s.heap.get? c=some o->h'.get? c=some o)->R (.ref s.heap.objs.size) { s with heap:=h' }) :
  ay (az prog w) A (cu.«zip.__next__» ⟨[.ref z],[]⟩) (λf s'=>∃ y,f=.done (.ret y)/\R y s') E s:=by
 refine ad (m:=field (.ref z) 2) (cw g rfl (x:=.bool false) rfl (ad (m:=field (.ref z) 3) (cw g rfl (x:=.ref ti) rfl (ad (bR gi rfl ?_)))));refine ad (m:=dlQ (.ref z)) ?_;unfold dlQ;refine ad (cw g rfl (x:=.none) rfl (af ?_));simp only[if_true];refine ad (fD (ad (cw g rfl (x:=.ref to) rfl (ad (bG g (by simp) λha ga sa=>?_)))))
 have ga':iZ ha z ti to .ellipsis:=ga;refine ad ?_;simp only[List.zipIdx_cons,List.zipIdx_nil,d5,jp];refine ad (ad (iE (ad (m:=cH (.ref j1)) (bXx (e1.extBut sa.extBut ap.i1z) (b1.extBut sa.extBut ap.l1z) hu λhb eb i=>af ?_))));have ob:fo hb to p q:=i.extBut _ _ ap.TOi1 (sa.extBut _ _ ap.TOz go);refine ad (bR ob rfl (ad (iL ob λhc oc sc=>ad (f7 (af ?_)))));have Z:fo hc to u q:=oc;refine ad (ad (iE (ad (m:=cH (.ref j2)) (bXx (((e2.extBut sa.extBut ap.i2z).extBut i.extBut ap.i12.symm).extBut sc.extBut ap.TOi2.symm) (((b2.extBut sa.extBut ap.l2z).extBut i.extBut ap.l2i1).extBut sc.extBut ap.l2TO) hv λhd ed sd=>af ?_))));have od:fo hd to u q:=sd.extBut _ _ ap.TOi2 Z;refine ad (bR od rfl (ad (iL od λhe oe B=>ad (f7 (af (af ?_))))));have G:fo he to u v:=oe;refine ad (bR G rfl (ad (wpAny_newTuple ?_)));have size:he.objs.size=s.heap.objs.size:=B.1.trans (sd.1.trans (sc.1.trans (i.1.trans sa.1)));have ge:iZ he z ti to .ellipsis:=B.extBut _ _ ap.TOz.symm (sd.extBut _ _ ap.i2z.symm (sc.extBut _ _ ap.TOz.symm (i.extBut _ _ ap.i1z.symm ga')));have stay:∀ c o,c≠z->c≠to->c≠j1->c≠j2->s.heap.get? c=some o->he.get? c=some o:=λc o U O n3 n4 x=>B.extBut _ _ O (sd.extBut _ _ n4 (sc.extBut _ _ O (i.extBut _ _ n3 (sa.extBut _ _ U x))));have f1:he.IsTupleIter j1 t1 (m + 1):=((eb.extBut sc.extBut ap.TOi1.symm).extBut sd.extBut ap.i12).extBut B.extBut ap.TOi1.symm;have f2:he.IsTupleIter j2 t2 (m + 1):=ed.extBut B.extBut ap.TOi2.symm;have zl:z < he.objs.size:=aw ge;refine ad (m:=gw (.ref z) (.ref he.objs.size)) ?_;unfold gw;have gf:iZ (he.push { cls:=.type "tuple",data:=.seq #[u,v] }) z ti to .ellipsis:=ag _ ge;refine ad (bG gf (by simp) λhg gg sg=>?_)
 have gg':iZ hg z ti to (eG he.objs.size):=gg;refine bG gg' (by simp) λY gh sh=>?_
 have L:iZ Y z ti to (eG he.objs.size):=gh;have lift:∀ c o,c≠z->he.get? c=some o->Y.get? c=some o:=λc o n x=>sh.extBut _ _ n (sg.extBut _ _ n (ag _ x));have new:fo Y he.objs.size u v:=sh.extBut _ _ (dD zl) (sg.extBut _ _ (dD zl) (av _ rfl));rw[size] at L new;refine af ⟨_,rfl,?_⟩;show R (.ref he.objs.size) _;rw[size];exact k Y L (lift _ _ ap.TOz G) (f1.at λo x=>lift _ o ap.i1z x) (f2.at λo x=>lift _ o ap.i2z x) new λc o U O n3 n4 x=>lift c o U (stay c o U O n3 n4 x)
theorem gZh {R:Fin->ai->Prop} (hh:A.handled=none) (ap:ZipApart z ti to j1 j2 t1 t2) (g:iZ s.heap z ti to .none) (gi:fo s.heap ti (.ref j1) (.ref j2)) (go:fo s.heap to p q)
  (e1:s.heap.IsTupleIter j1 t1 m) (e2:s.heap.IsTupleIter j2 t2 m) (b1:s.heap.IsTuple t1 us) (b2:s.heap.IsTuple t2 vs) (no:us[m]?=none\/vs[m]?=none)
  (k:∀ h' e,(∀ c o,c≠z->c≠to->c≠j1->c≠j2->s.heap.get? c=some o->h'.get? c=some o)->(∃ o,h'.get? e=some o/\o.cls=.type "StopIteration")->E (.ref e) { s with heap:=h' }) :
  ay (az prog w) A (cu.«zip.__next__» ⟨[.ref z],[]⟩) R E s:=by
 refine ad (m:=field (.ref z) 2) (cw g rfl (x:=.bool false) rfl (ad (m:=field (.ref z) 3) (cw g rfl (x:=.ref ti) rfl (ad (bR gi rfl ?_)))));refine ad (m:=dlQ (.ref z)) ?_;unfold dlQ;refine ad (cw g rfl (x:=.none) rfl (af ?_));simp only[if_true];refine ad (fD (ad (cw g rfl (x:=.ref to) rfl (ad (bG g (by simp) λha ga sa=>?_)))))
 have L:iZ ha z ti to .ellipsis:=ga;refine ad ?_;simp only[List.zipIdx_cons,List.zipIdx_nil,d5,jp];have last:∀ (h2:aO) (e:Addr),iZ h2 z ti to .ellipsis->(∀ c o,c≠z->c≠to->c≠j1->c≠j2->s.heap.get? c=some o->h2.get? c=some o)->(∃ o,h2.get? e=some o/\o.cls=.type "StopIteration")->∀ U,dA z h2 U->E (.ref e) { s with heap:=U }:=λh2 e g2 st ⟨o,ho,G⟩ U s3 =>
  have ne:e≠z:=λx=>by subst x;rw[g2] at ho;cases ho;simp at G
  k U e (λc o y Z B Y x=>s3.extBut _ _ y (st c o y Z B Y x)) ⟨o,s3.extBut _ _ ne ho,G⟩
 cases hu:us[m]? with
 | none =>
  refine ad (ad (iE (ad (m:=cH (.ref j1)) (cZy hh (e1.extBut sa.extBut ap.i1z) (b1.extBut sa.extBut ap.l1z) hu λO e i ex=>?_))));have gb:iZ O z ti to .ellipsis:=i _ _ ap.i1z.symm L;exact bG gb (by simp) λG _ sc=>last O e gb (λc o y _ B _ x=>i _ _ B (sa.extBut _ _ y x)) ex G sc
 | some u =>
  have hv:vs[m]?=none:=no.elim (λx=>by rw[hu] at x;cases x) id
  refine ad (ad (iE (ad (m:=cH (.ref j1)) (bXx (e1.extBut sa.extBut ap.i1z) (b1.extBut sa.extBut ap.l1z) hu λO eb i=>af ?_))));have ob:fo O to p q:=i.extBut _ _ ap.TOi1 (sa.extBut _ _ ap.TOz go);refine ad (bR ob rfl (ad (iL ob λG oc sc=>ad (f7 (af ?_)))));refine ad (ad (iE (ad (m:=cH (.ref j2)) (cZy hh (((e2.extBut sa.extBut ap.i2z).extBut i.extBut ap.i12.symm).extBut sc.extBut ap.TOi2.symm) (((b2.extBut sa.extBut ap.l2z).extBut i.extBut ap.l2i1).extBut sc.extBut ap.l2TO) hv λhd e sd ex=>?_))));have gd:iZ hd z ti to .ellipsis:=sd _ _ ap.i2z.symm (sc.extBut _ _ ap.TOz.symm (i.extBut _ _ ap.i1z.symm L));exact bG gd (by simp) λhe _ se=>last hd e gd (λc o y Z B Y x=>sd _ _ Y (sc.extBut _ _ Z (i.extBut _ _ B (sa.extBut _ _ y x)))) ex he se
theorem fZk {u v:ae} {R:Option ae->ai->Prop} (ap:ZipApart z ti to j1 j2 t1 t2) (g:iZ s.heap z ti to .none) (gi:fo s.heap ti (.ref j1) (.ref j2)) (go:fo s.heap to p q)
  (e1:s.heap.IsTupleIter j1 t1 m) (e2:s.heap.IsTupleIter j2 t2 m) (b1:s.heap.IsTuple t1 us) (b2:s.heap.IsTuple t2 vs) (hu:us[m]?=some u) (hv:vs[m]?=some v)
  (k:∀ h',iZ h' z ti to (eG s.heap.objs.size)->fo h' to u v->h'.IsTupleIter j1 t1 (m + 1)->h'.IsTupleIter j2 t2 (m + 1)->fo h' s.heap.objs.size u v ->
   (∀ c o,c≠z->c≠to->c≠j1->c≠j2->s.heap.get? c=some o->h'.get? c=some o)->R (some (.ref s.heap.objs.size)) { s with heap:=h' }):ay (az prog w) A (eP (.ref z)) R E s:=by
 have ty:s.TypeIs (.ref z) "zip":=⟨_,g,rfl⟩;exact ad (iC (cC (name:=aN "__next__") ty F.slot_zip_next (cD F.slot_zip_next ty F.entry_zip_next (fZj ap g gi go e1 e2 b1 b2 hu hv λh' O L G B y i=>af (k h' O L G B y i)) (F.args_zip_next_1 _))))
theorem fZl {R:Option ae->ai->Prop} (hh:A.handled=none) (ap:ZipApart z ti to j1 j2 t1 t2) (g:iZ s.heap z ti to .none) (gi:fo s.heap ti (.ref j1) (.ref j2)) (go:fo s.heap to p q)
  (e1:s.heap.IsTupleIter j1 t1 m) (e2:s.heap.IsTupleIter j2 t2 m) (b1:s.heap.IsTuple t1 us) (b2:s.heap.IsTuple t2 vs) (no:us[m]?=none\/vs[m]?=none)
  (k:∀ h',(∀ c o,c≠z->c≠to->c≠j1->c≠j2->s.heap.get? c=some o->h'.get? c=some o)->R none { s with heap:=h' }):ay (az prog w) A (eP (.ref z)) R E s:=by
 have ty:s.TypeIs (.ref z) "zip":=⟨_,g,rfl⟩;refine ad (iC (cC (name:=aN "__next__") ty F.slot_zip_next (cD F.slot_zip_next ty F.entry_zip_next (gZh hh ap g gi go e1 e2 b1 b2 no λh' e st ⟨o,i,y⟩=>?_) (F.args_zip_next_1 _))));exact ad (eF (T:="StopIteration") (b:=true) ⟨o,i,y⟩ isSubtype_stop (af (k _ st)))
abbrev tiO (t:Addr):Obj:={ cls:=.type "tuple_iterator",data:=.fields #[.ref t,.int 0 0] }
abbrev zt2 (h:aO) (a b:Addr):aO:=(h.push (tiO a)).push (tiO b)
abbrev zt3 (h:aO) (a b:Addr):aO:=(zt2 h a b).push { cls:=.type "tuple",data:=.seq #[.ref h.objs.size,.ref (h.push (tiO a)).objs.size] }
abbrev zt4 (h:aO) (a b:Addr):aO:=(zt3 h a b).push { cls:=.type "tuple",data:=.seq #[.none,.none] }
abbrev zt5 (h:aO) (a b:Addr):aO:=(zt4 h a b).push { cls:=.type "zip",data:=.fields #[.none,.bool false,.bool false,.ref (zt2 h a b).objs.size,.ref (zt3 h a b).objs.size] }
theorem gZi (a b:Addr) (us vs:Array ae):Meets (cu.«zip.__new__» ⟨[.type "zip",.ref a,.ref b],[]⟩) (λ_ R s=>(s.heap.IsTuple a us/\s.heap.IsTuple b vs)/\R (.ok (.ret (.ref (zt4 s.heap a b).objs.size))) { s with heap:=zt5 s.heap a b }) :=
 .of_wp λprog w A R s G=>by
  obtain⟨⟨Y,U⟩,k⟩:=G;obtain⟨hp,g,d,y,os⟩:=s;have B:=sub_zip;have O:kx (ai.heap ⟨hp,g,d,y,os⟩) a us:=Y;have L:kx (ai.heap ⟨hp.push (tiO a),g,d,y,os⟩) b vs:=kx.at U λo x=>ag _ x
  wp_walk using dR O,dR L
  exact⟨_,rfl,k⟩
theorem fZm {a b:Addr} {R:ae->ai->Prop} (b1:s.heap.IsTuple a us) (b2:s.heap.IsTuple b vs)
  (k:∀ h',iZ h' (s.heap.objs.size + 4) (s.heap.objs.size + 2) (s.heap.objs.size + 3) .none->fo h' (s.heap.objs.size + 2) (.ref s.heap.objs.size) (.ref (s.heap.objs.size + 1))->fo h' (s.heap.objs.size + 3) .none .none ->
   h'.IsTupleIter s.heap.objs.size a 0->h'.IsTupleIter (s.heap.objs.size + 1) b 0->(∀ c o,s.heap.get? c=some o->h'.get? c=some o)->R (.ref (s.heap.objs.size + 4)) { s with heap:=h' }):ay (az prog w) A (call (.type "zip") [.ref a,.ref b]) R E s:=by
 refine callType_new F.called_zip (by decide) (F.typeCall_zip_2 _ _) (F.newCall_zip_2 _ _) (λobj=>F.args_object_init_3 obj _ _) F.entry_zip_new (gZi a b us vs) ⟨⟨b1,b2⟩,?_⟩
 have up:∀ {h:aO} {o:Obj} {c:Addr} {x:Obj},h.get? c=some x->(h.push o).get? c=some x:=λx=>ag _ x;have s1:(s.heap.push (tiO a)).objs.size=s.heap.objs.size + 1:=bv ..;have s2:(zt2 s.heap a b).objs.size=s.heap.objs.size + 2:=by rw[bv,s1]
 have s3:(zt3 s.heap a b).objs.size=s.heap.objs.size + 3:=by rw[bv,s2]
 have s4:(zt4 s.heap a b).objs.size=s.heap.objs.size + 4:=by rw[bv,s3]
 have i:(zt5 s.heap a b).get? (zt4 s.heap a b).objs.size=some _:=av _ rfl;have y:(zt5 s.heap a b).get? (zt3 s.heap a b).objs.size=some _:=up (av _ rfl);have B:(zt5 s.heap a b).get? (zt2 s.heap a b).objs.size=some _:=up (up (av _ rfl));have G:(zt5 s.heap a b).get? (s.heap.push (tiO a)).objs.size=some _:=up (up (up (av _ rfl)));have L:(zt5 s.heap a b).get? s.heap.objs.size=some _:=up (up (up (up (av _ rfl))));show _/\_;rw[s2,s3,s4] at i;rw[s1,s2] at B;rw[s3] at y;rw[s1] at G;rw[s4];exact⟨⟨_,i,rfl⟩,k _ i B y ⟨_,L,rfl,rfl⟩ ⟨_,G,rfl,rfl⟩ λc o x=>up (up (up (up (up x))))⟩
end
def ItzT (K:Fg) (a b:Addr):It:=⟨λi H=>∃ xs ys x y,SqT K H a xs/\SqT K H b ys/\xs[i]?=some x/\ys[i]?=some y,λi H x H'=>∃ p y z,H p=none/\x=.ref p/\H'=upd H p (.tup [y,z])/\(∀ xs,SqT K H a xs->xs[i]?=some y)/\∀ ys,SqT K H b ys->ys[i]?=some z,
 λi H=>∃ xs ys,SqT K H a xs/\SqT K H b ys/\(xs.length<=i\/ys.length<=i)⟩
def zstT (z TI TO i1 i2 a b:Addr) (i:Nat) (h:aO):Prop:=iZ h z TI TO .none/\fo h TI (.ref i1) (.ref i2)/\(∃ u v,fo h TO u v)/\h.IsTupleIter i1 a i/\h.IsTupleIter i2 b i
theorem cXw {z TI TO i1 i2 a b c:Addr} {i:Nat} {h:aO} (st:zstT z TI TO i1 i2 a b i h) (hc:c∈[z,TI,TO,i1,i2]):∃ o,h.get? c=some o/\∀ v,o.data≠.cell v:=by
 obtain⟨U,O,⟨u,v,L⟩,⟨o1,B,Z,G⟩,⟨o2,y,Y,hd2⟩⟩:=st;simp only[aA,fx,or_false] at hc;rcases hc with rfl | rfl | rfl | rfl | rfl
 ·exact⟨_,U,λv z=>by cases z⟩
 ·exact⟨_,O,λv z=>by cases z⟩
 ·exact⟨_,L,λv z=>by cases z⟩
 ·exact⟨_,B,λv z=>by rw[G] at z;cases z⟩
 ·exact⟨_,y,λv z=>by rw[hd2] at z;cases z⟩
theorem dJd {P:aC} {w:aH} {K:Fg} {elts:List Expr} {x1:Nat} {pos:Pos} (z TI TO i1 i2 a b:Addr) (D:ZipApart z TI TO i1 i2 a b):Turn P w K (.Tuple elts x1 pos) (ItzT K a b) [z,TI,TO,i1,i2] z (zstT z TI TO i1 i2 a b) where
 mem:=by simp
 obj:=λi h st c hc=>cXw st hc
 keep:=λi h h' st k=>by
  obtain⟨hz,U,⟨u,v,Z⟩,⟨o1,ho1,r1⟩,⟨o2,ho2,r2⟩⟩:=st;exact⟨k z (by simp) _ hz,k TI (by simp) _ U,⟨u,v,k TO (by simp) _ Z⟩,⟨o1,k i1 (by simp) _ ho1,r1⟩,⟨o2,k i2 (by simp) _ ho2,r2⟩⟩
 item:=by
  intro X hP hw hK hc i pins s σ H E I hf st hg;subst hP hw hK;have sto:=λc hc=>cXw (c:=c) st hc;obtain⟨xs,ys,x,y,hq1,hq2,hx,hy⟩:=hg;obtain⟨its,rv,p1,hz1⟩:=I.tuple hq1;obtain⟨jts,rw',p2,hz2⟩:=I.tuple hq2;obtain⟨u,hu,ru⟩:=rv.get hx;obtain⟨v,hv,rv'⟩:=rw'.get hy;obtain⟨hz,U,⟨t1,t2,Z⟩,st1,st2⟩:=st;refine fZk D hz U Z st1 st2 p1 p2 (by simpa using hu) (by simpa using hv) λh' a1 a2 a3 a4 a5 hk=>⟨_,rfl,?_⟩
  refine wpAny_letOwnedTupleGo_zip a1 λh2 hz2' O=>?_;have Y:∀ c o,c∉[z,TI,TO,i1,i2]->s.heap.get? c=some o->h2.get? c=some o:=λc o n g=>(O.2 c (by simp at n;exact n.1)).trans (hk c o (by simp at n;exact n.1) (by simp at n;exact n.2.2.1) (by simp at n;exact n.2.2.2.1) (by simp at n;exact n.2.2.2.2) g)
  have hzl:z < s.heap.objs.size:=aw hz;have B:H s.heap.objs.size=none:=I.hok.fresh (au _);have nT:∀ c o,s.heap.get? c=some o->c≠s.heap.objs.size:=λc o g=>aG (aw g);have nH:∀ c u,H c=some u->c∉[z,TI,TO,i1,i2]:=λc u g hc=>by have:=(hf c hc).1;rw[g] at this;cases this
  have tupT:h2.get? s.heap.objs.size=some { cls:=.type "tuple",data:=.seq #[u,v] }:=(O.2 _ (dD hzl)).trans a5;have hok:HOk X.prog X.w (upd H s.heap.objs.size (.tup [x,y])) h2:=λc ob g=>by
   by_cases G:c=s.heap.objs.size
   ·subst G;rw[aQc] at g;cases g;refine⟨by rw[bD];show 2<=_;decide,[u,v],.cons ru (.cons rv' .nil),⟨_,tupT,rfl,0,rfl⟩,λo e=>by rw[tupT] at e;cases e;rfl⟩
   ·rw[upd_ne G] at g;refine(I.hok c ob g).stay (λe w' L q=>?_) (λe q=>?_) λe ys q=>?_
    ·rcases L with rfl | L
     ·exact Y _ _ (nH _ _ g) q
     ·exact Y _ _ (nH _ _ L) q
    ·rw[upd_ne (aQ9 q B)];exact q
    ·rw[upd_ne (aQ9 q B)];exact q
  have un:Un (frs X.stack) [z,TI,TO,i1,i2] H (upd H s.heap.objs.size (.tup [x,y])) s.heap h2 :=
   ⟨λc o g _ _ G=>Y c o G g,λc o g _ _ G=>⟨o.slots,Y c o G g⟩,λc o g n _=>by rw[upd_ne (nT c o g)];exact n,λc o g G=>⟨o,Y c o G g⟩,
    λc ys g=>by rw[upd_ne (aQ9 g B)];exact g,λc o v g=>by rw[upd_ne (aQ9 g B)];exact g,λc ps g=>⟨#[],by rw[upd_ne (aQ9 g B),g];simp⟩⟩
  have I2:Inv X pins σ (upd H s.heap.objs.size (.tup [x,y])) { s with heap:=h2 }:=I.call' (s':={ s with heap:=h2 }) rfl un hok I.bare λc G=>by
   have fe:=hf c G;exact⟨fe.2.2.2.1,fe.2.1,fe.2.2.2.2.1,fe.2.2.2.2.2⟩
  refine⟨.ref s.heap.objs.size,_,I2,rfl,⟨_,x,y,B,rfl,rfl,λys hy=>by rw[I.tuple_inj hy hq1];exact hx,λys hy'=>by rw[I.tuple_inj hy' hq2];exact hy⟩,⟨hz2',?_,⟨u,v,?_⟩,?_,?_⟩,λc G=>?_⟩
  ·exact(O.2 TI D.TIz).trans (hk TI _ D.TIz D.TITO D.TIi1 D.TIi2 U)
  ·exact(O.2 TO D.TOz).trans a2
  ·obtain⟨o,g,r⟩:=a3;exact⟨o,(O.2 i1 D.i1z).trans g,r⟩
  ·obtain⟨o,g,r⟩:=a4;exact⟨o,(O.2 i2 D.i2z).trans g,r⟩
  ·obtain⟨o,g,_⟩:=sto c G;rw[upd_ne (aG (aw g))];exact(hf c G).1
 done:=by
  intro X hP hw hK hc i pins s σ H E I hf st hg;subst hP hw hK;obtain⟨xs,ys,hq1,hq2,hx⟩:=hg;obtain⟨its,rv,p1,hz1⟩:=I.tuple hq1;obtain⟨jts,rw',p2,hz2⟩:=I.tuple hq2;obtain⟨hz,U,⟨t1,t2,Z⟩,st1,st2⟩:=st;have hh:X.A.in1.handled=none:=by have:=I.ok.hd hc;simp[this]
  have l1:=rv.length;have l2:=rw'.length;refine fZl (hh) D hz U Z st1 st2 p1 p2 (by rcases hx with h | h;exact .inl (by simp;omega);exact .inr (by simp;omega)) λh' hk=>⟨rfl,?_⟩
  have Y:∀ c o,c∉[z,TI,TO,i1,i2]->s.heap.get? c=some o->h'.get? c=some o:=λc o n g=>hk c o (by simp at n;exact n.1) (by simp at n;exact n.2.2.1) (by simp at n;exact n.2.2.2.1) (by simp at n;exact n.2.2.2.2) g
  have nH:∀ c u,H c=some u->c∉[z,TI,TO,i1,i2]:=λc u g hc=>by have:=(hf c hc).1;rw[g] at this;cases this
  have hok:HOk X.prog X.w H h':=λc ob g=>(I.hok c ob g).stay (λe w' L q=>by
    rcases L with rfl | L
    ·exact Y _ _ (nH _ _ g) q
    ·exact Y _ _ (nH _ _ L) q) (λe q=>q) λe ys q=>q
  have un:Un (frs X.stack) [z,TI,TO,i1,i2] H H s.heap h' :=
   ⟨λc o g _ _ G=>Y c o G g,λc o g _ _ G=>⟨o.slots,Y c o G g⟩,λc o g n _=>n,λc o g G=>⟨o,Y c o G g⟩,λc ys g=>g,λc o v g=>g,λc ps g=>⟨#[],by rw[g];simp⟩⟩
  exact I.call' (s':={ s with heap:=h' }) rfl un hok I.bare λc G=>by
   have fe:=hf c G;exact⟨fe.2.2.2.1,fe.2.1,fe.2.2.2.2.1,fe.2.2.2.2.2⟩
 self:=λA i s Q E st h=>wpAny_pyIter_zip st.1 h
section
variable {X:Cx}
def gJ0 (K:Fg) (ta:TA):TI:=fun σ H R=>ta σ H λvs H1=>∃ a b,vs=[.ref a,.ref b]/\(∃ xs,SqT K H1 a xs)/\(∃ ys,SqT K H1 b ys)/\R (ItzT K a b) H1
theorem fZn {e f:Expr} {ta:TA} {p pos:Pos} {elts:List Expr} {x1:Nat} {tpos:Pos} {K:Fg} (hg:Gl X "zip") (hm:X.mg "zip"=none) (ha:PA X [e,f] ta) (hs:am [e,f] X.env=[(false,eval e X.env),(false,eval f X.env)]:=by rfl) (hs2:am [f] X.env=[(false,eval f X.env)]:=by rfl) (hK:X.K=K:=by rfl) :
  PI X (.Tuple elts x1 tpos) (.Call (.Name "zip" p) [e,f] [] pos) (gJ0 K ta):=by
 subst hK;intro pins s σ H R I h;refine Call_ (ld_blt I hg hm PyProof.Rows.boot_zip (dz (thn (ha pos pins s σ H _ I h) λus s1 ⟨vs,H1,y,r1,q1⟩=>?_) (by rw[hs,hs2]) (by rw[hs2];rfl)))
 obtain⟨a,b,rfl,⟨xs,L⟩,⟨ys,G⟩,q⟩:=q1;cases r1 with
 | cons r rr =>
  cases rr with
  | cons r' rr =>
   cases rr;cases r;cases r';obtain⟨its,rv,pl,B⟩:=y.tuple L;obtain⟨jts,rw',i,hz'⟩:=y.tuple G;have U:a < s1.heap.objs.size:=by obtain⟨o,e,_⟩:=id pl;exact aw e
   have O:b < s1.heap.objs.size:=by obtain⟨o,e,_⟩:=id i;exact aw e
   refine fZm pl i λh' B Z Y h1 h2 hk=>wpAny_pyIter_zip B ?_;refine⟨s1.heap.objs.size + 4,[s1.heap.objs.size + 4,s1.heap.objs.size + 2,s1.heap.objs.size + 3,s1.heap.objs.size,s1.heap.objs.size + 1],_,_,H1,rfl,y.kept (t':=s1.toks) hk,dJd _ (s1.heap.objs.size + 2) (s1.heap.objs.size + 3) s1.heap.objs.size (s1.heap.objs.size + 1) a b ?_,⟨B,Z,⟨_,_,Y⟩,h1,h2⟩,λc hb=>?_,q⟩
   ·exact zipApart_new U O
   ·have hc:s1.heap.objs.size<=c:=by
     simp only[aA,fx,or_false] at hb;rcases hb with rfl | rfl | rfl | rfl | rfl
     ·exact gn _ _
     ·exact gn _ _
     ·exact gn _ _
     ·exact au _
     ·exact gn _ _
    exact y.fpOk hc (y.hok.fresh hc)
end
section
variable {X:Cx} {K:Fg} {pos:Pos}
theorem eZd {F:Am} {S:Sto} {H:Hp} {p q:Addr} {xs ys:List D} {us vs:List V} {G:Sto->Prop} (t:TupAt K (mt S F) H p us) (l:RepL K (mt S F) H xs us) (t':TupAt K (mt S F) H q vs) (l':RepL K (mt S F) H ys vs):ItOk K F S H (ItzT K p q) (zipD xs ys) G where
 go:=λF2 f S2 H2 x O _ i d hd=>by
  obtain⟨e1,e2,h1,h2,rfl⟩:=bJ6 xs ys i d hd;obtain⟨v1,g1,L⟩:=l.get h1;obtain⟨v2,g2,B⟩:=l'.get h2;have s1:SqT K H2 p us:=(t.keep (x.kpF f)).sq;have s2:SqT K H2 q vs:=(t'.keep (x.kpF f)).sq;refine⟨⟨us,vs,v1,v2,s1,s2,g1,g2⟩,λz H3 ⟨b,y,y',Z,ez,eH,Y,U⟩=>?_⟩;subst ez;subst eH
  have:=Y us s1
  rw[g1] at this;cases this
  have:=U vs s2
  rw[g2] at this;cases this;exact eQs O Z (L.keep (x.kpF f)) (B.keep (x.kpF f))
 stop:=λF2 f S2 H2 x O _=>⟨us,vs,(t.keep (x.kpF f)).sq,(t'.keep (x.kpF f)).sq,by rw[cXf,l.length,l'.length];omega⟩
def gJ1 (ta:AD):ID:=fun Γ S Q=>ta Γ S λds S1=>match ds with
 | [.tup xs,.tup ys]=>Q (zipD xs ys) (λ_=>True) S1
 | _=>False
theorem fZo {e f:Expr} {ta:AD} {p:Pos} {elts:List Expr} {x1:Nat} {tpos:Pos} (hg:Gl X "zip") (hm:X.mg "zip"=none) (ha:PAD K X [e,f] ta) (hs:am [e,f] X.env=[(false,eval e X.env),(false,eval f X.env)]:=by rfl) (hs2:am [f] X.env=[(false,eval f X.env)]:=by rfl) (hK:X.K=K:=by rfl) :
  PID K X (.Tuple elts x1 tpos) (.Call (.Name "zip" p) [e,f] [] pos) (gJ1 ta):=.of (fZn hg hm ha.o hs hs2 hK) fun σ H Q O=>O.el λF S Γ QD r g q c =>
 ⟨F,S,Γ,_,r,g,q,λvs ds H1 Z x1 U v1 B=>by
  match ds,B with
  | [.tup xs,.tup ys],B =>
   obtain⟨v,w,rfl,L,i⟩:=v1.two;unfold RepV at L i;obtain⟨p,us,rfl,t,l⟩:=L;obtain⟨q,y,rfl,G,Y⟩:=i;exact⟨p,q,rfl,⟨us,t.sq⟩,⟨y,G.sq⟩,c _ _ _ _ _ x1 U (eZd t l G Y) B⟩⟩
end
end L2
namespace Toy
open PySem L2
abbrev s_law_same:Stmt:=top 26
theorem sc_law_same:FnScope ["found", "due"] ["found", "due"] (aQ4 s_law_same):=fsc
def trD:Nat->D->Prop
 | _,.non=>True
 | _,.str _=>True
 | _,.int _=>True
 | n + 1,.tup xs=>xs.length<=9999/\∀ x∈xs,trD n x
 | _,_=>False
theorem fZp {t:List Str} (h:t.length<=9999):trD 1 (tupS t):=⟨by rw[aj];exact h,λx i=>by obtain⟨s,_,rfl⟩:=cJ.mp i;exact trivial⟩
theorem cXx {ts:List (List Str)} (h:ts.length<=9999) (h':∀ t∈ts,t.length<=9999):trD 2 (.tup (ts.map tupS)):=⟨by rw[aj];exact h,λx i=>by obtain⟨t,y,rfl⟩:=cJ.mp i;exact fZp (h' t y)⟩
def bJk (n:Nat):SpD:=λds S Q=>∃ (m:Nat) (d:D),ds=[d,d]/\m < n/\m<=6/\trD m d/\Q (.bl true) S
def aX9:SpD:=bJk 7
section
variable {P:aC} {w:aH} {K:aq} {mg:Str->Option ae} {base:aO}
theorem dJe {k n:Nat} (T:Tx K mg "_law_same" s_law_same) (B:Bs mg) (d_law_same:Df P w K mg base k "_law_same" ["found", "due"] (spU K (bJk n))):Df P w K mg base (k + 1) "_law_same" ["found", "due"] (spU K (bJk (n + 1))):=by
 refine aZl T sc_law_same (λF=>F.binds λ_ _ _ _ _ _=>us2 λ_ _=>rfl) ?_ λf Z A outer s H E G=>⟨_,(aQ2 (aQw (PWD.pt (cZ6 (gXa G (dv 1) aJ5) (bZ9 (aZh (cQ3 rfl B.isinstance (aQ0 (dv 1) (aQ0 (e_ty rfl B.str dQj) aQ1))))))) (aQ3 (aQa (cZ5 (e_eq G (dv 0) (dv 1)) (dZl (e_eq G (cQ3 rfl B.isinstance (aQ0 (dv 0) (aQ0 (e_ty rfl B.str dQj) aQ1))) (cQ3 rfl B.isinstance (aQ0 (dv 1) (aQ0 (e_ty rfl B.str dQj) aQ1)))))))) aQd)
  (aQ2 (aQw (aZh (cQ3 rfl B.isinstance (aQ0 (dv 1) (aQ0 (e_ty rfl B.tuple bXn) aQ1)))) (aQ2 (aQw (PWD.pt (cZ6 (aXa (aZh (cQ3 rfl B.isinstance (aQ0 (dv 0) (aQ0 (e_ty rfl B.tuple bXn) aQ1))))) (bZ9 (bQe G (aZd rfl B.len (aQ0 (dv 0) aQ1)) (aZd rfl B.len (aQ0 (dv 1) aQ1)))))) (aQ3 (aQa e_bl)) aQd)
  (aQ3 (aQa (e_eq G (aZa (N':=["one", "other"]) (oc:=none) (b:=false) [0,1] [] rfl sc_law_same.nd (λ_ _ _=>aQf ..) (.own (.own .nil)) (aQi rfl) (fZo rfl B.zip (aQ0 (dv 0) (aQ0 (dv 1) aQ1))) (fQn (i:=0) (j:=1)) (λ_ _ _ _ _=>eZg rfl (bXj (aQe (i:=0) (nd_ ["one", "other"]) rfl (aR rfl) (.inr rfl)) (bXj (aQe (i:=1) (nd_ ["one", "other"]) rfl (aR rfl) (.inr rfl)) cJy))) (λ_ _ _ _ _=>aZ2 (by exact(aXa (aZh (aQ6 d_law_same G rfl (aQ0 (dv 0) (aQ0 (dv 1) aQ1))))))) aQh (λ_ _ _ _ _ _=>aQg rfl (by exact PD.o aQ5))) (aQr (b:=false) aQ1))))) aQd)
  (aQ3 (aQa (cZ5 (cQ3 rfl B.isinstance (aQ0 (dv 0) (aQ0 (e_ty rfl B.int eZn) aQ1))) (cZ5 (fQc (cQ3 rfl B.isinstance (aQ0 (dv 0) (aQ0 (e_ty rfl B.bool dQk) aQ1)))) (dZl (e_eq G (dv 0) (dv 1))))))))),?_⟩
 ·rintro ds S Q ⟨m,d,rfl,_⟩;rfl
 ·rintro ds S Q ⟨m,d,rfl,hm,h6,L,q⟩;cases d with
  | non=>exact⟨_,rfl,ite2 (λ_=>⟨rfl,_,rfl,ite2 (λ_=>⟨_,_,rfl,rfl,_,_,rfl,rfl,rfl,aQb q⟩) λc=>absurd (show _=true from by decide) c⟩) λc=>absurd rfl c⟩
  | str x=>exact⟨_,rfl,ite2 (λc=>by cases c) λ_=>⟨_,_,rfl,rfl,⟨rfl,_,rfl,ite2 (λ_=>⟨_,_,rfl,rfl,_,_,rfl,rfl,rfl,aQb q⟩) λc=>absurd (show(if false=true then !decide (D.str x=D.str x) else decide (D.str x=D.str x))=true from by rw[decide_eq_true rfl];rfl) c⟩⟩⟩
  | int i =>
   refine⟨_,rfl,ite2 (λc=>by cases c) λ_=>⟨_,_,rfl,rfl,_,_,rfl,rfl,_,_,rfl,rfl,_,rfl,_,_,rfl,rfl,_,rfl,_,rfl,rfl,?_⟩⟩
   rw[gXv rfl];exact aQb q
  | tup xs =>
   cases m with
   | zero=>exact L.elim
   | succ m =>
    refine⟨_,rfl,ite2 (λc=>by cases c) λ_=>⟨_,_,rfl,rfl,_,_,rfl,rfl,_,_,rfl,rfl,_,rfl,_,rfl,rfl,_,gXw rfl,?_⟩⟩
    refine aZo (λ_ acc S'=>acc=[]/\S'=S) ⟨rfl,rfl⟩ ?_ ?_
    ·rintro i x acc S' N U ⟨rfl,rfl⟩ Y;obtain⟨y,z,O,hz,rfl⟩:=bJ6 _ _ _ _ U;rw[O] at hz;cases hz;exact⟨trivial,rfl,rfl,m,y,rfl,by omega,by omega,L.2 y (bw O),Y _ _ ⟨rfl,rfl⟩⟩
    ·rintro acc S' ⟨rfl,rfl⟩;exact⟨trivial,aQ7 (by decide),rfl,aQb q⟩
  | bl _=>cases m <;> exact L.elim
  | ty _=>cases m <;> exact L.elim
  | ref _=>cases m <;> exact L.elim
  | lst _=>cases m <;> exact L.elim
theorem cXy (T:Tx K mg "_law_same" s_law_same) (B:Bs mg):∀ n:Nat,Df P w K mg base (1 + n) "_law_same" ["found", "due"] (spU K (bJk n))
 | 0=>T.df (λF=>F.binds λ_ _ _ _ _ _=>us2 λ_ _=>rfl) λF=>F.ok sc_law_same (λvs H Q E ⟨_,_,_,_,_,_,⟨_,_,_,h,_⟩,_⟩=>absurd h (cN _)) λi A outer s H vs Q G y ⟨_,_,_,_,_,_,⟨_,_,_,h,_⟩,_⟩=>absurd h (cN _)
 | n + 1=>dJe T B (cXy T B n)
theorem cZh (T:Tx K mg "_law_same" s_law_same) (B:Bs mg):Df P w K mg base 8 "_law_same" ["found", "due"] (spU K aX9):=by
 exact cXy T B 7
end
abbrev aQz:Stmt:=clsB (top 16) 3
theorem aXz:FnScope ["self"] ["self"] (aQ4 aQz):=fsc
section
variable {P:aC} {w:aH} {K:aq} {mg:Str->Option ae} {base:aO} {cKeptSets:Addr}
theorem aJ0 (T:TxM K cKeptSets "sets_now" "KeptSets.sets_now" aQz) (B:Bs mg) (ZKeptSets:Cls K cKeptSets) (AKeptSets_sets:NoAttr K cKeptSets "sets"):DfM P w K mg base 1 cKeptSets "sets_now" ["self"] (spU K (bZn K cKeptSets)):=by
 refine dXt T aXz (λF=>F.binds λ_ _ _ _ _ _=>us1 λ_=>rfl) ?_ λf y A outer s H E G=>⟨_,(aQ3 (aQa (bJe (dv 0)))),?_⟩
 ·rintro ds S Q ⟨a,m,ts,rfl,_⟩;rfl
 ·rintro ds S Q ⟨a,m,ts,rfl,i,q⟩;exact⟨a,cKeptSets,_,_,rfl,i,ZKeptSets,AKeptSets_sets,rfl,aQb q⟩
end
abbrev s_first_flower:Stmt:=top 13
theorem bZt:FnScope ["sets", "many"] ["sets", "many"] (aQ4 s_first_flower):=fsc
section
variable {P:aC} {w:aH} {K:aq} {mg:Str->Option ae} {base:aO}
theorem bZu (T:Tx K mg "first_flower" s_first_flower) (B:Bs mg) (d_flowers_of:Df P w K mg base 10 "flowers_of" ["sets", "many"] (spU K aX8)):Df P w K mg base 11 "first_flower" ["sets", "many"] (spU K aXm):=by
 refine aZl T bZt (λF=>F.binds λ_ _ _ _ _ _=>us2 λ_ _=>rfl) ?_ λf O A outer s H E y=>⟨_,(aQ3 (aQa (eX9 y rfl B.min (aQ6 d_flowers_of y rfl (aQ0 (dv 0) (aQ0 (dv 1) aQ1))) aJ5))),?_⟩
 ·rintro ds S Q ⟨ts,m,rfl,_⟩;rfl
 ·rintro ds S Q ⟨ts,m,rfl,L,G,i,hl,he,q⟩;refine⟨ts,m,rfl,L,G,i,hl,he,(flO ts m).map flE.e,rfl,dXj (by decide) _,?_⟩
  have hp:=dXz i m;cases e:flO ts m with
  | nil=>rw[e] at q;exact aQb q
  | cons s r =>
   rw[e] at q hp;show rtD Q (bZg (flE.e s) (r.map flE.e)) S;rw[bZm (by decide) eXi (aU.mp hp).1]
   exact aQb q
end
abbrev aQs:Stmt:=clsB (top 16) 4
theorem aXe:FnScope ["self"] ["self"] (aQ4 aQs):=fsc
section
variable {P:aC} {w:aH} {K:aq} {mg:Str->Option ae} {base:aO} {cKeptSets:Addr}
theorem aXf (T:TxM K cKeptSets "has_flower" "KeptSets.has_flower" aQs) (B:Bs mg) (ZKeptSets:Cls K cKeptSets) (AKeptSets_many:NoAttr K cKeptSets "many") (AKeptSets_sets:NoAttr K cKeptSets "sets") (d_first_flower:Df P w K mg base 11 "first_flower" ["sets", "many"] (spU K aXm)):DfM P w K mg base 12 cKeptSets "has_flower" ["self"] (spU K (bZo K cKeptSets)):=by
 refine dXt T aXe (λF=>F.binds λ_ _ _ _ _ _=>us1 λ_=>rfl) ?_ λf U A outer s H E y=>⟨_,(aQ3 (aQa (cX6 y (aQ6 d_first_flower y rfl (aQ0 (bJe (dv 0)) (aQ0 (bJe (dv 0)) aQ1))) aJ5))),?_⟩
 ·rintro ds S Q ⟨a,m,ts,rfl,_⟩;rfl
 ·rintro ds S Q ⟨a,m,ts,rfl,G,O,L,kp,q⟩;refine⟨a,cKeptSets,_,_,rfl,G,ZKeptSets,AKeptSets_sets,rfl,a,cKeptSets,_,_,rfl,G,ZKeptSets,AKeptSets_many,rfl,?_⟩;refine⟨ts,m,rfl,O,L,kp.srt,by have:=kp.len;omega,λt i=>⟨(kp.each t i).1,by have:=(kp.each t i).2;omega⟩,?_⟩
  cases e:(flO ts m).head? with
  | none=>rw[e] at q;exact aQb q
  | some s=>rw[e] at q;exact aQb q
end
abbrev s_law_told_right:Stmt:=top 29
theorem sc_law_told_right:FnScope ["kept", "sets", "many", "again", "found"] ["kept", "sets", "many"] (aQ4 s_law_told_right):=fsc
def aX0 (K:Fg) (C:Addr):SpD:=λds S Q=>∃ (a:Addr) (m:Nat) (ts:List (List Str)),ds=[.ref a,.lst (ts.map tupS),.int m]/\S a=some (aQo K C m ts)/\Kpt ts/\2<=m/\m<=6/\Q (.bl true) S
section
variable {P:aC} {w:aH} {K:aq} {mg:Str->Option ae} {base:aO} {cKeptSets:Addr}
theorem bQ2 (T:Tx K mg "_law_told_right" s_law_told_right) (B:Bs mg) (ZKeptSets:Cls K cKeptSets) (d_KeptSets_sets_now:DfM P w K mg base 12 cKeptSets "sets_now" ["self"] (spU K (bZn K cKeptSets))) (d_KeptSets_has_flower:DfM P w K mg base 12 cKeptSets "has_flower" ["self"] (spU K (bZo K cKeptSets))) (d_law_first:Df P w K mg base 12 "_law_first" ["sets", "many", "wanted"] (spU K aZr)) (d_law_same:Df P w K mg base 12 "_law_same" ["found", "due"] (spU K aX9)):Df P w K mg base 13 "_law_told_right" ["kept", "sets", "many"] (spU K (aX0 K cKeptSets)):=by
 refine aZl T sc_law_told_right (λF=>F.binds λ_ _ _ _ _ _=>us3 λ_ _ _=>rfl) ?_ λf cdv A outer s H E y=>⟨_,(aQ2 (bQ8 cO rfl (aQp rfl B.range (aQ0 aQ5 aQ1)) (aX5 (i:=3) sc_law_told_right.nd rfl (aR rfl)) (aQ2 (aQ8 (i:=4) sc_law_told_right.nd rfl (aR rfl) (bZl d_KeptSets_has_flower ZKeptSets y (dv 0)))
  (aQ2 (aQw (PWD.pt (cZ6 (aXa (aZh (cQ3 rfl B.isinstance (aQ0 (dv 4) (aQ0 (e_ty rfl B.bool dQk) aQ1))))) (bZ9 (bQe y (dv 4) (cX6 y (aQ6 d_law_first y rfl (aQ0 (dv 1) (aQ0 (dv 2) (aQ0 aJ5 aQ1)))) aJ5))))) (aQ3 (aQa e_bl)) aQd)
  (aQ3 (aQw (aXa (aZh (aQ6 d_law_same y rfl (aQ0 (bZl d_KeptSets_sets_now ZKeptSets y (dv 0)) (aQ0 (aZi rfl B.tuple (aQ0 (dv 1) aQ1)) aQ1))))) (aQ3 (aQa e_bl)) aQd)))))
  (aQ3 (aQa e_bl))),?_⟩
 ·rintro ds S Q ⟨a,m,ts,rfl,_⟩;rfl
 ·rintro ds S Q ⟨a,m,ts,rfl,G,kp,Y,U,q⟩;have l14:=kp.len;have eW:(flO ts m).filter (okW none)=flO ts m:=iV.mpr λ_ _=>rfl;have tr:trD 2 (.tup (ts.map tupS)):=cXx (by omega) λt ht=>by have:=(kp.each t ht).2;omega
  refine⟨⟨by decide,by decide⟩,aJ9 (λi Γ S'=>∃ (O L:Option D),Γ=[some (.ref a),some (.lst (ts.map tupS)),some (.int m),O,L]/\S'=S) ⟨none,none,rfl,rfl⟩ ?_ ?_⟩
  ·rintro i x Γ S' N hx ⟨O,L,rfl,rfl⟩ Z;refine⟨trivial,a,_,rfl,G,rfl,a,m,ts,rfl,G,Y,U,kp,?_⟩;refine⟨_,_,rfl,rfl,ts,m,none,rfl,kp,Y,U,(λw e=>by cases e),?_⟩
   rw[eW];cases (flO ts m).head? with
   | none=>exact⟨rfl,false,rfl,a,_,rfl,G,rfl,a,m,ts,rfl,G,_,rfl,2,_,rfl,by decide,by decide,tr,Z _ _ ⟨_,_,rfl,rfl⟩⟩
   | some s=>exact⟨rfl,false,rfl,a,_,rfl,G,rfl,a,m,ts,rfl,G,_,rfl,2,_,rfl,by decide,by decide,tr,Z _ _ ⟨_,_,rfl,rfl⟩⟩
  ·rintro Γ S' ⟨O,L,rfl,rfl⟩;exact⟨trivial,aQb q⟩
end
abbrev aZk:Stmt:=clsB (top 16) 0
theorem bQh:FnScope ["self", "many"] ["self", "many"] (aQ4 aZk):=fsc
section
variable {P:aC} {w:aH} {K:aq} {mg:Str->Option ae} {base:aO} {cKeptSets:Addr}
theorem bQi (T:TxM K cKeptSets "__init__" "KeptSets.__init__" aZk) (B:Bs mg) (ZKeptSets:Cls K cKeptSets) (AKeptSets_many:NoAttr K cKeptSets "many") (AKeptSets_sets:NoAttr K cKeptSets "sets"):DfM P w K mg base 1 cKeptSets "__init__" ["self", "many"] (spU K (bQ1 K cKeptSets)):=by
 refine dXt T bQh (λF=>F.binds λ_ _ _ _ _ _=>us2 λ_ _=>rfl) ?_ λf y A outer s H E G=>⟨_,(aQ2 (cXq (dv 0) (dv 1))
  (aQ3 (cXq (dv 0) (bZ7 aQ1)))),?_⟩
 ·rintro ds S Q ⟨a,m,rfl,_⟩;rfl
 ·rintro ds S Q ⟨a,m,rfl,i,q⟩;refine⟨a,cKeptSets,[],rfl,i,ZKeptSets,AKeptSets_many,by decide,aQ7 (by decide),a,cKeptSets,_,rfl,supd_same,ZKeptSets,AKeptSets_sets,by show 1 < 1000;decide,?_⟩
  rw[aJe];exact aQb q
end
end Toy
namespace L2
open PySem Toy
theorem cZi {a b:List (List Str)} (h:a.Perm b):srT a=srT b :=
 ((aX7 a).trans (h.trans (aX7 b).symm)).eq_of_pairwise (λ_ _ _ _ h h'=>cXd h h') (cXe a) (cXe b)
end L2
namespace Toy
open PySem L2
abbrev s_law_by_hand:Stmt:=top 33
theorem sc_law_by_hand:FnScope ["kept", "one"] [] (aQ4 s_law_by_hand):=fsc
def aJ2 (K:Fg) (C:Addr):SpD:=λds S Q=>ds=[]/\Q (.bl true) S
section
variable {P:aC} {w:aH} {K:aq} {mg:Str->Option ae} {base:aO} {cNoSet cKeptSets:Addr}
theorem bX4 (T:Tx K mg "_law_by_hand" s_law_by_hand) (B:Bs mg) (MKeptSets:mg "KeptSets"=some (.ref cKeptSets)) (K1KeptSets:fG K cKeptSets=true) (K2KeptSets:cB K (.ref cKeptSets)=true) (ZKeptSets:Cls K cKeptSets) (d_KeptSets_init:DfM P w K mg base 11 cKeptSets "__init__" ["self", "many"] (spU K (bQ1 K cKeptSets))) (d_KeptSets_put_set:DfMX P w K mg base 12 cKeptSets "put_set" ["self", "one"] (spUX K cNoSet (aXn K cKeptSets))) (d_KeptSets_take_set:DfMX P w K mg base 12 cKeptSets "take_set" ["self", "one"] (spUX K cNoSet (aZz K cKeptSets))) (d_KeptSets_sets_now:DfM P w K mg base 12 cKeptSets "sets_now" ["self"] (spU K (bZn K cKeptSets))) (d_KeptSets_has_flower:DfM P w K mg base 12 cKeptSets "has_flower" ["self"] (spU K (bZo K cKeptSets))):Df P w K mg base 13 "_law_by_hand" [] (spU K (aJ2 K cKeptSets)):=by
 refine aZl T sc_law_by_hand (λF=>F.binds λ_ _ _ _ _ _ us hl=>match us,hl with | [],_=>rfl) ?_ λf cdv A outer s H E y=>⟨_,(aQ2 (aQ8 (i:=0) sc_law_by_hand.nd rfl (aR rfl) (dXv (d_KeptSets_init.init K1KeptSets K2KeptSets) y rfl MKeptSets (aQ0 aQ5 aQ1)))
  (aQ2 (bQ8 cO rfl (aZy (aQr (b:=false) (aQ0 (bZ7 (aQ0 aZf aQ1)) (aQ0 (bZ7 (aQ0 aZf aQ1)) (aQ0 (bZ7 (aQ0 aZf aQ1)) aQ1))))) (aX5 (i:=1) sc_law_by_hand.nd rfl (aR rfl)) (aQ3 (aXi (cQg d_KeptSets_put_set.df ZKeptSets y (dv 0) (aQ0 (dv 1) aQ1)))))
  (aQ2 (aQw (cZ4 y (bZl d_KeptSets_has_flower ZKeptSets y (dv 0)) e_bl) (aQ3 (aQa e_bl)) aQd)
  (aQ2 (aXi (cQg d_KeptSets_take_set.df ZKeptSets y (dv 0) (aQ0 (bZ7 (aQ0 aZf aQ1)) aQ1)))
  (aQ3 (aQa (cZ5 (e_is y (cQg d_KeptSets_put_set.df ZKeptSets y (dv 0) (aQ0 (bZ7 (aQ0 aZf (aQ0 aZf aQ1))) aQ1)) aJ5) (cZ5 (e_is y (bZl d_KeptSets_has_flower ZKeptSets y (dv 0)) e_bl) (dZl (e_eq y (bZl d_KeptSets_sets_now ZKeptSets y (dXv (d_KeptSets_init.init K1KeptSets K2KeptSets) y rfl MKeptSets (aQ0 aQ5 aQ1))) (bZ7 aQ1))))))))))),?_⟩
 ·rintro ds S Q ⟨rfl,_⟩;rfl
 ·rintro ds S Q ⟨rfl,q⟩;intro k hk;refine⟨k,3,rfl,supd_same,rfl,?_⟩;rw[aJe];have s0:supd S k (aQo K cKeptSets 3 []) k=some (aQo K cKeptSets 3 []):=supd_same;have o0:∀ b o,S b=some o->supd S k (aQo K cKeptSets 3 []) b=some o:=λb o e=>(supd_ne (λz=>by rw[z,hk] at e;cases e)).trans e
  generalize supd S k (aQo K cKeptSets 3 [])=S0 at s0 o0;generalize G:aN "a"=A;generalize L:aN "b"=B;generalize hC:aN "c"=C;have kN:Kpt []:=⟨.nil,by decide,(λ_ h=>nomatch h)⟩
  have Z:Kpt [[A]]:=by subst G;exact⟨by decide +kernel,by decide,by decide +kernel⟩
  have O:Kpt [[A],[B]]:=by subst G L;exact⟨by decide +kernel,by decide,by decide +kernel⟩
  have Y:Kpt [[A],[B],[C]]:=by subst G L hC;exact⟨by decide +kernel,by decide,by decide +kernel⟩
  have U:Kpt [[A],[A,B],[B]]:=by subst G L;exact⟨by decide +kernel,by decide,by decide +kernel⟩
  have f1:(flO [[A],[B],[C]] 3).head?.isSome=true:=by subst G L hC;decide +kernel
  have f2:wot [[A],[B],[C]] [C]=[[A],[B]]:=by subst G L hC;decide +kernel
  have f3:fstW [[A],[A,B],[B]] 3 [A,B]=none:=by subst G L;decide +kernel
  have f4:(flO [[A],[A,B],[B]] 3).head?.isSome=false:=by subst G L;decide +kernel
  have n1:[B]∉[[A]]:=by subst G L;decide +kernel
  have n2:[C]∉[[A],[B]]:=by subst G L hC;decide +kernel
  have n3:[A,B]∉[[A],[B]]:=by subst G L;decide +kernel
  have sd:srT ([[A],[B]]++[[A,B]])=[[A],[A,B],[B]]:=by
   have p:([[A],[B]]++[[A,B]]).Perm [[A],[A,B],[B]]:=List.Perm.cons _ (kS _ _ _);rw[cZi p,cXl U.srt]
  refine⟨aQ7 (by show 1<=9999;decide),aQ7 (by show 1<=9999;decide),aQ7 (by show 1<=9999;decide),aQ7 (by show 3<=9999;decide),_,rfl,trivial,k,_,rfl,s0,rfl,k,3,[],[A],rfl,s0,by decide,by decide,kN,(Z.each _ ak).1,(Z.each _ ak).2,(λh=>absurd h (λh=>nomatch h:[A]∉([]:List (List Str)))),λ_=>⟨by show 0 < 14;decide,?_⟩⟩
  rw[show srT ([]++[[A]])=[[A]] from cXl Z.srt]
  have s1:supd S0 k (aQo K cKeptSets 3 [[A]]) k=some (aQo K cKeptSets 3 [[A]]):=supd_same;have o1:∀ b o,S b=some o->supd S0 k (aQo K cKeptSets 3 [[A]]) b=some o:=λb o e=>(supd_ne (λz=>by rw[z,hk] at e;cases e)).trans (o0 b o e)
  generalize supd S0 k (aQo K cKeptSets 3 [[A]])=S1 at s1 o1;refine⟨trivial,k,_,rfl,s1,rfl,k,3,[[A]],[B],rfl,s1,by decide,by decide,Z,(O.each _ (ao _ ak)).1,(O.each _ (ao _ ak)).2,(λh=>absurd h n1),λ_=>⟨by show 1 < 14;decide,?_⟩⟩
  rw[show srT ([[A]]++[[B]])=[[A],[B]] from cXl O.srt]
  have s2:supd S1 k (aQo K cKeptSets 3 [[A],[B]]) k=some (aQo K cKeptSets 3 [[A],[B]]):=supd_same;have o2:∀ b o,S b=some o->supd S1 k (aQo K cKeptSets 3 [[A],[B]]) b=some o:=λb o e=>(supd_ne (λz=>by rw[z,hk] at e;cases e)).trans (o1 b o e)
  generalize supd S1 k (aQo K cKeptSets 3 [[A],[B]])=S2 at s2 o2;refine⟨trivial,k,_,rfl,s2,rfl,k,3,[[A],[B]],[C],rfl,s2,by decide,by decide,O,(Y.each _ (ao _ (ao _ ak))).1,(Y.each _ (ao _ (ao _ ak))).2,(λh=>absurd h n2),λ_=>⟨by show 2 < 14;decide,?_⟩⟩
  rw[show srT ([[A],[B]]++[[C]])=[[A],[B],[C]] from cXl Y.srt]
  have s3:supd S2 k (aQo K cKeptSets 3 [[A],[B],[C]]) k=some (aQo K cKeptSets 3 [[A],[B],[C]]):=supd_same;have o3:∀ b o,S b=some o->supd S2 k (aQo K cKeptSets 3 [[A],[B],[C]]) b=some o:=λb o e=>(supd_ne (λz=>by rw[z,hk] at e;cases e)).trans (o2 b o e)
  generalize supd S2 k (aQo K cKeptSets 3 [[A],[B],[C]])=S3 at s3 o3;refine⟨trivial,k,_,rfl,s3,rfl,k,3,_,rfl,s3,by decide,by decide,Y,?_⟩
  rw[f1];refine⟨false,rfl,k,_,rfl,s3,rfl,aQ7 (by show 1<=9999;decide),k,3,[[A],[B],[C]],[C],rfl,s3,by show 3<=14;decide,(λh=>absurd (ao _ (ao _ ak)) h),λ_=>?_⟩
  rw[f2];have s4:supd S3 k (aQo K cKeptSets 3 [[A],[B]]) k=some (aQo K cKeptSets 3 [[A],[B]]):=supd_same;have o4:∀ b o,S b=some o->supd S3 k (aQo K cKeptSets 3 [[A],[B]]) b=some o:=λb o e=>(supd_ne (λz=>by rw[z,hk] at e;cases e)).trans (o3 b o e)
  generalize supd S3 k (aQo K cKeptSets 3 [[A],[B]])=S4 at s4 o4;refine⟨k,_,rfl,s4,rfl,aQ7 (by show 2<=9999;decide),k,3,[[A],[B]],[A,B],rfl,s4,by decide,by decide,O,(U.each _ (ao _ ak)).1,(U.each _ (ao _ ak)).2,(λh=>absurd h n3),λ_=>⟨by show 2 < 14;decide,?_⟩⟩
  rw[sd,f3];have s5:supd S4 k (aQo K cKeptSets 3 [[A],[A,B],[B]]) k=some (aQo K cKeptSets 3 [[A],[A,B],[B]]):=supd_same;have o5:∀ b o,S b=some o->supd S4 k (aQo K cKeptSets 3 [[A],[A,B],[B]]) b=some o:=λb o e=>(supd_ne (λz=>by rw[z,hk] at e;cases e)).trans (o4 b o e)
  generalize supd S4 k (aQo K cKeptSets 3 [[A],[A,B],[B]])=S5 at s5 o5;refine⟨true,rfl,k,_,rfl,s5,rfl,k,3,_,rfl,s5,by decide,by decide,U,?_⟩
  rw[f4];refine⟨true,rfl,λk2 hk2=>⟨k2,2,rfl,supd_same,rfl,?_⟩⟩;rw[aJe];refine⟨k2,_,rfl,supd_same,rfl,k2,2,[],rfl,supd_same,aQ7 (by decide),rfl,?_⟩
  show(aJy Q).rt (D.bl (decide (D.tup []=D.tup []))) _;rw[decide_eq_true rfl];exact aX6 (λb o e=>(supd_ne (λz=>by have:=o5 b o e;rw[z,hk2] at this;cases this)).trans (o5 b o e)) q
end
end Toy
namespace L2
open PySem PySem.Spec PyProof.Rows
section
variable {X:Cx} {K:Fg} {pos:Pos} {k:Nat}
theorem eZe {x:Str} {ps:List Str} {sp:SpD} {p:Pos} (D:Df X.prog X.w X.K X.mg X.base k x ps (spU K sp)) (hr:Room k X.A) (hg:Gl X x) (hdb:dbg x=false:=by decide):PD K X (.Call (.Name x p) [] [] pos) (dCB sp dNil):=by
 obtain⟨f,fd,F,y,hk,hm⟩:=D.ex;refine .of (dJp (E:=E0) F hr hg hm hk y .nil dQg hdb) fun σ H Q i=>i.el λF S Γ QD r g q c=>?_;show spU K sp ([]++[]) H Q E0;exact⟨F,S,[],QD,r,RepL.nil,q,c⟩
end
end L2
namespace Toy
open PySem L2
abbrev bJl:Stmt:=top 34
theorem sc_law:FnScope ["script", "deck", "turn", "many", "kept", "every", "there", "deed", "left", "one"] ["script"] (aQ4 bJl):=fsc
structure St36 (K:Fg) (C:Addr) (S:Sto) (a c kp:Addr) (m:Nat) (ts:List (List Str)):Prop where
 dk:DeckC S a c
 hk:S kp=some (aQo K C m ts)
 kt:Kpt ts
theorem St36.off {K:Fg} {C:Addr} {S S':Sto} {a c kp:Addr} {m:Nat} {ts:List (List Str)} (s:St36 K C S a c kp m ts) (na:kp≠a) (nc:kp≠c) (o:Off2 a c S S') (dk:DeckC S' a c):St36 K C S' a c kp m ts:=⟨dk,(o kp na nc).trans s.hk,s.kt⟩
theorem St36.put {K:Fg} {C:Addr} {S:Sto} {a c kp:Addr} {m:Nat} {ts us:List (List Str)} (s:St36 K C S a c kp m ts) (na:kp≠a) (nc:kp≠c) (ku:Kpt us):St36 K C (supd S kp (aQo K C m us)) a c kp m us:=⟨s.dk.supd na nc,supd_same,ku⟩
theorem gJ2 {r:Int} (h0:0<=r) (h6:r < 6):∃ m:Nat,atI [D.int 2,.int 3,.int 3,.int 4,.int 5,.int 6] r=some (.int m)/\2<=m/\m<=6:=by
 have:r=0\/r=1\/r=2\/r=3\/r=4\/r=5:=by omega
 rcases this with rfl | rfl | rfl | rfl | rfl | rfl
 ·exact⟨2,rfl,by decide,by decide⟩
 ·exact⟨3,rfl,by decide,by decide⟩
 ·exact⟨3,rfl,by decide,by decide⟩
 ·exact⟨4,rfl,by decide,by decide⟩
 ·exact⟨5,rfl,by decide,by decide⟩
 ·exact⟨6,rfl,by decide,by decide⟩
theorem trOp {ts:List (List Str)} (k:Kpt ts) (m:Nat) (o:List Str):trD 2 (opF (fstW ts m o)):=by
 cases e:fstW ts m o with
 | none=>exact trivial
 | some s =>
  have h:=(cb.mp (List.mem_of_mem_head? (show s∈((flO ts m).filter λs=>decide (o∈s)).head? from e))).1
  obtain⟨_,sub,_⟩:=mem_flO.mp h;exact cXx (by have:=sub.length_le;have:=k.len;omega) λt i=>by have:=(k.each t (sub.subset i)).2;omega
abbrev gJ3 (K:Fg) (C:Addr):SD:=dSeq (dAsg (dOp ixD (dVar 8) (dCB aQq (aQt (dVar 1) (aQt (dCB lenD (aQt (dVar 8) dNil)) dNil)))) (aQu 9))
  (dSeq (dAsg (dCB (srtD false) (aQt (dOp (addD false) (dVar 6) (dLst false (aQt (dVar 9) dNil))) dNil)) (aQu 6))
   (dIfS (dNot (dTru (dCB aX9 (aQt (eZ4 K C (aN "put_set") (λds S Q=>aXn K C ds S Q λ_=>False) (dVar 4) (aQt (dVar 9) dNil)) (aQt (dCB aZr (aQt (dVar 6) (aQt (dVar 3) (aQt (dVar 9) dNil)))) dNil))))) (dRet (dC (D.bl false))) bJ3))
abbrev gJ4 (K:Fg) (C:Addr):SD:=dIfS (aZ9 (dOp (eqD true) (dVar 6) (dLst false dNil)))
 (dSeq (dAsg (dOp ixD (dVar 6) (dCB aQq (aQt (dVar 1) (aQt (dCB lenD (aQt (dVar 6) dNil)) dNil)))) (aQu 9))
  (dSeq (dAsg (dZw false [none,some 9] (dSq (dVar 6)) (aQu 0) (aZ9 (dOp (eqD true) (dVar 0) (dVar 1))) (bX0 (dVar 0))) (aQu 6))
   (dIfS (aZ9 (dOp (isD true) (eZ4 K C (aN "take_set") (λds S Q=>aZz K C ds S Q λ_=>False) (dVar 4) (aQt (dVar 9) dNil)) (dC D.non))) (dRet (dC (D.bl false))) bJ3))) bJ3
section
variable {K:Fg} {C:Addr} {S:Sto} {a c kp:Addr} {m:Nat} {ts us ls:List (List Str)} {E:EndsD} {g0 g2 x7 x9:Option D}
theorem eXl (st:St36 K C S a c kp m ts) (na:kp≠a) (nc:kp≠c) (m2:2<=m) (m6:m<=6) (l0:ls≠[]) (l28:ls.length<=28) (lo:∀ x∈ls,x∉ts/\Srt x/\x.length<=6) (tl:ts.length < 14)
  (h:∀ ts' x9 S',St36 K C S' a c kp m ts'->E.nx [g0,some (.ref a),g2,some (.int m),some (.ref kp),some (.lst (us.map tupS)),some (.lst (ts'.map tupS)),x7,some (.lst (ls.map tupS)),x9] S') :
  gJ3 K C E [g0,some (.ref a),g2,some (.int m),some (.ref kp),some (.lst (us.map tupS)),some (.lst (ts.map tupS)),x7,some (.lst (ls.map tupS)),x9] S:=by
 have ll:0 < ls.length:=c8.mpr l0;refine⟨_,rfl,a,c,_,rfl,st.dk,by rw[aj];omega,by rw[aj];omega,λv S3 v0 v1 i O=>?_⟩
 rw[aj] at v1;obtain⟨v,rfl⟩:∃ v':Nat,v=v':=⟨v.toNat,by omega⟩
 have hv:v < ls.length:=by omega
 have st:=st.off na nc i O;obtain⟨o,Y⟩:∃ o,ls[v]?=some o:=⟨_,ah hv⟩;obtain⟨hm,U,B⟩:=lo o (bw Y);have L:=st.kt;have nd:(ts++[o]).Nodup:=cg.mpr ⟨L.srt.nodup,b5 ..,λx hx y Z e=>hm (by rw[aB.mp Z] at e;exact e ▸ hx)⟩
 have G:=dJ1 L hm tl U B;refine⟨_,_,rfl,aZs (v:=tupS o) (by rw[br,Y];rfl),aQ7 (by show 1<=9999;decide),_,_,rfl,rfl,aQ7 (by rw[aj];show ts.length + 1<=_;omega),.inr (.inr ⟨ts++[o],by show _=_;rw[aM];rfl,nd,by rw[ax];show ts.length + 1 < 64;omega,?_⟩)⟩
 refine⟨kp,_,rfl,st.hk,rfl,kp,m,ts,o,rfl,st.hk,m2,m6,L,U,B,(λh=>absurd h hm),λ_=>⟨tl,srT (ts++[o]),m,some o,rfl,G,m2,m6,(λw e=>by cases e;exact B),2,_,rfl,by decide,by decide,trOp G m o,?_⟩⟩
 exact h _ _ _ (st.put na nc G)
theorem dJf (st:St36 K C S a c kp m ts) (na:kp≠a) (nc:kp≠c) {x8:Option D}
  (h:∀ ts' x9 S',St36 K C S' a c kp m ts'->E.nx [g0,some (.ref a),g2,some (.int m),some (.ref kp),some (.lst (us.map tupS)),some (.lst (ts'.map tupS)),x7,x8,x9] S') :
  gJ4 K C E [g0,some (.ref a),g2,some (.int m),some (.ref kp),some (.lst (us.map tupS)),some (.lst (ts.map tupS)),x7,x8,x9] S:=by
 have y:=st.kt.len;refine⟨aQ7 (by decide),by show okE 9 (.lst (ts.map tupS)) (.lst [])=true;unfold okE;rw[b0];rfl,_,rfl,ite2 (λh0=>?_) λ_=>h _ _ _ st⟩
 have Y:0 < ts.length:=c8.mpr λe=>by subst e;exact absurd h0 (by decide)
 refine⟨_,rfl,a,c,_,rfl,st.dk,by rw[aj];omega,by rw[aj];omega,λv S3 v0 v1 i B=>?_⟩
 rw[aj] at v1;obtain⟨v,rfl⟩:∃ v':Nat,v=v':=⟨v.toNat,by omega⟩
 have O:v < ts.length:=by omega
 have st:=st.off na nc i B;obtain⟨o,G⟩:∃ o,ts[v]?=some o:=⟨_,ah O⟩;have hm:o∈ts:=bw G;refine⟨_,_,rfl,aZs (v:=tupS o) (by rw[br,G];rfl),_,rfl,aQn (enc:=tupS) (p:=λx=>!decide (x=o)) (f:=tupS) (xs:=ts) (λx Z L h=>?_) (λx _ _ L h=>h) (aQ7 (by show 0 + ts.length<=_;omega)) ?_⟩
 ·show eqD true (setE.e x) (setE.e o) _ λd U=>∃ b,d=.bl b/\L b U;exact eq_e (E:=setE) (by decide) ⟨_,rfl,h⟩
 rw[bZ];exact⟨kp,_,rfl,st.hk,rfl,kp,m,ts,o,rfl,st.hk,y,(λh=>absurd hm h),λ_=>⟨false,rfl,h (wot ts o) _ _ (st.put na nc (fZd st.kt))⟩⟩
end
section
variable {P:aC} {w:aH} {K:aq} {mg:Str->Option ae} {base:aO} {cNoSet cKeptSets:Addr}
theorem gZj {f:Addr} {fd:cT} (Fn:Fun K "law" "law" bJl f fd) (B:Bs mg) (MKeptSets:mg "KeptSets"=some (.ref cKeptSets)) (K1KeptSets:fG K cKeptSets=true) (K2KeptSets:cB K (.ref cKeptSets)=true) (ZKeptSets:Cls K cKeptSets) (d_law_deck:Df P w K mg base 49 "_law_deck" ["script"] (spU K cXo)) (d_law_take:Df P w K mg base 49 "_law_take" ["deck", "many"] (spU K aQq)) (d_law_every:Df P w K mg base 49 "_law_every" ["deck"] (spU K bQb)) (d_law_refusals_right:Df P w K mg base 49 "_law_refusals_right" ["deck", "kept", "there", "left"] (spU K (aZb K cKeptSets))) (d_law_first:Df P w K mg base 49 "_law_first" ["sets", "many", "wanted"] (spU K aZr)) (d_law_same:Df P w K mg base 49 "_law_same" ["found", "due"] (spU K aX9)) (d_law_told_right:Df P w K mg base 49 "_law_told_right" ["kept", "sets", "many"] (spU K (aX0 K cKeptSets))) (d_law_by_hand:Df P w K mg base 49 "_law_by_hand" [] (spU K (aJ2 K cKeptSets))) (d_KeptSets_init:DfM P w K mg base 48 cKeptSets "__init__" ["self", "many"] (spU K (bQ1 K cKeptSets))) (d_KeptSets_put_set:DfMX P w K mg base 49 cKeptSets "put_set" ["self", "one"] (spUX K cNoSet (aXn K cKeptSets))) (d_KeptSets_take_set:DfMX P w K mg base 49 cKeptSets "take_set" ["self", "one"] (spUX K cNoSet (aZz K cKeptSets))):FnOk P w K mg base CX0 50 f fd ["script"] (spU K (cQ5 63)):=by
 refine e_fn Fn sc_law ?_ λcdv A outer s H E O=>⟨_,(aQ2 (aQ8 (i:=1) sc_law.nd rfl (aR rfl) (aQ6 d_law_deck O rfl (aQ0 (dv 0) aQ1)))
  (aQ2 (bQ8 cO rfl (aQp rfl B.range (aQ0 aQ5 aQ1)) (aX5 (i:=2) sc_law.nd rfl (aR rfl)) (aQ2 (aQ8 (i:=3) sc_law.nd rfl (aR rfl) (e_ix (aQr (b:=false) (aQ0 aQ5 (aQ0 aQ5 (aQ0 aQ5 (aQ0 aQ5 (aQ0 aQ5 (aQ0 aQ5 aQ1))))))) (aQ6 d_law_take O rfl (aQ0 (dv 1) (aQ0 aQ5 aQ1)))))
  (aQ2 (aQ8 (i:=4) sc_law.nd rfl (aR rfl) (dXv (d_KeptSets_init.init K1KeptSets K2KeptSets) O rfl MKeptSets (aQ0 (dv 3) aQ1)))
  (aQ2 (aQ8 (i:=5) sc_law.nd rfl (aR rfl) (aQ6 d_law_every O rfl (aQ0 (dv 1) aQ1)))
  (aQ2 (aQ8 (i:=6) sc_law.nd rfl (fQ rfl) (aQr (b:=false) aQ1))
  (aQ2 (bQ8 cO rfl (aQp rfl B.range (aQ0 (aQ6 d_law_take O rfl (aQ0 (dv 1) (aQ0 (e_ix (aQr (b:=false) (aQ0 aQ5 (aQ0 aQ5 aQ1))) (eX2 rfl B.int (aQ0 (e_eq O (aQ6 d_law_take O rfl (aQ0 (dv 1) (aQ0 aQ5 aQ1))) aQ5) aQ1))) aQ1))) aQ1)) (aX5 (i:=7) sc_law.nd rfl (aR rfl)) (aQ2 (aXj (i:=8) rfl (aR rfl) (N':=["one", "there"]) (oc:=none) (b:=false) [0] [] rfl sc_law.nd (λ_ _ _=>aQf ..) (.own (.cap (i:=6) rfl (by decide +kernel) .nil)) (aQi rfl) (aZy (dv 5)) (cg_name (i:=0)) (λ_ _ _ _ _=>aQe (i:=0) (nd_ ["one", "there"]) rfl (aR rfl) (.inr rfl)) (λ_ _ _ _ _=>aZ2 (by exact(dZg O (dv 0) (dv 1)))) aQh (λ_ _ _ _ _ _=>aQg rfl (by exact PD.o (dv 0))))
  (aQ2 (aQw (aXa (aZh (aQ6 d_law_refusals_right O rfl (aQ0 (dv 1) (aQ0 (dv 4) (aQ0 (dv 6) (aQ0 (dv 8) aQ1))))))) (aQ3 (aQa e_bl)) aQd)
  (aQ2 (aQw (PWD.pt (bXc (bQe O (dv 8) (aQr (b:=false) aQ1)) (bXc (bJ2 O (aZd rfl B.len (aQ0 (dv 6) aQ1)) aQ5) (bZ8 (PWD.pt (cZ6 (aJ8 O (dv 6) (aQr (b:=false) aQ1)) (bZ9 (gX9 O (aQ6 d_law_take O rfl (aQ0 (dv 1) (aQ0 aQ5 aQ1))) aQ5)))))))) (aQ2 (aQ8 (i:=9) sc_law.nd rfl (fQ rfl) (e_ix (dv 8) (aQ6 d_law_take O rfl (aQ0 (dv 1) (aQ0 (aZd rfl B.len (aQ0 (dv 8) aQ1)) aQ1)))))
  (aQ2 (aQ8 (i:=6) sc_law.nd rfl (fQ rfl) (aXv (b:=false) O rfl B.sorted (aQ0 (aZ0 (k:=false) (dv 6) (aQr (b:=false) (aQ0 (dv 9) aQ1))) aQ1)))
  (aQ3 (aQw (aXa (aZh (aQ6 d_law_same O rfl (aQ0 (cQg d_KeptSets_put_set.df ZKeptSets O (dv 4) (aQ0 (dv 9) aQ1)) (aQ0 (aQ6 d_law_first O rfl (aQ0 (dv 6) (aQ0 (dv 3) (aQ0 (dv 9) aQ1)))) aQ1))))) (aQ3 (aQa e_bl)) aQd)))) (aQ3 (aQw (bQe O (dv 6) (aQr (b:=false) aQ1)) (aQ2 (aQ8 (i:=9) sc_law.nd rfl (fQ rfl) (e_ix (dv 6) (aQ6 d_law_take O rfl (aQ0 (dv 1) (aQ0 (aZd rfl B.len (aQ0 (dv 6) aQ1)) aQ1)))))
  (aQ2 (aQ8 (i:=6) sc_law.nd rfl (fQ rfl) (aZa (N':=["other", "one"]) (oc:=none) (b:=false) [0] [] rfl sc_law.nd (λ_ _ _=>aQf ..) (.own (.cap (i:=9) rfl (by decide +kernel) .nil)) (aQi rfl) (aZy (dv 6)) (cg_name (i:=0)) (λ_ _ _ _ _=>aQe (i:=0) (nd_ ["other", "one"]) rfl (aR rfl) (.inr rfl)) (λ_ _ _ _ _=>aZ2 (by exact(bQe O (dv 0) (dv 1)))) aQh (λ_ _ _ _ _ _=>aQg rfl (by exact PD.o (dv 0)))))
  (aQ3 (aQw (cZ4 O (cQg d_KeptSets_take_set.df ZKeptSets O (dv 4) (aQ0 (dv 9) aQ1)) aJ5) (aQ3 (aQa e_bl)) aQd)))) aQd)))
  (aQ3 (aQw (PWD.pt (bXc (aJ8 O (aQ6 d_law_take O rfl (aQ0 (dv 1) (aQ0 aQ5 aQ1))) aQ5) (bZ8 (aXa (aZh (aQ6 d_law_told_right O rfl (aQ0 (dv 4) (aQ0 (dv 6) (aQ0 (dv 3) aQ1))))))))) (aQ3 (aQa e_bl)) aQd))))))
  (aQ3 (aQw (aXa (aZh (aQ6 d_law_told_right O rfl (aQ0 (dv 4) (aQ0 (dv 6) (aQ0 (dv 3) aQ1)))))) (aQ3 (aQa e_bl)) aQd))))))))
  (aQ3 (aQa (eZe d_law_by_hand O rfl))))),?_⟩
 ·rintro ds S Q ⟨ns,rfl,_⟩;rfl
 ·rintro ds S Q ⟨ns,rfl,h63,hS,q⟩;refine⟨ns,rfl,h63,λa c S1 ha hc off1 dk=>⟨⟨by decide,by decide⟩,?_⟩⟩
  refine aJ9 (λi Γ S'=>∃ (x2 x3 x4 x5 x6 x7 x8 x9:Option D),Γ=[some (.lst (ns.map D.int)),some (.ref a),x2,x3,x4,x5,x6,x7,x8,x9]/\DeckC S' a c) ⟨none,none,none,none,none,none,none,none,rfl,dk⟩ ?_ ?_
  ·rintro i x Γ S2 N hx ⟨x2,x3,x4,x5,x6,x7,x8,x9,rfl,dk2⟩ hN;refine⟨trivial,aQ7 (by show 6<=9999;decide),a,c,6,rfl,dk2,by decide,by decide,λr S3 r0 r1 off3 dk3=>?_⟩
   obtain⟨m,hm,m2,m6⟩:=gJ2 r0 r1;refine⟨_,_,rfl,hm,λkp hkp=>⟨kp,m,rfl,supd_same,rfl,?_⟩⟩;rw[aJe];have L:=dk3.ne hkp;have kn:Kpt []:=⟨.nil,by decide,(λ_ h=>nomatch h)⟩
   have st0:St36 K cKeptSets (supd S3 kp (aQo K cKeptSets m [])) a c kp m []:=⟨dk3.supd L.1 L.2,supd_same,kn⟩;generalize supd S3 kp (aQo K cKeptSets m [])=S4 at st0;refine⟨a,c,rfl,st0.dk,λus S5 us1 us2 us3 off5 dk5=>?_⟩;have st1:=st0.off L.1 L.2 off5 dk5;refine⟨aQ7 (by decide),aQ7 (by show 2<=9999;decide),a,c,8,rfl,st1.dk,by decide,by decide,λr8 S6 r80 r81 off6 dk6=>⟨rfl,?_⟩⟩
   have st2:=st1.off L.1 L.2 off6 dk6;obtain⟨v,hv,v1,v2⟩:∃ v:Int,(∀ b:Bool,b=decide (D.int r8=D.int 0)->atI [D.int 25,.int 61] (if b=true then 1 else 0)=some (.int v))/\1<=v/\v<=61:=by
    cases decide (D.int r8=D.int 0) with
    | true=>exact⟨61,λb e=>by subst e;rfl,by decide,by decide⟩
    | false=>exact⟨25,λb e=>by subst e;rfl,by decide,by decide⟩
   refine⟨_,_,rfl,hv _ rfl,a,c,v,rfl,st2.dk,v1,by omega,λn S7 n0 n1 off7 dk7=>⟨by omega,?_⟩⟩
   have st3:=st2.off L.1 L.2 off7 dk7;refine aJ9 (λi Γ S'=>∃ (ts:List (List Str)) (x7 x8 x9:Option D),Γ=[some (.lst (ns.map D.int)),some (.ref a),some x,some (.int m),some (.ref kp),some (.lst (us.map tupS)),some (.lst (ts.map tupS)),x7,x8,x9]/\St36 K cKeptSets S' a c kp m ts) ⟨[],_,_,_,rfl,st3⟩ ?_ ?_
   ·rintro j y Γ S8 N8 hy ⟨ts,x7,x8,x9,rfl,st⟩ U;have kT:=st.kt;have l14:=kT.len;refine⟨trivial,_,rfl,aQn (enc:=tupS) (p:=λx=>!decide (x∈ts)) (f:=tupS) (xs:=us) (λx hx Q' h=>in_t (neg:=true) (E:=setE) (by decide) rfl h) (λx _ _ Q' h=>h) (aQ7 (by show 0 + us.length<=_;omega)) ?_⟩
    rw[bZ];have lo:∀ x∈us.filter (λx=>!decide (x∈ts)),x∉ts/\Srt x/\x.length<=6:=λx hx=>by
     obtain⟨h1,h2⟩:=cb.mp hx;exact⟨λz=>by simp[z] at h2,us2 x h1⟩
    have l28:(us.filter λx=>!decide (x∈ts)).length<=28:=bc (dh _ _) us3;generalize us.filter (λx=>!decide (x∈ts))=ls at lo l28;refine⟨a,c,kp,m,ts,ls,rfl,st.dk,L.1,L.2,st.hk,m2,m6,kT,λx hx=>(lo x hx).1,l28,λS9 off9 dk9=>?_⟩;have st:=st.off L.1 L.2 off9 dk9;have okn:∀ l:List (List Str),okE 9 (.lst (l.map tupS)) (.lst [])=true:=λl=>by unfold okE;rw[b0];rfl
    refine⟨aQ7 (by decide),okn ls,_,rfl,ite2 (λh1=>⟨_,rfl,_,rfl,ite2 (λh2=>⟨aQ7 (by decide),okn ts,_,rfl,ite2 (λ_=>?_) λ_=>⟨a,c,4,rfl,st.dk,by decide,by decide,λr S r0 r1 off dk=>⟨_,rfl,ite2 (λ_=>?_) λ_=>?_⟩⟩⟩) λ_=>?_⟩) λ_=>?_⟩
    refine eXl st L.1 L.2 m2 m6 (λe=>by subst e;exact absurd h1 (by decide)) l28 lo (by have:=of_decide_eq_true h2;rw[aj] at this;omega) λY Z S' G=>?_;rotate_left
    refine eXl (st.off L.1 L.2 off dk) L.1 L.2 m2 m6 (λe=>by subst e;exact absurd h1 (by decide)) l28 lo (by have:=of_decide_eq_true h2;rw[aj] at this;omega) λY Z S' G=>?_;rotate_left
    refine dJf (st.off L.1 L.2 off dk) L.1 L.2 λY Z S' G=>?_;rotate_left
    refine dJf st L.1 L.2 λY Z S' G=>?_;rotate_left
    refine dJf st L.1 L.2 λY Z S' G=>?_;rotate_left
    all_goals exact⟨a,c,2,rfl,G.dk,by decide,by decide,λr S'' r0 r1 off dk=>⟨rfl,_,rfl,ite2 (λ_=>⟨kp,m,Y,rfl,(G.off L.1 L.2 off dk).hk,G.kt,m2,m6,U _ _ ⟨_,_,_,_,rfl,G.off L.1 L.2 off dk⟩⟩) λ_=>U _ _ ⟨_,_,_,_,rfl,G.off L.1 L.2 off dk⟩⟩⟩
   ·rintro Γ S8 ⟨ts,x7,x8,x9,rfl,st⟩;exact⟨trivial,kp,m,ts,rfl,st.hk,st.kt,m2,m6,hN _ _ ⟨_,_,_,_,_,_,_,_,rfl,st.dk⟩⟩
  ·rintro Γ S2 ⟨x2,x3,x4,x5,x6,x7,x8,x9,rfl,dk2⟩;exact⟨trivial,rfl,aQb (q _)⟩
end
end Toy
set_option maxHeartbeats 4000000
namespace Toy
open PySem L2
theorem fin {l:kD} {w:aH} {K:aq} {h:aO} {mg:Str->Option ae} {fa f3:Addr} (X:K.In h) (G:h.Ns aL mg) (hfa:mg "law"=some (.ref fa)) (B:Bs mg) {cNoSet:Addr} (eNoSet:a7 K aL "NoSet"=some (some (.ref cNoSet))) {cNoSets:Addr} (eNoSets:a7 K aL "NoSets"=some (some (.ref cNoSets))) {cNoFlower:Addr} (eNoFlower:a7 K aL "NoFlower"=some (some (.ref cNoFlower))) {cNoAsk:Addr} (eNoAsk:a7 K aL "NoAsk"=some (some (.ref cNoAsk))) {cPetalError:Addr} (ePetalError:a7 K aL "PetalError"=some (some (.ref cPetalError))) {cKeptSets:Addr} (eKeptSets:a7 K aL "KeptSets"=some (some (.ref cKeptSets))) {nm_NoSet qn_NoSet:Str} {n_NoSet:Addr} {dd_NoSet:Option Addr} {bs_NoSet bm_NoSet sub_NoSet:List ae} {hd_NoSet ab_NoSet:Bool} {sn_NoSet:List Str} {col_NoSet:Option Bool} {ka_NoSet kb_NoSet kc_NoSet kd_NoSet ke_NoSet:Option ae} (lNoSet:K.lookup cNoSet=some (PySem.excClassObj nm_NoSet qn_NoSet cNoSet n_NoSet bs_NoSet bm_NoSet hd_NoSet sn_NoSet sub_NoSet ab_NoSet col_NoSet dd_NoSet ka_NoSet kb_NoSet kc_NoSet kd_NoSet ke_NoSet "ValueError.__new__")) (qNoSet:lg K cNoSet [.type "ValueError",.type "Exception",.type "BaseException",.type "object"] "ValueError.__new__"=true) (ZKeptSets:Cls K cKeptSets) (AKeptSets_many:NoAttr K cKeptSets "many") (AKeptSets_sets:NoAttr K cKeptSets "sets") (XNoSet:ExcK K cNoSet) (BV:mg "ValueError"=none) (JNoSet_NoSets:bH K (.ref cNoSet) (.ref cNoSets)=some false) (JNoSet_NoFlower:bH K (.ref cNoSet) (.ref cNoFlower)=some false) (JNoSet_NoSet:bH K (.ref cNoSet) (.ref cNoSet)=some true) (JNoSet_NoAsk:bH K (.ref cNoSet) (.ref cNoAsk)=some false) (JNoSet_PetalError:bH K (.ref cNoSet) (.ref cPetalError)=some true) (VNoSet:bH K (.ref cNoSet) (.type "ValueError")=some true) (HNoSet_PetalError:jw K (.ref cNoSet) (.ref cPetalError)=some true) (K1KeptSets:fG K cKeptSets=true) (K2KeptSets:cB K (.ref cKeptSets)=true)
  (T1:Tx K mg "without_names" s_without_names) (T2:Tx K mg "choices_of" s_choices_of) (T3:Tx K mg "core_of" s_core_of) (T4:Tx K mg "names_of_all" s_names_of_all) (T5:Tx K mg "first_flower" s_first_flower) (T6:Tx K mg "flowers_of" s_flowers_of) (T7:TxM K cKeptSets "__init__" "KeptSets.__init__" aZk) (T8:TxM K cKeptSets "put_set" "KeptSets.put_set" aZ3) (T9:TxM K cKeptSets "take_set" "KeptSets.take_set" aQy) (T10:TxM K cKeptSets "sets_now" "KeptSets.sets_now" aQz) (T11:TxM K cKeptSets "has_flower" "KeptSets.has_flower" aQs) (T12:Tx K mg "_law_deck" s_law_deck) (T13:Tx K mg "_law_take" s_law_take) (T14:Tx K mg "_law_names" s_law_names) (T15:Tx K mg "_law_shuffled" s_law_shuffled) (T16:Tx K mg "_law_set" s_law_set) (T17:Tx K mg "_law_planted" s_law_planted) (T18:Tx K mg "_law_collection" s_law_collection) (T19:Tx K mg "_law_flags" s_law_flags) (T20:Tx K mg "_law_same" s_law_same) (T21:Tx K mg "_law_joins" s_law_joins) (T22:Tx K mg "_law_first" s_law_first) (T23:Tx K mg "_law_told_right" s_law_told_right) (T24:Tx K mg "_law_every" s_law_every) (T25:Tx K mg "_law_refused" s_law_refused) (T26:Tx K mg "_law_refusals_right" s_law_refusals_right) (T27:Tx K mg "_law_by_hand" s_law_by_hand)
  {od3 an3:Option Addr} {sl3:Array (Option ae)} {oc3 kV3 dc3 pm3 cd3 ct3:ae}
  (a3:a7 K aL "law"=some (some (.ref f3))) (l3:K.lookup f3=some ⟨oc3,od3,.func (eg "law" "law" (aXg bJl) (aZ6 bJl) (aQ4 bJl) .none kV3 dc3 pm3 an3 cd3 ct3),sl3⟩) (c3:fX K cd3 "law"=true) (k3:cB K (.ref f3)=true) :
  ∃ fd:cT,(∀ (s:ai) (v:ae),BindsTo s fd ⟨[v],[]⟩ [("script",v)])/\∀ base:aO,K.In base->base.Ns aL mg->FnOk l.prog w K mg base CX0 50 fa fd ["script"] (spU K (cQ5 63)):=by
 have e:=hfa.symm.trans (eB X G a3);cases e;refine⟨eg "law" "law" (aXg bJl) (aZ6 bJl) (aQ4 bJl) .none kV3 dc3 pm3 an3 cd3 ct3,λs v=>.of_eq rfl,λbase XB GB=>?_⟩;have F3:=dQh (st:=bJl) l3 c3 k3;have MNoSet:=eB X G eNoSet;have ONoSet:=gZ3 XB GB eNoSet lNoSet qNoSet;have MNoSets:=eB X G eNoSets;have MNoFlower:=eB X G eNoFlower;have MNoAsk:=eB X G eNoAsk;have MPetalError:=eB X G ePetalError;have MKeptSets:=eB X G eKeptSets;have d_law_deck:=cZc (P:=l.prog) (w:=w) (base:=base) T12 B;have i:=cZd (P:=l.prog) (w:=w) (base:=base) T13 B;have d_law_names:=cQe (P:=l.prog) (w:=w) (base:=base) T14 B (i.mono (by decide))
 have Y:=bZk (P:=l.prog) (w:=w) (base:=base) T15 B (i.mono (by decide))
 have d_law_planted:=bX2 (P:=l.prog) (w:=w) (base:=base) T17 B (i.mono (by decide)) (Y.mono (by decide))
 have d_law_set:=cJn (P:=l.prog) (w:=w) (base:=base) T16 B (i.mono (by decide)) (Y.mono (by decide))
 have d_law_collection:=bQ0 (P:=l.prog) (w:=w) (base:=base) T18 B (i.mono (by decide)) (d_law_names.mono (by decide)) (d_law_planted.mono (by decide)) (d_law_set.mono (by decide)) (Y.mono (by decide))
 have d_law_every:=cQh (P:=l.prog) (w:=w) (base:=base) T24 B (d_law_collection.mono (by decide)) (i.mono (by decide)) (d_law_set.mono (by decide))
 have d_choices_of:=bJf (P:=l.prog) (w:=w) (base:=base) T2 B;have d_names_of_all:=bZq (P:=l.prog) (w:=w) (base:=base) T4 B;have d_without_names:=bQg (P:=l.prog) (w:=w) (base:=base) T1 B;have d_core_of:=cJp (P:=l.prog) (w:=w) (base:=base) T3 B (d_names_of_all.mono (by decide)) (d_without_names.mono (by decide))
 have d_flowers_of:=bJg (P:=l.prog) (w:=w) (base:=base) T6 B (d_choices_of.mono (by decide)) (d_core_of.mono (by decide))
 have L:=aJa (P:=l.prog) (w:=w) (base:=base) T8 B ONoSet ZKeptSets AKeptSets_many AKeptSets_sets (d_flowers_of.mono (by decide))
 have y:=aXy (P:=l.prog) (w:=w) (base:=base) T9 B ONoSet ZKeptSets AKeptSets_sets;have d_law_flags:=cQi (P:=l.prog) (w:=w) (base:=base) T19 B XNoSet MNoSets MNoFlower MNoSet MNoAsk MPetalError BV JNoSet_NoSets JNoSet_NoFlower JNoSet_NoSet JNoSet_NoAsk JNoSet_PetalError VNoSet;have d_law_refused:=bX3 (P:=l.prog) (w:=w) (base:=base) T25 B MPetalError HNoSet_PetalError ZKeptSets (L.mono (by decide)) (y.mono (by decide)) (d_law_flags.mono (by decide))
 have d_law_refusals_right:=aXq (P:=l.prog) (w:=w) (base:=base) T26 B (d_law_refused.mono (by decide)) (i.mono (by decide))
 have d_law_joins:=cQk (P:=l.prog) (w:=w) (base:=base) T21 B;have d_law_first:=cQl (P:=l.prog) (w:=w) (base:=base) T22 B (d_law_joins.mono (by decide))
 have d_law_same:=cZh (P:=l.prog) (w:=w) (base:=base) T20 B;have U:=aJ0 (P:=l.prog) (w:=w) (base:=base) T10 B ZKeptSets AKeptSets_sets;have d_first_flower:=bZu (P:=l.prog) (w:=w) (base:=base) T5 B (d_flowers_of.mono (by decide))
 have O:=aXf (P:=l.prog) (w:=w) (base:=base) T11 B ZKeptSets AKeptSets_many AKeptSets_sets (d_first_flower.mono (by decide))
 have d_law_told_right:=bQ2 (P:=l.prog) (w:=w) (base:=base) T23 B ZKeptSets (U.mono (by decide)) (O.mono (by decide)) (d_law_first.mono (by decide)) (d_law_same.mono (by decide))
 have Z:=bQi (P:=l.prog) (w:=w) (base:=base) T7 B ZKeptSets AKeptSets_many AKeptSets_sets;have d_law_by_hand:=bX4 (P:=l.prog) (w:=w) (base:=base) T27 B MKeptSets K1KeptSets K2KeptSets ZKeptSets (Z.mono (by decide)) (L.mono (by decide)) (y.mono (by decide)) (U.mono (by decide)) (O.mono (by decide))
 exact gZj F3 B MKeptSets K1KeptSets K2KeptSets ZKeptSets (d_law_deck.mono (by decide)) (i.mono (by decide)) (d_law_every.mono (by decide)) (d_law_refusals_right.mono (by decide)) (d_law_first.mono (by decide)) (d_law_same.mono (by decide)) (d_law_told_right.mono (by decide)) (d_law_by_hand.mono (by decide)) (Z.mono (by decide)) (L.mono (by decide)) (y.mono (by decide))
end Toy
namespace PySem.W.Fast
theorem tw15133151956500866903:True:=⟨⟩
theorem tw1031809602302288347:True:=⟨⟩
theorem tw8284045752926731136:True:=⟨⟩
theorem tw1261776762089811219:True:=⟨⟩
theorem tw14753111349758060534:True:=⟨⟩
theorem tw10428996137127505371:True:=⟨⟩
theorem tw14928229132262773135:True:=⟨⟩
theorem tw656057309242256320:True:=⟨⟩
theorem tw14464497618692267152:True:=⟨⟩
theorem tw5131900558457985360:True:=⟨⟩
theorem tw16578760526483108948:True:=⟨⟩
theorem tw2676231856870571238:True:=⟨⟩
theorem tw14123460734021668494:True:=⟨⟩
theorem tw6638853187531658763:True:=⟨⟩
theorem tw1334486423294462809:True:=⟨⟩
theorem tw3242433852483593606:True:=⟨⟩
theorem tw17231372849911370286:True:=⟨⟩
theorem tw584913507517771019:True:=⟨⟩
end PySem.W.Fast
open PySem PySem.W PyProof.Rows
set_option maxRecDepth 100000 in
set_option maxHeartbeats 0 in
theorem PySem.Challenge.cw_corepetals_k36_kept_sets_told_holds : PySem.Challenge.rw_corepetals_k36_kept_sets_told.Holds := by
 w_on;o_law;k_head;(case hw=>w_witness2)
 k_fill
 refine L2.walkD (l:=PySem.Challenge.rw_corepetals_k36_kept_sets_told) rfl rfl (λw h Y=>PySem.W.kIn_of Y) ?F
 case F =>
  intro w mg fa h KX G hmg;have B:L2.Bs mg:=by
   refine' L2.bs_mk KX G (L2.bs_all ?z1 ?z2 ?z3 ?z4 ?z5 ?z6 ?z7 ?z8 ?z9 ?z10 ?z11 ?z12 ?z13 ?z14 ?z15 ?z16 ?z17) <;> k_is
  have BV:mg "ValueError"=none:=by
   refine' PySem.W.mg_none_of KX G ?zv
   k_is
  have T1:L2.Tx (L2.KOf KX) mg "without_names" Toy.s_without_names:=by
   dsimp only[L2.KOf];exact L2.tx_mk KX G (by k_is) (by k_is) (by k_is) (by k_is)
  have T2:L2.Tx (L2.KOf KX) mg "choices_of" Toy.s_choices_of:=by
   dsimp only[L2.KOf];exact L2.tx_mk KX G (by k_is) (by k_is) (by k_is) (by k_is)
  have T3:L2.Tx (L2.KOf KX) mg "core_of" Toy.s_core_of:=by
   dsimp only[L2.KOf];exact L2.tx_mk KX G (by k_is) (by k_is) (by k_is) (by k_is)
  have T4:L2.Tx (L2.KOf KX) mg "names_of_all" Toy.s_names_of_all:=by
   dsimp only[L2.KOf];exact L2.tx_mk KX G (by k_is) (by k_is) (by k_is) (by k_is)
  have T5:L2.Tx (L2.KOf KX) mg "first_flower" Toy.s_first_flower:=by
   dsimp only[L2.KOf];exact L2.tx_mk KX G (by k_is) (by k_is) (by k_is) (by k_is)
  have T6:L2.Tx (L2.KOf KX) mg "flowers_of" Toy.s_flowers_of:=by
   dsimp only[L2.KOf];exact L2.tx_mk KX G (by k_is) (by k_is) (by k_is) (by k_is)
  have T12:L2.Tx (L2.KOf KX) mg "_law_deck" Toy.s_law_deck:=by
   dsimp only[L2.KOf];exact L2.tx_mk KX G (by k_is) (by k_is) (by k_is) (by k_is)
  have T13:L2.Tx (L2.KOf KX) mg "_law_take" Toy.s_law_take:=by
   dsimp only[L2.KOf];exact L2.tx_mk KX G (by k_is) (by k_is) (by k_is) (by k_is)
  have T14:L2.Tx (L2.KOf KX) mg "_law_names" Toy.s_law_names:=by
   dsimp only[L2.KOf];exact L2.tx_mk KX G (by k_is) (by k_is) (by k_is) (by k_is)
  have T15:L2.Tx (L2.KOf KX) mg "_law_shuffled" Toy.s_law_shuffled:=by
   dsimp only[L2.KOf];exact L2.tx_mk KX G (by k_is) (by k_is) (by k_is) (by k_is)
  have T16:L2.Tx (L2.KOf KX) mg "_law_set" Toy.s_law_set:=by
   dsimp only[L2.KOf];exact L2.tx_mk KX G (by k_is) (by k_is) (by k_is) (by k_is)
  have T17:L2.Tx (L2.KOf KX) mg "_law_planted" Toy.s_law_planted:=by
   dsimp only[L2.KOf];exact L2.tx_mk KX G (by k_is) (by k_is) (by k_is) (by k_is)
  have T18:L2.Tx (L2.KOf KX) mg "_law_collection" Toy.s_law_collection:=by
   dsimp only[L2.KOf];exact L2.tx_mk KX G (by k_is) (by k_is) (by k_is) (by k_is)
  have T19:L2.Tx (L2.KOf KX) mg "_law_flags" Toy.s_law_flags:=by
   dsimp only[L2.KOf];exact L2.tx_mk KX G (by k_is) (by k_is) (by k_is) (by k_is)
  have T20:L2.Tx (L2.KOf KX) mg "_law_same" Toy.s_law_same:=by
   dsimp only[L2.KOf];exact L2.tx_mk KX G (by k_is) (by k_is) (by k_is) (by k_is)
  have T21:L2.Tx (L2.KOf KX) mg "_law_joins" Toy.s_law_joins:=by
   dsimp only[L2.KOf];exact L2.tx_mk KX G (by k_is) (by k_is) (by k_is) (by k_is)
  have T22:L2.Tx (L2.KOf KX) mg "_law_first" Toy.s_law_first:=by
   dsimp only[L2.KOf];exact L2.tx_mk KX G (by k_is) (by k_is) (by k_is) (by k_is)
  have T23:L2.Tx (L2.KOf KX) mg "_law_told_right" Toy.s_law_told_right:=by
   dsimp only[L2.KOf];exact L2.tx_mk KX G (by k_is) (by k_is) (by k_is) (by k_is)
  have T24:L2.Tx (L2.KOf KX) mg "_law_every" Toy.s_law_every:=by
   dsimp only[L2.KOf];exact L2.tx_mk KX G (by k_is) (by k_is) (by k_is) (by k_is)
  have T25:L2.Tx (L2.KOf KX) mg "_law_refused" Toy.s_law_refused:=by
   dsimp only[L2.KOf];exact L2.tx_mk KX G (by k_is) (by k_is) (by k_is) (by k_is)
  have T26:L2.Tx (L2.KOf KX) mg "_law_refusals_right" Toy.s_law_refusals_right:=by
   dsimp only[L2.KOf];exact L2.tx_mk KX G (by k_is) (by k_is) (by k_is) (by k_is)
  have T27:L2.Tx (L2.KOf KX) mg "_law_by_hand" Toy.s_law_by_hand:=by
   dsimp only[L2.KOf];exact L2.tx_mk KX G (by k_is) (by k_is) (by k_is) (by k_is)
  refine' Toy.fin KX G hmg B ?eNoSet ?eNoSets ?eNoFlower ?eNoAsk ?ePetalError ?eKeptSets ?lNoSet ?qNoSet ?hZKeptSets ?hAKeptSets_many ?hAKeptSets_sets ?hXNoSet BV ?hJNoSet_NoSets ?hJNoSet_NoFlower ?hJNoSet_NoSet ?hJNoSet_NoAsk ?hJNoSet_PetalError ?hVNoSet ?hHNoSet_PetalError ?hK1KeptSets ?hK2KeptSets T1 T2 T3 T4 T5 T6 ?T7 ?T8 ?T9 ?T10 ?T11 T12 T13 T14 T15 T16 T17 T18 T19 T20 T21 T22 T23 T24 T25 T26 T27 ?a ?l ?c ?k
  (case eNoSet=>k_is)
  (case eNoSets=>k_is)
  (case eNoFlower=>k_is)
  (case eNoAsk=>k_is)
  (case ePetalError=>k_is)
  (case eKeptSets=>k_is)
  (case lNoSet=>k_is)
  (case qNoSet=>k_exc)
  (case hZKeptSets=>exact⟨by k_is,by k_is,by k_is,by k_is⟩)
  (case hAKeptSets_many=>(unfold L2.NoAttr;k_is))
  (case hAKeptSets_sets=>(unfold L2.NoAttr;k_is))
  (case hXNoSet=>exact⟨by k_is,by k_is,by k_is,by k_is,by k_is,by k_is⟩)
  (case hJNoSet_NoSets=>kit_is)
  (case hJNoSet_NoFlower=>kit_is)
  (case hJNoSet_NoSet=>kit_is)
  (case hJNoSet_NoAsk=>kit_is)
  (case hJNoSet_PetalError=>kit_is)
  (case hVNoSet=>kit_is)
  (case hHNoSet_PetalError=>kts_exm)
  (case hK1KeptSets=>k_is)
  (case hK2KeptSets=>k_is)
  (case T7=>exact L2.txm_mk (by k_is) (by k_is) (by k_is) (by k_is) (by k_is))
  (case T8=>exact L2.txm_mk (by k_is) (by k_is) (by k_is) (by k_is) (by k_is))
  (case T9=>exact L2.txm_mk (by k_is) (by k_is) (by k_is) (by k_is) (by k_is))
  (case T10=>exact L2.txm_mk (by k_is) (by k_is) (by k_is) (by k_is) (by k_is))
  (case T11=>exact L2.txm_mk (by k_is) (by k_is) (by k_is) (by k_is) (by k_is))
  (case a=>k_is);(case l=>k_is);(case c=>k_is);(case k=>k_is)
