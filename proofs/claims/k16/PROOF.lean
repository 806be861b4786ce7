import PyProof.Rows.All
import Wide.All
import OpenK.AllK
import Wide.FinOn
import Lean
import PyProof.EqAt
import PyProof.EqKinds
import PyProof.TupleCall
import PySem.SetOps
import KE.KSortTup
import PyProof.Rows.SortShellK
import KE.KDictSum
import PyProof.Rows.StrJoin2
import PyProof.Rows.SumAny
import KE.KxText
import PyProof.ZipIter
import PyProof.Rows.FactsT2
import PyProof.Rows.ZipGen
import PyProof.StrOps2
import PyProof.ListRange
import PyProof.ListStr
import PyProof.FString5
import PyProof.AutoSeq1
import PyProof.MinMaxWalk
import PyProof.WalksMore
import PyProof.Rows.CallKwBuiltin
import KE.KMinKey
import PyProof.Rows.BitMore
import KE.KLam
import Wide.Seal
import PyProof.DictItems
import KE.KPairComp
import PyProof.Rows.TupDisplay
import PyProof.TupleOfStr
import PyProof.TupleKey
import PySem.Challenge.RW_corepetals_k16_flowers_counted
open Array renaming filterMap -> jE, forIn_toList -> fW, getD -> gF, getD_eq_getD_getElem? -> bU, getElem?_eq_getElem -> fG, getElem?_eq_some_iff -> c8, getElem?_replicate -> iT, getElem?_setIfInBounds_ne -> gz, getElem?_setIfInBounds_self_of_lt -> ff, getElem?_toList -> aQ, length_toList -> bf, mem_of_getElem? -> eX, mem_toList_iff -> cT, perm_iff_toList_perm -> cI, replicate -> fT, size_append -> e9, size_map -> jO, size_push -> dj, toList_append -> ce, toList_push -> cj, toList_reverse -> fu, toList_setIfInBounds -> iB
open Array.Perm renaming refl -> jF
open Bool renaming and_eq_true -> aV, and_false -> jM, eq_false_iff -> eY, eq_iff_iff -> dU, false_eq_true -> aL, false_ne_true -> ba, not_eq_true' -> dP, not_false -> jP, not_true -> fN, true_and -> eV
open Classical renaming byContradiction -> aK
open False renaming elim -> dQ
open ForInStep renaming done -> bi, yield -> bp
open Int renaming emod_lt_of_pos -> io, emod_nonneg -> jC, fdiv_eq_ediv_of_nonneg -> ie, natCast_add -> gU, natCast_nonneg -> ic, toNat_natCast -> bG, zero_add -> hU
open LawfulBEq renaming eq_of_beq -> hW
open List renaming Pairwise -> jW, Perm -> jQ, all_cons -> fP, all_eq_true -> a7, all_map -> g9, any_cons -> iY, any_eq_true -> ja, append_assoc -> aR, append_nil -> bR, drop_append -> fB, drop_append_of_le_length -> gQ, drop_eq_getElem_cons -> cM, drop_eq_nil_of_le -> bA, drop_length -> fE, drop_zero -> gl, eq_nil_of_length_eq_zero -> cu, ext_getElem -> fC, ext_getElem? -> gk, filterMap_cons -> cy, filter_append -> fY, filter_congr -> fb, filter_cons -> bJ, filter_eq_self -> gX, find?_cons -> cR, flatMap_cons -> bH, flatMap_nil -> gH, flatten_append -> fI, flatten_singleton -> dZ, forIn_cons -> dh, forIn_nil -> ir, getD_eq_getElem?_getD -> aj, getElem?_append_left -> cL, getElem?_append_right -> bL, getElem?_cons_succ -> i9, getElem?_cons_zero -> jh, getElem?_eq_getElem -> ag, getElem?_eq_none -> bP, getElem?_eq_some_iff -> aD, getElem?_map -> aJ, getElem?_set_ne -> fg, getElem?_take_of_lt -> fK, getElem_drop -> gp, getElem_map -> fD, getElem_mem -> d6, getElem_of_mem -> bn, getElem_range -> iE, getElem_take -> gn, getLastD_cons -> iF, getLast_eq_getElem -> jd, isEmpty_nil -> je, length -> eE, length_append -> az, length_cons -> aO, length_drop -> bB, length_eq_zero_iff -> ga, length_eraseIdx_of_lt -> iy, length_filter_le -> dD, length_map -> ap, length_nil -> b4, length_pos_iff -> db, length_range -> dN, length_range' -> iG, length_singleton -> du, length_take -> aS, lookup_cons -> cK, mapM_toArray -> iP, map_append -> br, map_congr_left -> de, map_cons -> aG, map_id -> gS, map_map -> bo, map_nil -> eQ, map_take -> iZ, mem_append -> aU, mem_append_left -> cF, mem_append_right -> bj, mem_cons -> aB, mem_cons_of_mem -> ao, mem_cons_self -> am, mem_filter -> bu, mem_filterMap -> eP, mem_iff_getElem -> gR, mem_map -> cC, mem_of_getElem? -> ak, mem_of_mem_drop -> dI, mem_of_mem_take -> dJ, mem_range -> bh, mem_reverse -> jg, mem_singleton -> aN, mergeSort_perm -> gW, nil_append -> bS, nodup_append -> eZ, nodup_cons -> bZ, nodup_nil -> d8, not_mem_nil -> d5, of_mem_zip -> jA, pairwise_append -> a9, pairwise_cons -> bd, pairwise_iff_getElem -> bT, pairwise_lt_range -> gu, pairwise_map -> gq, pairwise_mergeSort -> gb, pairwise_reverse -> gC, pairwise_singleton -> bt, perm_append_comm -> dA, perm_middle -> fy, range -> aY, range' -> d4, range'_succ -> ji, range_succ -> jD, replicate -> ik, reverse_perm -> iQ, size_toArray -> aq, sum_cons -> cr, take_add_one -> cm, take_append_drop -> bE, take_append_of_le_length -> dM, take_length -> b5, take_of_length_le -> bq, take_sublist -> c5, zip_cons_cons -> dF, zip_nil_left -> iO, zip_nil_right -> eR
open List.Pairwise renaming filter -> cX, imp_of_mem -> dH, nil -> gi
open List.Perm renaming append_left -> er, append_right -> dY, refl -> da
open List.Sublist renaming cons₂ -> jZ, refl -> j3
open Ne renaming symm -> cN
open Option renaming getD_none -> i7, getD_some -> jb, isSome_iff_exists -> cx, map_eq_some_iff -> bz
open Option.some renaming inj -> aP
open Or renaming inl -> aW
open PyProof.Rows renaming AllBare -> iM, IntsAre -> gZ, IsTup -> iK, Keyed -> aH, SortKind -> eM, SortSt -> cG, arrOf -> aM, bitAnd_pp -> jy, boot_enumerate -> g6, callWith_type1 -> cY, elem' -> ef, envOfC -> iS, failedOf -> ft, get?_update_seq -> fU, lt_str -> jR, mirror -> dl, pairsOf -> gM, pairsOf_toList -> iD, pendingOf -> bK, reverseSlice'_eq -> cW, seqObj -> cz, setArr -> cE, setPending -> fw, slot_tuple_getitem -> ca, sortedHeap -> iC, wpS_bind -> au, wpS_forRange -> bO, wpS_get -> hJ, wpS_lift -> iA, wpS_modify -> cH, wpS_mono -> cV, wpS_pure -> aA
open PyProof.Rows.F renaming entry_set_update_loop -> fH, plain_set_update_loop -> dX
open PyProof.Rows.SortSt renaming mk' -> iz
open PySem renaming Around -> a6, Builtin -> b6, Comprehension -> eI, DictEntry -> i5, Fin -> hZ, FuncData -> dq, Heap -> be, IsItemIter -> fZ, IsTupleKey -> jv, Keyword -> fx, NameKind -> eT, Paired -> aZ, Program -> ay, SetTable -> aX, Shared -> ai, Value -> ae, World -> aI, assignEach -> fh, attributeBase -> d3, backTo -> cw, backToKw -> i8, behindInMarks -> d0, binaryOp -> dW, bootBuiltins -> bC, cLine -> b7, call_meets -> ju, carriedByValue -> ip, cellsFrom -> eK, codeAny -> gI, codeAny_builtin -> dR, codeAny_mono -> gY, compEnvC -> gO, compTurn -> fq, compareOp -> bW, concat_meets -> js, firstArgMember -> iu, foldedSetIterable -> cB, getItem -> jt, keywordEach -> f8, letOwnedTupleGo -> fR, mainGlobals -> a8, mem_of_lookup -> eJ, model -> aF, noFill_tuple_add -> i6, ofAClassStatement -> e8, pickOrder -> hX, plainId_quiet -> gL, pushCells -> f9, pyNext -> fj, rawInt -> eW, setField -> gP, setsByText -> jx, sizeLine_eq -> bF, sliceBounds -> f7, standAt -> jq, starEach -> ax, strKind -> iU, swapsWith -> gE, sysModules -> eG, unsupported -> eO, wpAny -> aE, wpAny_Call_Name_kw -> ij, wpAny_askSetting -> dE, wpAny_attempt -> fO, wpAny_bind -> ad, wpAny_callSpecial?_slot -> bX, wpAny_call_entry -> bM, wpAny_dictEntries -> iR, wpAny_eqBool_tuple -> iq, wpAny_field -> dg, wpAny_fieldsOf -> gx, wpAny_forIn_list -> gG, wpAny_holding -> cO, wpAny_isInstance -> fA, wpAny_isOneOf_itemiter -> eS, wpAny_ite_split -> gT, wpAny_loadPart' -> eD, wpAny_mono -> d7, wpAny_newObj_type -> bm, wpAny_passesOwn -> fS, wpAny_pure -> af, wpAny_pyIter_enum -> gw, wpAny_pyIter_list -> gv, wpAny_pyIter_tuple -> iw, wpAny_rule -> d9, wpAny_seqItems -> eL, wpAny_setField_rec -> bI, wpAny_setState_of -> dO, wpAny_standAt -> gK, wpAny_truthy_bool -> cA, wpAny_typeNameOfWhole_itemiter -> dG, wpAny_typeNameOf_itemiter -> eC, wpAny_typeOf -> gg
open PySem.Around renaming under_plainId -> cU
open PySem.AutoSeq1 renaming sub_tuple_tuple -> iV
open PySem.Builtin renaming bitAnd -> bD
open PySem.Builtin.Dict renaming showsAll -> jK
open PySem.Builtin.Dict_items renaming ownedTupleFields -> fQ, ownsTuple -> eU, pairFromOwner -> gy
open PySem.Builtin.Frozenset renaming addrOf -> iW
open PySem.Builtin.List renaming listExtendWith -> g8, listLengthHint -> g7, listSameRef -> iX, listTooLong -> fM
open PySem.Builtin.Slice renaming sliceAdjust -> fF, sliceApplied -> fm, slicePlaces -> eA
open PySem.Builtin.SmallTypes renaming nextOf -> iH
open PySem.Builtin.Str renaming strSliceIndices -> cD
open PySem.Builtin.Tuple renaming tupleCompareSizes -> gA, tupleExact -> b8, tupleItemsOf -> fo
open PySem.Calls renaming Name_function_global -> h9, callWith_builtin -> gh, call_function_entry -> iJ, spliced_cons -> ii
open PySem.Code renaming compLoop -> jT
open PySem.F renaming args_tuple_add_2 -> fL, args_tuple_lt_2 -> jc, entry_extend_loop -> iI, entry_tuple_add -> f6, entry_tuple_lt -> jw, plainAttrs_dict -> jj, plainAttrs_list -> eN, plain_extend_loop -> eB, plain_list_iadd -> jf, plain_set_new -> jH, slot_dict_get -> jJ, slot_dict_items -> jl, slot_set_iter -> jI, slot_tuple_add -> gf, slot_tuple_lt -> gB
open PySem.Heap renaming SameBut -> cQ, get?_push_of_some -> ah, get?_push_size -> av, get?_update_other -> cJ, get?_update_self -> dw, lt_size -> aC, size_push -> cP
open PySem.Heap.SameBut renaming extBut -> fJ, update -> cf
open PySem.NameKind renaming cell -> gJ, free -> aT
open PySem.Obj renaming mapSeq -> b9, putSet -> fX
open PySem.Paired renaming length -> bV
open PySem.PassesOwn renaming never -> ci
open PySem.SeqAt renaming EqAt -> cS, RcNeAt -> cv
open PySem.SeqAt.EqAt renaming of_refs -> jY, same -> jG, str_str -> ix
open PySem.SetTable renaming fill -> jV, fits -> jU, fresh -> jN
open PySem.Shared renaming TypeIs -> jX
open PySem.Str renaming ofString -> cb
open PySem.Value renaming bool -> jp, int -> gD, isStrOf -> jS, isStrOf_shape -> gV, none -> bQ, ref -> bY, str -> i4, type -> cZ
open PySem.W renaming Frag -> ar, OpenLaw -> jB, cellsFrom_some -> jr, codeIn -> gc, fnOf -> eF, instObj -> jz, keepIn -> fk, kia_one -> cg, kitOne -> ig, kitx_list -> iN, lookIn -> jL, methodObj -> iL, nsIn -> bN
open PySem.pickOrder renaming go -> j0
open Sum renaming inl -> jn, inr -> jo
open True renaming intro -> fV
set_option Elab.async false
set_option linter.all false
set_option maxRecDepth 100000
namespace L2
open PySem PySem.Spec PyProof.Rows
abbrev Key:=Sum Int Str
def keyIs:Key->ae->Bool
 | .inl k,v=>ae.isInt k v
 | .inr x,v=>jS x v
def keyH (w:aI):Key->Int
 | .inl k=>hashInt k
 | .inr x=>hashStr w x
theorem keyIs_shape:∀ {k:Key} {v:ae},keyIs k v=true->(∃ i t,k=jn i/\v=gD i t)\/(∃ x t,k=jo x/\v=i4 x t)
 | .inl i,v,h=>by
  obtain⟨t,e⟩:=ae.isInt_shape (k:=i) (v:=v) h;exact .inl ⟨i,t,rfl,e⟩
 | .inr x,v,h=>by
  obtain⟨t,e⟩:=gV (x:=x) (v:=v) h;exact .inr ⟨x,t,rfl,e⟩
theorem key_ll (a b:Int):decide ((jn a:Key)=jn b)=(a == b):=by
 by_cases e:a=b
 ·subst e;simp
 ·have h:¬ (jn a:Key)=jn b:=fun q=>e (jn.inj q);rw[decide_eq_false h];exact(beq_eq_false_iff_ne.mpr e).symm
theorem key_rr (a b:Str):decide ((jo a:Key)=jo b)=decide (a=b):=by
 by_cases e:a=b
 ·subst e;simp
 ·have h:¬ (jo a:Key)=jo b:=fun q=>e (jo.inj q);rw[decide_eq_false h,decide_eq_false e]
theorem key_lr (a:Int) (b:Str):decide ((jn a:Key)=jo b)=false:=decide_eq_false (fun q=>nomatch q)
theorem key_rl (a:Str) (b:Int):decide ((jo a:Key)=jn b)=false:=decide_eq_false (fun q=>nomatch q)
def mixKind (prog:ay) (w:aI):PySem.KeyKind prog w Key where
 is:=keyIs
 hash:=keyH w
 inj:=fun v a b ha hb=>by
  rcases keyIs_shape ha with⟨i,t,rfl,rfl⟩ | ⟨x,t,rfl,rfl⟩
  ·rcases keyIs_shape hb with⟨j,u,rfl,e⟩ | ⟨y,u,rfl,e⟩
   ·injection e with e1 _;rw[e1]
   ·exact nomatch e
  ·rcases keyIs_shape hb with⟨j,u,rfl,e⟩ | ⟨y,u,rfl,e⟩
   ·exact nomatch e
   ·injection e with e1 _;rw[e1]
 byValue:=fun k v h=>by
  rcases keyIs_shape h with⟨i,t,rfl,rfl⟩ | ⟨x,t,rfl,rfl⟩ <;> rfl
 pyHash:=fun hv h=>by
  rcases keyIs_shape hv with⟨i,t,rfl,rfl⟩ | ⟨x,t,rfl,rfl⟩
  ·exact wpAny_pyHash_int h
  ·exact wpAny_pyHash_str h
 eqBool:=fun hu hv h=>by
  rcases keyIs_shape hu with⟨i,t,rfl,rfl⟩ | ⟨x,t,rfl,rfl⟩
  ·rcases keyIs_shape hv with⟨j,u,rfl,rfl⟩ | ⟨y,u,rfl,rfl⟩
   ·rw[key_ll] at h;exact wpAny_eqBool_int h
   ·rw[key_lr] at h;exact cS.int_str i t y u _ _ _ _ h
  ·rcases keyIs_shape hv with⟨j,u,rfl,rfl⟩ | ⟨y,u,rfl,rfl⟩
   ·rw[key_rl] at h;exact cS.str_int x t j u _ _ _ _ h
   ·rw[key_rr] at h;exact wpAny_eqBool_str h
 «strs»:=fun k x t v h=>by
  rcases keyIs_shape h with⟨i,u,rfl,e⟩ | ⟨y,u,rfl,e⟩
  ·exact nomatch e
  ·injection e with e1 _
   subst e1;cases v <;> rfl
inductive V where
 | non | bl (b:Bool) | int (i:Int) | str (x:Str) | byt (b:Array UInt8) | flt (b:UInt64) | ref (a:Addr) | ty (n:String)
 deriving DecidableEq
def RelV:V->ae->Prop
 | .non,u=>u=bQ
 | .bl b,u=>u=jp b
 | .int i,u=>∃ t,u=gD i t
 | .str x,u=>∃ t,u=i4 x t
 | .byt b,u=>∃ t,u=ae.bytes b t
 | .flt b,u=>∃ t,u=ae.float b t
 | .ref a,u=>u=bY a
 | .ty n,u=>u=cZ n
abbrev Vals:List V->List ae->Prop:=aZ RelV
theorem Vals.length {xs:List V} {us:List ae} (r:Vals xs us):xs.length=us.length:=bV r
theorem Vals.get:∀ {xs:List V} {us:List ae} {i:Nat} {x:V},Vals xs us->xs[i]?=some x->∃ u,us[i]?=some u/\RelV x u
 | _,_,_,_,.nil,e=>by simp at e
 | _,_,0,_,.cons r _,e=>by simp at e;subst e;exact⟨_,rfl,r⟩
 | _,_,i + 1,x,.cons _ t,e=>by
  obtain⟨u,h1,h2⟩:=Vals.get (i:=i) (x:=x) t (by simpa using e)
  exact⟨u,by simpa using h1,h2⟩
theorem Vals.append:∀ {xs ys:List V} {us ws:List ae},Vals xs us->Vals ys ws->Vals (xs++ys) (us++ws)
 | _,_,_,_,.nil,s=>s
 | _,_,_,_,.cons r t,s=>.cons r (Vals.append t s)
theorem Vals.take:∀ {xs:List V} {us:List ae} (n:Nat),Vals xs us->Vals (xs.take n) (us.take n)
 | _,_,0,_=>.nil
 | _,_,_ + 1,.nil=>.nil
 | _,_,n + 1,.cons r t=>.cons r (Vals.take n t)
theorem Vals.drop:∀ {xs:List V} {us:List ae} (n:Nat),Vals xs us->Vals (xs.drop n) (us.drop n)
 | _,_,0,r=>r
 | _,_,_ + 1,.nil=>.nil
 | _,_,n + 1,.cons _ t=>Vals.drop n t
def RelO:Option V->Option ae->Prop
 | some v,some u=>RelV v u
 | none,none=>True
 | _,_=>False
def KV {κ:Type}:List (κ × V)->List (κ × ae)->Prop:=aZ fun(p:κ × V) (q:κ × ae)=>p.1=q.1/\RelV p.2 q.2
def kV:Key->V
 | .inl i=>.int i
 | .inr x=>.str x
inductive HO where
 | lst (xs:List V)
 | tup (xs:List V)
 | dK (kvs:List (Key × V)) | dT (kvs:List (List Key × V))
 | set (S:Int->Bool) (n:Nat)
 | ins (C dx:Addr) (fs:List (Str × V))
 | own (x:Addr)
 | xd (fs:List (Str × V))
 | met (f x:Addr)
 | rng (lo hi:Int)
 | frz (o:Obj) (u:HO)
 | tbl (ps:Array ae)
 | ext (φ:be->Prop)
abbrev Hp:=Addr->Option HO
def upd (H:Hp) (a:Addr) (o:HO):Hp:=fun b=>if b=a then some o else H b
theorem upd_same {H:Hp} {a:Addr} {o:HO}:upd H a o a=some o:=by unfold upd;rw[if_pos rfl]
theorem upd_ne {H:Hp} {a b:Addr} {o:HO} (h:b≠a):upd H a o b=H b:=by unfold upd;rw[if_neg h]
theorem ne_of_none {H:Hp} {a b:Addr} {o:HO} (h:H a=some o) (h':H b=none):a≠b:=by
 intro e;subst e;rw[h] at h';cases h'
section
variable (P:ay) (w:aI)
def ObjOk (H:Hp) (h:be) (a:Addr):HO->Prop
 | .lst xs=>xs.length<=sizeLine/\∃ (its:List ae) (n:Nat),Vals xs its/\h.get? a=some { cls:=.type "list",data:=.seq its.toArray n }
 | .tup xs=>xs.length<=sizeLine/\∃ its:List ae,Vals xs its/\iK h a its.toArray/\∀ o,h.get? a=some o->o.dict=none
 | .dK kvs=>kvs.length<=sizeLine/\(a == eG)=false/\∃ vs,KV kvs vs/\h.DictOf (mixKind P w) a vs
 | .dT kvs=>kvs.length<=sizeLine/\(a == eG)=false/\∃ xs:List (List Key × Addr × ae),
   aZ (fun(p:List Key × V) (q:List Key × Addr × ae)=>p.1=q.1/\H q.2.1=some (.tup (p.1.map kV))/\RelV p.2 q.2.2) kvs xs /\
   ∃ o es ep,h.get? a=some o/\o.ExactDict/\o.data=.dict es ep/\es.toList=xs.map (entryOfKey (tupleKind (mixKind P w)))/\(xs.map (·.1)).Nodup
 | .set S n=>h.SetOf (intKind P w) a S n
 | .ins C dx fs=>H dx=some (.own a)/\fs.length<=1000/\dx≠a/\h.get? a=some (jz C dx) /\
   ∃ mA,h.Ns1 dx mA/\(∀ f,RelO (fs.lookup f) (mA f))/\PySem.Within mA (fs.map (·.1))
 | .own _=>∃ o,h.get? a=some o
 | .xd fs=>∃ mA,h.Ns1 a mA/\∀ f,RelO (fs.lookup f) (mA f)
 | .rng lo hi=>∃ t u v,h.get? a=some { cls:=.type "range",data:=.fields #[.int lo t,.int hi u,.int 1 v] }
 | .frz o u=>h.get? a=some o/\ObjOk H h a u
 | .tbl ps=>h.get? a=some { cls:=.none,data:=.fields ps }
 | .met f x=>h.get? a=some (iL (.ref f) (.ref x))
 | .ext φ=>φ h/\(∃ o,h.get? a=some o)/\∀ h1 h2:be,φ h1->(∀ o,h1.get? a=some o->h2.get? a=some o)->φ h2
def HOk (H:Hp) (h:be):Prop:=∀ a o,H a=some o->ObjOk P w H h a o
end
section
variable {P:ay} {w:aI} {H H':Hp} {h h':be} {a:Addr} {o:HO}
theorem ObjOk.lt (x:ObjOk P w H h a o):a < h.objs.size:=by
 cases o with
 | lst xs=>obtain⟨_,_,_,_,e⟩:=x;exact aC e
 | tup xs=>obtain⟨_,_,_,p⟩:=x;exact p.1.lt
 | dK kvs=>obtain⟨_,_,_,_,o,_,_,e,_⟩:=x;exact aC e
 | dT kvs=>obtain⟨_,_,_,_,o,_,_,e,_⟩:=x;exact aC e
 | set S n=>obtain⟨o,_,_,_,e,_⟩:=x;exact aC e
 | ins C dx fs=>obtain⟨_,_,_,e,_⟩:=x;exact aC e
 | own y=>obtain⟨_,e⟩:=x;exact aC e
 | xd fs=>obtain⟨_,⟨_,_,_,e,_⟩,_⟩:=x;exact aC e
 | rng lo hi=>obtain⟨_,_,_,e⟩:=x;exact aC e
 | frz ob u=>obtain⟨e,_⟩:=x;exact aC e
 | tbl ps=>exact aC (show h.get? a=some _ from x)
 | met f y=>exact aC (show h.get? a=some _ from x)
 | ext φ=>obtain⟨_,⟨_,e⟩,_⟩:=x;exact aC e
theorem Paired.mapP {α β:Type} {F G:α->β->Prop}:∀ {l₁:List α} {l₂:List β},aZ F l₁ l₂->(∀ a b,F a b->G a b)->aZ G l₁ l₂
 | _,_,.nil,_=>.nil
 | _,_,.cons r t,f=>.cons (f _ _ r) (Paired.mapP t f)
theorem ObjOk.stay (x:ObjOk P w H h a o) (k:∀ b u,(b=a\/H b=some (.own a))->h.get? b=some u->h'.get? b=some u)
  (ho:∀ b,H b=some (.own a)->H' b=some (.own a)) (ht:∀ b xs,H b=some (.tup xs)->H' b=some (.tup xs)):ObjOk P w H' h' a o:=by
 induction o with
 | lst xs=>obtain⟨z,its,n,r,e⟩:=x;exact⟨z,its,n,r,k _ _ (.inl rfl) e⟩
 | tup xs =>
  obtain⟨z,its,r,⟨ob,e,c⟩,nd⟩:=x;exact⟨z,its,r,⟨ob,k _ _ (.inl rfl) e,c⟩,fun o q=>by rw[k _ _ (.inl rfl) e] at q;cases q;exact nd _ e⟩
 | dK kvs=>obtain⟨z,y,vs,r,ob,es,ep,e,c⟩:=x;exact⟨z,y,vs,r,ob,es,ep,k _ _ (.inl rfl) e,c⟩
 | dT kvs =>
  obtain⟨z,y,xs,r,ob,es,ep,e,c⟩:=x;exact⟨z,y,xs,Paired.mapP r fun p q z=>⟨z.1,ht _ _ z.2.1,z.2.2⟩,ob,es,ep,k _ _ (.inl rfl) e,c⟩
 | set S n=>obtain⟨ob,es,ep,t,e,c⟩:=x;exact⟨ob,es,ep,t,k _ _ (.inl rfl) e,c⟩
 | ins C dx fs =>
  obtain⟨d,z,ne,e,mA,⟨od,es,ep,e2,c⟩,r⟩:=x;exact⟨ho _ d,z,ne,k _ _ (.inl rfl) e,mA,⟨od,es,ep,k _ _ (.inr d) e2,c⟩,r⟩
 | own y=>obtain⟨ob,e⟩:=x;exact⟨ob,k _ _ (.inl rfl) e⟩
 | xd fs=>obtain⟨mA,⟨od,es,ep,e,c⟩,r⟩:=x;exact⟨mA,⟨od,es,ep,k _ _ (.inl rfl) e,c⟩,r⟩
 | rng lo hi=>obtain⟨t,u,v,e⟩:=x;exact⟨t,u,v,k _ _ (.inl rfl) e⟩
 | frz ob u ih=>obtain⟨e,q⟩:=x;exact⟨k _ _ (.inl rfl) e,ih q⟩
 | tbl ps =>
  have e:h.get? a=some { cls:=.none,data:=.fields ps }:=x;show h'.get? a=some { cls:=.none,data:=.fields ps };exact k a _ (.inl rfl) e
 | met f y =>
  have e:h.get? a=some (iL (.ref f) (.ref y)):=x;show h'.get? a=some (iL (.ref f) (.ref y));exact k a _ (.inl rfl) e
 | ext φ=>obtain⟨p,⟨o,e⟩,st⟩:=x;exact⟨st _ _ p fun o q=>k _ _ (.inl rfl) q,⟨o,k _ _ (.inl rfl) e⟩,st⟩
theorem nd_new {g:be} {arr:Array ae} {n:Nat}:∀ o,(g.push { cls:=.type "tuple",data:=.seq arr n }).get? g.objs.size=some o->o.dict=none:=fun o e=>by
 rw[av _ rfl] at e;cases e;rfl
theorem HOk.lt (x:HOk P w H h) (e:H a=some o):a < h.objs.size:=(x a o e).lt
theorem HOk.fresh (x:HOk P w H h) (e:h.objs.size<=a):H a=none:=by
 cases q:H a with
 | none=>rfl
 | some u=>exact absurd (Nat.lt_of_lt_of_le (x.lt q) e) (Nat.lt_irrefl _)
theorem HOk.kept (x:HOk P w H h) (k:∀ b u,h.get? b=some u->h'.get? b=some u):HOk P w H h':=fun a o e =>
 (x a o e).stay (fun b u _ q=>k b u q) (fun _ q=>q) fun _ _ q=>q
theorem HOk.laid (x:HOk P w H h) (k:∀ b u,h.get? b=some u->h'.get? b=some u) (hp:h.objs.size<=a) (new:ObjOk P w (upd H a o) h' a o):HOk P w (upd H a o) h':=fun b u e=>by
 have hn:=x.fresh hp
 by_cases hb:b=a
 ·subst hb;rw[upd_same] at e;cases e;exact new
 ·rw[upd_ne hb] at e;exact(x b u e).stay (fun c v _ q=>k c v q) (fun c q=>by rw[upd_ne (ne_of_none q hn)];exact q) fun c xs q=>by rw[upd_ne (ne_of_none q hn)];exact q
end
def Rd (H:Hp) (a:Addr) (u:HO):Prop:=H a=some u\/∃ o,H a=some (.frz o u)
theorem Rd.ok {P:ay} {w:aI} {H:Hp} {h:be} {a:Addr} {u:HO} (r:Rd H a u) (x:HOk P w H h):ObjOk P w H h a u:=by
 rcases r with r | ⟨o,r⟩
 ·exact x a u r
 ·obtain⟨_,q⟩:=x a _ r;exact q
def Mut:Option HO->Prop
 | some (.lst _)=>True
 | some (.dK _)=>True
 | some (.dT _)=>True
 | some (.set _ _)=>True
 | some (.ins _ _ _)=>True
 | some (.ext _)=>True
 | _=>False
section
variable {P:ay} {w:aI} {H:Hp} {h h':be} {x e:Addr} {o':HO}
theorem HOk.write (ok:HOk P w H h) (mu:Mut (H x)) (he:e=x\/H e=some (.own x)) (k:∀ b u,b≠e->h.get? b=some u->h'.get? b=some u) (heo:∃ u,h'.get? e=some u)
  (new:ObjOk P w (upd H x o') h' x o'):HOk P w (upd H x o') h':=fun b u q=>by
 have nown:∀ c y,H c=some (.own y)->c≠x:=fun c y r z=>by subst z;rw[r] at mu;exact mu
 have ntup:∀ c xs,H c=some (.tup xs)->c≠x:=fun c xs r z=>by subst z;rw[r] at mu;exact mu
 by_cases hb:b=x
 ·subst hb;rw[upd_same] at q;cases q;exact new
 ·rw[upd_ne hb] at q
  by_cases hbe:b=e
  ·have q':H b=some (.own x):=by
    rcases he with z | z
    ·exact absurd (hbe.trans z) hb
    ·rw[hbe];exact z
   rw[q] at q';cases q';obtain⟨v,hv⟩:=heo;exact⟨v,by rw[hbe];exact hv⟩
  ·refine(ok b u q).stay (fun c v hc r=>k c v ?_ r) (fun c r=>by rw[upd_ne (nown c b r)];exact r) fun c xs r=>by rw[upd_ne (ntup c xs r)];exact r
   rcases hc with rfl | hc
   ·exact hbe
   ·rintro rfl;rcases he with z | z
    ·exact nown c b hc z
    ·rw[hc] at z;cases z;exact hb rfl
end
structure Un (fs ex:List Addr) (H H':Hp) (h h':be):Prop where
 keep:∀ b o,h.get? b=some o->H b=none->b∉fs->b∉ex->h'.get? b=some o
 slot:∀ b o,h.get? b=some o->H b=none->b∈fs->b∉ex->∃ sl,h'.get? b=some { o with slots:=sl }
 free:∀ b o,h.get? b=some o->H b=none->b∉ex->H' b=none
 there:∀ b o,h.get? b=some o->b∉ex->∃ o',h'.get? b=some o'
 tups:∀ b xs,H b=some (.tup xs)->H' b=some (.tup xs)
 frzs:∀ b o u,H b=some (.frz o u)->H' b=some (.frz o u)
 tbls:∀ b ps,H b=some (.tbl ps)->∃ more,H' b=some (.tbl (ps++more))
section
variable {fs fs' ex ex':List Addr} {H H1 H2:Hp} {h h1 h2 h':be} {a x e:Addr} {o:HO}
theorem Un.any (u:Un fs ex H H1 h h1) {b:Addr} {ob:Obj} (q:h.get? b=some ob) (n:H b=none) (hx:b∉ex):∃ sl,h1.get? b=some { ob with slots:=sl }:=by
 by_cases hb:b∈fs
 ·exact u.slot b ob q n hb hx
 ·exact⟨ob.slots,u.keep b ob q n hb hx⟩
theorem Un.kept (k:∀ b u,h.get? b=some u->h'.get? b=some u):Un fs ex H H h h' :=
 ⟨fun b ob q _ _ _=>k b ob q,fun b ob q _ _ _=>⟨ob.slots,k b ob q⟩,fun _ _ _ n _=>n,fun b ob q _=>⟨ob,k b ob q⟩,fun _ _ q=>q,fun _ _ _ q=>q,fun _ ps q=>⟨#[],by rw[q];simp⟩⟩
theorem Un.refl:Un fs ex H H h h:=Un.kept fun _ _ q=>q
theorem Un.laid (k:∀ b u,h.get? b=some u->h'.get? b=some u) (hp:h.objs.size<=a) (hn:H a=none):Un fs ex H (upd H a o) h h' where
 keep:=fun b u q _ _ _=>k b u q
 slot:=fun b u q _ _ _=>⟨u.slots,k b u q⟩
 free:=fun b u q n _=>by rw[upd_ne (Nat.ne_of_lt (Nat.lt_of_lt_of_le (aC q) hp))];exact n
 there:=fun b u q _=>⟨u,k b u q⟩
 tups:=fun b xs q=>by rw[upd_ne (ne_of_none q hn)];exact q
 frzs:=fun b u xs q=>by rw[upd_ne (ne_of_none q hn)];exact q
 tbls:=fun b ps q=>⟨#[],by rw[upd_ne (ne_of_none q hn),q];simp⟩
theorem Un.write (mu:Mut (H x)) (he:e=x\/H e=some (.own x)) (k:∀ b u,b≠e->h.get? b=some u->h'.get? b=some u) (heo:∃ u,h'.get? e=some u):Un fs ex H (upd H x o) h h':=by
 have hx:∀ b,H b=none->b≠x:=fun b n z=>by subst z;rw[n] at mu;exact mu
 have hb:∀ b,H b=none->b≠e:=fun b n z=>by
  subst z;rcases he with r | r
  ·exact hx b n r
  ·rw[n] at r;cases r
 have hm:∀ b u,H b=some u->¬ Mut (some u)->b≠x:=fun b u q nm z=>by subst z;rw[q] at mu;exact nm mu
 refine⟨fun b u q n _ _=>k b u (hb b n) q,fun b u q n _ _=>⟨u.slots,k b u (hb b n) q⟩,fun b u q n _=>by rw[upd_ne (hx b n)];exact n,fun b u q _=>?_,
  fun b xs q=>by rw[upd_ne (hm b _ q fun z=>z)];exact q,fun b u xs q=>by rw[upd_ne (hm b _ q fun z=>z)];exact q,fun b ps q=>⟨#[],by rw[upd_ne (hm b _ q fun z=>z),q];simp⟩⟩
 by_cases hbe:b=e
 ·subst hbe;exact heo
 ·exact⟨u,k b u hbe q⟩
end
def trk (h:be) (H:Hp):List Addr:=(aY h.objs.size).filter fun a=>(H a).isSome
def hidT (h:be) (H:Hp):be:=PySem.W.hideAll h (trk h H)
theorem hidT_size (h:be) (H:Hp):(hidT h H).objs.size=h.objs.size:=PySem.W.hideAll_size _ _
theorem hidT_get {h:be} {H:Hp} {b:Addr} {o:Obj} (e:h.get? b=some o) (n:H b=none):(hidT h H).get? b=some o :=
 PySem.W.hideAll_get _ e fun hm=>by
  have q:(H b).isSome=true:=(bu.mp hm).2;rw[n] at q;simp at q
theorem of_hidT {h:be} {H:Hp} {b:Addr} {o:Obj} (e:(hidT h H).get? b=some o):h.get? b=some o/\H b=none:=by
 have e':h.get? b=some o:=PySem.W.of_hideAll (trk h H) e;refine⟨e',?_⟩;cases q:H b with
 | none=>rfl
 | some x =>
  have hm:b∈trk h H:=bu.mpr ⟨bh.mpr (aC e'),by simp[q]⟩
  have z:(hidT h H).get? b=none:=PySem.W.hideAll_none (trk h H) hm;rw[z] at e;cases e
structure Mod (K:ar) (mg:Str->Option ae) (base:be):Prop where
 kin:K.In base
 glob:base.Ns a8 mg
 blt:∃ mb,base.Ns builtinsNs mb/\∀ x:Str,x ≠ "__name__"->mb x=bC x
 nolimit:base.NoLimit
structure Cx where
 prog:ay
 w:aI
 K:ar
 mg:Str->Option ae
 base:be
 A:a6
 N:List Str
 s₀:ai
 H₀:Hp
 env:Env
 outer:List Env
 stack:List Env
 ex:List Addr
 fn:Str->Bool
 calm:Bool
 pn:List (Addr × Obj)
 xe:ae->ai->Prop
def frs (l:List Env):List Addr:=l.filterMap (·.frame)
abbrev Cx.fs (X:Cx):List Addr:=frs X.outer
def Vis (sc:Scope) (x:Str):Prop:=sc.names.lookup x=some .local\/sc.names.lookup x=some .cell\/sc.names.lookup x=some .free
def Loc (sc:Scope) (x:Str):Prop:=sc.names.lookup x=some .local\/sc.names.lookup x=some .cell
def Look (env:Env) (h:be) (m:Str->Option ae) (x:Str) (u:ae):Prop :=
 (env.kindOf x=some .local/\m x=some u)\/((env.kindOf x=some .cell\/env.kindOf x=some .free)/\∃ c,env.cells.lookup x=some c/\h.IsCell c (some u))
structure Cx.Ok (X:Cx):Prop where
 mod:Mod X.K X.mg X.base
 kind:X.env.scope.kind=.function
 glob:X.env.globals=a8
 blt:X.env.builtins=builtinsNs
 above:X.s₀.heap.objs.size<=X.env.locals
 inj:∀ x y c,X.env.cells.lookup x=some c->X.env.cells.lookup y=some c->x=y
 has:∀ x,(X.env.kindOf x=some .cell\/X.env.kindOf x=some .free)->∃ c,X.env.cells.lookup x=some c
 cab:∀ x c,X.fn x=true->X.env.cells.lookup x=some c->X.s₀.heap.objs.size<=c
 hd:X.calm=true->X.A.handled=none
 frames:X.A.frames=some X.stack
 gd:X.A.guards=some []
 stk:X.stack=X.outer\/(X.stack=X.env::X.outer/\X.env.frame=some X.env.locals)
 exf:∀ b∈X.ex,b≠X.env.locals/\∀ x c,X.env.cells.lookup x=some c->c≠b
 bs:∀ b o,X.base.get? b=some o->X.s₀.heap.get? b=some o/\X.H₀ b=none
 bsz:X.base.objs.size<=X.s₀.heap.objs.size
 noex:∀ b o,X.base.get? b=some o->b∉X.ex
 exfs:∀ b∈X.ex,b∉X.fs
 funs:X.s₀.heap.FunFrames X.base X.outer
 frf:∀ b∈X.fs,X.H₀ b=none
structure Inv (X:Cx) (pins:List (Addr × Obj)) (σ:List (Option V)) (H:Hp) (s:ai):Prop where
 ok:X.Ok
 os:s.os=X.s₀.os
 bare:iM s.gens
 base:Un X.fs X.ex X.H₀ H X.s₀.heap s.heap
 loc:∃ m,s.heap.Ns X.env.locals m/\∀ (i:Nat) (x:Str) (v:V),X.N[i]?=some x->σ[i]?=some (some v)->Vis X.env.scope x->∃ u,RelV v u/\Look X.env s.heap m x u
 cell:∀ x c,X.env.cells.lookup x=some c->∃ v,s.heap.IsCell c v
 free:H X.env.locals=none
 freeC:∀ x c,X.env.cells.lookup x=some c->H c=none
 pin:∀ p∈X.pn++pins,s.heap.get? p.1=some p.2/\H p.1=none/\p.1≠X.env.locals/\p.1∉X.fs/\∀ v,p.2.data≠.cell v
 hok:HOk X.prog X.w H s.heap
 len:σ.length=X.N.length
section
variable {X:Cx} {pins:List (Addr × Obj)} {σ:List (Option V)} {H H':Hp} {s:ai} {h':be}
theorem Cx.Ok.nofr (ok:X.Ok) {b:Addr} {o:Obj} (e:X.base.get? b=some o):b∉X.fs:=fun hb=>by
 have:=(ok.funs.mem hb).1
 rw[e] at this;cases this
theorem Inv.bs (I:Inv X pins σ H s):∀ b o,X.base.get? b=some o->s.heap.get? b=some o/\H b=none:=fun b o e =>
 ⟨I.base.keep b o (I.ok.bs b o e).1 (I.ok.bs b o e).2 (I.ok.nofr e) (I.ok.noex b o e),I.base.free b o (I.ok.bs b o e).1 (I.ok.bs b o e).2 (I.ok.noex b o e)⟩
theorem Inv.bk (I:Inv X pins σ H s):∀ b o,X.base.get? b=some o->s.heap.get? b=some o:=fun b o e=>(I.bs b o e).1
theorem Inv.mod (I:Inv X pins σ H s):Mod X.K X.mg X.base:=I.ok.mod
theorem Inv.kIn (I:Inv X pins σ H s):X.K.In s.heap:=I.ok.mod.kin.keeps I.bk
theorem Inv.lt (I:Inv X pins σ H s):X.env.locals < s.heap.objs.size:=let ⟨_,hn,_⟩:=I.loc;hn.lt
theorem Inv.sz (I:Inv X pins σ H s):X.s₀.heap.objs.size<=s.heap.objs.size:=Nat.le_trans I.ok.above (Nat.le_of_lt I.lt)
theorem Inv.nofs (I:Inv X pins σ H s) {a:Addr} (h:s.heap.objs.size<=a):a∉X.fs:=fun hb=>by
 obtain⟨_,o,ho,_⟩:=I.ok.funs.mem hb;exact absurd (Nat.lt_of_lt_of_le (aC ho) (Nat.le_trans I.sz h)) (Nat.lt_irrefl _)
theorem Inv.cne (I:Inv X pins σ H s):∀ x c,X.env.cells.lookup x=some c->c≠X.env.locals:=fun x c e z=>by
 obtain⟨v,o,ho,hd⟩:=I.cell x c e;obtain⟨m,⟨o',es,ep,ho',hd',_⟩,_⟩:=I.loc;rw[z,ho'] at ho;cases ho;rw[hd'] at hd;cases hd
theorem Inv.funs (I:Inv X pins σ H s):s.heap.FunFrames X.base X.outer:=by
 have all:∀ (l:List Env),(∀ b∈frs l,b∈X.fs)->X.s₀.heap.FunFrames X.base l->s.heap.FunFrames X.base l:=by
  intro l
  induction l with
  | nil=>intro _ _;trivial
  | cons env r ih =>
   intro hs hl;obtain⟨hk,⟨L,o,hf,hn,ho,hd⟩,hr⟩:=hl;have hL:L∈X.fs:=hs L (by unfold frs;rw[cy,hf];exact am)
   obtain⟨sl,e⟩:=I.base.slot L o ho (I.ok.frf L hL) hL fun z=>I.ok.exfs L z hL;exact⟨hk,⟨L,_,hf,hn,e,hd⟩,ih (fun b hb=>hs b (by unfold frs;rw[cy,hf];exact ao _ hb)) hr⟩
 exact all X.outer (fun _ hb=>hb) I.ok.funs
theorem Inv.stack (I:Inv X pins σ H s):s.heap.FunFrames X.base X.stack:=by
 rcases I.ok.stk with e | ⟨e,hf⟩
 ·rw[e];exact I.funs
 ·rw[e];obtain⟨m,hn,_⟩:=I.loc;refine .cons (by rw[I.ok.kind];decide) hf hn ?_ I.funs
  exact be.get?_none_of_le (Nat.le_trans I.ok.bsz I.ok.above)
theorem Inv.stkSub (I:Inv X pins σ H s):∀ b∈frs X.stack,b∈X.env.locals::X.fs:=fun b hb=>by
 rcases I.ok.stk with e | ⟨e,hf⟩
 ·rw[e] at hb;exact ao _ hb
 ·rw[e] at hb;unfold frs at hb;rw[cy,hf] at hb;exact hb
theorem Inv.stkFree (I:Inv X pins σ H s):∀ b∈frs X.stack,H b=none:=fun b hb=>by
 rcases aB.mp (I.stkSub b hb) with e | hb
 ·rw[e];exact I.free
 ·obtain⟨_,o,ho,_⟩:=I.ok.funs.mem hb;exact I.base.free b o ho (I.ok.frf b hb) fun z=>I.ok.exfs b z hb
theorem Inv.step {g':Array GenState} {t':Nat} {d':Drawn} {ch:List Addr} (I:Inv X pins σ H s)
  (hch:∀ b∈ch,(b∈X.ex\/X.s₀.heap.objs.size<=b)/\b≠X.env.locals/\(∀ x c,X.env.cells.lookup x=some c->c≠b)/\∀ p∈X.pn++pins,p.1≠b)
  (keep:∀ b o,b≠X.env.locals->b∉X.fs->b∉ch->s.heap.get? b=some o->H b=none->h'.get? b=some o)
  (slot:∀ b o,b≠X.env.locals->b∈X.fs->b∉ch->s.heap.get? b=some o->H b=none->∃ sl,h'.get? b=some { o with slots:=sl }) (free:∀ b o,b∉ch->s.heap.get? b=some o->H b=none->H' b=none)
  (there:∀ b o,b∉ch->s.heap.get? b=some o->∃ o',h'.get? b=some o')
  (tups:∀ b xs,H b=some (.tup xs)->H' b=some (.tup xs)) (frzs:∀ b o u,H b=some (.frz o u)->H' b=some (.frz o u)) (tbls:∀ b ps,H b=some (.tbl ps)->∃ more,H' b=some (.tbl (ps++more)))
  (ns:∀ m,s.heap.Ns X.env.locals m->h'.Ns X.env.locals m) (hok:HOk X.prog X.w H' h') (hg:iM g') :
  Inv X pins σ H' { s with heap:=h',gens:=g',drawn:=d',toks:=t' }:=by
 have neL:∀ b o,X.s₀.heap.get? b=some o->b≠X.env.locals:=fun b o e=>Nat.ne_of_lt (Nat.lt_of_lt_of_le (aC e) I.ok.above);have neC:∀ b o,X.s₀.heap.get? b=some o->b∉X.ex->b∉ch:=fun b o e hx hb=>by
  rcases(hch b hb).1 with z | z
  ·exact hx z
  ·exact absurd (Nat.lt_of_lt_of_le (aC e) z) (Nat.lt_irrefl _)
 have cellK:∀ x c,X.env.cells.lookup x=some c->∀ v,s.heap.IsCell c v->h'.IsCell c v:=fun x c e v ⟨o,ho,hd⟩=>by
  have nch:c∉ch:=fun z=>(hch c z).2.2.1 x c e rfl
  by_cases hc:c∈X.fs
  ·obtain⟨sl,q⟩:=slot c o (I.cne x c e) hc nch ho (I.freeC x c e);exact⟨_,q,hd⟩
  ·exact⟨o,keep c o (I.cne x c e) hc nch ho (I.freeC x c e),hd⟩
 refine⟨I.ok,I.os,hg,⟨fun b o e n hb hx=>?_,fun b o e n hb hx=>?_,fun b o e n hx=>?_,fun b o e hx=>?_,fun b xs e=>tups b xs (I.base.tups b xs e),fun b o xs e=>frzs b o xs (I.base.frzs b o xs e),fun b ps e=>?_⟩,?_,fun x c e=>?_,?_,fun x c e=>?_,fun p hp=>?_,hok,I.len⟩
 ·exact keep b o (neL b o e) hb (neC b o e hx) (I.base.keep b o e n hb hx) (I.base.free b o e n hx)
 ·obtain⟨sl,e1⟩:=I.base.slot b o e n hb hx;obtain⟨sl',e2⟩:=slot b _ (neL b o e) hb (neC b o e hx) e1 (I.base.free b o e n hx);exact⟨sl',e2⟩
 ·obtain⟨o',e1⟩:=I.base.there b o e hx;exact free b o' (neC b o e hx) e1 (I.base.free b o e n hx)
 ·obtain⟨o',e1⟩:=I.base.there b o e hx;exact there b o' (neC b o e hx) e1
 ·obtain⟨m1,e1⟩:=I.base.tbls b ps e;obtain⟨m2,e2⟩:=tbls b _ e1;exact⟨m1++m2,by rw[e2,Array.append_assoc]⟩
 ·obtain⟨m,hn,hl⟩:=I.loc;refine⟨m,ns m hn,fun i x v e1 e2 e3=>?_⟩;obtain⟨u,r,l⟩:=hl i x v e1 e2 e3;refine⟨u,r,?_⟩;rcases l with l | ⟨k,c,e,z⟩
  ·exact .inl l
  ·exact .inr ⟨k,c,e,cellK x c e _ z⟩
 ·obtain⟨v,z⟩:=I.cell x c e;exact⟨v,cellK x c e v z⟩
 ·obtain⟨m,⟨o,_,_,ho,_⟩,_⟩:=I.loc;exact free _ o (fun z=>(hch _ z).2.1 rfl) ho I.free
 ·obtain⟨v,o,ho,hd⟩:=I.cell x c e;exact free c o (fun z=>(hch c z).2.2.1 x c e rfl) ho (I.freeC x c e)
 ·obtain⟨e,n,ne,nf,d⟩:=I.pin p hp;have nch:p.1∉ch:=fun z=>(hch p.1 z).2.2.2 p hp rfl;exact⟨keep p.1 p.2 ne nf nch e n,free p.1 p.2 nch e n,ne,nf,d⟩
theorem Inv.un {t':Nat} (I:Inv X pins σ H s) (u:Un X.fs [] H H' s.heap h') (hok:HOk X.prog X.w H' h'):Inv X pins σ H' { s with heap:=h',toks:=t' }:=by
 obtain⟨m,⟨o,es,ep,ho,r⟩,_⟩:=id I.loc;obtain⟨sl,hL⟩:=u.any ho I.free (by simp)
 exact I.step (g':=s.gens) (d':=s.drawn) (ch:=[]) (fun _ z=>nomatch z) (fun b o _ hb _ e n=>u.keep b o e n hb (by simp)) (fun b o _ hb _ e n=>u.slot b o e n hb (by simp)) (fun b o _ e n=>u.free b o e n (by simp)) (fun b o _ e=>u.there b o e (by simp)) u.tups u.frzs u.tbls (fun m' hm=>by
  obtain⟨o',es',ep',ho',r'⟩:=hm;rw[ho] at ho';cases ho';exact⟨_,es',ep',hL,r'⟩) hok I.bare
theorem Inv.call {g':Array GenState} {t':Nat} {d':Drawn} {ch:List Addr} (I:Inv X pins σ H s) (u:Un (frs X.stack) ch H H' s.heap h') (hok:HOk X.prog X.w H' h') (hg:iM g')
  (hch:∀ b∈ch,(b∈X.ex\/X.s₀.heap.objs.size<=b)/\b≠X.env.locals/\(∀ x c,X.env.cells.lookup x=some c->c≠b)/\∀ p∈X.pn++pins,p.1≠b) :
  Inv X pins σ H' { s with heap:=h',gens:=g',drawn:=d',toks:=t' }:=by
 obtain⟨m,⟨o,es,ep,ho,r⟩,_⟩:=id I.loc;obtain⟨sl,hL⟩:=u.any ho I.free fun z=>(hch _ z).2.1 rfl;exact I.step (ch:=ch) hch (fun b o hL hb hc e n=>u.keep b o e n (fun z=>(aB.mp (I.stkSub b z)).elim hL hb) hc) (fun b o _ _ hc e n=>u.any e n hc) (fun b o hc e n=>u.free b o e n hc) (fun b o hc e=>u.there b o e hc) u.tups u.frzs u.tbls (fun m' hm=>by
  obtain⟨o',es',ep',ho',r'⟩:=hm;rw[ho] at ho';cases ho';exact⟨_,es',ep',hL,r'⟩) hok hg
theorem Inv.turned {t':Nat} {it:Addr} (I:Inv X pins σ H s) (k:∀ b o,b≠it->s.heap.get? b=some o->h'.get? b=some o) (hn:H it=none) (hL:it≠X.env.locals)
  (h1:it∈X.ex\/X.s₀.heap.objs.size<=it) (h2:∀ x c,X.env.cells.lookup x=some c->c≠it) (h3:∀ p∈X.pn++pins,p.1≠it):Inv X pins σ H { s with heap:=h',toks:=t' }:=by
 have nit:∀ b u,H b=some u->b≠it:=fun b u e z=>by rw[z,hn] at e;cases e
 refine I.step (g':=s.gens) (d':=s.drawn) (ch:=[it]) (fun b hb=>?_) (fun b o _ _ hc e _=>k b o (fun z=>hc (by simp[z])) e) (fun b o _ _ hc e _=>⟨o.slots,k b o (fun z=>hc (by simp[z])) e⟩) (fun _ _ _ _ n=>n)
  (fun b o hc e=>⟨o,k b o (fun z=>hc (by simp[z])) e⟩) (fun _ _ e=>e) (fun _ _ _ e=>e) (fun b ps e=>⟨#[],by rw[e];simp⟩) (fun m hm=>?_) (fun b u e=>?_) I.bare
 ·have e:b=it:=by simpa using hb
  subst e;exact⟨h1,hL,h2,h3⟩
 ·obtain⟨o,es,ep,ho,r⟩:=hm;exact⟨o,es,ep,k _ o (cN hL) ho,r⟩
 ·refine(I.hok b u e).stay (fun c v hc q=>k c v ?_ q) (fun _ q=>q) fun _ _ q=>q;rcases hc with z | z
  ·rw[z];exact nit b u e
  ·exact nit c _ z
theorem Inv.tok (I:Inv X pins σ H s) (t:Nat):Inv X pins σ H { s with toks:=t }:=I.un (h':=s.heap) (t':=t) Un.refl I.hok
theorem Inv.kept {t':Nat} (I:Inv X pins σ H s) (k:∀ b u,s.heap.get? b=some u->h'.get? b=some u):Inv X pins σ H { s with heap:=h',toks:=t' }:=I.un (Un.kept k) (I.hok.kept k)
theorem Inv.laid {a:Addr} {o:HO} {t':Nat} (I:Inv X pins σ H s) (k:∀ b u,s.heap.get? b=some u->h'.get? b=some u) (hp:s.heap.objs.size<=a) (new:ObjOk X.prog X.w (upd H a o) h' a o) :
  Inv X pins σ (upd H a o) { s with heap:=h',toks:=t' }:=I.un (Un.laid k hp (I.hok.fresh hp)) (I.hok.laid k hp new)
theorem Inv.write {x e:Addr} {o:HO} {t':Nat} (I:Inv X pins σ H s) (mu:Mut (H x)) (he:e=x\/H e=some (.own x)) (k:∀ b u,b≠e->s.heap.get? b=some u->h'.get? b=some u) (heo:∃ u,h'.get? e=some u)
  (new:ObjOk X.prog X.w (upd H x o) h' x o):Inv X pins σ (upd H x o) { s with heap:=h',toks:=t' }:=I.un (Un.write mu he k heo) (I.hok.write mu he k heo new)
theorem Inv.weak {σ':List (Option V)} (I:Inv X pins σ H s) (hl:σ'.length=σ.length) (w:∀ (i:Nat) v,σ'[i]?=some (some v)->σ[i]?=some (some v)):Inv X pins σ' H s :=
 ⟨I.ok,I.os,I.bare,I.base,let ⟨m,hn,hl'⟩:=I.loc;⟨m,hn,fun i x v e1 e2 e3=>hl' i x v e1 (w i v e2) e3⟩,I.cell,I.free,I.freeC,I.pin,I.hok,hl.trans I.len⟩
theorem Inv.pins_of {pins':List (Addr × Obj)} (I:Inv X pins σ H s) (h:∀ p∈pins',s.heap.get? p.1=some p.2/\H p.1=none/\p.1≠X.env.locals/\p.1∉X.fs/\∀ v,p.2.data≠.cell v):Inv X pins' σ H s :=
 ⟨I.ok,I.os,I.bare,I.base,I.loc,I.cell,I.free,I.freeC,fun p hp=>(aU.mp hp).elim (fun z=>I.pin p (cF _ z)) (h p),I.hok,I.len⟩
theorem nodup_ix {N:List Str} (hN:N.Nodup) {i j:Nat} {x:Str} (a:N[i]?=some x) (b:N[j]?=some x):i=j:=by
 obtain⟨h1,e1⟩:=aD.mp a;obtain⟨h2,e2⟩:=aD.mp b;exact(List.getElem_inj hN).mp (e1.trans e2.symm)
theorem store_ok2 {M:Model} {A:a6} {E:ae->ai->Prop} {i:Nat} {x:Str} {v:V} {u:ae} {Q:Unit->ai->Prop} (I:Inv X pins σ H s) (hN:X.N.Nodup) (hi:X.N[i]?=some x) (hx:Loc X.env.scope x) (r:RelV v u)
  (h:∀ s',Inv X pins (σ.set i (some v)) H s'->(∃ a,cQ a s.heap s'.heap/\(a=X.env.locals\/X.env.cells.lookup x=some a))->Q () s') (hf:X.fn x=true\/X.env.scope.names.lookup x=some .local:=by first | exact .inl rfl | exact .inr rfl | assumption):aE M A (storeName X.env x u) Q E s:=by
 obtain⟨m,hn,hl⟩:=id I.loc;have hcls:(X.env.scope.kind == .class || (X.env.scope.kind == .module && X.env.locals != X.env.globals))=false:=by rw[I.ok.kind];rfl
 have hiσ:i < σ.length:=by rw[I.len];exact(aD.mp hi).1
 have cne:=I.cne;have tracked:∀ {a:Addr} {h':be},(∃ o,s.heap.get? a=some o/\H a=none)->cQ a s.heap h'->HOk X.prog X.w H h':=fun {a h'} ha hs b ob e=>by
  obtain⟨_,_,hfree⟩:=ha;refine(I.hok b ob e).stay (fun c w' hc q=>(hs.2 c ?_).trans q) (fun _ q=>q) fun _ _ q=>q;rintro rfl;rcases hc with rfl | hc
  ·rw[hfree] at e;cases e
  ·rw[hfree] at hc;cases hc
 rcases hx with hk | hk
 ·refine wpAny_storeName_local hk hn (fun h' hn' hs=>?_) hcls;obtain⟨oL,_,_,hoL,_⟩:=id hn;refine h _ ⟨I.ok,I.os,I.bare,⟨fun b o e n hb hx=>?_,fun b o e n hb hx=>?_,I.base.free,fun b o e hx=>?_,I.base.tups,I.base.frzs,I.base.tbls⟩,⟨_,hn',fun j y v' e1 e2 e3=>?_⟩,fun y c e=>?_,I.free,I.freeC,fun p hp=>?_,tracked ⟨oL,hoL,I.free⟩ hs,by simpa using I.len⟩ ⟨_,hs,.inl rfl⟩
  ·exact(hs.2 b (Nat.ne_of_lt (Nat.lt_of_lt_of_le (aC e) I.ok.above))).trans (I.base.keep b o e n hb hx)
  ·obtain⟨sl,e1⟩:=I.base.slot b o e n hb hx;exact⟨sl,(hs.2 b (Nat.ne_of_lt (Nat.lt_of_lt_of_le (aC e) I.ok.above))).trans e1⟩
  ·obtain⟨o',e1⟩:=I.base.there b o e hx;exact⟨o',(hs.2 b (Nat.ne_of_lt (Nat.lt_of_lt_of_le (aC e) I.ok.above))).trans e1⟩
  ·by_cases hj:j=i
   ·subst hj;rw[hi] at e1;cases e1;rw[List.getElem?_set_self hiσ] at e2;cases e2;exact⟨u,r,.inl ⟨hk,by simp⟩⟩
   ·rw[fg (cN hj)] at e2;obtain⟨u',r',q⟩:=hl j y v' e1 e2 e3;refine⟨u',r',?_⟩;rcases q with⟨k,e⟩ | ⟨k,c,e,z⟩
    ·refine .inl ⟨k,?_⟩
     have:y≠x:=fun e=>hj (nodup_ix hN e1 (e ▸ hi))
     simp[this,e]
    ·exact .inr ⟨k,c,e,z.sameBut hs (cne y c e)⟩
  ·obtain⟨w',z⟩:=I.cell y c e;exact⟨w',z.sameBut hs (cne y c e)⟩
  ·obtain⟨e,n,ne,nf,d⟩:=I.pin p hp;exact⟨(hs.2 p.1 ne).trans e,n,ne,nf,d⟩
 ·have hfn:X.fn x=true:=by
   rcases hf with z | z
   ·exact z
   ·rw[z] at hk;cases hk
  obtain⟨c,hc⟩:=I.ok.has x (.inl hk);obtain⟨w',z⟩:=I.cell x c hc;refine wpAny_storeName_cell I.ok.kind hk hc z (fun h' hc' hs=>?_);obtain⟨oc,hoc,hocd⟩:=id z;refine h { s with heap:=h' } ⟨I.ok,I.os,I.bare,⟨fun b o e n hb hx=>?_,fun b o e n hb hx=>?_,I.base.free,fun b o e hx=>?_,I.base.tups,I.base.frzs,I.base.tbls⟩,⟨m,hn.sameBut hs (cN (cne x c hc)),fun j y v' e1 e2 e3=>?_⟩,fun y c' e=>?_,I.free,I.freeC,fun p hp=>?_,tracked ⟨oc,hoc,I.freeC x c hc⟩ hs,by simpa using I.len⟩ ⟨c,hs,.inr hc⟩
  ·exact(hs.2 b (Nat.ne_of_lt (Nat.lt_of_lt_of_le (aC e) (I.ok.cab x c hfn hc)))).trans (I.base.keep b o e n hb hx)
  ·obtain⟨sl,e1⟩:=I.base.slot b o e n hb hx;exact⟨sl,(hs.2 b (Nat.ne_of_lt (Nat.lt_of_lt_of_le (aC e) (I.ok.cab x c hfn hc)))).trans e1⟩
  ·obtain⟨o',e1⟩:=I.base.there b o e hx;exact⟨o',(hs.2 b (Nat.ne_of_lt (Nat.lt_of_lt_of_le (aC e) (I.ok.cab x c hfn hc)))).trans e1⟩
  ·by_cases hj:j=i
   ·subst hj;rw[hi] at e1;cases e1;rw[List.getElem?_set_self hiσ] at e2;cases e2;exact⟨u,r,.inr ⟨.inl hk,c,hc,hc'⟩⟩
   ·rw[fg (cN hj)] at e2;obtain⟨u',r',q⟩:=hl j y v' e1 e2 e3;refine⟨u',r',?_⟩;rcases q with q | ⟨k,c',e,z'⟩
    ·exact .inl q
    ·refine .inr ⟨k,c',e,z'.sameBut hs ?_⟩;rintro rfl;exact hj (nodup_ix hN e1 (I.ok.inj _ _ _ e hc ▸ hi))
  ·by_cases hcc:c'=c
   ·subst hcc;exact⟨_,hc'⟩
   ·obtain⟨w2,z2⟩:=I.cell y c' e;exact⟨w2,z2.sameBut hs hcc⟩
  ·obtain⟨e,n,ne,nf,d⟩:=I.pin p hp;refine⟨(hs.2 p.1 ?_).trans e,n,ne,nf,d⟩;intro q;rw[q,hoc] at e;have q':oc=p.2:=aP e;exact d w' (by rw[<- q'];exact hocd)
theorem store_ok {M:Model} {A:a6} {E:ae->ai->Prop} {i:Nat} {x:Str} {v:V} {u:ae} {Q:Unit->ai->Prop} (I:Inv X pins σ H s) (hN:X.N.Nodup) (hi:X.N[i]?=some x) (hx:Loc X.env.scope x) (r:RelV v u)
  (h:∀ s',Inv X pins (σ.set i (some v)) H s'->Q () s') (hf:X.fn x=true\/X.env.scope.names.lookup x=some .local:=by first | exact .inl rfl | exact .inr rfl | assumption):aE M A (storeName X.env x u) Q E s :=
 store_ok2 I hN hi hx r (fun s' I' _=>h s' I') hf
theorem Inv.call' {s':ai} {ch:List Addr} (I:Inv X pins σ H s) (ho:s'.os=s.os) (u:Un (frs X.stack) ch H H' s.heap s'.heap) (hok:HOk X.prog X.w H' s'.heap) (hg:iM s'.gens)
  (hch:∀ b∈ch,(b∈X.ex\/X.s₀.heap.objs.size<=b)/\b≠X.env.locals/\(∀ x c,X.env.cells.lookup x=some c->c≠b)/\∀ p∈X.pn++pins,p.1≠b):Inv X pins σ H' s':=by
 obtain⟨h',g',d',t',o'⟩:=s';have e:o'=s.os:=ho;subst e;exact I.call (g':=g') (t':=t') (d':=d') u hok hg hch
end
abbrev XK:=ae->Option Addr->Hp->Prop
abbrev St:=List (Option V)
abbrev VK:=V->Hp->Prop
abbrev TE:=St->Hp->VK->Prop
abbrev TT:=St->Hp->(Bool->Hp->Prop)->Prop
abbrev TA:=St->Hp->(List V->Hp->Prop)->Prop
structure Ends where
 nx:St->Hp->Prop
 rt:VK
 bk:St->Hp->Prop:=fun _ _=>False
 ct:St->Hp->Prop:=fun _ _=>False
abbrev TS:=Ends->St->Hp->Prop
def EP (X:Cx) (pins:List (Addr × Obj)) (σ:St) (Q:VK) (u:ae) (s':ai):Prop:=∃ v H',Inv X pins σ H' s'/\RelV v u/\Q v H'
def TP (X:Cx) (pins:List (Addr × Obj)) (σ:St) (Q:Bool->Hp->Prop) (b:Bool) (s':ai):Prop:=∃ H',Inv X pins σ H' s'/\Q b H'
def AP (X:Cx) (pins:List (Addr × Obj)) (σ:St) (Q:List V->Hp->Prop) (us:List ae) (s':ai):Prop:=∃ vs H',Inv X pins σ H' s'/\Vals vs us/\Q vs H'
def SP (X:Cx) (pins:List (Addr × Obj)) (D:Ends) (f:Flow) (s':ai):Prop :=
 match f with
 | .next=>∃ σ' H',Inv X pins σ' H' s'/\D.nx σ' H'
 | .brk=>∃ σ' H',Inv X pins σ' H' s'/\D.bk σ' H'
 | .cont=>∃ σ' H',Inv X pins σ' H' s'/\D.ct σ' H'
 | .ret u=>∃ v σ' H',Inv X pins σ' H' s'/\RelV v u/\D.rt v H'
def PE (X:Cx) (e:Expr) (t:TE):Prop :=
 ∀ (pins:List (Addr × Obj)) (s:ai) (σ:St) (H:Hp) (Q:VK),Inv X pins σ H s->t σ H Q->aE (aF X.prog X.w) X.A (eval e X.env) (EP X pins σ Q) X.xe s
def PT (X:Cx) (e:Expr) (t:TT):Prop :=
 ∀ (pins:List (Addr × Obj)) (s:ai) (σ:St) (H:Hp) (Q:Bool->Hp->Prop),Inv X pins σ H s->t σ H Q->aE (aF X.prog X.w) X.A (isTrue e X.env (eval e X.env)) (TP X pins σ Q) X.xe s
def PW (X:Cx) (e:Expr) (t:TT):Prop :=
 ∀ (whole:Sem ae) (pins:List (Addr × Obj)) (s:ai) (σ:St) (H:Hp) (Q:Bool->Hp->Prop),Inv X pins σ H s->t σ H Q->aE (aF X.prog X.w) X.A (isTrue e X.env whole) (TP X pins σ Q) X.xe s
theorem PW.pt {X:Cx} {e:Expr} {t:TT} (h:PW X e t):PT X e t:=h _
def PA (X:Cx) (es:List Expr) (t:TA):Prop :=
 ∀ (pos:Pos) (pins:List (Addr × Obj)) (s:ai) (σ:St) (H:Hp) (Q:List V->Hp->Prop),Inv X pins σ H s->t σ H Q->aE (aF X.prog X.w) X.A (spliced (cw pos (ax es X.env))) (AP X pins σ Q) X.xe s
def PS (X:Cx) (st:Stmt) (t:TS):Prop :=
 ∀ (pins:List (Addr × Obj)) (s:ai) (σ:St) (H:Hp) (D:Ends),Inv X pins σ H s->t D σ H->aE (aF X.prog X.w) X.A (exec st X.env) (SP X pins D) X.xe s
def PSs (X:Cx) (st:List Stmt) (t:TS):Prop :=
 ∀ (pins:List (Addr × Obj)) (s:ai) (σ:St) (H:Hp) (D:Ends),Inv X pins σ H s->t D σ H->aE (aF X.prog X.w) X.A (execs st X.env) (SP X pins D) X.xe s
theorem thn {α:Type} {t:Sem α} {Q Q':α->ai->Prop} {M:Model} {A:a6} {E:ae->ai->Prop} {s:ai} (h:aE M A t Q E s) (hQ:∀ a s,Q a s->Q' a s):aE M A t Q' E s:=d7 h hQ fun _ _ x=>x
section
variable {X:Cx}
def tVar (i:Nat):TE:=fun σ H Q=>∃ v,σ[i]?=some (some v)/\Q v H
def tC (v:V):TE:=fun _ H Q=>Q v H
theorem pe_var {i:Nat} {x:Str} {pos:Pos} (hN:X.N[i]?=some x) (hv:Vis X.env.scope x) (hd:(x == ("__debug__" : Str))=false:=by decide) (hcd:(x == ("__classdict__" : Str))=false:=by decide):PE X (.Name x pos) (tVar i):=by
 intro pins s σ H Q I h;obtain⟨v,e,h⟩:=h;obtain⟨m,hn,hl⟩:=I.loc;obtain⟨u,r,l⟩:=hl i x v hN e hv;have fin:EP X pins σ Q u s:=⟨v,H,I,r,h⟩;rcases l with⟨hk,hm⟩ | ⟨hk,c,hc,hcell⟩
 ·exact wpAny_Name (wpAny_loadName_local I.ok.kind hk hn hm fin) hd
 ·rcases hk with hk | hk
  ·exact wpAny_Name (wpAny_loadName_cell I.ok.kind hk hc hcell fin) hd
  ·exact wpAny_Name (wpAny_loadName_free I.ok.kind hk hc hcell fin hcd) hd
theorem pe_int {i j pos}:PE X (.Constant (.int i) j pos) (tC (.int i)):=fun _ _ _ H _ I h=>wpAny_Constant_int ⟨.int i,H,I.tok _,⟨_,rfl⟩,h⟩
theorem pe_bl {b j pos}:PE X (.Constant (.bool b) j pos) (tC (.bl b)):=fun _ _ _ H _ I h=>Constant_bool ⟨.bl b,H,I,rfl,h⟩
theorem pe_non {j pos}:PE X (.Constant .none j pos) (tC .non):=fun _ _ _ H _ I h=>Constant_none ⟨.non,H,I,rfl,h⟩
theorem pe_str {x j pos}:PE X (.Constant (.str x) j pos) (tC (.str x)):=fun _ _ _ H _ I h=>Calls.Constant_str ⟨.str x,H,I.tok _,⟨_,rfl⟩,h⟩
def Gl (X:Cx) (x:Str):Prop:=X.env.kindOf x=some .globalImplicit
theorem ld_glob {E:ae->ai->Prop} {pins:List (Addr × Obj)} {s:ai} {σ:St} {H:Hp} {x:Str} {u:ae} {pos:Pos} {Q:ae->ai->Prop} (I:Inv X pins σ H s) (hg:Gl X x) (hm:X.mg x=some u) (h:Q u s)
  (hd:(x == ("__debug__" : Str))=false:=by decide):aE (aF X.prog X.w) X.A (eval (.Name x pos) X.env) Q E s :=
 h9 I.ok.kind hg (Calls.loadGlobal_global (by rw[I.ok.glob];exact I.mod.glob.keeps I.bk) hm h) hd
theorem ld_blt {E:ae->ai->Prop} {pins:List (Addr × Obj)} {s:ai} {σ:St} {H:Hp} {x:Str} {u:ae} {pos:Pos} {Q:ae->ai->Prop} (I:Inv X pins σ H s) (hg:Gl X x) (hm:X.mg x=none) (hv:bC x=some u) (h:Q u s)
  (hn:x ≠ "__name__":=by decide) (hd:(x == ("__debug__" : Str))=false:=by decide):aE (aF X.prog X.w) X.A (eval (.Name x pos) X.env) Q E s:=by
 obtain⟨mb,h1,h2⟩:=I.mod.blt;exact h9 I.ok.kind hg (Calls.loadGlobal_builtin (by rw[I.ok.glob];exact I.mod.glob.keeps I.bk) hm (by rw[I.ok.blt];exact h1.keeps I.bk) ((h2 x hn).trans hv) h) hd
theorem pe_bltn {x:Str} {v:V} {u:ae} {pos:Pos} (hg:Gl X x) (hm:X.mg x=none) (hv:bC x=some u) (r:RelV v u) (hn:x ≠ "__name__":=by decide) (hd:(x == ("__debug__" : Str))=false:=by decide):PE X (.Name x pos) (tC v) :=
 fun _ _ _ H _ I h=>ld_blt I hg hm hv ⟨v,H,I,r,h⟩ hn hd
variable {a b:Expr} {ta tb:TE} {pos:Pos}
variable {tA tB':TT} {rest:List Expr}
def tAnd (t u:TT):TT:=fun σ H Q=>t σ H fun c H1=>if c=true then u σ H1 Q else Q false H1
def tOr (t u:TT):TT:=fun σ H Q=>t σ H fun c H1=>if c=true then Q true H1 else u σ H1 Q
def tNot (t:TT):TT:=fun σ H Q=>t σ H fun c H1=>Q (!c) H1
theorem pw_and1 (ha:PT X a tA):PW X (.BoolOp .And [a] pos) tA:=by
 intro wh pins s σ H Q I h;refine isTrue_and (thn (ha pins s σ H Q I h) fun c s1 e=>?_);cases c with
 | true=>exact isTrue_and_nil e
 | false=>exact e
theorem pw_or1 (ha:PT X a tA):PW X (.BoolOp .Or [a] pos) tA:=by
 intro wh pins s σ H Q I h;refine isTrue_or (thn (ha pins s σ H Q I h) fun c s1 e=>?_);cases c with
 | false=>exact isTrue_or_nil e
 | true=>exact e
theorem pw_and (ha:PT X a tA) (hb:PW X (.BoolOp .And (b::rest) pos) tB'):PW X (.BoolOp .And (a::b::rest) pos) (tAnd tA tB'):=by
 intro wh pins s σ H Q I h;refine isTrue_and (thn (ha pins s σ H _ I h) fun c s1 ⟨H1,I1,q1⟩=>?_);cases c with
 | true=>exact hb wh pins s1 σ H1 Q I1 q1
 | false=>exact⟨H1,I1,q1⟩
theorem pw_or (ha:PT X a tA) (hb:PW X (.BoolOp .Or (b::rest) pos) tB'):PW X (.BoolOp .Or (a::b::rest) pos) (tOr tA tB'):=by
 intro wh pins s σ H Q I h;refine isTrue_or (thn (ha pins s σ H _ I h) fun c s1 ⟨H1,I1,q1⟩=>?_);cases c with
 | true=>exact⟨H1,I1,q1⟩
 | false=>exact hb wh pins s1 σ H1 Q I1 q1
theorem pt_not (ha:PT X a tA):PT X (.UnaryOp .Not a pos) (tNot tA):=by
 intro pins s σ H Q I h;exact isTrue_not (ha pins s σ H (fun c H1=>Q (!c) H1) I h)
def tAndV (ta tb:TE):TE:=fun σ H Q=>ta σ H fun x H1=>∃ c,x=.bl c/\if c=true then tb σ H1 Q else Q (.bl false) H1
def tOrV (ta tb:TE):TE:=fun σ H Q=>ta σ H fun x H1=>∃ c,x=.bl c/\if c=true then Q (.bl true) H1 else tb σ H1 Q
def tNotV (ta:TE):TE:=fun σ H Q=>ta σ H fun x H1=>∃ c,x=.bl c/\Q (.bl (!c)) H1
theorem pe_one {op} {t:TE} (h:PE X a t):PE X (.BoolOp op [a] pos) t:=fun pins s σ H Q I hw=>BoolOp_one (h pins s σ H Q I hw)
theorem pe_and (ha:PE X a ta) (hb:PE X (.BoolOp .And (b::rest) pos) tb):PE X (.BoolOp .And (a::b::rest) pos) (tAndV ta tb):=by
 intro pins s σ H Q I h;refine BoolOp_and (thn (ha pins s σ H _ I h) fun v s1 ⟨x,H1,I1,r1,q1⟩=>?_);obtain⟨c,rfl,q1⟩:=q1;cases r1;refine cA ?_;cases c with
 | true=>exact hb pins s1 σ H1 Q I1 q1
 | false=>exact⟨.bl false,H1,I1,rfl,q1⟩
theorem pe_or (ha:PE X a ta) (hb:PE X (.BoolOp .Or (b::rest) pos) tb):PE X (.BoolOp .Or (a::b::rest) pos) (tOrV ta tb):=by
 intro pins s σ H Q I h;refine BoolOp_or (thn (ha pins s σ H _ I h) fun v s1 ⟨x,H1,I1,r1,q1⟩=>?_);obtain⟨c,rfl,q1⟩:=q1;cases r1;refine cA ?_;cases c with
 | false=>exact hb pins s1 σ H1 Q I1 q1
 | true=>exact⟨.bl true,H1,I1,rfl,q1⟩
theorem pe_not (ha:PE X a ta):PE X (.UnaryOp .Not a pos) (tNotV ta):=by
 intro pins s σ H Q I h;refine UnaryOp_ (thn (ha pins s σ H _ I h) fun v s1 ⟨x,H1,I1,r1,q1⟩=>?_);obtain⟨c,rfl,q1⟩:=q1;cases r1;exact not_of (cA ⟨.bl (!c),H1,I1,rfl,q1⟩)
def tIf (t:TT) (ta tb:TE):TE:=fun σ H Q=>t σ H fun c H1=>if c=true then ta σ H1 Q else tb σ H1 Q
theorem pe_ifExp {c:Expr} (hc:PT X c tA) (ha:PE X a ta) (hb:PE X b tb):PE X (.IfExp c a b pos) (tIf tA ta tb):=by
 intro pins s σ H Q I h;refine wpAny_IfExp (thn (hc pins s σ H _ I h) fun d s1 ⟨H1,I1,q1⟩=>?_);cases d with
 | true=>exact ha pins s1 σ H1 Q I1 q1
 | false=>exact hb pins s1 σ H1 Q I1 q1
end
def SqL (K:ar) (H:Hp) (a:Addr) (xs:List V):Prop :=
 Rd H a (.lst xs) \/
  ∃ (o:Obj) (its:Array ae) (n:Nat),K.lookup a=some o/\o.cls=.type "list"/\o.dict=none/\o.data=.seq its n/\its.size<=sizeLine/\Vals xs its.toList
def SqT (K:ar) (H:Hp) (a:Addr) (xs:List V):Prop :=
 Rd H a (.tup xs) \/
  ∃ (o:Obj) (its:Array ae) (n:Nat),K.lookup a=some o/\o.cls=.type "tuple"/\o.dict=none/\o.data=.seq its n/\its.size<=sizeLine/\Vals xs its.toList
def absV:ae->Option V
 | .none=>some .non
 | .bool b=>some (.bl b)
 | .int i _=>some (.int i)
 | .str x _=>some (.str x)
 | .bytes b _=>some (.byt b)
 | .float b _=>some (.flt b)
 | .ref a=>some (.ref a)
 | .type n=>some (.ty n)
 | _=>none
theorem RelV.abs {x:V} {u:ae} (r:RelV x u):absV u=some x:=by
 cases x with
 | non=>cases r;rfl
 | bl _=>cases r;rfl
 | int _=>obtain⟨t,rfl⟩:=r;rfl
 | str _=>obtain⟨t,rfl⟩:=r;rfl
 | byt _=>obtain⟨t,rfl⟩:=r;rfl
 | flt _=>obtain⟨t,rfl⟩:=r;rfl
 | ref _=>cases r;rfl
 | ty _=>cases r;rfl
theorem RelV.inj {x y:V} {u:ae} (r:RelV x u) (q:RelV y u):x=y:=aP (r.abs.symm.trans q.abs)
theorem Vals.inj:∀ {xs ys:List V} {us:List ae},Vals xs us->Vals ys us->xs=ys
 | _,_,_,.nil,.nil=>rfl
 | _,_,_,.cons r t,.cons r' t'=>by rw[r.inj r',Vals.inj t t']
section
variable {X:Cx} {pins:List (Addr × Obj)} {σ:St} {H:Hp} {s:ai} {a:Addr} {xs ys:List V}
theorem SqL.of {K:ar} (h:H a=some (.lst xs)):SqL K H a xs:=.inl (.inl h)
theorem Inv.list (I:Inv X pins σ H s) (h:SqL X.K H a xs):∃ its:List ae,Vals xs its/\PlainL s.heap a its.toArray/\xs.length<=sizeLine:=by
 rcases h with h | ⟨o,its,n,hk,hc,hd,hs,hz,r⟩
 ·obtain⟨z,its,n,r,e⟩:=h.ok I.hok;exact⟨its,r,⟨_,n,e,rfl,rfl,rfl⟩,z⟩
 ·refine⟨its.toList,r,⟨o,n,I.kIn a o hk,hc,hd,by simpa using hs⟩,?_⟩
  have e:=r.length;simp only[bf] at e;omega
theorem Inv.tuple (I:Inv X pins σ H s) (h:SqT X.K H a xs):∃ its:List ae,Vals xs its/\iK s.heap a its.toArray/\xs.length<=sizeLine:=by
 rcases h with h | ⟨o,its,n,hk,hc,_,hs,hz,r⟩
 ·obtain⟨z,its,r,p,_⟩:=h.ok I.hok;exact⟨its,r,p,z⟩
 ·refine⟨its.toList,r,⟨o,I.kIn a o hk,hc,n,by simpa using hs⟩,?_⟩
  have e:=r.length;simp only[bf] at e;omega
theorem Inv.list_inj (I:Inv X pins σ H s) (h:SqL X.K H a xs) (h':SqL X.K H a ys):xs=ys:=by
 obtain⟨its,r,⟨o,n,e,_,_,d⟩,_⟩:=I.list h;obtain⟨its',r',⟨o',n',e',_,_,d'⟩,_⟩:=I.list h';rw[e] at e';cases e';rw[d] at d';injection d' with d1 _
 have:its=its':=by simpa using congrArg Array.toList d1
 subst this;exact r.inj r'
theorem Inv.tuple_inj (I:Inv X pins σ H s) (h:SqT X.K H a xs) (h':SqT X.K H a ys):xs=ys:=by
 obtain⟨its,r,⟨o,e,_,n,d⟩,_⟩:=I.tuple h;obtain⟨its',r',⟨o',e',_,n',d'⟩,_⟩:=I.tuple h';rw[e] at e';cases e';rw[d] at d';injection d' with d1 _
 have:its=its':=by simpa using congrArg Array.toList d1
 subst this;exact r.inj r'
end
abbrev Cx.wish (X:Cx) (E:ae->ai->Prop):Cx:={ X with xe:=E }
abbrev Cx.nox (X:Cx):Cx:=X.wish fun _ _=>False
theorem Cx.Ok.wish {X:Cx} (ok:X.Ok) (E:ae->ai->Prop):(X.wish E).Ok :=
 ⟨ok.mod,ok.kind,ok.glob,ok.blt,ok.above,ok.inj,ok.has,ok.cab,ok.hd,ok.frames,ok.gd,ok.stk,ok.exf,ok.bs,ok.bsz,ok.noex,ok.exfs,ok.funs,ok.frf⟩
theorem Cx.Ok.unwish {X:Cx} {E:ae->ai->Prop} (ok:(X.wish E).Ok):X.Ok :=
 ⟨ok.mod,ok.kind,ok.glob,ok.blt,ok.above,ok.inj,ok.has,ok.cab,ok.hd,ok.frames,ok.gd,ok.stk,ok.exf,ok.bs,ok.bsz,ok.noex,ok.exfs,ok.funs,ok.frf⟩
section
variable {X:Cx} {pins:List (Addr × Obj)} {σ:St} {H:Hp} {s:ai} {E:ae->ai->Prop}
theorem Inv.wish (I:Inv X pins σ H s) (E:ae->ai->Prop):Inv (X.wish E) pins σ H s:=⟨I.ok.wish E,I.os,I.bare,I.base,I.loc,I.cell,I.free,I.freeC,I.pin,I.hok,I.len⟩
theorem Inv.unwish (I:Inv (X.wish E) pins σ H s):Inv X pins σ H s:=⟨I.ok.unwish,I.os,I.bare,I.base,I.loc,I.cell,I.free,I.freeC,I.pin,I.hok,I.len⟩
theorem SP.unwish {D:Ends} {f:Flow} {s':ai} (h:SP (X.wish E) pins D f s'):SP X pins D f s':=by
 cases f with
 | next=>obtain⟨σ',H',I,q⟩:=h;exact⟨σ',H',I.unwish,q⟩
 | brk=>obtain⟨σ',H',I,q⟩:=h;exact⟨σ',H',I.unwish,q⟩
 | cont=>obtain⟨σ',H',I,q⟩:=h;exact⟨σ',H',I.unwish,q⟩
 | ret u=>obtain⟨v,σ',H',I,r,q⟩:=h;exact⟨v,σ',H',I.unwish,r,q⟩
theorem PSs.nox {st:List Stmt} {t:TS} (h:PSs X.nox st t):PSs X st t:=fun pins s σ H D I hw =>
 d7 (h pins s σ H D (I.wish _) hw) (fun _ _ q=>q.unwish) fun _ _ z=>dQ z
end
section
variable {X:Cx} {st:Stmt} {rest:List Stmt} {t u:TS} {e:Expr} {te:TE} {pos:Pos}
def tNext:TS:=fun D σ H=>D.nx σ H
def tSeq (t u:TS):TS:=fun D σ H=>t { D with nx:=u D } σ H
theorem pss_nil:PSs X [] tNext:=fun _ _ σ H _ I h=>wpAny_execs_nil ⟨σ,H,I,h⟩
theorem pss_cons (h1:PS X st t) (h2:PSs X rest u):PSs X (st::rest) (tSeq t u):=by
 intro pins s σ H D I h;refine wpAny_execs_cons (thn (h1 pins s σ H { D with nx:=u D } I h) fun f s1 q=>?_)
 cases f with
 | next =>
  obtain⟨σ',H',I',q⟩:=q;exact h2 pins s1 σ' H' D I' q
 | ret v=>exact q
 | brk=>exact q
 | cont=>exact q
theorem pss_one (h1:PS X st t):PSs X [st] t:=by
 intro pins s σ H D I h;refine wpAny_execs_cons (thn (h1 pins s σ H D I h) fun f s1 q=>?_);cases f with
 | next=>exact wpAny_execs_nil q
 | ret v=>exact q
 | brk=>exact q
 | cont=>exact q
theorem Inv.quiet {pins:List (Addr × Obj)} {σ:St} {H:Hp} {s:ai} (I:Inv X pins σ H s):interactive X.env=false:=by simp[interactive,I.ok.kind]
def tDrop (te:TE):TS:=fun D σ H=>te σ H fun _ H1=>D.nx σ H1
theorem ps_expr (he:PE X e te) (hs:gE e none pos.line X.env=pure false:=by rfl):PS X (.Expr e pos) (tDrop te):=by
 intro pins s σ H D I h;exact wpAny_Expr_any (thn (he pins s σ H _ I h) fun v s1 ⟨x,H1,I1,r1,q1⟩=>⟨σ,H1,I1,q1⟩) I.quiet hs
def tRet (te:TE):TS:=fun D σ H=>te σ H D.rt
theorem ps_ret (he:PE X e te):PS X (.Return (some e) pos) (tRet te):=by
 intro pins s σ H D I h;exact wpAny_Return_some (thn (he pins s σ H _ I h) fun v s1 ⟨x,H1,I1,r1,q1⟩=>⟨x,σ,H1,I1,r1,q1⟩)
def tIfS (c:TT) (t u:TS):TS:=fun D σ H=>c σ H fun b H1=>if b=true then t D σ H1 else u D σ H1
theorem ps_if {c:Expr} {a b:List Stmt} {tc:TT} (hc:PT X c tc) (ha:PSs X a t) (hb:PSs X b u):PS X (.If c a b pos) (tIfS tc t u):=by
 intro pins s σ H D I h;refine wpAny_If (thn (hc pins s σ H _ I h) fun d s1 ⟨H1,I1,q1⟩=>?_);cases d with
 | true=>exact ha pins s1 σ H1 D I1 q1
 | false=>exact hb pins s1 σ H1 D I1 q1
end
abbrev TG:=V->St->Hp->(St->Hp->Prop)->Prop
abbrev TGs:=List V->St->Hp->(St->Hp->Prop)->Prop
def PG (X:Cx) (target:Expr) (t:TG):Prop :=
 ∀ (pins:List (Addr × Obj)) (s:ai) (σ:St) (H:Hp) (v:V) (u:ae) (Q:St->Hp->Prop),Inv X pins σ H s->RelV v u->t v σ H Q ->
  aE (aF X.prog X.w) X.A (assign target X.env u) (fun _ s'=>∃ σ' H',Inv X pins σ' H' s'/\Q σ' H') X.xe s
def PGs (X:Cx) (ts:List Expr) (t:TGs):Prop :=
 ∀ (pins:List (Addr × Obj)) (s:ai) (σ:St) (H:Hp) (vs:List V) (us:List ae) (Q:St->Hp->Prop),Inv X pins σ H s->Vals vs us->t vs σ H Q ->
  aE (aF X.prog X.w) X.A (assignInOrder ((fh ts X.env).map (·.2)) us) (fun _ s'=>∃ σ' H',Inv X pins σ' H' s'/\Q σ' H') X.xe s
section
variable {X:Cx} {pos:Pos}
def gName (i:Nat):TG:=fun v σ H Q=>Q (σ.set i (some v)) H
theorem pg_name {i:Nat} {x:Str} (hN:X.N.Nodup) (hi:X.N[i]?=some x) (hx:Loc X.env.scope x) (hf:X.fn x=true\/X.env.scope.names.lookup x=some .local:=by first | exact .inl rfl | exact .inr rfl | assumption):PG X (.Name x pos) (gName i):=by
 intro pins s σ H v u Q I r h;exact wpAny_assign_Name (store_ok I hN hi hx r (fun s' I'=>⟨_,H,I',h⟩) hf)
def gNil:TGs:=fun vs σ H Q=>vs=[]/\Q σ H
def gCons (t:TG) (u:TGs):TGs:=fun vs σ H Q=>∃ v r,vs=v::r/\t v σ H fun σ' H'=>u r σ' H' Q
theorem pgs_nil:PGs X [] gNil:=by
 intro pins s σ H vs us Q I r h;obtain⟨e,h⟩:=h;subst e;cases r;exact assignInOrder_nil ⟨σ,H,I,h⟩
theorem pgs_cons {e:Expr} {es:List Expr} {t:TG} {u:TGs} (h1:PG X e t) (h2:PGs X es u)
  (hs:(fh (e::es) X.env).map (·.2)=assign e X.env::(fh es X.env).map (·.2):=by rfl):PGs X (e::es) (gCons t u):=by
 intro pins s σ H vs us Q I r h;obtain⟨v,vr,e1,h⟩:=h;subst e1;cases r with
 | cons r rr =>
  rw[hs];refine assignInOrder_cons (thn (h1 pins s σ H _ _ _ I r h) fun _ s1 ⟨σ1,H1,I1,q1⟩=>?_);exact h2 pins s1 σ1 H1 _ _ Q I1 rr q1
def gTup (K:ar) (n:Nat) (t:TGs):TG:=fun v σ H Q=>∃ a xs,v=.ref a/\SqT K H a xs/\xs.length=n/\t xs σ H Q
theorem pg_tup {es:List Expr} {k:Nat} {t:TGs} {n:Nat} (hc:X.calm=true) (h:PGs X es t)
  (hn:(fh es X.env).length=n:=by rfl) (hst:(fh es X.env).findIdx? (·.1)=none:=by rfl):PG X (.Tuple es k pos) (gTup X.K n t):=by
 intro pins s σ H v u Q I r hw;obtain⟨a,xs,e1,hq,hl,hw⟩:=hw;subst e1;cases r;obtain⟨its,rv,ht,hz⟩:=I.tuple hq;refine assign_Tuple_tuple (I.ok.hd hc) ht (by simp[hn,<- hl,rv.length]) hst fun h' hx=>?_
 have I1:Inv X pins σ H { s with heap:=h' }:=I.kept (t':=s.toks) fun b o e=>hx b o (Nat.ne_of_lt (aC e)) e
 exact h pins _ σ H xs _ Q I1 (by simpa using rv) hw
def tAsg (te:TE) (g:TG):TS:=fun D σ H=>te σ H fun x H1=>g x σ H1 D.nx
theorem ps_set {i:Nat} {x:Str} {e:Expr} {te:TE} {pos':Pos} (hN:X.N.Nodup) (hi:X.N[i]?=some x) (hx:Loc X.env.scope x) (he:PE X e te) (hs:gE e (some (.Name x pos')) pos.line X.env=pure false:=by rfl) (hf:X.fn x=true\/X.env.scope.names.lookup x=some .local:=by first | exact .inl rfl | exact .inr rfl | assumption) :
  PS X (.Assign [.Name x pos'] e pos) (tAsg te (gName i)):=by
 intro pins s σ H D I h;refine wpAny_Assign_Name (thn (he pins s σ H _ I h) fun v s1 ⟨y,H1,I1,r1,q1⟩=>?_) hs;exact store_ok I1 hN hi hx r1 (fun s2 I2=>⟨_,H1,I2,q1⟩) hf
end
structure It where
 go:Nat->Hp->Prop
 yld:Nat->Hp->V->Hp->Prop
 stop:Nat->Hp->Prop
def FpOk (X:Cx) (pins:List (Addr × Obj)) (H:Hp) (b:Addr):Prop :=
 H b=none/\b≠X.env.locals/\b∉X.fs/\(b∈X.ex\/X.s₀.heap.objs.size<=b)/\(∀ x c,X.env.cells.lookup x=some c->c≠b)/\∀ p∈X.pn++pins,p.1≠b
theorem Inv.fpOk {X:Cx} {pins:List (Addr × Obj)} {σ:St} {H H':Hp} {s:ai} {b:Addr} (I:Inv X pins σ H s) (hb:s.heap.objs.size<=b) (hn:H' b=none):FpOk X pins H' b:=by
 refine⟨hn,Nat.ne_of_gt (Nat.lt_of_lt_of_le I.lt hb),I.nofs hb,.inr (Nat.le_trans I.sz hb),fun x c e z=>?_,fun p hp z=>?_⟩
 ·obtain⟨v,q⟩:=I.cell x c e;exact absurd (Nat.lt_of_lt_of_le q.lt (by rw[z];exact hb)) (Nat.lt_irrefl _)
 ·exact absurd (Nat.lt_of_lt_of_le (aC (I.pin p hp).1) (by rw[z];exact hb)) (Nat.lt_irrefl _)
structure Turn (P:ay) (w:aI) (K:ar) (tg:Expr) (J:It) (fp:List Addr) (it:Addr) (tn:Nat->be->Prop):Prop where
 mem:it∈fp
 obj:∀ i h,tn i h->∀ b∈fp,∃ o,h.get? b=some o/\∀ v,o.data≠.cell v
 keep:∀ i h h',tn i h->(∀ b∈fp,∀ o,h.get? b=some o->h'.get? b=some o)->tn i h'
 item:∀ (X:Cx),X.prog=P->X.w=w->X.K=K->X.calm=true->∀ (i:Nat) (pins:List (Addr × Obj)) (s:ai) (σ:St) (H:Hp) (E:ae->ai->Prop),Inv X pins σ H s->(∀ b∈fp,FpOk X pins H b)->tn i s.heap->J.go i H ->
  aE (aF P w) X.A (fj (.ref it)) (fun r s1=>∃ u,r=some u /\
   aE (aF P w) X.A (fR tg (.ref it) u) (fun _ s2=>∃ x H',Inv X pins σ H' s2/\RelV x u/\J.yld i H x H'/\tn (i + 1) s2.heap/\∀ b∈fp,H' b=none) E s1) E s
 done:∀ (X:Cx),X.prog=P->X.w=w->X.K=K->X.calm=true->∀ (i:Nat) (pins:List (Addr × Obj)) (s:ai) (σ:St) (H:Hp) (E:ae->ai->Prop),Inv X pins σ H s->(∀ b∈fp,FpOk X pins H b)->tn i s.heap->J.stop i H ->
  aE (aF P w) X.A (fj (.ref it)) (fun r s1=>r=none/\Inv X pins σ H s1) E s
 self:∀ (A:a6) (i:Nat) (s:ai) (Q:ae->ai->Prop) (E:ae->ai->Prop),tn i s.heap->Q (.ref it) s->aE (aF P w) A (pyIter (.ref it)) Q E s
abbrev TI:=St->Hp->(It->Hp->Prop)->Prop
def PIE (X:Cx) (pins:List (Addr × Obj)) (σ:St) (tg:Expr) (R:It->Hp->Prop) (itv:ae) (s2:ai):Prop :=
 ∃ (it:Addr) (fp:List Addr) (tn:Nat->be->Prop) (J:It) (H':Hp),itv=.ref it/\Inv X pins σ H' s2/\Turn X.prog X.w X.K tg J fp it tn/\tn 0 s2.heap/\(∀ b∈fp,FpOk X pins H' b)/\R J H'
def PI (X:Cx) (tg iter:Expr) (wi:TI):Prop :=
 ∀ (pins:List (Addr × Obj)) (s:ai) (σ:St) (H:Hp) (R:It->Hp->Prop),Inv X pins σ H s->wi σ H R ->
  aE (aF X.prog X.w) X.A (eval iter X.env) (fun v s1=>aE (aF X.prog X.w) X.A (pyIter v) (PIE X pins σ tg R) X.xe s1) X.xe s
theorem go_of {M : Model} {A : a6} {E : ae -> ai -> Prop} {s : ai} {tg : Expr} {it : Addr} {u : ae} {o : Obj} {n : String} {vs : Array ae} {Q : Unit -> ai -> Prop} (ho : s.heap.get? it = some o) (hc : o.cls = .type n) (hd : o.data = .fields vs)
    (hn : ["enumerate", "zip", "dict_itemiterator", "dict_reverseitemiterator", "odict_iterator", "itertools.zip_longest", "itertools.pairwise"].contains n = false) (hQ : Q () s) : aE M A (fR tg (.ref it) u) Q E s := by
  unfold fR;cases tg <;> first
    | exact af hQ
    | (cases u <;> first
        | exact af hQ
        | (refine ad (wpAny_load ho ?_)
           rw [hc, hd];show aE M A (if (["enumerate", "zip", "dict_itemiterator", "dict_reverseitemiterator", "odict_iterator", "itertools.zip_longest", "itertools.pairwise"].contains n && vs[0]? == some (eW _)) = true then _ else _) Q E s
           rw [if_neg (by intro h; rw [hn, Bool.false_and] at h; cases h)]
           exact af hQ))
def Itl (K:ar) (a:Addr):It :=
 ⟨fun i H=>∃ xs x,SqL K H a xs/\xs[i]?=some x,fun i H x H'=>H'=H/\∀ xs,SqL K H a xs->xs[i]?=some x,fun i H=>∃ xs,SqL K H a xs/\xs.length<=i⟩
def Itt (K:ar) (a:Addr):It :=
 ⟨fun i H=>∃ xs x,SqT K H a xs/\xs[i]?=some x,fun i H x H'=>H'=H/\∀ xs,SqT K H a xs->xs[i]?=some x,fun i H=>∃ xs,SqT K H a xs/\xs.length<=i⟩
def Itr (lo:Int) (n:Nat):It:=⟨fun i _=>i < n,fun i H x H'=>H'=H/\x=.int (lo + i),fun i _=>n<=i⟩
theorem turn_list {P:ay} {w:aI} {K:ar} {tg:Expr} (a it:Addr):Turn P w K tg (Itl K a) [it] it (fun i h=>h.IsListIter it a i) where
 mem:=by simp
 obj:=fun i h st b hb=>by
  have e:b=it:=by simpa using hb
  subst e;obtain⟨o,e,c,d⟩:=st;exact⟨o,e,fun v z=>by rw[d] at z;cases z⟩
 keep:=fun i h h' st k=>st.at fun o e=>k it (by simp) o e
 item:=by
  intro X hP hw hK hc i pins s σ H E I hf st hg;subst hP hw hK;obtain⟨xs,x,hq,hx⟩:=hg;obtain⟨its,rv,p,hz⟩:=I.list hq;obtain⟨u,hu,ru⟩:=rv.get hx;obtain⟨f0,f1,f2,f3,f4,f5⟩:=hf it (by simp)
  refine wpAny_pyNext_list_item st p.isList (x:=u) (by simpa using hu) fun h' st' sb=>?_
  have I1:Inv X pins σ H { s with heap:=h' }:=I.turned (t':=s.toks) (fun b o hb e=>(sb.2 b hb).trans e) f0 f1 f3 f4 f5
  obtain⟨o,e,c,d⟩:=id st';exact⟨u,rfl,go_of (s:={ s with heap:=h' }) e c d (by decide) ⟨x,H,I1,ru,⟨rfl,fun ys hy=>by rw[I.list_inj hy hq];exact hx⟩,st',fun b hb=>(hf b hb).1⟩⟩
 done:=by
  intro X hP hw hK hc i pins s σ H E I hf st hg;subst hP hw hK;obtain⟨xs,hq,hx⟩:=hg;obtain⟨its,rv,p,hz⟩:=I.list hq;obtain⟨f0,f1,f2,f3,f4,f5⟩:=hf it (by simp)
  have hl:=rv.length;exact wpAny_pyNext_list_end (I.ok.hd hc) st p.isList (by simp;omega) fun h' eb=>⟨rfl,I.turned (t':=s.toks) (fun b o hb e=>eb b o hb e) f0 f1 f3 f4 f5⟩
 self:=fun _ _ _ _ _ st h=>wpAny_pyIter_listiter st h
theorem turn_tuple {P:ay} {w:aI} {K:ar} {tg:Expr} (a it:Addr):Turn P w K tg (Itt K a) [it] it (fun i h=>h.IsTupleIter it a i) where
 mem:=by simp
 obj:=fun i h st b hb=>by
  have e:b=it:=by simpa using hb
  subst e;obtain⟨o,e,c,d⟩:=st;exact⟨o,e,fun v z=>by rw[d] at z;cases z⟩
 keep:=fun i h h' st k=>st.at fun o e=>k it (by simp) o e
 item:=by
  intro X hP hw hK hc i pins s σ H E I hf st hg;subst hP hw hK;obtain⟨xs,x,hq,hx⟩:=hg;obtain⟨its,rv,p,hz⟩:=I.tuple hq;obtain⟨u,hu,ru⟩:=rv.get hx;obtain⟨f0,f1,f2,f3,f4,f5⟩:=hf it (by simp)
  refine wpAny_pyNext_tuple_item st (show s.heap.IsTuple a its.toArray from p) (x:=u) (by simpa using hu) fun h' st' sb=>?_
  have I1:Inv X pins σ H { s with heap:=h' }:=I.turned (t':=s.toks) (fun b o hb e=>(sb.2 b hb).trans e) f0 f1 f3 f4 f5
  obtain⟨o,e,c,d⟩:=id st';exact⟨u,rfl,go_of (s:={ s with heap:=h' }) e c d (by decide) ⟨x,H,I1,ru,⟨rfl,fun ys hy=>by rw[I.tuple_inj hy hq];exact hx⟩,st',fun b hb=>(hf b hb).1⟩⟩
 done:=by
  intro X hP hw hK hc i pins s σ H E I hf st hg;subst hP hw hK;obtain⟨xs,hq,hx⟩:=hg;obtain⟨its,rv,p,hz⟩:=I.tuple hq;obtain⟨f0,f1,f2,f3,f4,f5⟩:=hf it (by simp)
  have hl:=rv.length;exact wpAny_pyNext_tuple_end (I.ok.hd hc) st (show s.heap.IsTuple a its.toArray from p) (by simp;omega) fun h' eb=>⟨rfl,I.turned (t':=s.toks) (fun b o hb e=>eb b o hb e) f0 f1 f3 f4 f5⟩
 self:=fun _ _ _ _ _ st h=>wpAny_pyIter_tupleiter st h
theorem turn_range {P:ay} {w:aI} {K:ar} {tg:Expr} (it:Addr) (lo:Int) (n:Nat):Turn P w K tg (Itr lo n) [it] it (fun i h=>IsRangeIter h it (lo + (i:Nat) * 1) ((n:Int) - (i:Nat)) 1) where
 mem:=by simp
 obj:=fun i h st b hb=>by
  have e:b=it:=by simpa using hb
  subst e;exact⟨_,st,fun v z=>by
   have z':Data.fields _=Data.cell v:=z;cases z'⟩
 keep:=fun i h h' st k=>k it (by simp) _ st
 item:=by
  intro X hP hw hK hc i pins s σ H E I hf st hg;subst hP hw hK;obtain⟨f0,f1,f2,f3,f4,f5⟩:=hf it (by simp)
  have W:=Walks.range (prog:=X.prog) (w:=X.w) (I.ok.hd hc) it lo 1 n;refine W.item i s _ _ hg st fun v h' tk hv st' kk=>?_;obtain⟨t,rfl⟩:=hv;have I1:Inv X pins σ H { s with heap:=h',toks:=tk }:=I.turned (fun b o hb e=>kk b o (by simpa using hb) e) f0 f1 f3 f4 f5
  refine⟨_,rfl,go_of (s:={ s with heap:=h',toks:=tk }) (n := "range_iterator") st' rfl rfl (by decide) ⟨.int (lo + i),H,I1,⟨t,?_⟩,⟨rfl,rfl⟩,st',fun b hb=>(hf b hb).1⟩⟩
  rw[Int.mul_one]
 done:=by
  intro X hP hw hK hc i pins s σ H E I hf st hg;subst hP hw hK;obtain⟨f0,f1,f2,f3,f4,f5⟩:=hf it (by simp)
  exact wpAny_pyNext_range_end (I.ok.hd hc) st (by have:n<=i:=hg;omega) fun h' eb=>⟨rfl,I.turned (t':=s.toks) (fun b o hb e=>eb b o hb e) f0 f1 f3 f4 f5⟩
 self:=fun _ _ _ _ _ st h=>wpAny_pyIter_rangeiter st h
section
variable {X:Cx} {tg:Expr}
theorem range_it {pins:List (Addr × Obj)} {σ:St} {H:Hp} {s:ai} {R:It->Hp->Prop} {E:ae->ai->Prop} {lo hi:Int} {t u v:Tok} {tk:Nat} (I:Inv X pins σ H s) (h1:-(2 ^ 62)<=lo) (h2:lo < 2 ^ 62) (h3:-(2 ^ 62)<=hi) (h4:hi < 2 ^ 62)
  (q:R (Itr lo (hi - lo).toNat) H):aE (aF X.prog X.w) X.A (pyIter (.ref s.heap.objs.size)) (PIE X pins σ tg R) E { s with heap:=s.heap.push { cls:=.type "range",data:=.fields #[.int lo t,.int hi u,.int 1 v] },toks:=tk }:=by
 refine wpAny_pyIter_range (IsRange.new ..) (small_one h1 h2 h3 h4) ?_;have I1:Inv X pins σ H { s with heap:=s.heap.push { cls:=.type "range",data:=.fields #[.int lo t,.int hi u,.int 1 v] },toks:=tk }:=I.kept fun b o e=>ah _ e
 refine⟨(s.heap.push { cls:=.type "range",data:=.fields #[.int lo t,.int hi u,.int 1 v] }).objs.size,[(s.heap.push { cls:=.type "range",data:=.fields #[.int lo t,.int hi u,.int 1 v] }).objs.size],_,_,H,rfl,
  I1.kept (t':=tk) fun b o e=>ah _ e,turn_range _ lo (hi - lo).toNat,?_,fun b hb=>?_,q⟩
 ·have e1:lo + ((0:Nat):Int) * 1=lo:=by simp
  have e2:(((hi - lo).toNat:Nat):Int) - ((0:Nat):Int)=b6.Range.rangeSize lo hi 1:=by rw[rangeSize_one];split <;> omega
  show IsRangeIter _ _ (lo + ((0:Nat):Int) * 1) ((((hi - lo).toNat:Nat):Int) - ((0:Nat):Int)) 1;rw[e1,e2];exact av _ rfl
 ·have e:b=(s.heap.push { cls:=.type "range",data:=.fields #[.int lo t,.int hi u,.int 1 v] }).objs.size:=by simpa using hb
  subst e;exact I1.fpOk (Nat.le_refl _) (I1.hok.fresh (Nat.le_refl _))
def iRng1 (ta:TA):TI:=fun σ H R=>ta σ H fun vs H1=>∃ j:Int,vs=[.int j]/\-(2 ^ 62)<=j/\j < 2 ^ 62/\R (Itr 0 j.toNat) H1
def iRng2 (ta:TA):TI:=fun σ H R=>ta σ H fun vs H1=>∃ i j:Int,vs=[.int i,.int j]/\(-(2 ^ 62)<=i/\i < 2 ^ 62/\-(2 ^ 62)<=j/\j < 2 ^ 62)/\R (Itr i (j - i).toNat) H1
theorem pi_range1 {a:Expr} {ta:TA} {p pos:Pos} (hg:Gl X "range") (hm:X.mg "range" = none) (ha:PA X [a] ta) (hs:ax [a] X.env=[(false,eval a X.env)]:=by rfl):PI X tg (.Call (.Name "range" p) [a] [] pos) (iRng1 ta):=by
 intro pins s σ H R I h;refine Call_ (ld_blt I hg hm boot_range (cY (thn (ha pos pins s σ H _ I h) fun us s1 ⟨vs,H1,I1,r1,q1⟩=>?_) hs rfl));obtain⟨j,e,q1,q2,q⟩:=q1;subst e;cases r1 with
 | cons r rr =>
  cases rr;obtain⟨t,rfl⟩:=r;exact call_range_1 (range_it I1 (by omega) (by omega) q1 q2 (by simpa using q))
theorem pi_range2 {a b:Expr} {ta:TA} {p pos:Pos} (hg:Gl X "range") (hm:X.mg "range" = none) (ha:PA X [a,b] ta) (hs:ax [a,b] X.env=[(false,eval a X.env),(false,eval b X.env)]:=by rfl) (hs2:ax [b] X.env=[(false,eval b X.env)]:=by rfl) :
  PI X tg (.Call (.Name "range" p) [a,b] [] pos) (iRng2 ta):=by
 intro pins s σ H R I h;refine Call_ (ld_blt I hg hm boot_range (cY (thn (ha pos pins s σ H _ I h) fun us s1 ⟨vs,H1,I1,r1,q1⟩=>?_) (by rw[hs,hs2]) (by rw[hs2];rfl)))
 obtain⟨i,j,e,⟨q1,q2,q3,q4⟩,q⟩:=q1;subst e;cases r1 with
 | cons r rr =>
  cases rr with
  | cons r' rr =>
   cases rr;obtain⟨t,rfl⟩:=r;obtain⟨t',rfl⟩:=r';exact call_range_2 (range_it I1 q1 q2 q3 q4 q)
def tFor (wi:TI) (g:TG) (tb:TS):TS:=fun D σ H=>wi σ H fun J H1=>∃ W:Nat->Nat->St->Hp->Prop,(∃ m,W 0 m σ H1)/\∀ i m σ H,W i m σ H ->
 (J.stop i H/\D.nx σ H)\/(J.go i H/\∃ N:St->Hp->Prop,(∀ σ' H',N σ' H'->∃ m',m' < m/\W (i + 1) m' σ' H')/\∀ x H',J.yld i H x H'->g x σ H' fun σ2 H2=>tb { D with nx:=N,ct:=N,bk:=D.nx } σ2 H2)
def pinsAt (fp:List Addr) (h:be):List (Addr × Obj):=fp.filterMap fun b=>(h.get? b).map fun o=>(b,o)
theorem mem_pinsAt {fp:List Addr} {h:be} {b:Addr} {o:Obj} (hb:b∈fp) (e:h.get? b=some o):(b,o)∈pinsAt fp h:=eP.mpr ⟨b,hb,by rw[e];rfl⟩
theorem of_pinsAt {fp:List Addr} {h:be} {p:Addr × Obj} (hp:p∈pinsAt fp h):p.1∈fp/\h.get? p.1=some p.2:=by
 obtain⟨b,hb,e⟩:=eP.mp hp;cases q:h.get? b with
 | none=>rw[q] at e;cases e
 | some o =>
  rw[q] at e;have e':(b,o)=p:=aP e;subst e';exact⟨hb,q⟩
theorem Inv.pinned {pins:List (Addr × Obj)} {σ:St} {H:Hp} {s:ai} {fp:List Addr} (I:Inv X pins σ H s) (hf:∀ b∈fp,FpOk X pins H b) (ho:∀ b∈fp,∃ o,s.heap.get? b=some o/\∀ v,o.data≠.cell v):Inv X (pins++pinsAt fp s.heap) σ H s :=
 I.pins_of fun p hp=>(aU.mp hp).elim (fun z=>I.pin p (bj _ z)) fun z=>by
  obtain⟨hb,e⟩:=of_pinsAt z;obtain⟨f0,f1,f2,_⟩:=hf p.1 hb;obtain⟨o,e',d⟩:=ho p.1 hb;rw[e] at e';cases e';exact⟨e,f0,f1,f2,d⟩
theorem Inv.unpinned {pins pl:List (Addr × Obj)} {σ:St} {H:Hp} {s:ai} (I:Inv X (pins++pl) σ H s):Inv X pins σ H s:=I.pins_of fun p hp=>I.pin p (bj _ (cF _ hp))
theorem ps_for {iter:Expr} {body:List Stmt} {wi:TI} {g:TG} {tb:TS} {pos:Pos} (hp:PassesOwn (aF X.prog X.w) X.A X.env X.xe) (hc:X.calm=true) (hi:PI X tg iter wi) (hg:PG X tg g) (hb:PSs X body tb)
  (hs:∀ x,cB iter X.env x=pure x:=by intro _;rfl):PS X (.For tg iter body [] pos) (tFor wi g tb):=by
 intro pins s σ H D I h;refine wpAny_For (thn (hi pins s σ H _ I h) fun v s1 h1=>thn h1 fun itv s2 h2=>?_) hs;obtain⟨it,fp,tn,J,H2,e,I2,T,st2,f2,W,⟨m0,w0⟩,turn⟩:=h2;subst e;have stat:∀ {H':Hp},(∀ b∈fp,H' b=none)->∀ b∈fp,FpOk X pins H' b:=fun hn b hb=>⟨hn b hb,(f2 b hb).2⟩;refine codeAny_forLoop_any (fun n s'=>∃ i σ' H',Inv X pins σ' H' s'/\tn i s'.heap/\(∀ b∈fp,H' b=none)/\W i n σ' H') ?_ m0 ⟨0,σ,H2,I2,st2,fun b hb=>(f2 b hb).1,w0⟩;rintro n s3 ⟨i,σ3,H3,I3,st3,fr3,w3⟩;rcases turn i n σ3 H3 w3 with⟨stop,qn⟩ | ⟨go,N,hN,step⟩
 ·refine fS hp (thn (T.done X rfl rfl rfl hc i pins s3 σ3 H3 X.xe I3 (stat fr3) st3 stop) fun r s4 ⟨hr,I4⟩=>?_);subst hr;exact wpAny_execs_nil ⟨σ3,H3,I4,qn⟩
 ·refine fS hp (thn (T.item X rfl rfl rfl hc i pins s3 σ3 H3 X.xe I3 (stat fr3) st3 go) fun r s4 ⟨u,hr,h4⟩=>?_);subst hr;refine fS hp (thn h4 fun _ s5 ⟨x,H5,I5,r5,y5,st5,fr5⟩=>?_);have I5':=I5.pinned (stat fr5) (T.obj _ _ st5);refine fS hp (thn (hg _ s5 σ3 H5 x u _ I5' r5 (step x H5 y5)) fun _ s6 ⟨σ6,H6,I6,q6⟩=>?_);refine fS hp (thn (hb _ s6 σ6 H6 _ I6 q6) fun f s7 q7=>?_);have again:∀ {σ7:St} {H7:Hp},Inv X (pins++pinsAt fp s5.heap) σ7 H7 s7->N σ7 H7->∃ m,m < n/\∃ i σ' H',Inv X pins σ' H' s7/\tn i s7.heap/\(∀ b∈fp,H' b=none)/\W i m σ' H':=fun {σ7 H7} I7 n7=>by
   obtain⟨m',hm,w7⟩:=hN σ7 H7 n7;refine⟨m',hm,i + 1,σ7,H7,I7.unpinned,T.keep _ _ _ st5 fun b hb o e=>(I7.pin (b,o) (bj _ (bj _ (mem_pinsAt hb e)))).1,fun b hb=>?_,w7⟩;obtain⟨o,e,d⟩:=T.obj _ _ st5 b hb;exact(I7.pin (b,o) (bj _ (bj _ (mem_pinsAt hb e)))).2.1
  cases f with
  | next=>obtain⟨σ7,H7,I7,n7⟩:=q7;exact again I7 n7
  | cont=>obtain⟨σ7,H7,I7,n7⟩:=q7;exact again I7 n7
  | brk=>obtain⟨σ7,H7,I7,q7⟩:=q7;exact⟨σ7,H7,I7.unpinned,q7⟩
  | ret v=>obtain⟨x7,σ7,H7,I7,r7,q7⟩:=q7;exact⟨x7,σ7,H7,I7.unpinned,r7,q7⟩
end
abbrev R2:=V->V->Hp->VK->Prop
def OpR (X:Cx) (f:ae->ae->Sem ae) (r:R2):Prop :=
 ∀ (pins:List (Addr × Obj)) (s:ai) (σ:St) (H:Hp) (x y:V) (v u:ae) (Q:VK),Inv X pins σ H s->RelV x v->RelV y u->r x y H Q ->
  aE (aF X.prog X.w) X.A (f v u) (EP X pins σ Q) X.xe s
def UnR (X:Cx) (f:ae->Sem ae) (r:V->Hp->VK->Prop):Prop :=
 ∀ (pins:List (Addr × Obj)) (s:ai) (σ:St) (H:Hp) (x:V) (v:ae) (Q:VK),Inv X pins σ H s->RelV x v->r x H Q ->
  aE (aF X.prog X.w) X.A (f v) (EP X pins σ Q) X.xe s
def CallR (X:Cx) (f:ae) (r:List V->Hp->VK->Prop):Prop :=
 ∀ (pins:List (Addr × Obj)) (s:ai) (σ:St) (H:Hp) (xs:List V) (us:List ae) (Q:VK),Inv X pins σ H s->Vals xs us->r xs H Q ->
  aE (aF X.prog X.w) X.A (call f us) (EP X pins σ Q) X.xe s
def TruR (X:Cx) (r:V->Hp->(Bool->Hp->Prop)->Prop):Prop :=
 ∀ (pins:List (Addr × Obj)) (s:ai) (σ:St) (H:Hp) (x:V) (v:ae) (Q:Bool->Hp->Prop),Inv X pins σ H s->RelV x v->r x H Q ->
  aE (aF X.prog X.w) X.A (truthy v) (TP X pins σ Q) X.xe s
def tOp (r:R2) (ta tb:TE):TE:=fun σ H Q=>ta σ H fun x H1=>tb σ H1 fun y H2=>r x y H2 Q
def tUn (r:V->Hp->VK->Prop) (ta:TE):TE:=fun σ H Q=>ta σ H fun x H1=>r x H1 Q
def rI (C:Int->Int->Prop) (g:Int->Int->V):R2:=fun x y H Q=>∃ i j,x=.int i/\y=.int j/\C i j/\Q (g i j) H
def rI0 (g:Int->Int->V):R2:=fun x y H Q=>∃ i j,x=.int i/\y=.int j/\Q (g i j) H
def rU (g:Int->V):V->Hp->VK->Prop:=fun x H Q=>∃ i,x=.int i/\Q (g i) H
section
variable {X:Cx} {a b c:Expr} {ta tb tc:TE} {pos:Pos}
theorem binT (ha:PE X a ta) (hb:PE X b tb) {pins:List (Addr × Obj)} {s:ai} {σ:St} {H:Hp} {R:V->V->Hp->Prop} (I:Inv X pins σ H s)
  (h:ta σ H fun x H1=>tb σ H1 fun y H2=>R x y H2) {Q:ae->ai->Prop} {f:ae->ae->Sem ae}
  (hf:∀ v u s2 x y H2,Inv X pins σ H2 s2->RelV x v->RelV y u->R x y H2->aE (aF X.prog X.w) X.A (f v u) Q X.xe s2) :
  aE (aF X.prog X.w) X.A (eval a X.env) (fun v s₁=>aE (aF X.prog X.w) X.A (eval b X.env) (fun u s₂=>aE (aF X.prog X.w) X.A (f v u) Q X.xe s₂) X.xe s₁) X.xe s:=by
 refine thn (ha pins s σ H _ I h) fun v s1 ⟨x,H1,I1,r1,q1⟩=>?_;refine thn (hb pins s1 σ H1 _ I1 q1) fun u s2 ⟨y,H2,I2,r2,q2⟩=>?_;exact hf v u s2 x y H2 I2 r1 r2 q2
theorem pe_op {op:Operator} {r:R2} (ho:OpR X (dW op) r) (ha:PE X a ta) (hb:PE X b tb):PE X (.BinOp a op b pos) (tOp r ta tb):=by
 intro pins s σ H Q I h;exact wpAny_BinOp (binT ha hb I h fun v u s2 x y H2 I2 rx ry q=>ho pins s2 σ H2 x y v u Q I2 rx ry q)
theorem pe_un {op:UnaryOp} {r:V->Hp->VK->Prop} (ho:UnR X (unaryOp op) r) (ha:PE X a ta):PE X (.UnaryOp op a pos) (tUn r ta):=by
 intro pins s σ H Q I h;exact UnaryOp_ (thn (ha pins s σ H _ I h) fun v s1 ⟨x,H1,I1,r1,q1⟩=>ho pins s1 σ H1 x v Q I1 r1 q1)
theorem opI {f:ae->ae->Sem ae} {C:Int->Int->Prop} {g:Int->Int->Int}
  (rule:∀ (i j:Int) (t u:Tok) (s:ai) (Q:ae->ai->Prop) (E:ae->ai->Prop),C i j->Q (.int (g i j) s.toks) { s with toks:=s.toks + 1 }->aE (aF X.prog X.w) X.A (f (.int i t) (.int j u)) Q E s) :
  OpR X f (rI C fun i j=>.int (g i j)):=by
 intro pins s σ H x y v u Q I rx ry h;obtain⟨i,j,rfl,rfl,hc,q⟩:=h;obtain⟨t,rfl⟩:=rx;obtain⟨t',rfl⟩:=ry;exact rule i j t t' s _ _ hc ⟨.int (g i j),H,I.tok _,⟨_,rfl⟩,q⟩
theorem opI0 {f:ae->ae->Sem ae} {g:Int->Int->Int}
  (rule:∀ (i j:Int) (t u:Tok) (s:ai) (Q:ae->ai->Prop) (E:ae->ai->Prop),Q (.int (g i j) s.toks) { s with toks:=s.toks + 1 }->aE (aF X.prog X.w) X.A (f (.int i t) (.int j u)) Q E s) :
  OpR X f (rI0 fun i j=>.int (g i j)):=by
 intro pins s σ H x y v u Q I rx ry h;obtain⟨i,j,rfl,rfl,q⟩:=h;obtain⟨t,rfl⟩:=rx;obtain⟨t',rfl⟩:=ry;exact rule i j t t' s _ _ ⟨.int (g i j),H,I.tok _,⟨_,rfl⟩,q⟩
theorem opB0 {f:ae->ae->Sem ae} {g:Int->Int->Bool}
  (rule:∀ (i j:Int) (t u:Tok) (s:ai) (Q:ae->ai->Prop) (E:ae->ai->Prop),Q (.bool (g i j)) s->aE (aF X.prog X.w) X.A (f (.int i t) (.int j u)) Q E s) :
  OpR X f (rI0 fun i j=>.bl (g i j)):=by
 intro pins s σ H x y v u Q I rx ry h;obtain⟨i,j,rfl,rfl,q⟩:=h;obtain⟨t,rfl⟩:=rx;obtain⟨t',rfl⟩:=ry;exact rule i j t t' s _ _ ⟨.bl (g i j),H,I,rfl,q⟩
def CDiv (i j:Int):Prop:=0 < j/\j < 1073741824
def CPow (i j:Int):Prop:=0<=j/\j<=1000000/\i.natAbs < 2 ^ 64
def CMul (i j:Int):Prop:=(-(2 ^ 64) < i/\i < 2 ^ 64)\/(-(2 ^ 64) < j/\j < 2 ^ 64)
theorem CMul.ok {i j:Int} (h:CMul i j):IntMulOk i j:=by
 rcases h with⟨h1,h2⟩ | ⟨h1,h2⟩
 ·exact .of_left (intBits_le_64 h1 h2)
 ·exact .of_right (intBits_le_64 h1 h2)
theorem two_pow_nn (k:Nat):(0:Int)<=2 ^ k:=by
 rw[two_pow_cast];exact ic _
theorem op_add:OpR X (dW .Add) (rI0 fun i j=>.int (i + j)):=opI0 fun _ _ _ _ _ _ _ q=>add_int q
theorem op_sub:OpR X (dW .Sub) (rI0 fun i j=>.int (i - j)):=opI0 fun _ _ _ _ _ _ _ q=>sub_int q
theorem op_mul:OpR X (dW .Mult) (rI CMul fun i j=>.int (i * j)):=opI fun _ _ _ _ _ _ _ hc q=>mul_int q hc.ok
theorem op_fdiv:OpR X (dW .FloorDiv) (rI CDiv fun i j=>.int (i / j)):=opI fun i j _ _ _ _ _ hc q=>by
 have h1:(0:Int) < j:=hc.1;have h2:j < 1073741824:=hc.2;exact floordiv_int (by omega) (by rw[ie i (by omega)];exact q) (.inl (PyProof.noPylong_small (by omega)))
theorem op_mod:OpR X (dW .Mod) (rI (fun _ j=>0 < j) fun i j=>.int (i % j)):=opI fun i j _ _ _ _ _ hc q=>by
 have h1:(0:Int) < j:=hc;exact mod_int' (by omega) (by rw[Int.fmod_eq_emod_of_nonneg i (by omega)];exact q)
theorem op_pow:OpR X (dW .Pow) (rI CPow fun i j=>.int (i ^ j.toNat)):=opI fun _ _ _ _ _ _ _ hc q=>pow_int_small hc.1 hc.2.1 hc.2.2 q
theorem op_shr:OpR X (dW .RShift) (rI (fun _ j=>0<=j) fun i j=>.int (i / 2 ^ j.toNat)):=opI fun i j _ _ _ _ _ hc q =>
 rshift_int hc (by rw[ie i (two_pow_nn _)];exact q)
theorem op_and:OpR X (dW .BitAnd) (rI0 fun i j=>.int (bD i j)):=opI0 fun _ _ _ _ _ _ _ q=>and_int q
theorem unI {f:ae->Sem ae} {g:Int->Int}
  (rule:∀ (i:Int) (t:Tok) (s:ai) (Q:ae->ai->Prop) (E:ae->ai->Prop),Q (.int (g i) s.toks) { s with toks:=s.toks + 1 }->aE (aF X.prog X.w) X.A (f (.int i t)) Q E s) :
  UnR X f (rU fun i=>.int (g i)):=by
 intro pins s σ H x v Q I rx h;obtain⟨i,rfl,q⟩:=h;obtain⟨t,rfl⟩:=rx;exact rule i t s _ _ ⟨.int (g i),H,I.tok _,⟨_,rfl⟩,q⟩
theorem un_neg:UnR X (unaryOp .USub) (rU fun i=>.int (-i)):=unI fun _ _ _ _ _ q=>neg_int q
end
section
variable {X:Cx} {a b c:Expr} {ta tb tc:TE} {pos:Pos}
theorem fin_bl {pins:List (Addr × Obj)} {σ:St} {H:Hp} {s:ai} {Q:VK} {k k':Bool} (I:Inv X pins σ H s) (q:Q (.bl k) H) (e:k=k'):EP X pins σ Q (.bool k') s:=by
 subst e;exact⟨.bl k,H,I,rfl,q⟩
theorem op_lt:OpR X (bW .Lt) (rI0 fun i j=>.bl (decide (i < j))):=opB0 fun _ _ _ _ _ _ _ q=>lt_int q
theorem op_le:OpR X (bW .LtE) (rI0 fun i j=>.bl (decide (i<=j))):=opB0 fun _ _ _ _ _ _ _ q=>le_int q
theorem op_gt:OpR X (bW .Gt) (rI0 fun i j=>.bl (decide (j < i))):=opB0 fun _ _ _ _ _ _ _ q=>gt_int q
theorem op_ge:OpR X (bW .GtE) (rI0 fun i j=>.bl (decide (j<=i))):=opB0 fun _ _ _ _ _ _ _ q=>ge_int q
theorem op_lt_str:OpR X (bW .Lt) (fun x y H Q=>∃ i j,x=.str i/\y=.str j/\Q (.bl (decide (i.cps.toList < j.cps.toList))) H):=by
 intro pins s σ H x y v u Q I rx ry h;obtain⟨i,j,rfl,rfl,q⟩:=h;obtain⟨t,rfl⟩:=rx;obtain⟨t',rfl⟩:=ry;exact lt_str (fin_bl I q rfl)
theorem op_notN:OpR X (bW .IsNot) (fun x y H Q=>y=.non/\Q (.bl (!decide (x=.non))) H):=by
 intro pins s σ H x y v u Q I rx ry h;obtain⟨rfl,q⟩:=h;cases ry;refine isnot_none_gen (fin_bl I q ?_);cases x <;> first
  | (cases rx;rfl)
  | (obtain⟨t,rfl⟩:=rx;rfl)
theorem OpR.or {f:ae->ae->Sem ae} {r r':R2} (h:OpR X f r) (h':OpR X f r'):OpR X f (fun x y H Q=>r x y H Q\/r' x y H Q):=by
 intro pins s σ H x y v u Q I rx ry q;rcases q with q | q
 ·exact h pins s σ H x y v u Q I rx ry q
 ·exact h' pins s σ H x y v u Q I rx ry q
theorem nomark (b:Expr) {op:CmpOp} (h:op≠.In:=by decide) (h2:op≠.NotIn:=by decide):d0 op b=false:=by
 have e1:(op == CmpOp.In)=false:=by cases op <;> first | rfl | exact absurd rfl h
 have e2:(op == CmpOp.NotIn)=false:=by cases op <;> first | rfl | exact absurd rfl h2
 cases b <;> simp[d0,e1,e2]
theorem pe_cmpR {op:CmpOp} {r:R2} (ho:OpR X (bW op) r) (ha:PE X a ta) (hb:PE X b tb) (hm:d0 op b=false):PE X (.Compare a [op] [b] pos) (tOp r ta tb):=by
 intro pins s σ H Q I h;exact wpAny_Compare1 (binT ha hb I h fun v u s2 x y H2 I2 rx ry q=>ho pins s2 σ H2 x y v u Q I2 rx ry q) hm
def tTest (t:TE):TT:=fun σ H Q=>t σ H fun x H'=>∃ k,x=.bl k/\Q k H'
theorem pt_cmpR {op:CmpOp} {r:R2} (ho:OpR X (bW op) r) (ha:PE X a ta) (hb:PE X b tb) (hm:d0 op b=false):PT X (.Compare a [op] [b] pos) (tTest (tOp r ta tb)):=by
 intro pins s σ H Q I h;refine wpAny_isTrue_Compare1 (thn (ha pins s σ H _ I h) fun v s1 ⟨x,H1,I1,r1,q1⟩=>thn (hb pins s1 σ H1 _ I1 q1) fun u s2 ⟨y,H2,I2,r2,q2⟩ =>
  thn (ho pins s2 σ H2 x y v u _ I2 r1 r2 q2) fun c s3 ⟨z,H3,I3,r3,k,e,q3⟩=>?_) hm
 subst e;cases r3;exact cA ⟨H3,I3,q3⟩
def tChain (r r':R2) (ta tb tc:TE):TE:=fun σ H Q=>ta σ H fun x H1=>tb σ H1 fun y H2=>r x y H2 fun z H3=>∃ k,z=.bl k /\
 (if k=true then tc σ H3 fun w' H4=>r' y w' H4 Q else Q (.bl false) H3)
theorem pt_chain {op op':CmpOp} {r r':R2} (ho:OpR X (bW op) r) (ho':OpR X (bW op') r') (ha:PE X a ta) (hb:PE X b tb) (hc:PE X c tc)
  (hm:lastMarks [op,op'] [b,c]=false:=by with_unfolding_all rfl):PT X (.Compare a [op,op'] [b,c] pos) (tTest (tChain r r' ta tb tc)):=by
 intro pins s σ H Q I h;refine isTrue_chain (thn (ha pins s σ H _ I h) fun v s1 ⟨x,H1,I1,r1,q1⟩=>test_link (thn (hb pins s1 σ H1 _ I1 q1) fun u s2 ⟨y,H2,I2,r2,q2⟩ =>
  thn (ho pins s2 σ H2 x y v u _ I2 r1 r2 q2) fun d s3 ⟨z,H3,I3,r3,k,e,q3⟩=>?_)) hm
 subst e;cases r3;refine cA ?_;cases k with
 | false =>
  obtain⟨k',e',q'⟩:=q3;cases e';exact ite_ff ⟨H3,I3,q'⟩
 | true =>
  refine ite_tt (test_last (thn (hc pins s3 σ H3 _ I3 q3) fun w' s4 ⟨z',H4,I4,r4,q4⟩=>thn (ho' pins s4 σ H4 y z' u w' _ I4 r2 r4 q4) fun d' s5 ⟨z2,H5,I5,r5,k2,e2,q5⟩=>?_));subst e2;cases r5;exact cA ⟨H5,I5,q5⟩
def TruV (K:ar) (x:V) (H:Hp) (k:Bool):Prop :=
 match x with
 | .non=>k=false
 | .bl b=>k=b
 | .int i=>k=(i != 0)
 | .str y=>y.length<=sizeLine/\k=((y.length:Int) != 0)
 | .byt y=>y.size<=sizeLine/\k=((y.size:Int) != 0)
 | .ref p=>(∃ xs,SqL K H p xs/\k=!xs.isEmpty)\/(∃ xs,SqT K H p xs/\k=!xs.isEmpty)\/∃ kvs,H p=some (.dK kvs)/\k=!kvs.isEmpty
 | _=>False
theorem isEmpty_kv {κ:Type} {kvs:List (κ × V)} {vs:List (κ × ae)} (r:KV kvs vs):(!vs.isEmpty)=!kvs.isEmpty:=by
 cases r <;> rfl
theorem isEmpty_of {xs:List V} {its:List ae} (r:Vals xs its):(!its.toArray.isEmpty)=!xs.isEmpty:=by
 cases r <;> simp
theorem line63:(sizeLine:Nat) < 2 ^ 63:=by rw[bF];decide
theorem tru_ok:TruR X (fun x H Q=>∃ k,TruV X.K x H k/\Q k H):=by
 intro pins s σ H x v Q I rx h;obtain⟨k,e,q⟩:=h;have hl:=line63;have hs:sizeLine=16777216:=bF;cases x with
 | non =>
  cases rx;have e':k=false:=e;subst e';exact truthy_none ⟨H,I,q⟩
 | bl b =>
  cases rx;have e':k=b:=e;subst e';exact cA ⟨H,I,q⟩
 | int i =>
  obtain⟨t,rfl⟩:=rx;have e':k=(i != 0):=e;subst e';exact PySem.P.truthy_int ⟨H,I,q⟩
 | str y =>
  obtain⟨t,rfl⟩:=rx;obtain⟨hy,e'⟩:y.length<=sizeLine/\k=((y.length:Int) != 0):=e;subst e';exact PySem.P.truthy_str (by omega) ⟨H,I.tok _,q⟩
 | byt y =>
  obtain⟨t,rfl⟩:=rx;obtain⟨hy,e'⟩:y.size<=sizeLine/\k=((y.size:Int) != 0):=e;subst e';exact PySem.W.truthy_bytes (by omega) ⟨H,I.tok _,q⟩
 | ref p =>
  cases rx;have e':(∃ xs,SqL X.K H p xs/\k=!xs.isEmpty)\/(∃ xs,SqT X.K H p xs/\k=!xs.isEmpty)\/∃ kvs,H p=some (.dK kvs)/\k=!kvs.isEmpty:=e;rcases e' with⟨xs,hx,e'⟩ | ⟨xs,hx,e'⟩ | ⟨kvs,hx,e'⟩
  ·subst e';obtain⟨its,r,pl,hz⟩:=I.list hx;have hlen:=r.length;exact wpAny_truthy_list pl.isList (by simp only[aq];omega) ⟨H,I.tok _,by rw[isEmpty_of r];exact q⟩
  ·subst e';obtain⟨its,r,pl,hz⟩:=I.tuple hx;have hlen:=r.length;exact truthy_tuple pl (by simp only[aq];omega) ⟨H,I.tok _,by rw[isEmpty_of r];exact q⟩
  ·subst e';obtain⟨hz,hS,vs,r,m⟩:kvs.length<=sizeLine/\(p == eG)=false/\∃ vs,KV kvs vs/\s.heap.DictOf (mixKind X.prog X.w) p vs:=I.hok p _ hx;have hlen:kvs.length=vs.length:=bV r;exact wpAny_truthy_dict hS m (by omega) ⟨H,I.tok _,by rw[isEmpty_kv r];exact q⟩
 | _=>exact(show False from e).elim
theorem pt_truth (ha:PE X a ta) (he:∀ whole,isTrue a X.env whole=(do let v <- whole;jq a.pos;holding [v] (truthy v))) :
  PT X a (fun σ H Q=>ta σ H fun x H'=>∃ k,TruV X.K x H' k/\Q k H'):=by
 intro pins s σ H Q I h;exact isTrue_plain (thn (ha pins s σ H _ I h) fun v s1 ⟨x,H1,I1,r1,q1⟩=>tru_ok pins s1 σ H1 x v Q I1 r1 q1) (he _)
theorem op_add_str:OpR X (dW .Add) (fun x y H Q=>∃ i j,x=.str i/\y=.str j/\i.length + j.length<=sizeLine/\Q (.str (i++j)) H):=by
 intro pins s σ H x y v u Q I rx ry h;obtain⟨i,j,rfl,rfl,hz,q⟩:=h;obtain⟨t,rfl⟩:=rx;obtain⟨t',rfl⟩:=ry;exact add_str (fun t' tk=>⟨.str (i++j),H,I.tok _,⟨_,rfl⟩,q⟩) hz
theorem vals1 {x:V} {us:List ae} (r:Vals [x] us):∃ u,us=[u]/\RelV x u:=by
 cases r with
 | cons r1 r2=>cases r2;exact⟨_,rfl,r1⟩
theorem vals2 {x y:V} {us:List ae} (r:Vals [x,y] us):∃ u w',us=[u,w']/\RelV x u/\RelV y w':=by
 cases r with
 | cons r1 r2 =>
  cases r2 with
  | cons r3 r4=>cases r4;exact⟨_,_,rfl,r1,r3⟩
theorem call_max2 (hc:X.calm=true):CallR X (.builtin "max") (fun xs H Q=>∃ i j,xs=[.int i,.int j]/\Q (.int (if j > i then j else i)) H):=by
 intro pins s σ H xs us Q I r h;obtain⟨i,j,rfl,q⟩:=h;obtain⟨u,w',rfl,⟨t,rfl⟩,⟨t',rfl⟩⟩:=vals2 r;refine max_two_ints (I.ok.hd hc) fun h' tk k=>⟨_,H,I.kept k,?_,q⟩
 by_cases hj:j > i
 ·rw[if_pos hj,if_pos hj];exact⟨_,rfl⟩
 ·rw[if_neg hj,if_neg hj];exact⟨_,rfl⟩
theorem call_min2 (hc:X.calm=true):CallR X (.builtin "min") (fun xs H Q=>∃ i j,xs=[.int i,.int j]/\Q (.int (if j < i then j else i)) H):=by
 intro pins s σ H xs us Q I r h;obtain⟨i,j,rfl,q⟩:=h;obtain⟨u,w',rfl,⟨t,rfl⟩,⟨t',rfl⟩⟩:=vals2 r;refine min_two_ints (I.ok.hd hc) fun h' tk k=>⟨_,H,I.kept k,?_,q⟩
 by_cases hj:j < i
 ·rw[if_pos hj,if_pos hj];exact⟨_,rfl⟩
 ·rw[if_neg hj,if_neg hj];exact⟨_,rfl⟩
theorem call_int1:CallR X (.type "int") (fun xs H Q=>(∃ i,xs=[.int i]/\Q (.int i) H)\/∃ k,xs=[.bl k]/\Q (.int (if k then 1 else 0)) H):=by
 intro pins s σ H xs us Q I r h;rcases h with⟨i,rfl,q⟩ | ⟨k,rfl,q⟩
 ·obtain⟨u,rfl,t,rfl⟩:=vals1 r;exact call_int_int ⟨.int i,H,I,⟨_,rfl⟩,q⟩
 ·obtain⟨u,rfl,r1⟩:=vals1 r;cases r1;exact call_int_bool ⟨.int (if k then 1 else 0),H,I.tok _,⟨_,rfl⟩,q⟩
def LenV (K:ar) (x:V) (H:Hp) (n:Nat):Prop :=
 match x with
 | .str y=>y.length<=sizeLine/\n=y.length
 | .byt y=>y.size<=sizeLine/\n=y.size
 | .ref p=>(∃ xs,SqL K H p xs/\n=xs.length)\/∃ xs,SqT K H p xs/\n=xs.length
 | _=>False
theorem call_len:CallR X (.builtin "len") (fun xs H Q=>∃ x n,xs=[x]/\LenV X.K x H n/\Q (.int n) H):=by
 intro pins s σ H xs us Q I r h;obtain⟨x,n,rfl,e,q⟩:=h;obtain⟨u,rfl,rx⟩:=vals1 r;have hl:=line63;have hs:sizeLine=16777216:=bF;cases x with
 | str y =>
  obtain⟨t,rfl⟩:=rx;obtain⟨hy,e'⟩:y.length<=sizeLine/\n=y.length:=e;subst e';exact len_str (by omega) ⟨.int _,H,I.tok _,⟨_,rfl⟩,q⟩
 | byt y =>
  obtain⟨t,rfl⟩:=rx;obtain⟨hy,e'⟩:y.size<=sizeLine/\n=y.size:=e;subst e';exact PySem.W.len_bytes (by omega) ⟨.int _,H,I.tok _,⟨_,rfl⟩,q⟩
 | ref p =>
  cases rx;have e':(∃ xs,SqL X.K H p xs/\n=xs.length)\/∃ xs,SqT X.K H p xs/\n=xs.length:=e;rcases e' with⟨xs,hx,e'⟩ | ⟨xs,hx,e'⟩
  ·subst e';obtain⟨its,r',pl,hz⟩:=I.list hx;have hlen:=r'.length;exact Calls.call_len_list pl.isList (by simp only[aq];omega) ⟨.int xs.length,H,I.tok _,⟨_,by simp only[aq];rw[hlen]⟩,q⟩
  ·subst e';obtain⟨its,r',pl,hz⟩:=I.tuple hx;have hlen:=r'.length;exact len_tuple pl (by simp only[aq];omega) ⟨.int xs.length,H,I.tok _,⟨_,by simp only[aq];rw[hlen]⟩,q⟩
 | _=>exact(show False from e).elim
end
structure ObjM (h:be) (x dx C:Addr) (mA:Str->Option ae):Prop where
 obj:h.get? x=some (jz C dx)
 ns:h.Ns1 dx mA
 ne:dx≠x
theorem lookIn_ns {h:be} {dx:Addr} {mA:Str->Option ae} (n:h.Ns1 dx mA):∃ od,h.get? dx=some od/\∀ name,jL name od=some (mA name):=by
 obtain⟨o,es,ep,ho,hd,hk,_,hm⟩:=n;refine⟨o,ho,fun name=>?_⟩;have e:=hm name;unfold nsFind findBy at e;rw[<- Array.find?_toList] at e;unfold jL;rw[hd];dsimp only
 split
 ·rename_i y q;rw[q] at e;exact congrArg some e
 ·rename_i q;rw[q] at e;have a:es.toList.any (·.refKey)=false:=by
   rw[List.any_eq_false];intro y hy;obtain⟨z,t,hkey⟩:=hk y (cT.mp hy);simp[i5.refKey,hkey]
  have a':¬ es.toList.any (·.refKey)=true:=by rw[a];exact ba
  rw[if_neg a'];exact congrArg some e
theorem ObjM.look {h:be} {x dx C:Addr} {mA:Str->Option ae} (I:ObjM h x dx C mA):∃ od,PySem.W.InstAt h x (jz C dx) C (some od)/\∀ name,jL name od=some (mA name) :=
 let ⟨od,ho,hl⟩:=lookIn_ns I.ns
 ⟨od,⟨I.obj,rfl,rfl,ho⟩,hl⟩
section
variable {P:ay} {w:aI} {H H':Hp} {h h':be} {a C dx:Addr} {fs fs':List (Str × V)}
theorem ins_get (hok:HOk P w H h) (e:H a=some (.ins C dx fs)):∃ mA,ObjM h a dx C mA/\(∀ f,RelO (fs.lookup f) (mA f))/\PySem.Within mA (fs.map (·.1))/\fs.length<=1000/\H dx=some (.own a):=by
 obtain⟨d,z,ne,ob,mA,n,r,q⟩:=(show ObjOk P w H h a (.ins C dx fs) from hok a _ e)
 exact⟨mA,⟨ob,n,ne⟩,r,q,z,d⟩
end
structure Cls (K:ar) (C:Addr):Prop where
 pg:PySem.W.plainGet K C Str.empty=true
 hd:PySem.W.hasDictIn K C=true
 po:PySem.W.plainOver K C=true
 sa:PySem.W.findIn K (.ref C) "__setattr__" = some (some (.builtin "object.__setattr__"))
theorem Cls.get {K:ar} {C:Addr} (c:Cls K C) (f:Str):PySem.W.plainGet K C f=true:=c.pg
section
variable {X:Cx} {pins:List (Addr × Obj)} {σ:St} {H:Hp} {s:ai} {A:a6} {E:ae->ai->Prop} {Q:ae->ai->Prop} {c:ae} {b:Bool}
inductive TyOf (K:ar) (H:Hp):V->ae->Prop where
 | non:TyOf K H .non (.type "NoneType")
 | bl (x:Bool):TyOf K H (.bl x) (.type "bool")
 | int (i:Int):TyOf K H (.int i) (.type "int")
 | str (x:Str):TyOf K H (.str x) (.type "str")
 | flt (x:UInt64):TyOf K H (.flt x) (.type "float")
 | lst {a:Addr} {xs:List V} (e:H a=some (.lst xs)):TyOf K H (.ref a) (.type "list")
 | frz {a:Addr} {o:Obj} {xs:List V} (e:H a=some (.frz o (.lst xs))):TyOf K H (.ref a) (.type "list")
 | tup {a:Addr} {xs:List V} (e:H a=some (.tup xs)):TyOf K H (.ref a) (.type "tuple")
 | dK {a:Addr} {kvs:List (Key × V)} (e:H a=some (.dK kvs)):TyOf K H (.ref a) (.type "dict")
 | dT {a:Addr} {kvs:List (List Key × V)} (e:H a=some (.dT kvs)):TyOf K H (.ref a) (.type "dict")
 | ins {a C dx:Addr} {fs:List (Str × V)} (e:H a=some (.ins C dx fs)) (cl:Cls K C) (ha:PySem.W.findIn K (.ref C) "__class__" = some (some (.builtin "object.__class__")))
   (hn:PySem.W.specialIn K (.builtin "object.__class__") "__get__" = some (some (.builtin "getset_descriptor.__get__"))) (htk:PySem.W.takesIn K (.builtin "object.__class__")=some true)
   (hm:PySem.W.mroIn K C (.type "object")=some true):TyOf K H (.ref a) (.ref C)
theorem isinst_ok {x:V} {u t:ae} (I:Inv X pins σ H s) (rx:RelV x u) (ty:TyOf X.K H x t) (e:ig X.K t c=some b) (h:∀ tk,Q (.bool b) { s with toks:=tk }) :
  aE (aF X.prog X.w) A (call (.builtin "isinstance") [u,c]) Q E s:=by
 cases ty with
 | non=>cases (show u=bQ from rx);exact cg PySem.W.kitx_none I.kIn fV e (fun z=>nomatch z) h
 | bl y=>cases (show u=jp y from rx);exact cg PySem.W.kitx_bool I.kIn fV e (fun z=>nomatch z) h
 | int i=>obtain⟨t,q⟩:=(show ∃ t,u=gD i t from rx);cases q;exact cg PySem.W.kitx_int I.kIn fV e (fun z=>nomatch z) h
 | str y=>obtain⟨t,q⟩:=(show ∃ t,u=i4 y t from rx);cases q;exact cg PySem.W.kitx_str I.kIn fV e (fun z=>nomatch z) h
 | flt y=>obtain⟨t,q⟩:=(show ∃ t,u=ae.float y t from rx);cases q;exact cg PySem.W.kitx_float I.kIn fV e (fun z=>nomatch z) h
 | @lst a xs ea =>
  cases (show u=bY a from rx)
  obtain⟨_,_,n,_,h1⟩:=(show ObjOk X.prog X.w H s.heap a (.lst xs) from I.hok a _ ea)
  exact cg iN I.kIn ⟨_,h1,rfl⟩ e (fun z=>nomatch z) h
 | @frz a ob xs ea =>
  cases (show u=bY a from rx)
  obtain⟨_,_,_,n,_,h1⟩:=(show ObjOk X.prog X.w H s.heap a (.frz ob (.lst xs)) from I.hok a _ ea)
  exact cg iN I.kIn ⟨_,h1,rfl⟩ e (fun z=>nomatch z) h
 | @tup a xs ea =>
  cases (show u=bY a from rx)
  obtain⟨_,_,_,p,_⟩:=(show ObjOk X.prog X.w H s.heap a (.tup xs) from I.hok a _ ea)
  obtain⟨o,h1,h2,_⟩:=p;exact cg PySem.W.kitx_tuple I.kIn ⟨o,h1,h2⟩ e (fun z=>nomatch z) h
 | @dK a kvs ea =>
  cases (show u=bY a from rx)
  obtain⟨_,_,vs,_,p⟩:=(show ObjOk X.prog X.w H s.heap a (.dK kvs) from I.hok a _ ea)
  obtain⟨o,es,ep,h1,h2,_⟩:=p;exact cg PySem.W.kitx_dict I.kIn ⟨o,h1,h2.1⟩ e (fun z=>nomatch z) h
 | @dT a kvs ea =>
  cases (show u=bY a from rx)
  obtain⟨_,_,xs,_,o,es,ep,h1,h2,_⟩:=(show ObjOk X.prog X.w H s.heap a (.dT kvs) from I.hok a _ ea)
  exact cg PySem.W.kitx_dict I.kIn ⟨o,h1,h2.1⟩ e (fun z=>nomatch z) h
 | @ins a C dx fs ea cl ha hn htk hm =>
  cases (show u=bY a from rx)
  obtain⟨mA,O,_⟩:=ins_get I.hok ea;obtain⟨od,J,_⟩:=O.look;exact cg (PySem.W.kitx_own (cl.get _) cl.hd ha hn htk hm) I.kIn J e (fun z=>nomatch z) h
end
structure Room (k:Nat) (A:a6):Prop where
 hd:A.handled=none
 dp:A.depth + 3 * k + 5 < recursionLimit
 un:A.units + 16 * k + 200 < b7
theorem Room.mono {j k:Nat} {A:a6} (r:Room k A) (h:j<=k):Room j A:=⟨r.hd,by have:=r.dp;omega,by have:=r.un;omega⟩
theorem Room.deeper {k:Nat} {A:a6} (r:Room (k + 1) A) (env:Env):Room k (A.deeper env) :=
 ⟨r.hd,by have:=r.dp;show A.depth + 1 + 3 * k + 5 < _;omega,by have:=r.un;show A.units + 3 + 16 * k + 200 < _;omega⟩
theorem Room.depth {k:Nat} {A:a6} (r:Room k A):A.depth < recursionLimit:=by have:=r.dp;omega
theorem Room.units {k:Nat} {A:a6} (r:Room k A):A.units + 64 < b7:=by have:=r.un;omega
theorem Room.units0 {k:Nat} {A:a6} (r:Room k A):A.units < b7:=by have:=r.un;omega
def tNil:TA:=fun _ H Q=>Q [] H
def tCons (ta:TE) (tr:TA):TA:=fun σ H Q=>ta σ H fun x H1=>tr σ H1 fun xs H2=>Q (x::xs) H2
section
variable {X:Cx} {e:Expr} {es:List Expr} {te:TE} {t:TA} {pos:Pos}
theorem pa_nil:PA X [] tNil:=fun _ _ _ _ H Q I h=>Calls.spliced_nil ⟨[],H,I,.nil,h⟩
theorem pa_cons (ha:PE X e te) (hr:PA X es t) (hs:ax (e::es) X.env=(false,eval e X.env)::ax es X.env:=by rfl):PA X (e::es) (tCons te t):=by
 intro pos pins s σ H Q I h;rw[hs];show aE _ _ (spliced ((false,eval e X.env)::cw pos (ax es X.env))) _ _ s;refine ii (thn (ha pins s σ H _ I h) fun u s1 ⟨x,H1,I1,r1,q1⟩=>?_);exact thn (hr pos pins s1 σ H1 _ I1 q1) fun us s2 ⟨xs,H2,I2,r2,q2⟩=>⟨x::xs,H2,I2,.cons r1 r2,q2⟩
def tTup (t:TA):TE:=fun σ H Q=>t σ H fun xs H1=>xs.length<=sizeLine/\∀ p,H1 p=none->Q (.ref p) (upd H1 p (.tup xs))
def tLst (t:TA):TE:=fun σ H Q=>t σ H fun xs H1=>xs.length<=sizeLine/\∀ p,H1 p=none->Q (.ref p) (upd H1 p (.lst xs))
theorem pe_tup {x1} (h:PA X es t):PE X (.Tuple es x1 pos) (tTup t):=by
 intro pins s σ H Q I hq;refine wpAny_Tuple_spliced (thn (h pos pins s σ H _ I hq) fun us s1 ⟨xs,H1,I1,r,z,q⟩=>⟨by rw[<- r.length];exact z,?_⟩)
 have hf:H1 s1.heap.objs.size=none:=I1.hok.fresh (Nat.le_refl _);refine⟨.ref s1.heap.objs.size,upd H1 s1.heap.objs.size (.tup xs),I1.laid (t':=s1.toks) (fun b u e=>ah _ e) (Nat.le_refl _) ?_,rfl,q _ hf⟩;exact⟨z,us,r,⟨_,av _ rfl,rfl,_,rfl⟩,nd_new⟩
theorem pe_lst (h:PA X es t):PE X (.List es pos) (tLst t):=by
 intro pins s σ H Q I hq;refine wpAny_List_spliced (thn (h pos pins s σ H _ I hq) fun us s1 ⟨xs,H1,I1,r,z,q⟩=>⟨by rw[<- r.length];exact z,?_⟩)
 have hf:H1 s1.heap.objs.size=none:=I1.hok.fresh (Nat.le_refl _);refine⟨.ref s1.heap.objs.size,upd H1 s1.heap.objs.size (.lst xs),I1.laid (t':=s1.toks) (fun b u e=>ah _ e) (Nat.le_refl _) ?_,rfl,q _ hf⟩;exact⟨z,us,0,r,av _ rfl⟩
end
abbrev Sp:=List V->Hp->VK->XK->Prop
abbrev CXT:=List Env->Hp->ai->XK->ae->ai->Prop
structure Env0 (P:ay) (w:aI) (K:ar) (mg:Str->Option ae) (base:be) (A:a6) (outer:List Env) (s:ai) (H:Hp):Prop where
 frames:A.frames=some outer
 gd:A.guards=some []
 mod:Mod K mg base
 bs:∀ b o,base.get? b=some o->s.heap.get? b=some o/\H b=none
 bsz:base.objs.size<=s.heap.objs.size
 funs:s.heap.FunFrames base outer
 frf:∀ b∈frs outer,H b=none
 hok:HOk P w H s.heap
 bare:iM s.gens
def CE (outer:List Env) (P:ay) (w:aI) (H:Hp) (s:ai) (Q:VK) (u:ae) (s':ai):Prop :=
 ∃ v H',s'.os=s.os/\iM s'.gens/\Un (frs outer) [] H H' s.heap s'.heap/\HOk P w H' s'.heap/\RelV v u/\Q v H'
def CR (CX:CXT) (outer:List Env) (P:ay) (w:aI) (H:Hp) (s:ai) (Q:VK) (E:XK) (r:Result) (s':ai):Prop :=
 match r with
 | .ok (.ret u)=>CE outer P w H s Q u s'
 | .ok _=>False
 | .error e=>CX outer H s E e s'
structure FnOk (P:ay) (w:aI) (K:ar) (mg:Str->Option ae) (base:be) (CX:CXT) (k:Nat) (f:Addr) (fd:dq) (ps:List Str) (sp:Sp):Prop where
 len:∀ vs H Q E,sp vs H Q E->vs.length=ps.length
 run:∀ (A:a6) (outer:List Env) (s:ai) (H:Hp) (args:Args) (us:List ae) (vs:List V) (Q:VK) (E:XK),Room k A->Env0 P w K mg base A outer s H->BindsTo s fd args (ps.zip us)->Vals vs us->sp vs H Q E ->
  gI (aF P w) A (.call (.ref f) args) (CR CX outer P w H s Q E) s
theorem FnOk.mono {P:ay} {w:aI} {K:ar} {mg:Str->Option ae} {base:be} {CX:CXT} {j k:Nat} {f:Addr} {fd:dq} {ps:List Str} {sp:Sp} (F:FnOk P w K mg base CX j f fd ps sp) (h:j<=k) :
  FnOk P w K mg base CX k f fd ps sp:=⟨F.len,fun A outer s H args us vs Q E hr=>F.run A outer s H args us vs Q E (hr.mono h)⟩
section
variable {X:Cx} {pins:List (Addr × Obj)} {σ:St} {H:Hp} {s s':ai}
theorem Inv.env0 (I:Inv X pins σ H s):Env0 X.prog X.w X.K X.mg X.base X.A X.stack s H :=
 ⟨I.ok.frames,I.ok.gd,I.ok.mod,I.bs,Nat.le_trans I.ok.bsz I.sz,I.stack,I.stkFree,I.hok,I.bare⟩
theorem Inv.after {Q:VK} {u:ae} (I:Inv X pins σ H s) (h:CE X.stack X.prog X.w H s Q u s'):EP X pins σ Q u s':=by
 obtain⟨v,H',os,bare,un,hok,r,q⟩:=h;obtain⟨hh,g,d,t,os'⟩:=s';obtain rfl:os'=s.os:=os;exact⟨v,H',I.call (h':=hh) (g':=g) (d':=d) (t':=t) (ch:=[]) un hok bare (fun b z=>absurd z (by simp)),r,q⟩
end
def tCall (sp:Sp) (dvs:List V) (E:XK) (t:TA):TE:=fun σ H Q=>t σ H fun vs H1=>sp (vs++dvs) H1 Q E
def Binds (K:ar) (fd:dq) (ps:List Str) (ds:List ae):Prop :=
 ∀ (s:ai) (us:List ae),K.In s.heap->(us++ds).length=ps.length->BindsTo s fd ⟨us,[]⟩ (ps.zip (us++ds))
theorem Binds.all {K:ar} {fd:dq} {ps:List Str} (h:∀ us:List ae,us.length=ps.length->bindArgs fd ⟨us,[]⟩=pure (ps.zip us)):Binds K fd ps []:=fun s us _ hl=>by
 rw[bR] at hl ⊢;exact .of_eq (h us hl)
def Passes (CX:CXT) (X:Cx) (E:XK):Prop:=∀ (pins:List (Addr × Obj)) (σ:St) (H:Hp) (s:ai) (e:ae) (s':ai),Inv X pins σ H s->CX X.stack H s E e s'->X.xe e s'
section
variable {X:Cx} {CX:CXT} {k:Nat} {f C:Addr} {fd:dq} {ps:List Str} {sp:Sp} {dvs:List V} {ds:List ae} {E:XK} {x m:Str} {p pos apos:Pos} {e o:Expr} {es:List Expr} {ta:TE} {t:TA}
theorem run_fn {pins:List (Addr × Obj)} {σ:St} {H:Hp} {s:ai} {Q:VK} {us:List ae} {vs:List V} (F:FnOk X.prog X.w X.K X.mg X.base CX k f fd ps sp) (hr:Room k X.A) (hb:Binds X.K fd ps ds) (hd:Vals dvs ds) (hx:Passes CX X E)
  (I:Inv X pins σ H s) (r:Vals vs us) (h:sp (vs++dvs) H Q E):aE (aF X.prog X.w) X.A (call (.ref f) us) (EP X pins σ Q) X.xe s:=by
 have r2:Vals (vs++dvs) (us++ds):=r.append hd;have hl:(us++ds).length=ps.length:=by rw[<- r2.length];exact F.len _ _ _ _ h
 refine wpAny_call (gY (F.run X.A X.stack s H ⟨us,[]⟩ (us++ds) (vs++dvs) Q E hr I.env0 (hb s us I.kIn hl) r2 h) fun r s' hq=>?_);cases r with
 | error e=>exact hx pins σ H s e s' I hq
 | ok fl =>
  cases fl with
  | ret u=>exact I.after hq
  | next=>exact dQ hq
  | brk=>exact dQ hq
  | cont=>exact dQ hq
theorem pe_call (F:FnOk X.prog X.w X.K X.mg X.base CX k f fd ps sp) (hr:Room k X.A) (hg:Gl X x) (hm:X.mg x=some (.ref f)) (hk:fk X.K (.ref f)=true) (hb:Binds X.K fd ps ds) (hd:Vals dvs ds) (hx:Passes CX X E)
  (ha:PA X (e::es) t) (hdb:(x == ("__debug__" : Str))=false:=by decide) (he:ax (e::es) X.env=(false,eval e X.env)::ax es X.env:=by rfl) (hpl:(cw pos (ax es X.env)).any (·.1)=false:=by rfl) :
  PE X (.Call (.Name x p) (e::es) [] pos) (tCall sp dvs E t):=by
 intro pins s σ H Q I h;refine ij (ld_glob I hg hm ?_ hdb);refine PySem.W.callWith_K (h₀:=X.base) I.ok.mod.kin hk (thn (ha pos pins s σ H _ I h) fun us s1 ⟨vs,H1,I1,r,q⟩=>⟨I1.kIn,?_⟩) he hpl;exact run_fn F hr hb hd hx I1 r q
end
structure FnScope (N P:List Str) (sc:Scope):Prop where
 kind:sc.kind=.function
 co:sc.isCoroutine=false
 gen:sc.isGenerator=false
 nd:N.Nodup
 pre:N.take P.length=P
 par:∀ x∈P,sc.names.lookup x=some .local\/sc.names.lookup x=some .cell
 nofree:∀ y∈sc.names,y.2≠.free
theorem bindL_out {kindOf:Str->Option eT} {x:Str}:∀ {binds:List (Str × ae)} {m:Str->Option ae},(∀ v,(x,v)∉binds)->bindL kindOf binds m x=m x
 | [],_,_=>rfl
 | (n,v)::r,m,h=>by
  unfold bindL;rw[bindL_out fun w hw=>h w (ao _ hw)]
  split
  ·have:x≠n:=by rintro rfl;exact h v am
   simp[this]
  ·rfl
theorem bindC_out {kindOf:Str->Option eT} {x:Str}:∀ {binds:List (Str × ae)} {m:Str->Option ae},(∀ v,(x,v)∉binds)->bindC kindOf binds m x=m x
 | [],_,_=>rfl
 | (n,v)::r,m,h=>by
  unfold bindC;rw[bindC_out fun w hw=>h w (ao _ hw)]
  split
  ·rfl
  ·have:x≠n:=by rintro rfl;exact h v am
   simp[this]
theorem bindL_get {kindOf:Str->Option eT} {x:Str} {v:ae}:∀ {P:List Str} {vs:List ae} {i:Nat} {m:Str->Option ae},P.Nodup->P[i]?=some x->vs[i]?=some v->kindOf x=some .local ->
  bindL kindOf (P.zip vs) m x=some v
 | [],_,_,_,_,h,_,_=>by simp at h
 | _::_,[],_,_,_,_,h,_=>by simp at h
 | p::P,w::vs,0,m,nd,h1,h2,hk=>by
  simp at h1 h2;subst h1;subst h2;show bindL kindOf ((p,w)::P.zip vs) m p=_;unfold bindL;rw[bindL_out fun v hv=>(bZ.mp nd).1 (jA hv).1,if_pos hk];simp
 | p::P,w::vs,i + 1,m,nd,h1,h2,hk=>by
  show bindL kindOf ((p,w)::P.zip vs) m x=_;unfold bindL;exact bindL_get (i:=i) (bZ.mp nd).2 (by simpa using h1) (by simpa using h2) hk
theorem bindC_get {kindOf:Str->Option eT} {x:Str} {v:ae}:∀ {P:List Str} {vs:List ae} {i:Nat} {m:Str->Option ae},P.Nodup->P[i]?=some x->vs[i]?=some v->kindOf x≠some .local ->
  bindC kindOf (P.zip vs) m x=some v
 | [],_,_,_,_,h,_,_=>by simp at h
 | _::_,[],_,_,_,_,h,_=>by simp at h
 | p::P,w::vs,0,m,nd,h1,h2,hk=>by
  simp at h1 h2;subst h1;subst h2;show bindC kindOf ((p,w)::P.zip vs) m p=_;unfold bindC;rw[bindC_out fun v hv=>(bZ.mp nd).1 (jA hv).1,if_neg hk];simp
 | p::P,w::vs,i + 1,m,nd,h1,h2,hk=>by
  show bindC kindOf ((p,w)::P.zip vs) m x=_;unfold bindC;exact bindC_get (i:=i) (bZ.mp nd).2 (by simpa using h1) (by simpa using h2) hk
def start (N:List Str) (vs:List V):St:=vs.map some++ik (N.length - vs.length) none
def cxOf (CX:CXT) (P:ay) (w:aI) (K:ar) (mg:Str->Option ae) (base:be) (N:List Str) (qual:Str) (scope:Scope) (f:Addr) (cd:ae) (A:a6) (outer:List Env) (s:ai) (H:Hp) (E:XK):Cx where
 prog:=P
 w:=w
 K:=K
 mg:=mg
 base:=base
 A:=A.deeper (iS qual scope s.heap.objs.size f cd)
 N:=N
 s₀:=s
 H₀:=H
 env:=iS qual scope s.heap.objs.size f cd
 outer:=outer
 stack:=iS qual scope s.heap.objs.size f cd::outer
 ex:=[]
 calm:=true
 fn:=fun _=>true
 pn:=[]
 xe:=fun e s'=>aE (aF P w) (A.deeper (iS qual scope s.heap.objs.size f cd)) (leaving (iS qual scope s.heap.objs.size f cd) e) (fun _ s''=>CX outer H s E e s'') (fun e' s''=>CX outer H s E e' s'') s'
theorem cell_has {sc:Scope} {n:Nat} {x:Str} (h:sc.names.lookup x=some .cell):∃ c,(eK n sc.names []).lookup x=some c:=by
 have q:=jr sc.names n [] (.inl h);exact cx.mp q
theorem inv_start {CX:CXT} {P:ay} {w:aI} {K:ar} {mg:Str->Option ae} {base:be} {N ps:List Str} {qual:Str} {scope:Scope} {f:Addr} {cd:ae} {A:a6} {outer:List Env} {s s1:ai} {H:Hp} {E:XK} {us:List ae} {vs:List V}
  (S:FnScope N ps scope) (hd:A.handled=none) (e0:Env0 P w K mg base A outer s H) (hl:vs.length=ps.length) (r:Vals vs us)
  (x:InCallC s s.heap.objs.size (bindL (iS qual scope s.heap.objs.size f cd).kindOf (ps.zip us) fun _=>none) (eK (s.heap.objs.size + 1) scope.names []) (bindC (iS qual scope s.heap.objs.size f cd).kindOf (ps.zip us) fun _=>none) s1) :
  Inv (cxOf CX P w K mg base N qual scope f cd A outer s H E) [] (start N vs) H s1:=by
 have hpl:ps.length<=N.length:=by have:=congrArg eE S.pre;rw[aS] at this;omega
 obtain⟨h1,tk,rfl,hk⟩:=x.done;have noA:∀ b:Addr,b∉(cxOf CX P w K mg base N qual scope f cd A outer s H E).ex:=fun b z=>absurd (show b∈([]:List Addr) from z) (by simp)
 refine⟨⟨e0.mod,S.kind,rfl,rfl,Nat.le_refl _,fun y z c h1 h2=>?_,fun y hy=>?_,fun y c _ h=>?_,fun _=>hd,a6.frames_deeper e0.frames,e0.gd,.inr ⟨rfl,rfl⟩,fun b z=>absurd z (noA b),e0.bs,e0.bsz,fun b _ _=>noA b,fun b z=>absurd z (noA b),e0.funs,e0.frf⟩,
  rfl,e0.bare,Un.kept hk,⟨_,x.toInCall.ns,fun i y v h1 h2 h3=>?_⟩,fun y c h=>⟨_,x.cell y c h⟩,e0.hok.fresh (Nat.le_refl _),fun y c h=>?_,fun p hp=>absurd (show p∈([]:List (Addr × Obj)) from hp) (by simp),e0.hok.kept hk,?_⟩
 ·exact name_of_addr x.apart (eJ h1) (eJ h2)
 ·have hy:scope.names.lookup y=some .cell\/scope.names.lookup y=some .free:=hy;rcases hy with hy | hy
  ·exact cell_has hy
  ·exact absurd rfl (S.nofree _ (eJ hy))
 ·exact Nat.le_of_lt (x.above y c (eJ h))
 ·have hi:i < vs.length:=by
   unfold start at h2
   by_cases hi:i < vs.length
   ·exact hi
   ·rw[bL (by simpa using hi)] at h2
    rw[List.getElem?_replicate] at h2
    split at h2 <;> cases h2
  have ha:vs[i]?=some v:=by
   unfold start at h2;rw[cL (by simpa using hi),aJ] at h2
   cases e:vs[i]? with
   | none=>rw[e] at h2;cases h2
   | some a=>rw[e] at h2;cases h2;rfl
  obtain⟨u,hu,rv⟩:=r.get ha;have hp:ps[i]?=some y:=by
   rw[<- S.pre,fK (by omega)];exact h1
  have ndP:ps.Nodup:=by rw[<- S.pre];exact S.nd.sublist (c5 _ _)
  refine⟨u,rv,?_⟩;rcases S.par y (ak hp) with k | k
  ·exact .inl ⟨k,bindL_get ndP hp hu k⟩
  ·obtain⟨c,e⟩:=cell_has (n:=s.heap.objs.size + 1) k;refine .inr ⟨.inl k,c,e,?_⟩;have q:=x.cell y c e;rw[bindC_get ndP hp hu (by show scope.names.lookup y≠_;rw[k];decide)] at q
   exact q
 ·exact e0.hok.fresh (Nat.le_of_lt (x.above y c (eJ h)))
 ·unfold start;show _=N.length;rw[az,ap,List.length_replicate];omega
theorem fn_of {CX:CXT} {P:ay} {w:aI} {K:ar} {mg:Str->Option ae} {base:be} {k:Nat} {f:Addr} {name qual:Str} {params:Arguments} {body:List Stmt} {scope:Scope} {dV kV doc pm cdv ct oc:ae} {an od:Option Addr}
  {osl:Array (Option ae)} {N ps:List Str} {sp:Sp} (lk:K.lookup f=some ⟨oc,od,.func (eF name qual params body scope dV kV doc pm an cdv ct),osl⟩) (hcd:gc K cdv qual=true) (S:FnScope N ps scope)
  (len:∀ vs H Q E,sp vs H Q E->vs.length=ps.length)
  (hbody:∀ (A:a6) (outer:List Env) (s:ai) (H:Hp) (vs:List V) (Q:VK) (E:XK),Room k (A.deeper (iS qual scope s.heap.objs.size f cdv))->sp vs H Q E ->
   ∃ t,PSs (cxOf CX P w K mg base N qual scope f cdv A outer s H E) body t/\t { nx:=fun _ H'=>Q .non H',rt:=Q } (start N vs) H) :
  FnOk P w K mg base CX (k + 1) f (eF name qual params body scope dV kV doc pm an cdv ct) ps sp:=by
 refine⟨len,fun A outer s H args us vs Q E hr e0 hb r hsp=>?_⟩;have hl:=len _ _ _ _ hsp;have KX:K.In s.heap:=e0.mod.kin.keeps fun b o e=>(e0.bs b o e).1;have lim:s.heap.NoLimit:=e0.mod.nolimit.keeps fun b o e=>(e0.bs b o e).1;have hkind:∀ y∈ps.zip us,scope.names.lookup y.1=some .local\/(scope.names.lookup y.1=some .cell/\((eK (s.heap.objs.size + 1) scope.names []).lookup y.1).isSome=true):=fun⟨n,v⟩ hy=>by
  rcases S.par n (jA hy).1 with q | q
  ·exact .inl q
  ·exact .inr ⟨q,jr _ _ _ (.inl q)⟩
 refine codeAny_call_function hr.depth (KX _ _ lk) rfl S.co S.gen rfl (PySem.W.codeRec_of KX hcd) (hb _ _ _ _ ?_);refine wpAny_newFunctionEnv_cells S.kind hkind fun env he s1 x=>?_;subst he;refine⟨lim.keeps x.toInCall.keep,codeAny_func ?_⟩;obtain⟨t,ht,hq⟩:=hbody A outer s H vs Q E (hr.deeper _) hsp;have I:Inv (cxOf CX P w K mg base N qual scope f cdv A outer s H E) [] (start N vs) H s1:=inv_start S hr.hd e0 hl r x;refine d7 (ht [] s1 (start N vs) H _ I hq) (fun fl s' hs=>?_) fun e s' hs=>hs;have fin:∀ {σ':St} {H':Hp} {v:V} {u:ae},Inv (cxOf CX P w K mg base N qual scope f cdv A outer s H E) [] σ' H' s'->RelV v u->Q v H'->CE outer P w H s Q u s' :=
  fun {σ' H' v u} J rv q=>⟨v,H',J.os,J.bare,J.base,J.hok,rv,q⟩
 cases fl with
 | ret u =>
  obtain⟨v,σ',H',J,rv,q⟩:=hs;exact fin J rv q
 | next =>
  obtain⟨σ',H',J,q⟩:=hs;exact fin (v:=V.non) (u:=bQ) J rfl q
 | brk =>
  obtain⟨_,_,_,q⟩:=hs;exact dQ q
 | cont =>
  obtain⟨_,_,_,q⟩:=hs;exact dQ q
section
variable {X:Cx} {x:Str} {p pos:Pos} {e:Expr} {es:List Expr} {t:TA} {id T:String} {r:List V->Hp->VK->Prop}
def tCB (r:List V->Hp->VK->Prop) (t:TA):TE:=fun σ H Q=>t σ H fun vs H1=>r vs H1 Q
theorem pe_callB (hc:CallR X (.builtin id) r) (hg:Gl X x) (hm:X.mg x=none) (hv:bC x=some (.builtin id)) (ha:PA X (e::es) t) (hn:x ≠ "__name__":=by decide) (hdb:(x == ("__debug__" : Str))=false:=by decide)
  (he:ax (e::es) X.env=(false,eval e X.env)::ax es X.env:=by rfl) (hpl:(cw pos (ax es X.env)).any (·.1)=false:=by rfl):PE X (.Call (.Name x p) (e::es) [] pos) (tCB r t):=by
 intro pins s σ H Q I h;refine ij (ld_blt I hg hm hv ?_ hn hdb);exact PyProof.Rows.callWith_builtin1 (thn (ha pos pins s σ H _ I h) fun us s1 ⟨vs,H1,I1,r1,q1⟩=>hc pins s1 σ H1 vs us Q I1 r1 q1) he hpl
theorem pe_callTy (hc:CallR X (.type T) r) (hg:Gl X x) (hm:X.mg x=none) (hv:bC x=some (.type T)) (ha:PA X (e::es) t) (hn:x ≠ "__name__":=by decide) (hdb:(x == ("__debug__" : Str))=false:=by decide)
  (he:ax (e::es) X.env=(false,eval e X.env)::ax es X.env:=by rfl) (hpl:(cw pos (ax es X.env)).any (·.1)=false:=by rfl):PE X (.Call (.Name x p) (e::es) [] pos) (tCB r t):=by
 intro pins s σ H Q I h;refine ij (ld_blt I hg hm hv ?_ hn hdb);exact cY (thn (ha pos pins s σ H _ I h) fun us s1 ⟨vs,H1,I1,r1,q1⟩=>hc pins s1 σ H1 vs us Q I1 r1 q1) he hpl
end
end L2
namespace HT
open PySem PyProof.Rows
section
variable {prog:ay} {w:aI} {A:a6} {E:ae->ai->Prop} {s:ai}
theorem cat_tup {t b:Addr} {vs ws:List ae} {Q:ae->ai->Prop} (ht:iK s.heap t vs.toArray) (hb:iK s.heap b ws.toArray) (hv:vs≠[])
  (h1:ws=[]->Q (.ref t) s) (h2:ws≠[]->Q (.ref s.heap.objs.size) { s with heap:=s.heap.push { cls:=.type "tuple",data:=.seq (vs++ws).toArray } })
  (hsz:vs.length + ws.length<=sizeLine):aE (aF prog w) A (dW .Add (.ref t) (.ref b)) Q E s:=by
 obtain⟨⟨cls,dd,data,sl⟩,ho,hc,n,hd⟩:=id ht;obtain⟨⟨cls2,dd2,data2,sl2⟩,ho2,hc2,n2,hd2⟩:=id hb;simp only at hc hd hc2 hd2;subst hc hd hc2 hd2;have e:vs.toArray++ws.toArray=(vs++ws).toArray:=by simp
 by_cases hw:ws=[]
 ·exact js ⟨_,ho,rfl⟩ ⟨_,ho2,rfl⟩ i6 seq_tuple_add gf f6 (fL _ _)
   (tuple_addW1 t b vs.toArray ws.toArray n n2 dd dd2 sl sl2 (by simpa using hv) (by simp[hw])) ⟨ho,ho2,h1 hw⟩
 ·refine js ⟨_,ho,rfl⟩ ⟨_,ho2,rfl⟩ i6 seq_tuple_add gf f6 (fL _ _)
   (tuple_addW2 t b vs.toArray ws.toArray n n2 dd dd2 sl sl2 (by simpa using hv) (by simpa using hw) (by rw[aq,aq];exact hsz)) ⟨ho,ho2,?_⟩
  rw[e];exact h2 hw
def sIx (n d:Nat):Option Int->Nat
 | none=>d
 | some v=>if v < 0 then (v + (n:Int)).toNat else min v.toNat n
theorem sIx_none (n d:Nat):sIx n d none=d:=rfl
theorem sIx_nat (n d k:Nat):sIx n d (some (k:Int))=min k n:=by
 show(if (k:Int) < 0 then ((k:Int) + (n:Int)).toNat else min (k:Int).toNat n)=min k n
 rw[if_neg (by omega),bG]
theorem sIx_le (n d:Nat) (hd:d<=n) (o:Option Int):sIx n d o<=n:=by
 cases o with
 | none=>exact hd
 | some v =>
  show(if v < 0 then (v + (n:Int)).toNat else min v.toNat n)<=n
  by_cases hv:v < 0
  ·rw[if_pos hv];omega
  ·rw[if_neg hv];exact Nat.min_le_right _ _
theorem clip_eq (v:Int) (n d:Nat):(if v < 0 then max (v + (n:Int)) 0 else min v (n:Int))=((sIx n d (some v):Nat):Int):=by
 show(if v < 0 then max (v + (n:Int)) 0 else min v (n:Int))=(((if v < 0 then (v + (n:Int)).toNat else min v.toNat n):Nat):Int)
 by_cases hv:v < 0
 ·simp only[if_pos hv];omega
 ·simp only[if_neg hv];omega
theorem adjust_gen (lo hi:Option Int) (n:Nat):fF lo hi 1 (n:Int)=(((sIx n 0 lo:Nat):Int),((sIx n n hi:Nat):Int)):=by
 have h1:¬ ((1:Int) < 0):=by omega
 unfold fF;simp only[h1,if_false];refine Prod.ext ?_ ?_
 ·cases lo with
  | none=>rfl
  | some v=>exact clip_eq v n 0
 ·cases hi with
  | none=>rfl
  | some v=>exact clip_eq v n n
theorem places_gen (i j:Nat):eA (i:Int) (j:Int) 1=j - i:=by
 unfold eA;have h1:(1:Int) > 0:=by omega
 simp only[h1,if_true,Int.ediv_one]
 split <;> omega
theorem slicePart_ {v:ae} {o:Option Int} {Q:Option Int->ai->Prop} (p:IsPart v o) (h:Q o s):aE (aF prog w) A (b6.Slice.slicePartIndex v) Q E s:=by
 cases p with
 | none=>exact slicePart_none h
 | int i t=>exact slicePart_int h
theorem sliceApplied_gen {sl:Addr} {vl vu:ae} {lo hi:Option Int} {n:Nat} {Q:Int × Int × Nat->ai->Prop} (hs:s.heap.IsSliceOf sl vl vu .none) (pl:IsPart vl lo) (pu:IsPart vu hi)
  (h:Q (((sIx n 0 lo:Nat):Int),1,sIx n n hi - sIx n 0 lo) s):aE (aF prog w) A (fm (.ref sl) (pure (n:Int))) Q E s:=by
 obtain⟨os,hos,hcs,hds⟩:=id hs;unfold fm b6.Slice.sliceFields;refine ad (ad (dg hos hds (x:=vl) rfl (ad (dg hos hds (x:=vu) rfl (ad (dg hos hds (x:=.none) rfl (af ?_)))))));refine ad (slicePart_none ?_);show aE _ _ (if ((1:Int) == 0)=true then _ else _) _ _ s
 rw[if_neg (by decide)]
 refine ad (slicePart_ pl (ad (slicePart_ pu (ad (af ?_)))));show aE _ _ (match fF lo hi 1 (n:Int) with | (lo,hi)=>pure (lo,(1:Int),eA lo hi 1)) _ _ s
 rw[adjust_gen lo hi n];show aE _ _ (pure (((sIx n 0 lo:Nat):Int),(1:Int),eA ((sIx n 0 lo:Nat):Int) ((sIx n n hi:Nat):Int) 1)) _ _ s;rw[places_gen];exact af h
theorem pick_gen (xs:Array ae) (i k:Nat):((aY k).filterMap fun(m:Nat)=>xs[((i:Int) + (m:Int) * 1).toNat]?).toArray=((xs.toList.drop i).take k).toArray:=by
 have e:(fun(m:Nat)=>xs[((i:Int) + (m:Int) * 1).toNat]?)=fun m=>xs[i + m]?:=by
  funext m
  have:((i:Int) + (m:Int) * 1).toNat=i + m:=by omega
  rw[this]
 rw[e]
 have:=pick_run xs i k
 rw[List.filterMap_map] at this;have e2:((fun x=>xs[x]?) ∘ fun x=>i + x)=fun m=>xs[i + m]?:=rfl;rw[e2] at this;rw[this]
theorem getItem_tuple_cut {t sl:Addr} {items:Array ae} {vl vu:ae} {lo hi:Option Int} {Q:ae->ai->Prop} (ht:iK s.heap t items) (hs:s.heap.IsSliceOf sl vl vu .none) (pl:IsPart vl lo) (pu:IsPart vu hi)
  (hw:¬ (sIx items.size 0 lo=0/\sIx items.size items.size hi=items.size))
  (h:Q (.ref s.heap.objs.size) { s with heap:=s.heap.push { cls:=.type "tuple",data:=.seq ((items.toList.drop (sIx items.size 0 lo)).take (sIx items.size items.size hi - sIx items.size 0 lo)).toArray } })
  (hsz:items.size<=sizeLine):aE (aF prog w) A (jt (.ref t) (.ref sl)) Q E s:=by
 have htake:sizeOk (.seq ((items.toList.drop (sIx items.size 0 lo)).take (sIx items.size items.size hi - sIx items.size 0 lo)).toArray):=by
  show((items.toList.drop (sIx items.size 0 lo)).take (sIx items.size items.size hi - sIx items.size 0 lo)).toArray.size<=sizeLine;rw[aq,aS,bB,bf];omega
 have hj:sIx items.size items.size hi<=items.size:=sIx_le _ _ (Nat.le_refl _) hi;obtain⟨os,hos,hcs,hds⟩:=id hs;have hTs:s.TypeIs (.ref sl) "slice":=⟨os,hos,hcs⟩;unfold jt
 try with_reducible refine cO ?_
 first | refine ad (af ?_) | skip
 refine ad (wpAny_sequenceKey ht.typeIs (by decide) ?_)
 refine ad (bX (name:=cb "__getitem__") ht.typeIs ca
  (bM ca ht.typeIs entry_tuple_getitem ?_ (args_tuple_getitem _ _)))
 show aE _ _ (fo (.ref t) >>= _) _ _ s;refine ad (tupleItemsOf_ ht ?_);refine ad (gg hTs ?_);rw[if_pos (by decide)]
 refine ad (sliceApplied_gen hs pl pu ?_);have hno:¬ ((((sIx items.size 0 lo:Nat):Int) == 0 && (1:Int) == 1 && (sIx items.size items.size hi - sIx items.size 0 lo) == items.size)=true):=by
  intro q;rw[aV,aV] at q;have q1:((sIx items.size 0 lo:Nat):Int)=0:=hW q.1.1;have q2:sIx items.size items.size hi - sIx items.size 0 lo=items.size:=hW q.2;exact hw ⟨by omega,by omega⟩
 show aE _ _ (if (((sIx items.size 0 lo:Nat):Int) == 0 && (1:Int) == 1 && (sIx items.size items.size hi - sIx items.size 0 lo) == items.size)=true then _ else _) _ _ s
 rw[if_neg hno,pick_gen]
 first
  | exact ad (m:=b8 _) (bm (af ⟨_,rfl,af h⟩) htake)
  | exact ad (m:=b8 _) (bm (ad (af (af ⟨_,rfl,af h⟩))) htake)
  | exact ad (ad (m:=b8 _) (bm (af (af ⟨_,rfl,af h⟩)) htake))
  | exact ad (ad (m:=b8 _) (bm (af ⟨_,rfl,af h⟩) htake))
end
end HT
namespace L2
open PySem PySem.Spec PyProof.Rows
abbrev TO:=St->Hp->(Option Int->Hp->Prop)->Prop
def PO (X:Cx) (e:Option Expr) (t:TO):Prop :=
 ∀ (pins:List (Addr × Obj)) (s:ai) (σ:St) (H:Hp) (Q:Option Int->Hp->Prop),Inv X pins σ H s->t σ H Q ->
  aE (aF X.prog X.w) X.A (evalPart e X.env) (fun u s'=>∃ o H',Inv X pins σ H' s'/\IsPart u o/\Q o H') X.xe s
def tNoPart:TO:=fun _ H Q=>Q none H
def tPart (t:TE):TO:=fun σ H Q=>t σ H fun x H1=>∃ i,x=.int i/\Q (some i) H1
theorem intsAre_of {ns:List Int}:∀ {us:List ae},Vals (ns.map V.int) us->gZ us ns:=by
 induction ns with
 | nil=>intro us r;rw[eQ] at r;cases r;exact .nil
 | cons n ns ih =>
  intro us r;rw[aG] at r;cases r with
  | cons r1 r2 =>
   obtain⟨t,e⟩:=r1;subst e;exact .cons n t (ih r2)
section
variable {X:Cx} {e:Expr} {te:TE} {lo hi:Option Expr} {tl th:TO} {pos p2:Pos}
theorem po_none:PO X none tNoPart:=by
 intro pins s σ H Q I h;rw[evalPart_none];exact af ⟨none,H,I,.none,h⟩
theorem po_some (h:PE X e te):PO X (some e) (tPart te):=by
 intro pins s σ H Q I hw;rw[evalPart_some];refine thn (h pins s σ H _ I hw) fun u s1 ⟨x,H1,I1,r1,q1⟩=>?_;obtain⟨i,rfl,q⟩:=q1;obtain⟨t,rfl⟩:=r1;exact⟨some i,H1,I1,.int i t,q⟩
def SlR (X:Cx) (r:V->Option Int->Option Int->Hp->VK->Prop):Prop :=
 ∀ (pins:List (Addr × Obj)) (s:ai) (σ:St) (H:Hp) (x:V) (v vl vu:ae) (lo hi:Option Int) (sl:Addr) (Q:VK),Inv X pins σ H s->RelV x v->s.heap.IsSliceOf sl vl vu .none->IsPart vl lo->IsPart vu hi->r x lo hi H Q ->
  ∃ T id,typeLookup (.type T) "__getitem__" = pure (some (.builtin id))/\s.TypeIs v T/\aE (aF X.prog X.w) X.A (jt v (.ref sl)) (EP X pins σ Q) X.xe s
theorem SlR.or {r r':V->Option Int->Option Int->Hp->VK->Prop} (h:SlR X r) (h':SlR X r'):SlR X (fun x lo hi H Q=>r x lo hi H Q\/r' x lo hi H Q):=by
 intro pins s σ H x v vl vu lo hi sl Q I rx hs pl pu q;rcases q with q | q
 ·exact h pins s σ H x v vl vu lo hi sl Q I rx hs pl pu q
 ·exact h' pins s σ H x v vl vu lo hi sl Q I rx hs pl pu q
def tSl (r:V->Option Int->Option Int->Hp->VK->Prop) (te:TE) (tl th:TO):TE:=fun σ H Q=>te σ H fun x H1=>tl σ H1 fun l H2=>th σ H2 fun u H3=>r x l u H3 Q
theorem pe_slice {r:V->Option Int->Option Int->Hp->VK->Prop} (hr:SlR X r) (he:PE X e te) (hl:PO X lo tl) (hu:PO X hi th):PE X (.Subscript e (.Slice lo hi none p2) pos) (tSl r te tl th):=by
 intro pins s σ H Q I h;refine Subscript_ (thn (he pins s σ H _ I h) fun v s1 ⟨x,H1,I1,r1,q1⟩=>?_);refine wpAny_Slice (thn (hl pins s1 σ H1 _ I1 q1) fun vl s2 ⟨l,H2,I2,pl,q2⟩=>thn (hu pins s2 σ H2 _ I2 q2) fun vu s3 ⟨u,H3,I3,pu,q3⟩=>?_);rw[evalPart_none];refine af ?_;have I4:Inv X pins σ H3 { s3 with heap:=s3.heap.push { cls:=.type "slice",data:=.fields #[vl,vu,.none] } }:=I3.kept (t':=s3.toks) fun b ob q=>ah _ q
 obtain⟨T,id,hT,ht,hg⟩:=hr pins { s3 with heap:=s3.heap.push { cls:=.type "slice",data:=.fields #[vl,vu,.none] } } σ H3 x v vl vu l u s3.heap.objs.size Q I4 r1 (be.IsSliceOf.new ..) pl pu q3;show aE (aF X.prog X.w) X.A (subscriptTail e (.Slice lo hi none p2) v (.ref s3.heap.objs.size)) (EP X pins σ Q) X.xe { s3 with heap:=s3.heap.push { cls:=.type "slice",data:=.fields #[vl,vu,.none] } }
 exact tail_any (ops:=[.ref s3.heap.objs.size,v]) ht hT hg (by with_unfolding_all rfl)
def cutV (xs:List V) (lo hi:Option Int):List V:=(xs.drop (HT.sIx xs.length 0 lo)).take (HT.sIx xs.length xs.length hi - HT.sIx xs.length 0 lo)
theorem cutV_length (xs:List V) (lo hi:Option Int):(cutV xs lo hi).length<=xs.length:=by
 unfold cutV;rw[aS,bB];omega
def rSlT (K:ar):V->Option Int->Option Int->Hp->VK->Prop:=fun x lo hi H Q=>∃ a xs,x=.ref a/\SqT K H a xs /\
 ¬ (HT.sIx xs.length 0 lo=0/\HT.sIx xs.length xs.length hi=xs.length)/\∀ p,H p=none->Q (.ref p) (upd H p (.tup (cutV xs lo hi)))
theorem sl_tup:SlR X (rSlT X.K):=by
 intro pins s σ H x v vl vu lo hi sl Q I rx hs pl pu h;obtain⟨a,xs,rfl,hx,hw,q⟩:=h;cases rx;obtain⟨its,r,ht,hz⟩:=I.tuple hx;have hlen:its.toArray.size=xs.length:=by rw[aq];exact r.length.symm
 refine⟨"tuple",_,ca.lookup,ht.typeIs,?_⟩;refine HT.getItem_tuple_cut ht hs pl pu (by rw[hlen];exact hw) ?_ (by rw[hlen];exact hz)
 rw[hlen];refine⟨.ref s.heap.objs.size,_,I.laid (t':=s.toks) (o:=.tup (cutV xs lo hi)) (fun b ob q=>ah _ q) (Nat.le_refl _) ?_,rfl,q _ (I.hok.fresh (Nat.le_refl _))⟩;exact⟨Nat.le_trans (cutV_length xs lo hi) hz,_,(r.drop (HT.sIx xs.length 0 lo)).take (HT.sIx xs.length xs.length hi - HT.sIx xs.length 0 lo),iK.new _ _,nd_new⟩
def rCatT (K:ar):R2:=fun x y H Q=>∃ a b xs ys,x=.ref a/\y=.ref b/\SqT K H a xs/\SqT K H b ys/\xs≠[]/\xs.length + ys.length<=sizeLine /\
 (ys=[]->Q (.ref a) H)/\(ys≠[]->∀ p,H p=none->Q (.ref p) (upd H p (.tup (xs++ys))))
theorem Vals.nil_iff {xs:List V} {us:List ae} (r:Vals xs us):us=[]↔xs=[]:=by
 cases r with
 | nil=>simp
 | cons _ _=>simp
theorem op_catT:OpR X (dW .Add) (rCatT X.K):=by
 intro pins s σ H x y v u Q I rx ry h;obtain⟨a,b,xs,ys,rfl,rfl,ha,hb,hx,hz,q1,q2⟩:=h;cases rx;cases ry;obtain⟨its,r1,p1,_⟩:=I.tuple ha;obtain⟨its2,r2,p2,_⟩:=I.tuple hb;refine HT.cat_tup p1 p2 (fun z=>hx (r1.nil_iff.mp z)) (fun z=>⟨.ref a,H,I,rfl,q1 (r2.nil_iff.mp z)⟩) (fun z=>?_) (by rw[<- r1.length,<- r2.length];exact hz)
 refine⟨.ref s.heap.objs.size,_,I.laid (t':=s.toks) (o:=.tup (xs++ys)) (fun b ob q=>ah _ q) (Nat.le_refl _) ?_,rfl,q2 (fun w=>z (r2.nil_iff.mpr w)) _ (I.hok.fresh (Nat.le_refl _))⟩;exact⟨by rw[az];exact hz,_,r1.append r2,iK.new _ _,nd_new⟩
end
def ixN (n:Nat) (i:Int):Option Nat:=if 0<=i then (if i < n then some i.toNat else none) else if -(n:Int)<=i then some (i + n).toNat else none
def atI {α:Type} (xs:List α) (i:Int):Option α:=(ixN xs.length i).bind fun j=>xs[j]?
theorem ixN_seq {n:Nat} {i:Int} {j:Nat} (h:ixN n i=some j):seqIndex? i n=some j/\j < n/\-(n:Int)<=i/\i < n:=by
 unfold ixN at h
 by_cases h0:0<=i
 ·rw[if_pos h0] at h
  by_cases h1:i < n
  ·rw[if_pos h1] at h;have e:i.toNat=j:=aP h;exact⟨by rw[seqIndex_of h0 h1,e],by omega,by omega,h1⟩
  ·rw[if_neg h1] at h;cases h
 ·rw[if_neg h0] at h
  by_cases h1:-(n:Int)<=i
  ·rw[if_pos h1] at h;have e:(i + n).toNat=j:=aP h;exact⟨by rw[seqIndex_neg (by omega) h1,e],by omega,h1,by omega⟩
  ·rw[if_neg h1] at h;cases h
theorem atI_get {α:Type} {xs:List α} {i:Int} {v:α} (h:atI xs i=some v):∃ j,seqIndex? i xs.length=some j/\xs[j]?=some v/\j < xs.length/\-(xs.length:Int)<=i/\i < xs.length:=by
 unfold atI at h;cases e:ixN xs.length i with
 | none=>rw[e] at h;cases h
 | some j =>
  rw[e] at h;obtain⟨h1,h2,h3,h4⟩:=ixN_seq e;exact⟨j,h1,h,h2,h3,h4⟩
theorem atI_nat {α:Type} {xs:List α} {j:Nat} {v:α} (h:xs[j]?=some v):atI xs (j:Int)=some v:=by
 have hj:j < xs.length:=(aD.mp h).1;have e:ixN xs.length (j:Int)=some j:=by
  unfold ixN;rw[if_pos (by omega),if_pos (by omega)];simp
 unfold atI;rw[e];exact h
def PlainIx (b:Expr):Prop:=∀ o i,subscripted b false o i=operate [o,i] (jt o i)
def IxR (X:Cx) (r:R2):Prop :=
 ∀ (value slice:Expr) (pins:List (Addr × Obj)) (s:ai) (σ:St) (H:Hp) (x y:V) (v u:ae) (Q:VK),Inv X pins σ H s->RelV x v->RelV y u->r x y H Q ->
  subscripted slice false v u=operate [v,u] (jt v u)->aE (aF X.prog X.w) X.A (subscriptTail value slice v u) (EP X pins σ Q) X.xe s
def MtR (X:Cx) (id:String) (r:V->List V->Hp->VK->Prop):Prop :=
 ∀ (pins:List (Addr × Obj)) (s:ai) (σ:St) (H:Hp) (x:V) (xs:List V) (v:ae) (us:List ae) (Q:VK),Inv X pins σ H s->RelV x v->Vals xs us->r x xs H Q ->
  aE (aF X.prog X.w) X.A (call (.builtin id) (v::us)) (EP X pins σ Q) X.xe s
section
variable {X:Cx} {a b:Expr} {ta tb:TE} {pos:Pos}
theorem IxR.or {r r':R2} (h:IxR X r) (h':IxR X r'):IxR X (fun x y H Q=>r x y H Q\/r' x y H Q):=by
 intro value slice pins s σ H x y v u Q I rx ry q hs;rcases q with q | q
 ·exact h value slice pins s σ H x y v u Q I rx ry q hs
 ·exact h' value slice pins s σ H x y v u Q I rx ry q hs
theorem pe_ix {r:R2} (hr:IxR X r) (ha:PE X a ta) (hb:PE X b tb) (hs:PlainIx b):PE X (.Subscript a b pos) (tOp r ta tb):=by
 intro pins s σ H Q I h;exact Subscript_ (binT ha hb I h fun v u s2 x y H2 I2 rx ry q=>hr a b pins s2 σ H2 x y v u Q I2 rx ry q (hs _ _))
def rIxL (K:ar):R2:=fun x y H Q=>∃ p xs i v,x=.ref p/\y=.int i/\SqL K H p xs/\atI xs i=some v/\Q v H
def rIxT (K:ar):R2:=fun x y H Q=>∃ p xs i v,x=.ref p/\y=.int i/\SqT K H p xs/\atI xs i=some v/\Q v H
def rIxS:R2:=fun x y H Q=>∃ z i c,x=.str z/\y=.int i/\z.length<=sizeLine/\atI z.cps.toList i=some c/\Q (.str ⟨#[c]⟩) H
theorem ix_list:IxR X (rIxL X.K):=by
 intro value slice pins s σ H x y v u Q I rx ry h hs;obtain⟨p,xs,i,z,rfl,rfl,hq,he,q⟩:=h;cases rx;obtain⟨t,rfl⟩:=ry;obtain⟨its,r,pl,hz⟩:=I.list hq;obtain⟨j,h1,h2,h3,h4,h5⟩:=atI_get he;obtain⟨w,ew,rw'⟩:=r.get h2;have hl:=r.length;have hn:=line63;have fin:EP X pins σ Q w s:=⟨z,H,I,rw',q⟩
 by_cases h0:0<=i
 ·have hj:i.toNat=j:=by
   rw[seqIndex_of h0 h5] at h1;exact aP h1
  exact item_listR pl.isList h0 (by omega) (by rw[hj];simpa using ew) fin hs
 ·have hj:(i + (its.toArray.size:Int)).toNat=j:=by
   rw[seqIndex_neg (by omega) h4] at h1
   rw[aq,<- hl];exact aP h1
  exact subscriptTail_builtinR (x:=w) pl.isList.typeIs slot_list_getitem.lookup
   (wpAny_getItem_list_neg (Q:=fun r s'=>r=w/\EP X pins σ Q r s') pl.isList (by omega) (by rw[aq] <;> omega) (by omega) (by rw[hj];simpa using ew) ⟨rfl,fin⟩) hs
theorem ix_tup:IxR X (rIxT X.K):=by
 intro value slice pins s σ H x y v u Q I rx ry h hs;obtain⟨p,xs,i,z,rfl,rfl,hq,he,q⟩:=h;cases rx;obtain⟨t,rfl⟩:=ry;obtain⟨its,r,pl,hz⟩:=I.tuple hq;obtain⟨j,h1,h2,h3,h4,h5⟩:=atI_get he;obtain⟨w,ew,rw'⟩:=r.get h2;have hl:=r.length;have hn:=line63;have fin:EP X pins σ Q w s:=⟨z,H,I,rw',q⟩;exact subscriptTail_builtinR (x:=w) pl.typeIs slot_tuple_getitem.lookup
  (getItem_tuple (j:=j) (Q:=fun r s'=>r=w/\EP X pins σ Q r s') pl (by omega) (by omega) (by rw[aq,<- hl];exact h1) (by simpa using ew) ⟨rfl,fin⟩) hs
theorem ix_str:IxR X rIxS:=by
 intro value slice pins s σ H x y v u Q I rx ry h hs;obtain⟨z,i,c,rfl,rfl,hz,he,q⟩:=h;obtain⟨t,rfl⟩:=rx;obtain⟨t',rfl⟩:=ry;obtain⟨j,h1,h2,h3,h4,h5⟩:=atI_get he;have hl:z.cps.toList.length=z.length:=by simp[Str.length]
 rw[hl] at h1 h4 h5;have hn:=line63;exact tail_any (typeIs_str s z t) slot_str_getitem.lookup (getItem_str (c:=c) (by
  have e1:decide (i < -(2 ^ 63:Int))=false:=decide_eq_false (by omega)
  have e2:decide (i >= 2 ^ 63)=false:=decide_eq_false (by omega)
  rw[e1,e2,Bool.or_false]) (by rw[h1];simpa using h2) ⟨.str ⟨#[c]⟩,H,I.tok _,⟨_,rfl⟩,q⟩) hs
def rIx (K:ar):R2:=fun x y H Q=>rIxL K x y H Q\/rIxT K x y H Q\/rIxS x y H Q
theorem ix_seq:IxR X (rIx X.K):=ix_list.or (ix_tup.or ix_str)
theorem slice_bounds (lo hi:Option Int) (n:Nat):(f7 lo hi none n).1=((HT.sIx n 0 lo:Nat):Int)/\(f7 lo hi none n).2.1=((HT.sIx n n hi:Nat):Int)/\(f7 lo hi none n).2.2=1:=by
 refine⟨?_,?_,rfl⟩
 ·cases lo with
  | none=>simp[f7,HT.sIx]
  | some i =>
   simp only[f7,HT.sIx,i7,show(1:Int) > 0 by decide,if_true]
   by_cases h:i < 0
   ·simp only[h,if_true] <;> omega
   ·simp only[h,if_false] <;> omega
 ·cases hi with
  | none=>simp[f7,HT.sIx]
  | some i =>
   simp only[f7,HT.sIx,i7,show(1:Int) > 0 by decide,if_true]
   by_cases h:i < 0
   ·simp only[h,if_true] <;> omega
   ·simp only[h,if_false] <;> omega
theorem slicePick_cut (its:List ae) (lo hi:Option Int):slicePick its.toArray lo hi none=((its.drop (HT.sIx its.length 0 lo)).take (HT.sIx its.length its.length hi - HT.sIx its.length 0 lo)).toArray:=by
 obtain⟨h1,h2,h3⟩:=slice_bounds lo hi its.toArray.size;unfold slicePick;rw[h1,h2,h3];simp only[sliceRange_one,pick_run,aq] <;> rfl
def rSlL (K:ar):V->Option Int->Option Int->Hp->VK->Prop:=fun x lo hi H Q=>∃ a xs,x=.ref a/\SqL K H a xs/\∀ p,H p=none->Q (.ref p) (upd H p (.lst (cutV xs lo hi)))
theorem sl_list:SlR X (rSlL X.K):=by
 intro pins s σ H x v vl vu lo hi sl Q I rx hs pl pu h;obtain⟨a,xs,rfl,hx,q⟩:=h;cases rx;obtain⟨its,r,ht,hz⟩:=I.list hx;have hlen:=r.length;refine⟨"list",_,slot_list_getitem.lookup,ht.isList.typeIs,?_⟩;refine wpAny_getItem_list_slice ht.isList hs pl pu .none (by simp) ?_ (by rw[aq] <;> omega)
 rw[slicePick_cut,<- hlen];refine⟨.ref s.heap.objs.size,_,I.laid (t':=s.toks) (o:=.lst (cutV xs lo hi)) (fun b ob q=>ah _ q) (Nat.le_refl _) ?_,rfl,q _ (I.hok.fresh (Nat.le_refl _))⟩;exact⟨Nat.le_trans (cutV_length xs lo hi) hz,_,0,(r.drop (HT.sIx xs.length 0 lo)).take (HT.sIx xs.length xs.length hi - HT.sIx xs.length 0 lo),av _ rfl⟩
theorem CallR.or {f:ae} {r r':List V->Hp->VK->Prop} (h:CallR X f r) (h':CallR X f r'):CallR X f (fun xs H Q=>r xs H Q\/r' xs H Q):=by
 intro pins s σ H xs us Q I rs q;rcases q with q | q
 ·exact h pins s σ H xs us Q I rs q
 ·exact h' pins s σ H xs us Q I rs q
theorem call_list_of:CallR X (.type "list") (fun xs H Q=>∃ p ys,xs=[.ref p]/\(SqL X.K H p ys\/SqT X.K H p ys)/\∀ l,H l=none->Q (.ref l) (upd H l (.lst ys))):=by
 intro pins s σ H xs us Q I r h;obtain⟨p,ys,rfl,hq,q⟩:=h;obtain⟨u,rfl,rx⟩:=vals1 r;cases rx;have fin:∀ (its:List ae),Vals ys its->ys.length<=sizeLine->∀ (h':be) (c':Nat),(∀ b o',s.heap.get? b=some o'->h'.get? b=some o') ->
   h'.get? s.heap.objs.size=some { cls:=.type "list",dict:=none,data:=.seq its.toArray c',slots:=#[] }->EP X pins σ Q (.ref s.heap.objs.size) { s with heap:=h' }:=fun its r' hz h' c' kp e =>
  ⟨.ref s.heap.objs.size,_,I.laid (t':=s.toks) kp (Nat.le_refl _) (show ObjOk X.prog X.w _ h' _ (.lst ys) from⟨hz,its,c',r',e⟩),rfl,q _ (I.hok.fresh (Nat.le_refl _))⟩
 rcases hq with hq | hq
 ·obtain⟨its,r',pl,hz⟩:=I.list hq;have hlen:=r'.length;obtain⟨o,ho,hc,n,hd⟩:=pl.isList;exact call_list_seq p (.inl rfl) ho hc hd (fun h' c' kp e=>fin its r' hz h' c' kp e) (by simp only[aq] <;> omega)
 ·obtain⟨its,r',pl,hz⟩:=I.tuple hq;have hlen:=r'.length;obtain⟨o,ho,hc,n,hd⟩:=pl;exact call_list_seq p (.inr rfl) ho hc hd (fun h' c' kp e=>fin its r' hz h' c' kp e) (by simp only[aq] <;> omega)
theorem call_tuple_of:CallR X (.type "tuple") (fun xs H Q=>∃ p ys,xs=[.ref p]/\((SqL X.K H p ys/\∀ l,H l=none->Q (.ref l) (upd H l (.tup ys)))\/(SqT X.K H p ys/\Q (.ref p) H))):=by
 intro pins s σ H xs us Q I r h;obtain⟨p,ys,rfl,h⟩:=h;obtain⟨u,rfl,rx⟩:=vals1 r;cases rx;rcases h with⟨hq,q⟩ | ⟨hq,q⟩
 ·obtain⟨its,r',pl,hz⟩:=I.list hq;have hlen:=r'.length;refine call_tuple_list pl.isList (fun h' kp=>?_) (by simp only[aq] <;> omega)
  have I1:Inv X pins σ H { s with heap:=h' }:=I.kept (t':=s.toks) kp
  have I2:Inv X pins σ (upd H h'.objs.size (.tup ys)) { s with heap:=h'.push { cls:=.type "tuple",data:=.seq its.toArray } } :=
   I1.laid (t':=s.toks) (fun b o e=>ah _ e) (Nat.le_refl _) (show ObjOk X.prog X.w _ _ _ (.tup ys) from⟨hz,its,r',iK.new _ _,nd_new⟩)
  exact⟨.ref h'.objs.size,_,I2,rfl,q _ (I1.hok.fresh (Nat.le_refl _))⟩
 ·obtain⟨its,r',pl,hz⟩:=I.tuple hq;exact call_tuple_same pl ⟨.ref p,H,I,rfl,q⟩
def tyV (K:ar) (T:String) (x:V) (H:Hp):Prop:=match x with
 | .str _=>T = "str"
 | .int _=>T = "int"
 | .ref p=>(T = "list"/\∃ xs,SqL K H p xs)\/(T = "tuple"/\∃ o,K.lookup p=some o/\o.cls=.type "tuple"/\o.dict=none) \/
   (T = "dict"/\((∃ kvs,H p=some (.dK kvs))\/∃ kvs,H p=some (.dT kvs)))\/(T = "set"/\∃ S n,H p=some (.set S n))
 | _=>False
theorem tyV_is {pins:List (Addr × Obj)} {σ:St} {H:Hp} {s:ai} {T:String} {x:V} {v:ae} (I:Inv X pins σ H s) (r:RelV x v) (ty:tyV X.K T x H) :
  s.TypeIs v T/\∀ a,v=.ref a->∃ ob,s.heap.get? a=some ob/\ob.dict=none:=by
 cases x with
 | str z =>
  obtain⟨t,rfl⟩:=r;cases (show T = "str" from ty)
  exact⟨typeIs_str s z t,fun _ e=>nomatch e⟩
 | int i =>
  obtain⟨t,rfl⟩:=r;cases (show T = "int" from ty)
  exact⟨typeIs_int s i t,fun _ e=>nomatch e⟩
 | ref p =>
  cases r;rcases ty with⟨rfl,xs,hq⟩ | ⟨rfl,o,hk,hc,hd⟩ | ⟨rfl,hk⟩ | ⟨rfl,S,n,hk⟩
  ·obtain⟨its,_,pl,_⟩:=I.list hq;refine⟨pl.isList.typeIs,fun a e=>?_⟩;cases e;obtain⟨o,n,e,c,hd,_⟩:=pl;exact⟨o,e,hd⟩
  ·refine⟨⟨o,I.kIn p o hk,hc⟩,fun a e=>?_⟩;cases e;exact⟨o,I.kIn _ o hk,hd⟩
  ·have z:∃ o,s.heap.get? p=some o/\o.ExactDict:=by
    rcases hk with⟨kvs,hk⟩ | ⟨kvs,hk⟩
    ·obtain⟨_,_,_,_,o,_,_,e,ex,_⟩:=I.hok p _ hk;exact⟨o,e,ex⟩
    ·obtain⟨_,_,_,_,o,_,_,e,ex,_⟩:=I.hok p _ hk;exact⟨o,e,ex⟩
   obtain⟨o,e,ex⟩:=z;refine⟨⟨o,e,ex.1⟩,fun a e2=>?_⟩;cases e2;exact⟨o,e,ex.2.1⟩
  ·obtain⟨o,_,_,_,e,ex,_⟩:=I.hok p _ hk;refine⟨⟨o,e,ex.1⟩,fun a e2=>?_⟩;cases e2;exact⟨o,e,ex.2.1⟩
 | _=>exact dQ ty
def tBM (K:ar) (T:String) (r:V->List V->Hp->VK->Prop) (to:TE) (t:TA):TE:=fun σ H Q=>to σ H fun x H1=>tyV K T x H1/\t σ H1 fun xs H2=>r x xs H2 Q
variable {o e:Expr} {es:List Expr} {to:TE} {t:TA} {name:Str} {apos cpos:Pos} {T id:String} {r:V->List V->Hp->VK->Prop}
theorem pe_bm (pa:PlainAttrs T) (slot:Slot T name id) (hty:typeOf (.builtin id)=pure (.type "method_descriptor")) (hm:MtR X id r) (ho:PE X o to) (ha:PA X (e::es) t)
  (hbase:d3 o name X.env (eval o X.env)=eval o X.env:=by rfl)
  (hfew:((cw cpos (ax (e::es) X.env)).all (fun x=>!x.1) && (i8 cpos (f8 [] X.env)).all (fun x=>x.1.isSome)
   && decide ((e::es).length + ([]:List fx).length + (if ([]:List fx).isEmpty then 0 else 1) < 30))=true:=by rfl)
  (hline:(apos.endLine == cpos.line)=true:=by rfl) (hs:ax (e::es) X.env=(false,eval e X.env)::ax es X.env:=by rfl) (hplain:(cw cpos (ax es X.env)).any (·.1)=false:=by rfl) :
  PE X (.Call (.Attribute o name apos) (e::es) [] cpos) (tBM X.K T r to t):=by
 intro pins s σ H Q I h;refine wpAny_Call_method_late hbase hfew hline rfl (thn (ho pins s σ H _ I h) fun v s1 ⟨x,H1,I1,r1,ty,q1⟩=>?_);obtain⟨h1,h2⟩:=tyV_is I1 r1 ty;refine⟨T,id,pa,slot,hty,h1,h2,?_⟩;have hA:=ha cpos pins s1 σ H1 _ I1 q1;rw[hs] at hA ⊢;refine gh (by show(false || (cw cpos (ax es X.env)).any (·.1))=false;rw[hplain] <;> rfl) (Calls.evalArgs_plain ?_)
 exact thn hA fun us s2 ⟨vs,H2,I2,r2,q2⟩=>hm pins s2 σ H2 x vs v us Q I2 r1 r2 q2
end
def MtM (X:Cx) (id:String) (r:V->List V->Hp->VK->Prop):Prop :=
 ∀ (pins:List (Addr × Obj)) (s:ai) (σ:St) (H:Hp) (x:V) (xs:List V) (v:ae) (us:List ae) (Q:VK),Inv X pins σ H s->RelV x v->Vals xs us->r x xs H Q ->
  aE (aF X.prog X.w) X.A (call (.builtin id) (v::us)) (EP X pins σ Q) X.xe s
theorem Vals.one:∀ {x:V} {us:List ae},Vals [x] us->∃ u,us=[u]/\RelV x u:=by
 intro x us h;cases h with
 | cons r t=>cases t;exact⟨_,rfl,r⟩
theorem Vals.two:∀ {x y:V} {us:List ae},Vals [x,y] us->∃ u v,us=[u,v]/\RelV x u/\RelV y v:=by
 intro x y us h;cases h with
 | cons r t =>
  cases t with
  | cons q t=>cases t;exact⟨_,_,rfl,r,q⟩
theorem Vals.eraseIdx:∀ {xs:List V} {us:List ae} (i:Nat),Vals xs us->Vals (xs.eraseIdx i) (us.eraseIdx i)
 | _,_,_,.nil=>.nil
 | _,_,0,.cons _ t=>t
 | _,_,i + 1,.cons r t=>.cons r (Vals.eraseIdx i t)
theorem len_erase {α:Type}:∀ (l:List α) (i:Nat),(l.eraseIdx i).length<=l.length
 | [],_=>Nat.le_refl _
 | _::_,0=>Nat.le_succ _
 | _::r,i + 1=>Nat.succ_le_succ (len_erase r i)
section
variable {X:Cx} {pins:List (Addr × Obj)} {σ:St} {H:Hp} {s:ai} {l b:Addr} {xs ys zs:List V}
theorem Inv.lset {its its':List ae} {n:Nat} {f:Array ae->Array ae} {t':Nat} (I:Inv X pins σ H s) (hH:H l=some (.lst xs))
  (e:s.heap.get? l=some { cls:=.type "list",data:=.seq its.toArray n }) (hf:f its.toArray=its'.toArray) (hv:Vals ys its') (hz:ys.length<=sizeLine) :
  Inv X pins σ (upd H l (.lst ys)) { s with heap:=s.heap.update l (b9 f),toks:=t' }:=by
 have q:=PySem.IsL.update e f;rw[hf] at q;refine I.write (x:=l) (e:=l) (by rw[hH];exact trivial) (.inl rfl) (fun b' u hb hu=>(cJ s.heap (b9 f) (cN hb)).trans hu) ⟨_,q⟩ ?_
 exact⟨hz,its',_,hv,q⟩
theorem Inv.lnew {its:List ae} {t':Nat} (I:Inv X pins σ H s) (hv:Vals ys its) (hz:ys.length<=sizeLine) :
  Inv X pins σ (upd H s.heap.objs.size (.lst ys)) { s with heap:=s.heap.push { cls:=.type "list",data:=.seq its.toArray },toks:=t' } :=
 I.laid (fun _ _ q=>ah _ q) (Nat.le_refl _) ⟨hz,its,0,hv,av _ rfl⟩
theorem Inv.fresh (I:Inv X pins σ H s):H s.heap.objs.size=none:=I.hok.fresh (Nat.le_refl _)
theorem Inv.lstM (I:Inv X pins σ H s) (hH:H l=some (.lst xs)):xs.length<=sizeLine/\∃ (its:List ae) (n:Nat),Vals xs its/\xs.length=its.length/\s.heap.get? l=some { cls:=.type "list",data:=.seq its.toArray n }:=by
 obtain⟨z,its,n,r,e⟩:=I.hok l _ hH;exact⟨z,its,n,r,r.length,e⟩
theorem notLongL {n:Nat} (h:n<=sizeLine):fM n=false:=by
 unfold fM;exact decide_eq_false (by omega)
end
section
variable {X:Cx}
def rAppend:V->List V->Hp->VK->Prop:=fun x vs H Q=>∃ l xs y,x=.ref l/\vs=[y]/\H l=some (.lst xs)/\xs.length < sizeLine/\Q .non (upd H l (.lst (xs++[y])))
theorem mt_append:MtM X "list.append" rAppend:=by
 intro pins s σ H x vs v us Q I rx rv h;obtain⟨l,xs,y,rfl,rfl,hH,hz,q⟩:=h;cases rx;obtain⟨u,rfl,ru⟩:=rv.one;obtain⟨z,its,n,r,hl,e⟩:=I.lstM hH;refine ju F.slot_list_append ⟨_,e,rfl⟩ F.entry_list_append (F.args_list_append_2 _ _) (PySem.list_append l its.toArray n u (by rw[aq];omega)) ⟨e,?_⟩
 refine⟨.non,_,I.lset (its':=its++[u]) hH e (by simp) (r.append (.cons ru .nil)) ?_,rfl,q⟩
 rw[az,du];omega
def rExtend:V->List V->Hp->VK->Prop:=fun x vs H Q=>∃ l b xs zs,x=.ref l/\vs=[.ref b]/\H l=some (.lst xs)/\H b=some (.lst zs)/\xs.length + zs.length<=sizeLine/\Q .non (upd H l (.lst (xs++zs)))
theorem mt_extend:MtM X "list.extend" rExtend:=by
 intro pins s σ H x vs v us Q I rx rv h;obtain⟨l,b,xs,zs,rfl,rfl,hH,hB,hz,q⟩:=h;cases rx;obtain⟨u,rfl,ru⟩:=rv.one;cases ru;obtain⟨z,its,n,r,hl,e⟩:=I.lstM hH;obtain⟨z2,its2,n2,r2,hl2,e2⟩:=I.lstM hB;have hsz:its.toArray.size + its2.toArray.size<=sizeLine:=by rw[aq,aq];omega
 have hlong:¬ (!its.toArray.isEmpty && fM (its.toArray.size + its2.toArray.size))=true:=by
  rw[notLongL hsz,jM];exact ba
 refine ju F.slot_list_extend ⟨_,e,rfl⟩ F.entry_list_extend (F.args_list_extend_2 _ _)
  (AutoSeq1.list_extend_list_list_0 l its.toArray n b its2.toArray n2 hlong (by rw[aq];omega) (by omega)) ⟨e,e2,?_⟩
 refine⟨.non,_,I.lset (its':=its++its2) hH e (by simp) (r.append r2) ?_,rfl,q⟩
 rw[az];omega
def rPopAt:V->List V->Hp->VK->Prop:=fun x vs H Q=>∃ l xs i k y,x=.ref l/\vs=[.int i]/\H l=some (.lst xs)/\-(2 ^ 63)<=i/\i < 2 ^ 63/\seqIndex? i xs.length=some k/\xs[k]?=some y/\Q y (upd H l (.lst (xs.eraseIdx k)))
theorem mt_popAt:MtM X "list.pop" rPopAt:=by
 intro pins s σ H x vs v us Q I rx rv h;obtain⟨l,xs,i,k,y,rfl,rfl,hH,h1,h2,hk,hy,q⟩:=h;cases rx;obtain⟨u,rfl,ru⟩:=rv.one;obtain⟨t,rfl⟩:=ru;obtain⟨z,its,n,r,hl,e⟩:=I.lstM hH;obtain⟨w,hw,rw'⟩:=r.get hy;refine ju F.slot_list_pop ⟨_,e,rfl⟩ F.entry_list_pop (F.args_list_pop_2 _ _)
  (MeetsSeq.list_pop_at l its.toArray n i t k w (fitsIndex_both h1 h2) (by rw[aq,<- hl];exact hk) (by rw[<- aQ];exact hw) (by rw[aq];omega)) ⟨e,?_⟩
 refine⟨y,_,I.lset (its':=its.eraseIdx k) hH e ?_ (r.eraseIdx k) ?_,rw',q⟩
 ·show its.toArray.eraseIdxIfInBounds k=(its.eraseIdx k).toArray;rw[List.eraseIdxIfInBounds_toArray]
 ·have:=len_erase xs k
  omega
end
section
variable {prog:ay} {w:aI} {A:a6} {E:ae->ai->Prop} {s:ai}
set_option maxRecDepth 100000 in
end
end L2
namespace Att
open PySem PySem.W PySem.Calls PyProof.Rows
theorem ints_of_wellAll {P:Params} {h:be}:∀ (ns:List Int) (vs:List ae),WellAll P h vs (ns.map WData.int)->gZ vs ns:=by
 intro ns
 induction ns with
 | nil =>
  intro vs w;rw[eQ] at w;cases w;exact .nil
 | cons n ns ih =>
  intro vs w;rw[aG] at w;cases w with
  | cons a b =>
   cases a;exact .cons _ _ (ih _ b)
theorem script_of {l:OpenLaw} {n:Nat} (hn:l.most=some n) {P:Params} {h:be} {args:List WData} {vals:List ae}
  (hpre:l.row.toRowW.claim.pre args=true) (hwl:WellAll P h vals args) :
  ∃ a vs ns,vals=[bY a]/\args=[WData.list (ns.map WData.int)]/\h.get? a=some { cls:=.type "list",data:=.seq vs.toArray }/\gZ vs ns/\ns.length<=n:=by
 have hsh:WShape.hasAll [] args [.list .int]=true:=(pre_splitW hpre).1;have hc:l.pre.holds [] { args:=args }=true:=(pre_splitW hpre).2;obtain⟨d,r,rfl,h1,h2⟩:=hasAllW_cons hsh;obtain rfl:=hasAllW_nil h2;obtain⟨xs,rfl,h3⟩:=hasW_list h1;obtain⟨ns,rfl⟩:=items_int h3;have hlen:ns.length<=n:=by
  unfold OpenLaw.pre at hc;have h4:(WTm.not (.lt (.lit (.int (n:Int))) (.len (.arg 0)))).holds [] { args:=[.list (ns.map .int)] }=true:=by
   have h4:=(holds_andW hc).1;rw[hn] at h4;exact h4
  have h5:=condW_of h4 (w_not (w_lt w_lit (w_len_list (w_arg rfl))));rw[ap] at h5;refine Nat.le_of_not_lt fun q=>?_;have q':(n:Int) < ((ns.length:Nat):Int):=by omega
  first
   | (rw[decide_eq_true q'] at h5;exact absurd h5 (by decide))
   | (simp at h5;omega)
 cases hwl with
 | cons w1 w2 =>
  cases w2;cases w1 with
  | list ho hall=>exact⟨_,_,ns,rfl,rfl,ho,ints_of_wellAll ns _ hall,hlen⟩
theorem post_true (l:OpenLaw) (args:List WData):l.row.toRowW.claim.post args (.bool true) args=true :=
 postW_of (r:=l.row.toRowW) (X:=(true == true))
  (show WShape.has [] (.bool true) .bool=true by first | rfl | decide | simp[WShape.has,WShape.arms,WShape.armsAll])
  (show(WTm.eq .res (.lit (.bool true))).value [] { args:=args,res:=some (.bool true),after:=args }=some (.bool (true == true)) from w_eq_bool (w_res rfl) w_lit) rfl
theorem attach_call {l:OpenLaw} {n:Nat} {q:ay} {loose:List Str} {XP:(Str->Option ae)->be->Prop} {YP:aI->be->Prop} {d:DefRec}
  (hn:l.most=some n) (hdf:d.params.defaults=[])
  (call:∀ (w:aI) (s₀ s₁:ai) (mg mb:Str->Option ae) (fa:Addr) (o:Obj) (pm cd doc:ae) (a:Addr) (vs:List ae) (ns:List Int),
   Ground q loose [] XP w s₀ mg mb s₁.heap->YP w s₁.heap ->
   s₁.heap.get? fa=some o->o.data=.func (docDef d.name d.params d.body d.scope pm cd doc)->s₁.heap.CodeRec cd d.name->mg d.name=some (.ref fa) ->
   s₁.heap.get? a=some { cls:=.type "list",data:=.seq vs.toArray }->gZ vs ns->ns.length<=n->s₁.gens=#[] ->
   gI (aF l.prog w) callerA (.call (.ref fa) ⟨[.ref a],[]⟩) (fun r s'=>r=.ok (.ret (.bool true))/\OldK s₁.heap s'.heap/\s'.os=s₁.os/\iM s'.gens) s₁) :
  WalkO q loose XP YP l.row.toRowW d [] (fun f vs=>PySem.call f vs):=by
 intro w s₀ s₁ mg mb G Y fa o pm cd doc dV kV ho hd hcd hD hmg hg args vals as hpre hlay hrd hwl hlo;obtain rfl:dV=.none:=Dflts.none hD hdf;obtain rfl:kV=.none:=Dflts.noKw hD;obtain⟨a,vs,ns,rfl,rfl,hobj,hints,hlen⟩:=script_of hn hpre hwl;refine enter_call (gY (call w s₀ s₁ mg mb fa o pm cd doc a vs ns G Y ho (fd_plain hd) hcd hmg hobj hints hlen hg) fun r s' hq=>?_);obtain⟨rfl,h2,h3,h4⟩:=hq;exact⟨.inl ⟨.bool true,.bool true,[],rfl,fun _=>rfl,.bool true,post_true l _,fun _=>⟨gi,fun _ hm=>(nomatch hm)⟩⟩,h2,h3,h4⟩
end Att
namespace L2
open PySem PySem.Spec PyProof.Rows
theorem vals_ints:∀ {vs:List ae} {ns:List Int},gZ vs ns->Vals (ns.map V.int) vs
 | _,_,.nil=>.nil
 | _,_,.cons n t h=>.cons ⟨t,rfl⟩ (vals_ints h)
def Only (H:Hp):Prop:=∀ b,H b=none\/∃ o xs,H b=some (.frz o (.lst xs))
theorem law_call {P:ay} {w:aI} {K:ar} {mg mb:Str->Option ae} {CX:CXT} {k:Nat} {fa a:Addr} {fd:dq} {x:Str} {sp:Sp} {s₁:ai} {vs:List ae} {ns:List Int}
  (KX:K.In s₁.heap) (hns:s₁.heap.Ns a8 mg) (hb:s₁.heap.Ns builtinsNs mb) (hbb:∀ x:Str,x ≠ "__name__"->mb x=bC x) (hlim:s₁.heap.NoLimit) (hg:s₁.gens=#[])
  (ha:s₁.heap.get? a=some { cls:=.type "list",data:=.seq vs.toArray }) (hi:gZ vs ns) (hl:ns.length<=sizeLine) (hr:Room k callerA)
  (F:∀ base:be,K.In base->base.Ns a8 mg->FnOk P w K mg base CX k fa fd [x] sp) (hbind:∀ (s:ai) (u:ae),BindsTo s fd ⟨[u],[]⟩ [(x,u)])
  (hsp:∀ H:Hp,Only H->SqL K H a (ns.map V.int)->sp [.ref a] H (fun v _=>v=.bl true) fun _ _ _=>False)
  (hCX:∀ H e s',CX [] H s₁ (fun _ _ _=>False) e s'->False) :
  gI (aF P w) callerA (.call (.ref fa) ⟨[.ref a],[]⟩) (fun r s'=>r=.ok (.ret (.bool true))/\OldK s₁.heap s'.heap/\s'.os=s₁.os/\iM s'.gens) s₁:=by
 have rv:=vals_ints hi;have lenV:=hi.length;have core:∀ H:Hp,Only H->SqL K H a (ns.map V.int)->HOk P w H s₁.heap->(∀ b,H b≠none->b=a)->(H a≠none->K.lookup a=none) ->
   gI (aF P w) callerA (.call (.ref fa) ⟨[.ref a],[]⟩) (fun r s'=>r=.ok (.ret (.bool true))/\OldK s₁.heap s'.heap/\s'.os=s₁.os/\iM s'.gens) s₁:=by
  intro H hO hS hok hA hK;have base_of:∀ {b:Addr} {o:Obj},s₁.heap.get? b=some o->H b=none->(hidT s₁.heap H).get? b=some o:=fun e n=>hidT_get e n;have noA:∀ {b:Addr} {o:Obj} {es:Array i5} {ep:Nat},s₁.heap.get? b=some o->o.data=.dict es ep->H b=none:=fun {b o es ep} e d=>by
   cases q:H b with
   | none=>rfl
   | some u =>
    have e':b=a:=hA b (by rw[q];simp)
    subst e';rw[ha] at e;cases e;have d':Data.seq vs.toArray _=Data.dict es ep:=d;cases d'
  have nsK:∀ {b:Addr} {m:Str->Option ae},s₁.heap.Ns b m->(hidT s₁.heap H).Ns b m:=fun {b m} ⟨o,es,ep,e,d,r⟩=>⟨o,es,ep,base_of e (noA e d),d,r⟩;have hKb:K.In (hidT s₁.heap H):=fun b o e=>base_of (KX b o e) (by
   cases q:H b with
   | none=>rfl
   | some u =>
    have e':b=a:=hA b (by rw[q];simp)
    subst e';rw[hK (by rw[q];simp)] at e;cases e)
  have hM:Mod K mg (hidT s₁.heap H):=⟨hKb,nsK hns,⟨mb,nsK hb,hbb⟩,let ⟨mc,h1,h2⟩:=hlim;⟨mc,nsK h1,h2⟩⟩
  have e0:Env0 P w K mg (hidT s₁.heap H) callerA [] s₁ H:=⟨rfl,rfl,hM,fun b o e=>of_hidT e,Nat.le_of_eq (hidT_size _ _),trivial,fun b hb=>absurd (show b∈([]:List Addr) from hb) (by simp),hok,.of_eq hg⟩
  refine gY ((F _ hKb (nsK hns)).run callerA [] s₁ H ⟨[.ref a],[]⟩ [.ref a] [.ref a] _ _ hr e0 (hbind s₁ (.ref a)) (.cons rfl .nil) (hsp H hO hS)) fun r s' h=>?_;cases r with
  | error e=>exact(hCX H e s' h).elim
  | ok fl =>
   cases fl with
   | next=>exact dQ h
   | brk=>exact dQ h
   | cont=>exact dQ h
   | ret u =>
    obtain⟨v,H',os,bare,un,hok',r',q⟩:=h;have q':v=.bl true:=q;subst q';obtain rfl:u=jp true:=r';refine⟨rfl,OldK.of_keep fun b o e=>?_,os,bare⟩;cases q:H b with
    | none=>exact un.keep b o e q (by intro z;exact absurd (show b∈([]:List Addr) from z) (by simp)) (by simp)
    | some u =>
     rcases hO b with z | ⟨ob,xs,z⟩
     ·rw[q] at z;cases z
     ·have z2:=un.frzs b ob _ z;obtain⟨e1,_⟩:=hok b _ z;obtain⟨e2,_⟩:=hok' b _ z2;rw[e] at e1;cases e1;exact e2
 cases hk:K.lookup a with
 | some o =>
  have e:=KX a o hk;rw[ha] at e;cases e;refine core (fun _=>none) (fun _=>.inl rfl) (.inr ⟨_,vs.toArray,_,hk,rfl,rfl,rfl,by rw[aq,lenV];exact hl,by simpa using rv⟩) (fun b u z=>by have z':(none:Option HO)=some u:=z;cases z') (fun b z=>absurd rfl z) fun z=>absurd rfl z
 | none =>
  refine core (fun b=>if b=a then some (.frz { cls:=.type "list",data:=.seq vs.toArray } (.lst (ns.map V.int))) else none) (fun b=>?_) (.inl (.inr ⟨{ cls:=.type "list",data:=.seq vs.toArray },if_pos rfl⟩)) (fun b u z=>?_) (fun b z=>?_) fun _=>hk
  ·by_cases hb:b=a
   ·exact .inr ⟨_,_,if_pos hb⟩
   ·exact .inl (if_neg hb)
  ·by_cases hb:b=a
   ·have z':=(if_pos hb).symm.trans z;cases z';subst hb;exact⟨ha,by rw[ap];exact hl,vs,_,rv,ha⟩
   ·have z':=(if_neg hb).symm.trans z;cases z'
  ·by_cases hb:b=a
   ·exact hb
   ·exact absurd (if_neg hb) z
abbrev KOf {K:ar} {h:be} (_:K.In h):ar:=K
theorem walk_of {l:jB} {n k:Nat} {q:ay} {loose:List Str} {XP:(Str->Option ae)->be->Prop} {YP:aI->be->Prop} {d:DefRec} {K:Params->ar} {CX:aI->CXT} {sp:aI->Sp} {x:Str}
  (hn:l.most=some n) (hn2:n<=sizeLine) (hdf:d.params.defaults=[]) (hr:Room k callerA)
  (hY:∀ (w:aI) (h:be),YP w h->(K w.params).In h)
  (F:∀ (w:aI) (mg:Str->Option ae) (fa:Addr) (h:be),(K w.params).In h->h.Ns a8 mg->mg d.name=some (.ref fa) ->
   ∃ fd:dq,(∀ (s:ai) (u:ae),BindsTo s fd ⟨[u],[]⟩ [(x,u)]) /\
    ∀ base:be,(K w.params).In base->base.Ns a8 mg->FnOk l.prog w (K w.params) mg base (CX w) k fa fd [x] (sp w))
  (hsp:∀ (w:aI) (H:Hp) (a:Addr) (ns:List Int),ns.length<=n->Only H->SqL (K w.params) H a (ns.map V.int)->sp w [.ref a] H (fun v _=>v=.bl true) fun _ _ _=>False)
  (hCX:∀ (w:aI) (H:Hp) (s:ai) (e:ae) (s':ai),CX w [] H s (fun _ _ _=>False) e s'->False) :
  PySem.W.WalkO q loose XP YP l.row.toRowW d [] (fun f vs=>PySem.call f vs):=by
 refine Att.attach_call hn hdf fun w s₀ s₁ mg mb fa o pm cd doc a vs ns G Y ho hd hcd hmg hobj hints hlen hg=>?_;have KX:=hY w _ Y;obtain⟨fd,hb,hF⟩:=F w mg fa _ KX G.T.g hmg;exact law_call KX G.T.g G.T.b G.T.builtins G.T.nolimit hg hobj hints (Nat.le_trans hlen hn2) hr hF hb (fun H hO hS=>hsp w H a ns hlen hO hS) fun H e s'=>hCX w H s₁ e s'
def defArgs (s:Stmt):Arguments:=match s with
 | .FunctionDef _ a _ _ _ _ _ _ _ _=>a
 | _=>{ posonlyargs:=[],args:=[],vararg:=none,kwonlyargs:=[],kw_defaults:=[],kwarg:=none,defaults:=[] }
def defBody (s:Stmt):List Stmt:=match s with
 | .FunctionDef _ _ b _ _ _ _ _ _ _=>b
 | _=>[]
def defScope (s:Stmt):Scope:=match s with
 | .FunctionDef _ _ _ _ _ _ sc _ _ _=>sc
 | _=>{ kind:=.function,names:=[],isGenerator:=false,isCoroutine:=false }
abbrev CX0:CXT:=fun _ _ _ _ _ _=>False
abbrev E0:XK:=fun _ _ _=>False
theorem pass0 {X:Cx}:Passes CX0 X E0:=fun _ _ _ _ _ _ _ h=>h.elim
structure Fun (K:ar) (x qual:Str) (st:Stmt) (f:Addr) (fd:dq):Prop where
 ex:∃ (oc:ae) (od:Option Addr) (kV doc pm:ae) (an:Option Addr) (cdv ct:ae) (osl:Array (Option ae)),
  fd=eF x qual (defArgs st) (defBody st) (defScope st) .none kV doc pm an cdv ct/\K.lookup f=some ⟨oc,od,.func fd,osl⟩/\gc K cdv qual=true
 kp:fk K (.ref f)=true
section
variable {P:ay} {w:aI} {K:ar} {mg:Str->Option ae} {base:be}
theorem Fun.ok {x qual:Str} {st:Stmt} {f:Addr} {fd:dq} {N ps:List Str} {k:Nat} {sp:Sp} (F:Fun K x qual st f fd) (S:FnScope N ps (defScope st)) (len:∀ vs H Q E,sp vs H Q E->vs.length=ps.length)
  (hbody:∀ (cdv:ae) (A:a6) (outer:List Env) (s:ai) (H:Hp) (vs:List V) (Q:VK) (E:XK),Room k (A.deeper (iS qual (defScope st) s.heap.objs.size f cdv))->sp vs H Q E ->
   ∃ t,PSs (cxOf CX0 P w K mg base N qual (defScope st) f cdv A outer s H E).nox (defBody st) t/\t { nx:=fun _ H'=>Q .non H',rt:=Q } (start N vs) H):FnOk P w K mg base CX0 (k + 1) f fd ps sp:=by
 obtain⟨oc,od,kV,doc,pm,an,cdv,ct,osl,rfl,lk,hcd⟩:=F.ex;refine fn_of lk hcd S len fun A outer s H vs Q E hr hsp=>?_;obtain⟨t,h,q⟩:=hbody cdv A outer s H vs Q E hr hsp;exact⟨t,h.nox,q⟩
theorem Fun.binds {x qual:Str} {st:Stmt} {f:Addr} {fd:dq} {ps:List Str} (F:Fun K x qual st f fd)
  (h:∀ (kV doc pm:ae) (an:Option Addr) (cdv ct:ae) (us:List ae),us.length=ps.length->bindArgs (eF x qual (defArgs st) (defBody st) (defScope st) .none kV doc pm an cdv ct) ⟨us,[]⟩=pure (ps.zip us)):Binds K fd ps []:=by
 obtain⟨oc,od,kV,doc,pm,an,cdv,ct,osl,rfl,lk,hcd⟩:=F.ex;exact .all (h kV doc pm an cdv ct)
theorem fun_mk {x qual:Str} {st:Stmt} {f:Addr} {oc:ae} {od an:Option Addr} {osl:Array (Option ae)} {kV doc pm cdv ct:ae} (l:K.lookup f=some ⟨oc,od,.func (eF x qual (defArgs st) (defBody st) (defScope st) .none kV doc pm an cdv ct),osl⟩)
  (c:gc K cdv qual=true) (k:fk K (.ref f)=true):Fun K x qual st f (eF x qual (defArgs st) (defBody st) (defScope st) .none kV doc pm an cdv ct):=⟨⟨oc,od,kV,doc,pm,an,cdv,ct,osl,rfl,l,c⟩,k⟩
end
theorem ite2 {c A B:Prop} [Decidable c] (h1:c->A) (h2:¬ c->B):if c then A else B:=by
 by_cases h:c
 ·rw[if_pos h];exact h1 h
 ·rw[if_neg h];exact h2 h
def Same (H H':Hp):Prop:=∀ b o,H b=some o->H' b=some o
end L2
set_option maxHeartbeats 4000000
namespace L2
open PySem PySem.Spec PyProof.Rows
theorem closure_of (env:Env):∀ (names:List (Str × eT)) (acc:List (Str × Addr)),(∀ x,(x,aT)∈names->∃ c,env.cells.lookup x=some c)->(∀ x c,acc.lookup x=some c->env.cells.lookup x=some c) ->
  ∃ cl,(forIn names acc fun(y:Str × eT) (cs:List (Str × Addr))=>(if (y.2 == aT)=true then do let a <- cellOf env y.1;pure (bp ((y.1,a)::cs)) else pure (bp cs):Sem (ForInStep (List (Str × Addr)))))=pure cl /\
   (∀ x c,cl.lookup x=some c->env.cells.lookup x=some c)/\(∀ x,((x,aT)∈names\/(acc.lookup x).isSome=true)->(cl.lookup x).isSome=true)
 | [],acc,_,ha=>⟨acc,by rfl,ha,fun x h=>by
   rcases h with h | h
   ·cases h
   ·exact h⟩
 | (n,k)::rest,acc,hn,ha=>by
  by_cases hk:(k == aT)=true
  ·have hk':k=aT:=by cases k <;> first | rfl | cases hk
   subst hk';obtain⟨c,hc⟩:=hn n am;obtain⟨cl,e,h1,h2⟩:=closure_of env rest ((n,c)::acc) (fun x hx=>hn x (ao _ hx)) (fun x d hx=>by
    simp only[cK] at hx
    by_cases hxn:(x == n)=true
    ·rw[hxn] at hx;cases hx;rw[hW hxn];exact hc
    ·rw[eY.mpr hxn] at hx;exact ha x d hx)
   refine⟨cl,?_,h1,fun x hx=>h2 x ?_⟩
   ·rw[dh];have ec:cellOf env n=pure c:=by unfold cellOf;rw[hc]
    simp only[hk,if_true,ec,pure_bind];exact e
   ·rcases hx with hx | hx
    ·rcases aB.mp hx with hx | hx
     ·cases hx;right;simp
     ·exact .inl hx
    ·right
     simp only[cK];cases x == n <;> simp[hx]
  ·obtain⟨cl,e,h1,h2⟩:=closure_of env rest acc (fun x hx=>hn x (ao _ hx)) ha;refine⟨cl,?_,h1,fun x hx=>h2 x ?_⟩
   ·rw[dh];simp only[hk,if_false,pure_bind,aL];exact e
   ·rcases hx with hx | hx
    ·rcases aB.mp hx with hx | hx
     ·cases hx;exact absurd rfl hk
     ·exact .inl hx
    ·exact .inr hx
inductive Cap (N:List Str) (sc:Scope):List Str->List (Option Nat)->Prop
 | nil:Cap N sc [] []
 | own {x xs is}:Cap N sc xs is->Cap N sc (x::xs) (none::is)
 | cap {x xs is i}:N[i]?=some x->(x,aT)∈sc.names->Cap N sc xs is->Cap N sc (x::xs) (some i::is)
theorem Cap.length {N:List Str} {sc:Scope} {xs:List Str} {is:List (Option Nat)} (c:Cap N sc xs is):xs.length=is.length:=by
 induction c with
 | nil=>rfl
 | own _ ih=>simp[ih]
 | cap _ _ _ ih=>simp[ih]
theorem Cap.get {N:List Str} {sc:Scope} {xs:List Str} {is:List (Option Nat)} (c:Cap N sc xs is):∀ {j i:Nat} {x:Str},xs[j]?=some x->is[j]?=some (some i)->N[i]?=some x/\(x,aT)∈sc.names:=by
 induction c with
 | nil=>intro j i x h;simp at h
 | own _ ih =>
  intro j i x h1 h2;cases j with
  | zero=>simp at h2
  | succ j=>exact ih (by simpa using h1) (by simpa using h2)
 | cap hN hf _ ih =>
  intro j i x h1 h2;cases j with
  | zero=>simp at h1 h2;subst h1;subst h2;exact⟨hN,hf⟩
  | succ j=>exact ih (by simpa using h1) (by simpa using h2)
def capt (is:List (Option Nat)) (σ:St):St:=is.map fun o=>o.bind fun i=>(σ[i]?).join
theorem relabel_free {sc:Scope} {env:Env}:∀ {names:List (Str × eT)} {x:Str},(names.lookup x=some .cell\/names.lookup x=some .free)->((names.map fun(n,k)=>if (k == aT && env.scope.kind == .function && env.kindOf n == some .cell) then (n,gJ) else (n,k)).lookup x=some .cell\/(names.map fun(n,k)=>if (k == aT && env.scope.kind == .function && env.kindOf n == some .cell) then (n,gJ) else (n,k)).lookup x=some .free)
 | [],x,h=>by simp at h
 | (n,k)::r,x,h=>by
  simp only[aG]
  by_cases hc:(k == aT && env.scope.kind == .function && env.kindOf n == some .cell)=true
  ·rw[if_pos hc];simp only[cK] at h ⊢;cases hx:x == n with
   | true=>exact .inl rfl
   | false=>rw[hx] at h;exact relabel_free (sc:=sc) h
  ·rw[if_neg hc];simp only[cK] at h ⊢;cases hx:x == n with
   | true=>rw[hx] at h;exact h
   | false=>rw[hx] at h;exact relabel_free (sc:=sc) h
theorem of_relabel {sc:Scope} {env:Env}:∀ {names:List (Str × eT)} {x:Str},((names.map fun(n,k)=>if (k == aT && env.scope.kind == .function && env.kindOf n == some .cell) then (n,gJ) else (n,k)).lookup x=some .cell\/(names.map fun(n,k)=>if (k == aT && env.scope.kind == .function && env.kindOf n == some .cell) then (n,gJ) else (n,k)).lookup x=some .free)->names.lookup x=some .cell\/names.lookup x=some .free
 | [],x,h=>by simp at h
 | (n,k)::r,x,h=>by
  simp only[aG] at h
  by_cases hc:(k == aT && env.scope.kind == .function && env.kindOf n == some .cell)=true
  ·rw[if_pos hc] at h;simp only[cK] at h ⊢;cases hx:x == n with
   | true =>
    right
    have:k == aT:=by
     simp only[aV] at hc;exact hc.1.1
    cases k <;> first | rfl | cases this
   | false=>rw[hx] at h;exact of_relabel (sc:=sc) h
  ·rw[if_neg hc] at h;simp only[cK] at h ⊢;cases hx:x == n with
   | true=>rw[hx] at h;exact h
   | false=>rw[hx] at h;exact of_relabel (sc:=sc) h
theorem mem_of_lk {α β:Type} [BEq α] [LawfulBEq α]:∀ {l:List (α × β)} {x:α} {k:β},l.lookup x=some k->(x,k)∈l
 | (n,k')::r,x,k,h=>by
  simp only[cK] at h;cases hx:x == n with
  | true=>rw[hx] at h;cases h;rw[hW hx];exact am
  | false=>rw[hx] at h;exact ao _ (mem_of_lk h)
def PTs (X:Cx) (ifs:List Expr) (t:TT):Prop :=
 ∀ (pins:List (Addr × Obj)) (s:ai) (σ:St) (H:Hp) (Q:Bool->Hp->Prop),Inv X pins σ H s->t σ H Q ->
  aE (aF X.prog X.w) X.A (forIn ifs true fun c r=>if r=true then do let ok <- isTrue c X.env (eval c X.env);pure (bp ok) else pure (bp r)) (TP X pins σ Q) X.xe s
def tYes:TT:=fun _ H Q=>Q true H
theorem pts_nil {X:Cx}:PTs X [] tYes:=fun pins s σ H Q I h=>wpAny_tests_nil ⟨H,I,h⟩
theorem pts_one {X:Cx} {c:Expr} {t:TT} (h:PT X c t):PTs X [c] t:=fun pins s σ H Q I q=>wpAny_tests_one (h pins s σ H Q I q)
def Wk (σ0 σ2:St):Prop:=σ2.length=σ0.length/\∀ (j:Nat) v,σ0[j]?=some (some v)->σ2[j]?=some (some v)
def okV (names outer:List (Str × eT)):Bool:=names.all fun y=>match y.2 with
 | .free=>match outer.lookup y.1 with
  | some .cell=>true
  | some .free=>true
  | _=>false
 | _=>true
theorem okV_ok {names:List (Str × eT)} {sc:Scope} (h:okV names sc.names=true):∀ y∈names,y.2=.free->Vis sc y.1/\sc.names.lookup y.1≠some .local:=fun y hy hf=>by
 have:=a7.mp h y hy
 rw[hf] at this;unfold Vis;cases q:sc.names.lookup y.1 with
 | none=>rw[q] at this;cases this
 | some k=>rw[q] at this;cases k <;> first | (simp;done) | cases this
structure Bs (mg:Str->Option ae):Prop where
 len:mg "len" = none
 range:mg "range" = none
 sorted:mg "sorted" = none
 tuple:mg "tuple" = none
 list:mg "list" = none
 set:mg "set" = none
 sum:mg "sum" = none
 min:mg "min" = none
 max:mg "max" = none
 all:mg "all" = none
 any:mg "any" = none
 isinstance:mg "isinstance" = none
 int:mg "int" = none
 str:mg "str" = none
 bool:mg "bool" = none
 zip:mg "zip" = none
 enumerate:mg "enumerate" = none
theorem bt_len:bC "len" = some (.builtin "len"):=by decide +kernel
theorem bt_sorted:bC "sorted" = some (.builtin "sorted"):=by decide +kernel
theorem bt_sum:bC "sum" = some (.builtin "sum"):=by decide +kernel
theorem bt_min:bC "min" = some (.builtin "min"):=by decide +kernel
theorem bt_max:bC "max" = some (.builtin "max"):=by decide +kernel
theorem bt_all:bC "all" = some (.builtin "all"):=by decide +kernel
theorem bt_any:bC "any" = some (.builtin "any"):=by decide +kernel
theorem bt_isinstance:bC "isinstance" = some (.builtin "isinstance"):=by decide +kernel
theorem bt_tuple:bC "tuple" = some (.type "tuple"):=by decide +kernel
theorem bt_list:bC "list" = some (.type "list"):=by decide +kernel
theorem bt_set:bC "set" = some (.type "set"):=by decide +kernel
theorem bt_int:bC "int" = some (.type "int"):=by decide +kernel
theorem bt_bool:bC "bool" = some (.type "bool"):=by decide +kernel
structure Df (P:ay) (w:aI) (K:ar) (mg:Str->Option ae) (base:be) (k:Nat) (x:Str) (ps:List Str) (sp:Sp):Prop where
 ex:∃ (f:Addr) (fd:dq),FnOk P w K mg base CX0 k f fd ps sp/\Binds K fd ps []/\fk K (.ref f)=true/\mg x=some (.ref f)
theorem Df.mono {P:ay} {w:aI} {K:ar} {mg:Str->Option ae} {base:be} {j k:Nat} {x:Str} {ps:List Str} {sp:Sp} (D:Df P w K mg base j x ps sp) (h:j<=k):Df P w K mg base k x ps sp:=by
 obtain⟨f,fd,a,b,c,d⟩:=D.ex;exact⟨f,fd,a.mono h,b,c,d⟩
theorem pe_callD {X:Cx} {k:Nat} {x:Str} {ps:List Str} {sp:Sp} {p pos:Pos} {e:Expr} {es:List Expr} {t:TA} (D:Df X.prog X.w X.K X.mg X.base k x ps sp) (hr:Room k X.A) (hg:Gl X x) (ha:PA X (e::es) t)
  (hdb:(x == ("__debug__" : Str))=false:=by decide) (he:ax (e::es) X.env=(false,eval e X.env)::ax es X.env:=by rfl) (hpl:(cw pos (ax es X.env)).any (·.1)=false:=by rfl) :
  PE X (.Call (.Name x p) (e::es) [] pos) (tCall sp [] E0 t):=by
 obtain⟨f,fd,F,hb,hk,hm⟩:=D.ex;exact pe_call F hr hg hm hk hb .nil pass0 ha hdb he hpl
structure Tx (K:ar) (mg:Str->Option ae) (x:Str) (st:Stmt):Prop where
 ex:∃ (f:Addr) (fd:dq),Fun K x x st f fd/\mg x=some (.ref f)
theorem Tx.df {P:ay} {w:aI} {K:ar} {mg:Str->Option ae} {base:be} {k:Nat} {x:Str} {st:Stmt} {ps:List Str} {sp:Sp} (T:Tx K mg x st)
  (b:∀ {f:Addr} {fd:dq},Fun K x x st f fd->Binds K fd ps []) (h:∀ {f:Addr} {fd:dq},Fun K x x st f fd->FnOk P w K mg base CX0 k f fd ps sp):Df P w K mg base k x ps sp:=by
 obtain⟨f,fd,F,m⟩:=T.ex;exact⟨f,fd,h F,b F,F.kp,m⟩
theorem tx_mk {K:ar} {h:be} {mg:Str->Option ae} {x:Str} {st:Stmt} {f:Addr} {od an:Option Addr} {sl:Array (Option ae)} {oc kV dc pm cd ct:ae} (X:K.In h) (G:h.Ns a8 mg)
  (a:bN K a8 x=some (some (.ref f))) (l:K.lookup f=some ⟨oc,od,.func (eF x x (defArgs st) (defBody st) (defScope st) .none kV dc pm an cd ct),sl⟩) (c:gc K cd x=true) (k:fk K (.ref f)=true):Tx K mg x st :=
 ⟨f,_,fun_mk (st:=st) l c k,PySem.W.mg_of X G a⟩
theorem bs_mk {K:ar} {h:be} {mg:Str->Option ae} (X:K.In h) (G:h.Ns a8 mg) (a:∀ x∈(["len", "range", "sorted", "tuple", "list", "set", "sum", "min", "max", "all", "any", "isinstance", "int", "str", "bool", "zip", "enumerate"]:List Str),bN K a8 x=some none):Bs mg:=by
 have q:∀ x∈(["len", "range", "sorted", "tuple", "list", "set", "sum", "min", "max", "all", "any", "isinstance", "int", "str", "bool", "zip", "enumerate"]:List Str),mg x=none:=fun x hx=>PySem.W.mg_none_of X G (a x hx);constructor <;> exact q _ (by decide +kernel)
theorem bs_all {K:ar} (z1:bN K a8 "len" = some none) (z2:bN K a8 "range" = some none) (z3:bN K a8 "sorted" = some none) (z4:bN K a8 "tuple" = some none) (z5:bN K a8 "list" = some none) (z6:bN K a8 "set" = some none)
  (z7:bN K a8 "sum" = some none) (z8:bN K a8 "min" = some none) (z9:bN K a8 "max" = some none) (z10:bN K a8 "all" = some none) (z11:bN K a8 "any" = some none) (z12:bN K a8 "isinstance" = some none)
  (z13:bN K a8 "int" = some none) (z14:bN K a8 "str" = some none) (z15:bN K a8 "bool" = some none) (z16:bN K a8 "zip" = some none) (z17:bN K a8 "enumerate" = some none) :
  ∀ x∈(["len", "range", "sorted", "tuple", "list", "set", "sum", "min", "max", "all", "any", "isinstance", "int", "str", "bool", "zip", "enumerate"]:List Str),bN K a8 x=some none:=fun x hx=>by
 simp only[aB,d5,or_false] at hx;rcases hx with rfl | rfl | rfl | rfl | rfl | rfl | rfl | rfl | rfl | rfl | rfl | rfl | rfl | rfl | rfl | rfl | rfl <;> assumption
theorem pe_ty {X:Cx} {x:Str} {n:String} {pos:Pos} (hg:Gl X x) (hm:X.mg x=none) (hv:bC x=some (.type n)) (hn:x ≠ "__name__":=by decide) (hd:(x == ("__debug__" : Str))=false:=by decide):PE X (.Name x pos) (tC (.ty n)) :=
 pe_bltn hg hm hv (show RelV (.ty n) (.type n) from rfl) hn hd
def subT (t T : String) : Option Bool := if t = T then some true else
  (([("bool", "int", true), ("int", "bool", false), ("str", "int", false), ("str", "bool", false), ("str", "tuple", false), ("tuple", "str", false), ("tuple", "int", false), ("tuple", "bool", false), ("NoneType", "str", false), ("NoneType", "tuple", false), ("NoneType", "int", false), ("NoneType", "bool", false),
    ("int", "str", false), ("int", "tuple", false), ("bool", "str", false), ("bool", "tuple", false), ("list", "tuple", false), ("list", "str", false), ("tuple", "list", false), ("int", "list", false), ("str", "list", false), ("list", "int", false), ("list", "bool", false)] : List (String × String × Bool)).find? fun r => r.1 == t && r.2.1 == T).map (·.2.2)
theorem kit_of {K:ar} {t T:String} {b:Bool} (h:subT t T=some b):ig K (.type t) (.type T)=some b:=by
 unfold subT at h
 by_cases e:t=T
 ·rw[if_pos e] at h;cases h;subst e;unfold ig;rw[if_pos (by exact beq_self_eq_true _)]
 ·rw[if_neg e] at h;rw[bz] at h;obtain⟨r,hr,rfl⟩:=h;have h1:=List.find?_some hr;have h2:=List.mem_of_find?_eq_some hr;simp only[aV,beq_iff_eq] at h1;obtain⟨rfl,rfl⟩:=h1;simp only[aB,d5,or_false] at h2;rcases h2 with rfl | rfl | rfl | rfl | rfl | rfl | rfl | rfl | rfl | rfl | rfl | rfl | rfl | rfl | rfl | rfl | rfl | rfl | rfl | rfl | rfl | rfl | rfl <;> first | rfl | (unfold ig PySem.W.kitCls PySem.W.subIn;kernel_rfl) | kernel_rfl
def rIsi (K:ar):List V->Hp->VK->Prop:=fun xs H Q=>∃ x T t b,xs=[x,.ty T]/\TyOf K H x (.type t)/\subT t T=some b/\Q (.bl b) H
theorem call_isi {X:Cx}:CallR X (.builtin "isinstance") (rIsi X.K):=by
 intro pins s σ H xs us Q I rv h;obtain⟨x,T,t,b,rfl,ty,e,q⟩:=h;obtain⟨u,c,rfl,ru,rc⟩:=rv.two;cases rc;exact isinst_ok I ru ty (kit_of e) fun tk=>⟨.bl b,H,I.tok tk,rfl,q⟩
end L2
set_option maxHeartbeats 1000000
namespace L2
open PySem PySem.Spec PyProof.Rows
def testsOf (ifs:List Expr) (env:Env):Sem Bool:=forIn ifs true fun c r=>if r=true then do let ok <- isTrue c env (eval c env);pure (bp ok) else pure (bp r)
def turnOf (target:Expr) (ifs:List Expr) (at0:Pos) (m:Sem Unit) (c:Code) (it:ae) (env:Env):Sem Fin :=
 jq at0 >>= fun _=>fj it >>= fun r=>match r with
  | none=>pure (.done .next)
  | some v=>fR target it v >>= fun _=>assign target env v >>= fun _=>testsOf ifs env >>= fun ok=>if ok=true then m >>= fun _=>again c else again c
def emitOf (elt:Expr) (acc:ae) (env:Env):Sem Unit:=eval elt env >>= fun x=>call (.builtin "list.append") [acc,x] >>= fun _=>pure ()
theorem turn_one (elt target iter:Expr) (ifs:List Expr) (scope:Scope) (pos:Pos) (it acc:ae) (env:Env) :
  fq (.ListComp elt [⟨target,iter,ifs,0⟩] scope pos) 0 it acc env=turnOf target ifs iter.pos (emitOf elt acc env) (.compLoop (.ListComp elt [⟨target,iter,ifs,0⟩] scope pos) 0 it acc env) it env:=by
 rw[compTurn_list];unfold turnOf testsOf emitOf;refine congrArg _ (funext fun _=>congrArg _ (funext fun r=>?_));cases r with
 | none=>rfl
 | some v =>
  refine congrArg _ (funext fun _=>congrArg _ (funext fun _=>congrArg _ (funext fun ok=>?_)));cases ok <;> rfl
abbrev TB:=St->Hp->(Hp->Prop)->Prop
def PB (X:Cx) (m:Sem Unit) (t:TB):Prop :=
 ∀ (pins:List (Addr × Obj)) (s:ai) (σ:St) (H:Hp) (N:Hp->Prop),Inv X pins σ H s->t σ H N ->
  aE (aF X.prog X.w) X.A m (fun _ s'=>∃ σ' H',Inv X pins σ' H' s'/\Wk σ σ'/\N H') (fun _ _=>False) s
def tEmit (D:Addr) (te:TE):TB:=fun σ H N=>te σ H fun y H4=>∃ zs,H4 D=some (.lst zs)/\zs.length < sizeLine/\N (upd H4 D (.lst (zs++[y])))
def LoopW (J:It) (σ0:St) (g:TG) (tt:TT) (tb:TB) (Q:Hp->Prop) (H:Hp):Prop :=
 ∃ W:Nat->Nat->Hp->Prop,(∃ m,W 0 m H)/\∀ i m H,W i m H ->
  (J.stop i H/\Q H)\/(J.go i H/\∃ N:Hp->Prop,(∀ H',N H'->∃ m',m' < m/\W (i + 1) m' H') /\
   ∀ x H',J.yld i H x H'->g x σ0 H' fun σ2 H2=>Wk σ0 σ2/\tt σ2 H2 fun b H3=>if b=true then tb σ2 H3 N else N H3)
def tComp2 (is:List (Option Nat)) (wi:TI) (g:TG) (tt:TT) (tb:Addr->TB):TE:=fun σ H Q=>wi σ H fun J H1=>∀ D,H1 D=none->LoopW J (capt is σ) g tt (tb D) (Q (.ref D)) (upd H1 D (.lst []))
theorem Wk.refl (σ:St):Wk σ σ:=⟨rfl,fun _ _ h=>h⟩
theorem Wk.trans {a b c:St} (h:Wk a b) (k:Wk b c):Wk a c:=⟨k.1.trans h.1,fun j v e=>k.2 j v (h.2 j v e)⟩
theorem wk_of {σ:St} {i:Nat} {v:V} (h:σ[i]?=some none):Wk σ (σ.set i (some v)):=by
 refine⟨List.length_set,fun j u e=>?_⟩
 by_cases hj:j=i
 ·subst hj;rw[h] at e;cases e
 ·rw[fg (cN hj)];exact e
section
variable {X:Cx}
theorem pb_emit {elt:Expr} {te:TE} {D:Addr} (hxe:X.xe=fun _ _=>False) (he:PE X elt te):PB X (emitOf elt (.ref D) X.env) (tEmit D te):=by
 intro pins s σ H N I h;unfold emitOf;have h1:=he pins s σ H _ I h;rw[hxe] at h1;refine ad (thn h1 fun y s1 ⟨v,H1,I1,r1,zs,hz,hlt,n⟩=>ad ?_);have h2:=mt_append pins s1 σ H1 (.ref D) [v] (.ref D) [y] (fun u Hx=>u=.non/\N Hx) I1 rfl (.cons r1 .nil) ⟨D,zs,v,rfl,rfl,hz,hlt,rfl,n⟩;rw[hxe] at h2;exact thn h2 fun _ s2 ⟨u,H2,I2,_,_,n2⟩=>af ⟨σ,H2,I2,Wk.refl σ,n2⟩
theorem loop_run {e target:Expr} {ifs:List Expr} {at0:Pos} {d:Nat} {acc:ae} {it:Addr} {m:Sem Unit} {g:TG} {tt:TT} {tb:TB} {J:It} {fp:List Addr} {tn:Nat->be->Prop} {Q:Hp->Prop} {R:Result->ai->Prop} {pins:List (Addr × Obj)} {s:ai} {σ:St} {H:Hp}
  (hcalm:X.calm=true) (hxe:X.xe=fun _ _=>False) (hturn:fq e d (.ref it) acc X.env=turnOf target ifs at0 m (.compLoop e d (.ref it) acc X.env) (.ref it) X.env)
  (hfr:(jT e d (.ref it) acc X.env).isFrame=false) (hA:X.A.under (jT e d (.ref it) acc X.env)=X.A)
  (T:Turn X.prog X.w X.K target J fp it tn) (hg:PG X target g) (ht:PTs X ifs tt) (hb:PB X m tb)
  (I:Inv X pins σ H s) (st:tn 0 s.heap) (f:∀ b∈fp,FpOk X pins H b) (h:LoopW J σ g tt tb Q H)
  (fin:∀ H' s',Inv X pins σ H' s'->(∀ b∈fp,FpOk X pins H' b)->Q H'->R (.ok .next) s') :
  gI (aF X.prog X.w) X.A (.compLoop e d (.ref it) acc X.env) R s:=by
 obtain⟨W,⟨m0,w0⟩,turn⟩:=h;have stat:∀ {H':Hp},(∀ b∈fp,H' b=none)->∀ b∈fp,FpOk X pins H' b:=fun hn b hb=>⟨hn b hb,(f b hb).2⟩;refine codeAny_loop rfl (fun n s'=>∃ i H',Inv X pins σ H' s'/\tn i s'.heap/\(∀ b∈fp,H' b=none)/\W i n H') ?_ m0 ⟨0,H,I,st,fun b hb=>(f b hb).1,w0⟩;rintro n s3 ⟨i,H3,I3,st3,fr3,w3⟩;have eden:(aF X.prog X.w).den (.compLoop e d (.ref it) acc X.env)=(fq e d (.ref it) acc X.env).onRaise (fun x=>do noteFrame x X.env;theTreesLotGoes x):=by
  show(if (jT e d (.ref it) acc X.env).isFrame=true then _ else _)=_
  rw[hfr];rfl
 rw[eden,hturn,hA];refine wpAny_noted ?_;unfold turnOf;refine ad (gK ?_);rcases turn i n H3 w3 with⟨stop,qn⟩ | ⟨go,N,hN,step⟩
 ·refine ad (thn (T.done X rfl rfl rfl hcalm i pins s3 σ H3 _ I3 (stat fr3) st3 stop) fun r s4 ⟨hr,I4⟩=>?_);subst hr;exact af (fin H3 s4 I4 (stat fr3) qn)
 ·refine ad (thn (T.item X rfl rfl rfl hcalm i pins s3 σ H3 _ I3 (stat fr3) st3 go) fun r s4 ⟨u,hr,h4⟩=>?_);subst hr;refine ad (thn h4 fun _ s5 ⟨x,H5,I5,r5,y5,st5,fr5⟩=>?_);have I5':=I5.pinned (stat fr5) (T.obj _ _ st5);have q5:=hg _ s5 σ H5 x u _ I5' r5 (step x H5 y5);rw[hxe] at q5;refine ad (d7 q5 (fun _ s6 ⟨σ6,H6,I6,wk6,q6⟩=>?_) fun _ _ z=>z.elim);have q7:=ht _ s6 σ6 H6 _ I6 q6;rw[hxe] at q7;refine ad (d7 q7 (fun ok s7 ⟨H7,I7,q7⟩=>?_) fun _ _ z=>z.elim);have again':∀ {σ8:St} {H8:Hp} {s8:ai},Inv X (pins++pinsAt fp s5.heap) σ8 H8 s8->Wk σ σ8->N H8->∃ m,m < n/\∃ i H',Inv X pins σ H' s8/\tn i s8.heap/\(∀ b∈fp,H' b=none)/\W i m H':=fun {σ8 H8 s8} I8 wk n8=>by
   obtain⟨m',hm,w8⟩:=hN H8 n8;refine⟨m',hm,i + 1,H8,I8.unpinned.weak wk.1.symm wk.2,T.keep _ _ _ st5 fun b hb o e=>(I8.pin (b,o) (bj _ (bj _ (mem_pinsAt hb e)))).1,fun b hb=>?_,w8⟩;obtain⟨o,e,_⟩:=T.obj _ _ st5 b hb;exact(I8.pin (b,o) (bj _ (bj _ (mem_pinsAt hb e)))).2.1
  cases ok with
  | false=>exact af ⟨rfl,again' I7 wk6 q7⟩
  | true =>
   refine ad (d7 (hb _ s7 σ6 H7 N I7 q7) (fun _ s8 ⟨σ8,H8,I8,wk8,n8⟩=>?_) fun _ _ z=>z.elim);exact af ⟨rfl,again' I8 (wk6.trans wk8) n8⟩
end
theorem closure_fr (env:Env):∀ (names:List (Str × eT)) (acc:List (Str × Addr)),(∀ x,(x,aT)∈names->∃ c,env.cells.lookup x=some c) ->
  ∃ cl,(forIn names acc fun(y:Str × eT) (cs:List (Str × Addr))=>(if (y.2 == aT)=true then do let a <- cellOf env y.1;pure (bp ((y.1,a)::cs)) else pure (bp cs):Sem (ForInStep (List (Str × Addr)))))=pure cl /\
   (∀ x c,cl.lookup x=some c->(x,aT)∈names\/acc.lookup x=some c)
 | [],acc,_=>⟨acc,by rfl,fun _ _ h=>.inr h⟩
 | (n,k)::rest,acc,hn=>by
  by_cases hk:(k == aT)=true
  ·have hk':k=aT:=by cases k <;> first | rfl | cases hk
   subst hk';obtain⟨c,hc⟩:=hn n am;obtain⟨cl,e,h1⟩:=closure_fr env rest ((n,c)::acc) (fun x hx=>hn x (ao _ hx));refine⟨cl,?_,fun x d hx=>?_⟩
   ·rw[dh];have ec:cellOf env n=pure c:=by unfold cellOf;rw[hc]
    simp only[hk,if_true,ec,pure_bind];exact e
   ·rcases h1 x d hx with z | z
    ·exact .inl (ao _ z)
    ·simp only[cK] at z;cases hxn:x == n with
     | true=>rw[hW hxn];exact .inl am
     | false=>rw[hxn] at z;exact .inr z
  ·obtain⟨cl,e,h1⟩:=closure_fr env rest acc (fun x hx=>hn x (ao _ hx));refine⟨cl,?_,fun x d hx=>?_⟩
   ·rw[dh];simp only[hk,if_false,pure_bind,aL];exact e
   ·rcases h1 x d hx with z | z
    ·exact .inl (ao _ z)
    ·exact .inr z
theorem closureFor_of' {env:Env} {scope:Scope} (hn:∀ x,(x,aT)∈scope.names->∃ c,env.cells.lookup x=some c) :
  ∃ cl,closureFor scope env=pure cl/\(∀ x c,cl.lookup x=some c->env.cells.lookup x=some c)/\(∀ x,(x,aT)∈scope.names->(cl.lookup x).isSome=true)/\∀ x c,cl.lookup x=some c->(x,aT)∈scope.names:=by
 obtain⟨cl,e,h1,h2⟩:=closure_of env scope.names [] hn (fun x c h=>by cases h)
 obtain⟨cl',e',h3⟩:=closure_fr env scope.names [] hn;have ee:cl=cl':=by
  have:=e.symm.trans e'
  injection this
 subst ee;refine⟨cl,?_,h1,fun x hx=>h2 x (.inl hx),fun x c hx=>(h3 x c hx).elim id fun z=>by cases z⟩
 have q:closureFor scope env=(forIn scope.names ([]:List (Str × Addr)) fun(y:Str × eT) (cs:List (Str × Addr))=>(if (y.2 == aT)=true then do let a <- cellOf env y.1;pure (bp ((y.1,a)::cs)) else pure (bp cs):Sem (ForInStep (List (Str × Addr))))):=by
  unfold closureFor;exact bind_pure _
 rw[q,e]
def ocl (oc:Option Str) (c:Addr) (cl:List (Str × Addr)):List (Str × Addr):=match oc with
 | none=>cl
 | some x=>(x,c)::cl
def ohp (oc:Option Str) (h:be):be:=match oc with
 | none=>h
 | some _=>h.push { cls:=.type "cell",data:=.cell none }
theorem ocl_lk {oc:Option Str} {c d:Addr} {cl:List (Str × Addr)} {x:Str} (h:(ocl oc c cl).lookup x=some d):(oc=some x/\d=c)\/cl.lookup x=some d:=by
 cases oc with
 | none=>exact .inr h
 | some z =>
  unfold ocl at h;simp only[cK] at h;cases hx:x == z with
  | true=>rw[hx] at h;cases h;rw[hW hx];exact .inl ⟨rfl,rfl⟩
  | false=>rw[hx] at h;exact .inr h
theorem ocl_some {oc:Option Str} {c:Addr} {cl:List (Str × Addr)} {x:Str} (h:(cl.lookup x).isSome=true):∃ d,(ocl oc c cl).lookup x=some d:=by
 cases oc with
 | none=>exact cx.mp h
 | some z =>
  unfold ocl;simp only[cK];cases hx:x == z with
  | true=>exact⟨_,rfl⟩
  | false=>exact cx.mp h
theorem ocl_own {c:Addr} {cl:List (Str × Addr)} {x:Str}:(ocl (some x) c cl).lookup x=some c:=by unfold ocl;simp
theorem ohp_keep {oc:Option Str} {h:be} {b:Addr} {o:Obj} (e:h.get? b=some o):(ohp oc h).get? b=some o:=by
 cases oc with
 | none=>exact e
 | some _=>exact ah _ e
def cxComp2 (X:Cx) (N':List Str) (scope:Scope) (cl:List (Str × Addr)) (C:Addr) (fp:List Addr) (s:ai) (H:Hp) (oc:Option Str):Cx :=
 { X with N:=N',s₀:=s,H₀:=H,env:=gO scope cl C X.env,outer:=X.stack,ex:=fp,fn:=fun x=>decide (oc=some x),pn:=[],xe:=fun _ _=>False }
theorem env_new {scope:Scope} {env:Env} {cl:List (Str × Addr)} {M:Model} {A:a6} {E:ae->ai->Prop} {s:ai} {Q:Env->ai->Prop}
  (h:Q { scope:=scope,locals:=s.heap.objs.size,globals:=env.globals,cells:=eK (s.heap.objs.size + 1) scope.names cl,qual:=env.qual,func:=none,code:=env.code,frame:=env.frame,builtins:=env.builtins } { s with heap:=f9 (s.heap.push { cls:=.type "dict",data:=.dict #[] }) scope.names }) :
  aE M A (newFunctionEnv scope env.globals cl [] env.qual none .none (some env)) Q E s:=by
 unfold newFunctionEnv;simp only[Option.isSome_some,if_true];refine ad (wpAny_alloc ?_);refine ad (wpAny_layCells _ (fun name kind cells=>by cases hkc:kind == gJ <;> simp[hkc]) _ _ _ _ ?_)
 rw[show({ s with heap:=s.heap.push { cls:=.type "dict",data:=.dict #[] } }:ai).heap.objs.size=s.heap.objs.size + 1 from cP ..]
 exact ad (af (af h))
section
variable {X:Cx} {pins:List (Addr × Obj)} {σ:St} {H H':Hp} {s s2:ai}
theorem cxComp2_ok {N':List Str} {scope:Scope} {cl:List (Str × Addr)} {fp:List Addr} {oc:Option Str} (I:Inv X pins σ H s) (hf:∀ b∈fp,FpOk X pins H b) (hfl:∀ b∈fp,b < s.heap.objs.size) (hkind:scope.kind=.function)
  (c1:∀ x c,cl.lookup x=some c->X.env.cells.lookup x=some c) (c2:∀ x,(x,aT)∈scope.names->(cl.lookup x).isSome=true) (hcell:∀ y∈scope.names,y.2=.cell->oc=some y.1) (hun:∀ x,oc=some x->cl.lookup x=none) :
  (cxComp2 X N' scope (ocl oc (s.heap.objs.size + 1) cl) s.heap.objs.size fp s H oc).Ok where
 mod:=I.ok.mod
 kind:=hkind
 glob:=I.ok.glob
 blt:=I.ok.blt
 above:=Nat.le_refl _
 inj:=fun x y c h1 h2=>by
  have old:∀ z,cl.lookup z=some (s.heap.objs.size + 1)->False:=fun z e=>by
   obtain⟨v,q⟩:=I.cell z _ (c1 z _ e);exact absurd (show s.heap.objs.size + 1 < s.heap.objs.size from q.lt) (Nat.not_lt.mpr (Nat.le_succ _))
  rcases ocl_lk h1 with⟨e1,rfl⟩ | e1 <;> rcases ocl_lk h2 with⟨e2,e⟩ | e2
  ·rw[e1] at e2;exact aP e2
  ·exact(old y e2).elim
  ·subst e;exact(old x e1).elim
  ·exact I.ok.inj x y c (c1 x c e1) (c1 y c e2)
 has:=fun x hx=>by
  have hx':scope.names.lookup x=some .cell\/scope.names.lookup x=some .free:=of_relabel (sc:=scope) hx;rcases hx' with hx' | hx'
  ·have e:=hcell _ (mem_of_lk hx') rfl;subst e;exact⟨_,ocl_own⟩
  ·exact ocl_some (c2 x (mem_of_lk hx'))
 cab:=fun x c h hc=>by
  have h':oc=some x:=of_decide_eq_true h;rcases ocl_lk hc with⟨_,rfl⟩ | e
  ·exact Nat.le_succ _
  ·rw[hun x h'] at e;cases e
 hd:=I.ok.hd
 frames:=I.ok.frames
 gd:=I.ok.gd
 stk:=.inl rfl
 exf:=fun b hb=>⟨Nat.ne_of_lt (hfl b hb),fun x c e=>by
  rcases ocl_lk e with⟨_,rfl⟩ | e
  ·intro z;exact absurd (show s.heap.objs.size + 1 < s.heap.objs.size from z ▸ hfl b hb) (Nat.not_lt.mpr (Nat.le_succ _))
  ·exact(hf b hb).2.2.2.2.1 x c (c1 x c e)⟩
 bs:=I.bs
 bsz:=Nat.le_trans I.ok.bsz I.sz
 noex:=fun b o e hb=>by
  rcases(hf b hb).2.2.2.1 with z | z
  ·exact I.ok.noex b o e z
  ·have q:=I.ok.bs b o e;exact absurd (Nat.lt_of_lt_of_le (aC q.1) z) (Nat.lt_irrefl _)
 exfs:=fun b hb z=>by
  rcases aB.mp (I.stkSub b z) with e | e
  ·exact(hf b hb).2.1 e
  ·exact(hf b hb).2.2.1 e
 funs:=I.stack
 frf:=I.stkFree
theorem comp2_start {N':List Str} {is:List (Option Nat)} {scope:Scope} {cl:List (Str × Addr)} {fp:List Addr} {oc:Option Str} (I:Inv X pins σ H s) (ok:(cxComp2 X N' scope (ocl oc (s.heap.objs.size + 1) cl) s.heap.objs.size fp s H oc).Ok) (hN:X.N.Nodup)
  (c1:∀ x c,cl.lookup x=some c->X.env.cells.lookup x=some c) (c2:∀ x,(x,aT)∈scope.names->(cl.lookup x).isSome=true) (hu:∀ x,(x,aT)∈scope.names->scope.names.lookup x=some .free) (cp:Cap X.N scope N' is)
  (hV:∀ x,(x,aT)∈scope.names->Vis X.env.scope x/\X.env.scope.names.lookup x≠some .local) (hun:∀ x,oc=some x->cl.lookup x=none) :
  Inv (cxComp2 X N' scope (ocl oc (s.heap.objs.size + 1) cl) s.heap.objs.size fp s H oc) [] (capt is σ) H { s with heap:=ohp oc (s.heap.push { cls:=.type "dict",data:=.dict #[] }) }:=by
 have kp:∀ b o,s.heap.get? b=some o->(ohp oc (s.heap.push { cls:=.type "dict",data:=.dict #[] })).get? b=some o:=fun b o e=>ohp_keep (ah _ e);exact {
 ok:=ok
 os:=rfl
 bare:=I.bare
 base:=Un.kept kp
 loc:=by
  refine⟨_,(be.Ns.new s.heap (.type "dict")).keeps fun b o e=>ohp_keep e,fun j x v e1 e2 e3=>?_⟩;have e1':N'[j]?=some x:=e1;unfold capt at e2;rw[aJ] at e2;cases hi:is[j]? with
  | none=>rw[hi] at e2;cases e2
  | some o =>
   rw[hi] at e2;cases o with
   | none=>cases e2
   | some i =>
    obtain⟨hx,hfree⟩:=cp.get e1' hi;have e2':(σ[i]?).join=some v:=aP e2;have e4:σ[i]?=some (some v):=by
     cases q:σ[i]? with
     | none=>rw[q] at e2';cases e2'
     | some z=>rw[q] at e2';cases z with
      | none=>cases e2'
      | some z=>cases e2';rfl
    obtain⟨m,hn,hl⟩:=I.loc;obtain⟨hvis,hnl⟩:=hV x hfree;obtain⟨u,r,l⟩:=hl i x v hx e4 hvis;refine⟨u,r,.inr ⟨relabel_free (sc:=scope) (.inr (hu x hfree)),?_⟩⟩;rcases l with⟨k,_⟩ | ⟨k,c,e,z⟩
    ·exact absurd k hnl
    ·obtain⟨c',e'⟩:=ocl_some (oc:=oc) (c:=s.heap.objs.size + 1) (c2 x hfree);have ee:c'=c:=by
      rcases ocl_lk e' with⟨z1,_⟩ | z1
      ·have:=c2 x hfree;rw[hun x z1] at this;cases this
      ·have:=c1 x c' z1;rw[e] at this;exact(aP this).symm
     subst ee;obtain⟨oc',hoc,hd⟩:=z;exact⟨c',e',oc',kp c' oc' hoc,hd⟩
 cell:=fun x c e=>by
  rcases ocl_lk (show(ocl oc (s.heap.objs.size + 1) cl).lookup x=some c from e) with⟨z,rfl⟩ | e
  ·subst z;refine⟨none,{ cls:=.type "cell",data:=.cell none },?_,rfl⟩;show((s.heap.push _).push _).get? _=_;rw[<- cP s.heap { cls:=.type "dict",data:=.dict #[] }];exact av _ rfl
  ·obtain⟨v,o,ho,hd⟩:=I.cell x c (c1 x c e);exact⟨v,o,kp c o ho,hd⟩
 free:=I.hok.fresh (Nat.le_refl _)
 freeC:=fun x c e=>by
  rcases ocl_lk (show(ocl oc (s.heap.objs.size + 1) cl).lookup x=some c from e) with⟨z,rfl⟩ | e
  ·exact I.hok.fresh (Nat.le_succ _)
  ·exact I.freeC x c (c1 x c e)
 pin:=fun p hp=>absurd (show p∈([]:List (Addr × Obj)) from hp) (by simp)
 hok:=I.hok.kept kp
 len:=by
  show(capt is σ).length=N'.length;unfold capt;rw[ap,cp.length] }
def FrC (X:Cx) (pins:List (Addr × Obj)) (C:Addr) (H:Hp):Prop:=H C=none/\C≠X.env.locals/\X.s₀.heap.objs.size<=C/\(∀ x c,X.env.cells.lookup x=some c->c≠C)/\∀ p∈X.pn++pins,p.1≠C
theorem FrC.gone {C:Addr} {h':be} (f:FrC X pins C H) (I:Inv X pins σ H s) (sb:cQ C s.heap h'):Inv X pins σ H { s with heap:=h' } :=
 I.turned (t':=s.toks) (fun b o hb e=>(sb.2 b hb).trans e) f.1 f.2.1 (.inr f.2.2.1) f.2.2.2.1 f.2.2.2.2
theorem comp_gen {elt target iter:Expr} {ifs:List Expr} {gs:List eI} {scope:Scope} {pos:Pos} {N':List Str} {is:List (Option Nat)} {wi:TI} {g:TG} {tt:TT} {tb:Addr->TB} {oc:Option Str} {m:ae->Env->Sem Unit} (hcalm:X.calm=true) (hN:X.N.Nodup)
  (hturn:∀ it acc env,fq (.ListComp elt (⟨target,iter,ifs,0⟩::gs) scope pos) 0 it acc env=turnOf target ifs iter.pos (m acc env) (.compLoop (.ListComp elt (⟨target,iter,ifs,0⟩::gs) scope pos) 0 it acc env) it env)
  (cp:Cap X.N scope N' is) (hi:PI X target iter wi)
  (hg:∀ cl C fp s H,PG (cxComp2 X N' scope cl C fp s H oc) target g) (ht:∀ cl C fp s H,PTs (cxComp2 X N' scope cl C fp s H oc) ifs tt) (hb:∀ cl C fp s H D,PB (cxComp2 X N' scope cl C fp s H oc) (m (.ref D) (gO scope cl C X.env)) (tb D))
  (hcf:∀ n acc,eK n scope.names acc=ocl oc n acc) (hpc:∀ h,f9 h scope.names=ohp oc h)
  (hkind:scope.kind=.function) (hcell:∀ y∈scope.names,y.2=.cell->oc=some y.1)
  (hu:∀ y∈scope.names,scope.names.lookup y.1=some y.2) (hoc:∀ x,oc=some x->scope.names.lookup x=some .cell)
  (hVb:okV scope.names X.env.scope.names=true)
  (hs:∀ x,cB iter X.env x=pure x)
  {use:Option (ae->Sem Unit)} {Q:VK} {Qv:ae->ai->Prop} (I:Inv X pins σ H s) (h:tComp2 is wi g tt tb σ H Q)
  (fin:∀ D C H5 s6,Inv X pins σ H5 s6->(∃ m,s6.heap.Ns C m)->FrC X pins C H5->Q (.ref D) H5->compPost (aF X.prog X.w) X.A X.xe use Qv (.ref D) C (.ok .next) s6) :
  aE (aF X.prog X.w) X.A (comprehension (.ListComp elt (⟨target,iter,ifs,0⟩::gs) scope pos) scope X.env (firstIterPos (⟨target,iter,ifs,0⟩::gs) pos) (newList []) (firstAsync (⟨target,iter,ifs,0⟩::gs)) (firstIter (⟨target,iter,ifs,0⟩::gs) X.env) use) Qv X.xe s:=by
 have hV:=okV_ok hVb;have hV':∀ x,(x,aT)∈scope.names->Vis X.env.scope x/\X.env.scope.names.lookup x≠some .local:=fun x hx=>hV (x,.free) hx rfl;have hu':∀ x,(x,aT)∈scope.names->scope.names.lookup x=some .free:=fun x hx=>hu (x,.free) hx;have hnames:∀ x∈scope.names,x.2=.local->scope.names.lookup x.1=some .local:=fun x hx hl=>by rw[hu x hx,hl]
 obtain⟨cl,hclos,c1,c2,c3⟩:=closureFor_of' (env:=X.env) (scope:=scope) fun x hx=>I.ok.has x (by
  obtain⟨v,n⟩:=hV' x hx;rcases v with v | v | v
  ·exact absurd v n
  ·exact .inl v
  ·exact .inr v)
 have hun:∀ x,oc=some x->cl.lookup x=none:=fun x hx=>by
  cases e:cl.lookup x with
  | none=>rfl
  | some c =>
   have:=hu' x (c3 x c e)
   rw[hoc x hx] at this;cases this
 refine wpAny_comprehension_free (use:=use) rfl hs hclos hkind hnames (thn (hi pins s σ H _ I h) fun v s1 h1=>thn h1 fun itv s2 h2=>?_);obtain⟨it,fp,tn,J,H2,rfl,I2,T,st2,f2,q2⟩:=h2;refine bm ?_;have hD:H2 s2.heap.objs.size=none:=I2.hok.fresh (Nat.le_refl _);have fpl:∀ b∈fp,b < s2.heap.objs.size:=fun b hb=>by obtain⟨o,e,_⟩:=T.obj _ _ st2 b hb;exact aC e
 have I3:Inv X pins σ (upd H2 s2.heap.objs.size (.lst [])) { s2 with heap:=s2.heap.push { cls:=.type "list",dict:=none,data:=.seq ([]:List ae).toArray } } :=
  I2.laid (t':=s2.toks) (fun b u e=>ah _ e) (Nat.le_refl _) ⟨Nat.zero_le _,[],0,.nil,av _ rfl⟩
 have st3:tn 0 (s2.heap.push { cls:=.type "list",dict:=none,data:=.seq ([]:List ae).toArray }):=T.keep _ _ _ st2 fun b hb o e=>ah _ e;have f3:∀ b∈fp,FpOk X pins (upd H2 s2.heap.objs.size (.lst [])) b:=fun b hb=>⟨by rw[upd_ne (Nat.ne_of_lt (fpl b hb))];exact(f2 b hb).1,(f2 b hb).2⟩
 have fpl3:∀ b∈fp,b < (s2.heap.push { cls:=.type "list",dict:=none,data:=.seq ([]:List ae).toArray }).objs.size:=fun b hb=>by rw[cP];exact Nat.lt_succ_of_lt (fpl b hb)
 have q3:=q2 _ hD;generalize hDe:s2.heap.objs.size=D at *
 generalize hs3:({ s2 with heap:=s2.heap.push { cls:=.type "list",dict:=none,data:=.seq ([]:List ae).toArray } }:ai)=s3 at *
 have hsh:s3.heap=s2.heap.push { cls:=.type "list",dict:=none,data:=.seq ([]:List ae).toArray }:=by rw[<- hs3]
 rw[<- hsh] at st3 fpl3;have ok:=cxComp2_ok (N':=N') (cl:=cl) (oc:=oc) I3 f3 fpl3 hkind c1 c2 hcell hun;have I4:=comp2_start I3 ok hN c1 c2 hu' cp hV' hun;refine env_new ?_;rw[hcf,hpc];have kp:∀ b o,s3.heap.get? b=some o->(ohp oc (s3.heap.push { cls:=.type "dict",data:=.dict #[] })).get? b=some o:=fun b o e=>ohp_keep (ah _ e);have st4:tn 0 (ohp oc (s3.heap.push { cls:=.type "dict",data:=.dict #[] })):=T.keep _ _ _ st3 fun b _ o e=>kp b o e;have f4:∀ b∈fp,FpOk (cxComp2 X N' scope (ocl oc (s3.heap.objs.size + 1) cl) s3.heap.objs.size fp s3 (upd H2 D (.lst [])) oc) [] (upd H2 D (.lst [])) b:=fun b hb =>
  ⟨(f3 b hb).1,(ok.exf b hb).1,ok.exfs b hb,.inl hb,(ok.exf b hb).2,fun p hp=>absurd (show p∈([]:List (Addr × Obj)) from hp) (by simp)⟩
 have loop:=loop_run (X:=cxComp2 X N' scope (ocl oc (s3.heap.objs.size + 1) cl) s3.heap.objs.size fp s3 (upd H2 D (.lst [])) oc) (e:=.ListComp elt (⟨target,iter,ifs,0⟩::gs) scope pos) (d:=0) (acc:=.ref D)
  (R:=compPost (aF X.prog X.w) X.A X.xe use Qv (.ref D) s3.heap.objs.size) hcalm rfl (hturn _ _ _) rfl rfl T (hg _ _ _ _ _) (ht _ _ _ _ _) (hb _ _ _ _ _ D) I4 st4 f4 q3 (by
   intro H5 s6 I6 _ qn;obtain⟨m6,n6,_⟩:=id I6.loc;have un:Un (frs X.stack) fp (upd H2 D (.lst [])) H5 s3.heap s6.heap:=I6.base;have hok':HOk X.prog X.w H5 s6.heap:=I6.hok;refine fin D s3.heap.objs.size H5 s6 (I3.call' (s':=s6) (ch:=fp) I6.os un hok' I6.bare fun b hb=>⟨(f3 b hb).2.2.2.1,(f3 b hb).2.1,(f3 b hb).2.2.2.2.1,(f3 b hb).2.2.2.2.2⟩) ⟨m6,n6⟩ ⟨I6.free,Nat.ne_of_gt I3.lt,I3.sz,fun x c e z=>?_,fun p hp z=>?_⟩ qn
   ·obtain⟨v,q⟩:=I3.cell x c e;exact absurd q.lt (by rw[z];exact Nat.lt_irrefl _)
   ·exact absurd (aC (I3.pin p hp).1) (by rw[z];exact Nat.lt_irrefl _))
 exact codeAny_compStart_list loop (T.self _ 0 _ _ _ st4 loop)
theorem pe_compG {elt target iter:Expr} {ifs:List Expr} {gs:List eI} {scope:Scope} {pos:Pos} {N':List Str} {is:List (Option Nat)} {wi:TI} {g:TG} {tt:TT} {tb:Addr->TB} {oc:Option Str} {m:ae->Env->Sem Unit} (hcalm:X.calm=true) (hN:X.N.Nodup)
  (hturn:∀ it acc env,fq (.ListComp elt (⟨target,iter,ifs,0⟩::gs) scope pos) 0 it acc env=turnOf target ifs iter.pos (m acc env) (.compLoop (.ListComp elt (⟨target,iter,ifs,0⟩::gs) scope pos) 0 it acc env) it env)
  (cp:Cap X.N scope N' is) (hi:PI X target iter wi)
  (hg:∀ cl C fp s H,PG (cxComp2 X N' scope cl C fp s H oc) target g) (ht:∀ cl C fp s H,PTs (cxComp2 X N' scope cl C fp s H oc) ifs tt) (hb:∀ cl C fp s H D,PB (cxComp2 X N' scope cl C fp s H oc) (m (.ref D) (gO scope cl C X.env)) (tb D))
  (hcf:∀ n acc,eK n scope.names acc=ocl oc n acc:=by intro _ _;rfl) (hpc:∀ h,f9 h scope.names=ohp oc h:=by intro _;rfl)
  (hkind:scope.kind=.function:=by rfl) (hcell:∀ y∈scope.names,y.2=.cell->oc=some y.1:=by decide +kernel)
  (hu:∀ y∈scope.names,scope.names.lookup y.1=some y.2:=by decide +kernel) (hoc:∀ x,oc=some x->scope.names.lookup x=some .cell:=by intro x h;cases h <;> rfl)
  (hVb:okV scope.names X.env.scope.names=true:=by first | rfl | kernel_rfl)
  (hs:∀ x,cB iter X.env x=pure x:=by intro _;rfl) :
  PE X (.ListComp elt (⟨target,iter,ifs,0⟩::gs) scope pos) (tComp2 is wi g tt tb):=by
 intro pins s σ H Q I h;rw[eval_ListComp];refine comp_gen hcalm hN hturn cp hi hg ht hb hcf hpc hkind hcell hu hoc hVb hs I h fun D C H5 s6 I6 ⟨m,n⟩ fc qn=>?_;exact⟨m,n,fun h' sb=>⟨.ref D,H5,fc.gone I6 sb,rfl,qn⟩⟩
theorem ps_setC {x:Str} {i:Nat} {pos' spos:Pos} (hix:X.N[i]?=some x) (hx:Loc X.env.scope x) {elt target iter:Expr} {ifs:List Expr} {gs:List eI} {scope:Scope} {pos:Pos} {N':List Str} {is:List (Option Nat)} {wi:TI} {g:TG} {tt:TT} {tb:Addr->TB} {oc:Option Str} {m:ae->Env->Sem Unit} (hcalm:X.calm=true) (hN:X.N.Nodup)
  (hturn:∀ it acc env,fq (.ListComp elt (⟨target,iter,ifs,0⟩::gs) scope pos) 0 it acc env=turnOf target ifs iter.pos (m acc env) (.compLoop (.ListComp elt (⟨target,iter,ifs,0⟩::gs) scope pos) 0 it acc env) it env)
  (cp:Cap X.N scope N' is) (hi:PI X target iter wi)
  (hg:∀ cl C fp s H,PG (cxComp2 X N' scope cl C fp s H oc) target g) (ht:∀ cl C fp s H,PTs (cxComp2 X N' scope cl C fp s H oc) ifs tt) (hb:∀ cl C fp s H D,PB (cxComp2 X N' scope cl C fp s H oc) (m (.ref D) (gO scope cl C X.env)) (tb D))
  (hcf:∀ n acc,eK n scope.names acc=ocl oc n acc:=by intro _ _;rfl) (hpc:∀ h,f9 h scope.names=ohp oc h:=by intro _;rfl)
  (hkind:scope.kind=.function:=by rfl) (hcell:∀ y∈scope.names,y.2=.cell->oc=some y.1:=by decide +kernel)
  (hu:∀ y∈scope.names,scope.names.lookup y.1=some y.2:=by decide +kernel) (hoc:∀ x,oc=some x->scope.names.lookup x=some .cell:=by intro x h;cases h <;> rfl)
  (hVb:okV scope.names X.env.scope.names=true:=by first | rfl | kernel_rfl)
  (hs:∀ x,cB iter X.env x=pure x:=by intro _;rfl)
  (hsw:gE (.ListComp elt (⟨target,iter,ifs,0⟩::gs) scope pos) (some (.Name x pos')) spos.line X.env=pure true:=by first | rfl | kernel_rfl) (hf:X.fn x=true\/X.env.scope.names.lookup x=some .local:=by first | exact .inl rfl | exact .inr rfl | assumption) :
  PS X (.Assign [.Name x pos'] (.ListComp elt (⟨target,iter,ifs,0⟩::gs) scope pos) spos) (tAsg (tComp2 is wi g tt tb) (gName i)):=by
 intro pins s σ H D I h;rw[exec_Assign_Name_used _ _ _ _ hsw];refine ad (gK (ad ?_));show aE _ _ (comprehension _ _ _ _ _ _ _ (some _) >>= fun _=>pure ()) _ _ _;refine ad (comp_gen (Qv:=fun _ s'=>aE (aF X.prog X.w) X.A (pure ()) _ X.xe s') hcalm hN hturn cp hi hg ht hb hcf hpc hkind hcell hu hoc hVb hs I h fun E C H5 s6 I6 ⟨m,n⟩ fc qn=>?_);refine wpAny_assign_Name (store_ok2 I6 hN hix hx (show RelV (.ref E) (.ref E) from rfl) (fun s7 I7 ⟨a,sb,ha⟩=>?_) hf)
 have hca:C≠a:=by
  rintro rfl;rcases ha with z | z
  ·exact fc.2.1 z
  ·exact fc.2.2.2.1 x C z rfl
 refine⟨m,n.sameBut sb hca,fun h' sb'=>af (af ?_)⟩;exact⟨_,H5,fc.gone I7 sb',qn⟩
end
end L2
set_option maxHeartbeats 4000000
namespace L2
open PySem PySem.Spec PyProof.Rows
abbrev Dn (α:Type):=Hp->V->α->Prop
abbrev Fg:=ar
def dS:Dn Str:=fun _ v x=>v=.str x
def dB:Dn Bool:=fun _ v b=>v=.bl b
def dT {α:Type} (K:Fg) (R:Dn α):Dn (List α):=fun H v ds=>∃ a xs,v=.ref a/\SqT K H a xs/\aZ (R H) xs ds
def dL {α:Type} (K:Fg) (R:Dn α):Dn (List α):=fun H v ds=>∃ a xs,v=.ref a/\SqL K H a xs/\aZ (R H) xs ds
def SameT (H H':Hp):Prop:=∀ a xs,Rd H a (.tup xs)->Rd H' a (.tup xs)
theorem Same.t {H H':Hp} (h:Same H H'):SameT H H':=fun a xs r=>by
 rcases r with r | ⟨o,r⟩
 ·exact .inl (h _ _ r)
 ·exact .inr ⟨o,h _ _ r⟩
theorem same_upd {H:Hp} {p:Addr} {o:HO} (h:H p=none):Same H (upd H p o):=fun b o' e=>by
 rw[upd_ne (by rintro rfl;rw[h] at e;cases e)];exact e
theorem SqT.stay {K:Fg} {H H':Hp} {a:Addr} {xs:List V} (h:SqT K H a xs) (s:SameT H H'):SqT K H' a xs:=h.elim (fun r=>.inl (s a xs r)) .inr
class Im {α:Type} (R:Dn α):Prop where
 im:∀ {H H' v d},SameT H H'->R H v d->R H' v d
class Mo {α:Type} (R:Dn α):Prop where
 mo:∀ {H H' v d},Same H H'->R H v d->R H' v d
instance (priority:=low) {α:Type} {R:Dn α} [Im R]:Mo R:=⟨fun s r=>Im.im s.t r⟩
theorem Paired.imp {α β:Type} {F G:α->β->Prop} (h:∀ a b,F a b->G a b):∀ {l:List α} {m:List β},aZ F l m->aZ G l m
 | _,_,.nil=>.nil
 | _,_,.cons p q=>.cons (h _ _ p) (Paired.imp h q)
instance:Im dS:=⟨fun _ h=>h⟩
instance {α:Type} {K:Fg} {R:Dn α} [Im R]:Im (dT K R):=⟨fun s ⟨a,xs,e,q,p⟩=>⟨a,xs,e,q.stay s,Paired.imp (fun _ _ r=>Im.im s r) p⟩⟩
theorem beq_dec {α:Type} [DecidableEq α] [BEq α] [LawfulBEq α] (a b:α):(a == b)=decide (a=b):=by
 by_cases h:a=b
 ·subst h;simp
 ·simp[h]
theorem Paired.get' {α β:Type} {F:α->β->Prop}:∀ {l:List α} {m:List β} {i:Nat} {a:α},aZ F l m->l[i]?=some a->∃ b,m[i]?=some b/\F a b
 | _,_,_,_,.nil,h=>by simp at h
 | _,_,0,_,.cons p _,h=>by simp at h;subst h;exact⟨_,rfl,p⟩
 | _,_,i + 1,a,.cons _ q,h=>by
  obtain⟨b,e,f⟩:=Paired.get' (i:=i) (a:=a) q (by simpa using h)
  exact⟨b,by simpa using e,f⟩
theorem all_eq {α:Type} [DecidableEq α]:∀ (ds es:List α),((aY (min ds.length es.length)).all fun j=>decide (ds[j]?=es[j]?))=true->ds.length=es.length->ds=es:=fun ds es h hl=>by
 apply gk;intro i
 by_cases hi:i < ds.length
 ·have:=a7.mp h i (bh.mpr (by lia))
  exact of_decide_eq_true this
 ·rw[bP (by lia),bP (by lia)]
theorem seq_ans {α:Type} [DecidableEq α] (ds es:List α) (n m:Nat) (hn:n=ds.length) (hm:m=es.length):((aY (min n m)).all (fun j=>decide (ds[j]?=es[j]?)) && (n == m))=decide (ds=es):=by
 subst hn;subst hm
 by_cases h:ds=es
 ·subst h;simp
 ·rw[decide_eq_false h,Bool.and_eq_false_iff]
  by_cases hl:ds.length=es.length
  ·left
   cases q:(aY (min ds.length es.length)).all fun j=>decide (ds[j]?=es[j]?) with
   | false=>rfl
   | true=>exact absurd (all_eq ds es q hl) h
  ·right;simpa using hl
variable {α β γ:Type}
end L2
namespace ST
open PySem PySem.SetTable
def step (mask:Nat) (p:Probe):Probe :=
 if p.more > 0 then { p with j:=p.j + 1,more:=p.more - 1 } else
 { p with j:=(leap mask p.i p.perturb).1,more:=runEnd mask (leap mask p.i p.perturb).1 - (leap mask p.i p.perturb).1,i:=(leap mask p.i p.perturb).1,perturb:=(leap mask p.i p.perturb).2 }
theorem advance_eq (t:aX) (p:Probe):t.advance p=step t.mask p:=by
 unfold aX.advance step
 split <;> rfl
def road (mask:Nat):Nat->Probe->Probe
 | 0,p=>p
 | m + 1,p=>road mask m (step mask p)
theorem road_succ (mask:Nat):∀ (m:Nat) (p:Probe),road mask (m + 1) p=step mask (road mask m p)
 | 0,_=>rfl
 | m + 1,p=>by
  show road mask (m + 1) (step mask p)=step mask (road mask m (step mask p));exact road_succ mask m (step mask p)
theorem road_add (mask:Nat):∀ (a b:Nat) (p:Probe),road mask (a + b) p=road mask b (road mask a p)
 | 0,b,p=>by rw[Nat.zero_add];rfl
 | a + 1,b,p=>by
  rw[Nat.add_right_comm];show road mask (a + b) (step mask p)=road mask b (road mask a (step mask p));exact road_add mask a b _
theorem step_dummy (mask:Nat) (p:Probe):(step mask p).dummy=p.dummy:=by unfold step;split <;> rfl
theorem runEnd_le (mask i:Nat) (h:i<=mask):i<=runEnd mask i/\runEnd mask i<=mask/\runEnd mask i<=i + 9:=by
 unfold runEnd;split <;> lia
structure PV (mask:Nat) (p:Probe):Prop where
 more:p.more<=9
 i:p.i<=mask
 j:p.j + p.more<=mask
 pt:p.perturb < 2 ^ 64
theorem leap_le (mask i pt:Nat):(leap mask i pt).1<=mask:=by
 unfold leap
 have:=Nat.mod_lt (i * 5 + 1 + pt / 32) (show 0 < mask + 1 by lia)
 show(i * 5 + 1 + pt / 32) % (mask + 1)<=mask;lia
theorem PV.step {mask:Nat} {p:Probe} (v:PV mask p):PV mask (ST.step mask p):=by
 unfold ST.step;have h1:=v.more;have h2:=v.i;have h3:=v.j;have h4:=v.pt
 split
 ·exact⟨by dsimp only;lia,h2,by dsimp only;lia,h4⟩
 ·have l:=leap_le mask p.i p.perturb;have r:=runEnd_le mask _ l;refine⟨by dsimp only;lia,l,by dsimp only;lia,?_⟩
  show p.perturb / 32 < 2 ^ 64;exact Nat.lt_of_le_of_lt (Nat.div_le_self _ _) h4
theorem PV.road {mask:Nat}:∀ (m:Nat) {p:Probe},PV mask p->PV mask (ST.road mask m p)
 | 0,_,v=>v
 | m + 1,_,v=>PV.road m v.step
theorem bits_lt (h:Int):bits h < 2 ^ 64:=by
 unfold bits;have h1:=jC h (show(2 ^ 64:Int)≠0 by decide)
 have h2:=io h (show(0:Int) < 2 ^ 64 by decide)
 have:(2:Int) ^ 64=18446744073709551616:=by decide
 have:(2:Nat) ^ 64=18446744073709551616:=by decide
 lia
def start (mask:Nat) (h:Int):Probe:={ j:=bits h % (mask + 1),more:=runEnd mask (bits h % (mask + 1)) - bits h % (mask + 1),i:=bits h % (mask + 1),perturb:=bits h,dummy:=none }
theorem start_pv (mask:Nat) (h:Int):PV mask (start mask h):=by
 have l:bits h % (mask + 1)<=mask:=Nat.le_of_lt_succ (Nat.mod_lt _ (Nat.succ_pos mask));have r:=runEnd_le mask _ l;exact⟨by show _ - _<=9;lia,l,by show bits h % (mask + 1) + (runEnd mask (bits h % (mask + 1)) - bits h % (mask + 1))<=mask;lia,bits_lt h⟩
theorem in_run (mask:Nat):∀ (k:Nat) (p:Probe),k<=p.more->road mask k p={ p with j:=p.j + k,more:=p.more - k }
 | 0,p,_=>rfl
 | k + 1,p,h=>by
  show road mask k (step mask p)=_;have e:step mask p={ p with j:=p.j + 1,more:=p.more - 1 }:=by unfold step;rw[if_pos (by lia)]
  rw[e,in_run mask k _ (by show k<=p.more - 1;lia)]
  show({ j:=p.j + 1 + k,more:=p.more - 1 - k,i:=p.i,perturb:=p.perturb,dummy:=p.dummy }:Probe)={ j:=p.j + (k + 1),more:=p.more - (k + 1),i:=p.i,perturb:=p.perturb,dummy:=p.dummy };rw[show p.j + 1 + k=p.j + (k + 1) by lia,show p.more - 1 - k=p.more - (k + 1) by lia]
theorem to_leap (mask:Nat) (p:Probe):road mask (p.more + 1) p={ p with j:=(leap mask p.i p.perturb).1,more:=runEnd mask (leap mask p.i p.perturb).1 - (leap mask p.i p.perturb).1,i:=(leap mask p.i p.perturb).1,perturb:=(leap mask p.i p.perturb).2 }:=by
 rw[road_succ,in_run mask p.more p (Nat.le_refl _)];unfold step;rw[if_neg (by show ¬ p.more - p.more > 0;lia)]
def leaps (mask:Nat):Nat->Nat × Nat->Nat × Nat
 | 0,s=>s
 | l + 1,s=>leaps mask l (leap mask s.1 s.2)
theorem leaps_succ (mask:Nat):∀ (l:Nat) (s:Nat × Nat),leaps mask (l + 1) s=leap mask (leaps mask l s).1 (leaps mask l s).2
 | 0,_=>rfl
 | l + 1,s=>by
  show leaps mask (l + 1) (leap mask s.1 s.2)=_;exact leaps_succ mask l _
theorem leaps_pt (mask:Nat):∀ (l:Nat) (s:Nat × Nat),(leaps mask l s).2=s.2 / 32 ^ l
 | 0,s=>by simp[leaps]
 | l + 1,s=>by
  rw[leaps_succ];show(leaps mask l s).2 / 32=_;rw[leaps_pt mask l s,Nat.div_div_eq_div_mul,Nat.pow_succ]
theorem far (mask:Nat):∀ (l:Nat) (p:Probe),PV mask p->∃ m,m<=10 * l/\(road mask m p).i=(leaps mask l (p.i,p.perturb)).1/\(road mask m p).perturb=(leaps mask l (p.i,p.perturb)).2/\(0 < l->(road mask m p).j=(road mask m p).i)
 | 0,p,_=>⟨0,Nat.le_refl _,rfl,rfl,fun h=>absurd h (Nat.lt_irrefl _)⟩
 | l + 1,p,v=>by
  obtain⟨m,h1,h2,h3,h4⟩:=far mask l p v;have v':=PV.road m v;refine⟨m + ((road mask m p).more + 1),?_,?_⟩
  ·have:=v'.more;lia
  ·rw[road_add,to_leap,leaps_succ,<- h2,<- h3];exact⟨rfl,rfl,fun _=>rfl⟩
def f5 (N x:Nat):Nat:=(x * 5 + 1) % N
def f5s (N:Nat):Nat->Nat->Nat
 | 0,x=>x
 | a + 1,x=>f5s N a (f5 N x)
theorem f5s_add (N:Nat):∀ (a b x:Nat),f5s N (a + b) x=f5s N b (f5s N a x)
 | 0,b,x=>by rw[Nat.zero_add];rfl
 | a + 1,b,x=>by rw[Nat.add_right_comm];exact f5s_add N a b _
def orbit (N:Nat):Nat->Nat->List Nat->List Nat
 | 0,_,acc=>acc
 | a + 1,x,acc=>orbit N a (f5 N x) (x::acc)
theorem mem_orbit (N:Nat):∀ (a x:Nat) (acc:List Nat) (y:Nat),y∈orbit N a x acc->y∈acc\/∃ b,b < a/\f5s N b x=y
 | 0,_,_,_,h=>.inl h
 | a + 1,x,acc,y,h=>by
  rcases mem_orbit N a (f5 N x) (x::acc) y h with h | ⟨b,hb,e⟩
  ·rcases aB.mp h with h | h
   ·exact .inr ⟨0,Nat.succ_pos _,h.symm⟩
   ·exact .inl h
  ·exact .inr ⟨b + 1,Nat.succ_lt_succ hb,e⟩
def Full (N:Nat):Prop:=f5s N N 0=0/\∀ y,y < N->∃ b,b < N/\f5s N b 0=y
theorem full_of {N:Nat} (h:(f5s N N 0 == 0 && (aY N).all fun y=>(orbit N N 0 []).contains y)=true):Full N:=by
 simp only[aV,beq_iff_eq,a7,bh] at h;refine⟨h.1,fun y hy=>?_⟩;have q:=h.2 y hy;rcases mem_orbit N N 0 [] y (by simpa using q) with z | z
 ·cases z
 ·exact z
theorem Full.from {N:Nat} (F:Full N) {x y:Nat} (hx:x < N) (hy:y < N):∃ a,a < N/\f5s N a x=y:=by
 obtain⟨b,hb,eb⟩:=F.2 x hx;obtain⟨c,hc,ec⟩:=F.2 y hy
 by_cases h:b<=c
 ·refine⟨c - b,by lia,?_⟩
  rw[<- eb,<- f5s_add,show b + (c - b)=c by lia,ec]
 ·refine⟨N - b + c,by lia,?_⟩
  rw[<- eb,<- f5s_add,show b + (N - b + c)=N + c by lia,f5s_add,F.1,ec]
theorem full8:Full 8:=full_of (by decide +kernel)
theorem full32:Full 32:=full_of (by decide +kernel)
theorem full128:Full 128:=full_of (by decide +kernel)
theorem full512:Full 512:=full_of (by decide +kernel)
def Mask (mask:Nat):Prop:=mask=7\/mask=31\/mask=127\/mask=511
theorem Mask.full {mask:Nat} (h:Mask mask):Full (mask + 1):=by
 rcases h with rfl | rfl | rfl | rfl
 ·exact full8
 ·exact full32
 ·exact full128
 ·exact full512
theorem leaps_f5 {mask:Nat}:∀ (a:Nat) (s:Nat × Nat),s.2 < 32->(leaps mask a s).1=f5s (mask + 1) a s.1
 | 0,_,_=>rfl
 | a + 1,s,h=>by
  show(leaps mask a (leap mask s.1 s.2)).1=f5s (mask + 1) a (f5 (mask + 1) s.1);have e:s.2 / 32=0:=Nat.div_eq_of_lt h;have e1:(leap mask s.1 s.2).1=f5 (mask + 1) s.1:=by
   show(s.1 * 5 + 1 + s.2 / 32) % (mask + 1)=_;rw[e];rfl
  rw[leaps_f5 a _ (by show s.2 / 32 < 32;lia),e1]
theorem leaps_add (mask:Nat):∀ (a b:Nat) (s:Nat × Nat),leaps mask (a + b) s=leaps mask b (leaps mask a s)
 | 0,b,s=>by rw[Nat.zero_add];rfl
 | a + 1,b,s=>by rw[Nat.add_right_comm];exact leaps_add mask a b _
theorem cover {mask:Nat} (hm:Mask mask) {p:Probe} (v:PV mask p) {y:Nat} (hy:y<=mask):∃ m,m < 10 * (mask + 15)/\(road mask m p).j=y:=by
 have h12:(leaps mask 12 (p.i,p.perturb)).1 < mask + 1:=by
  rw[leaps_succ mask 11];exact Nat.lt_succ_of_le (leap_le _ _ _)
 have hp:(leaps mask 12 (p.i,p.perturb)).2 < 32:=by
  rw[leaps_pt]
  have:=v.pt
  show p.perturb / 32 ^ 12 < 32;have e:(2:Nat) ^ 64=18446744073709551616:=by decide
  have e2:(32:Nat) ^ 12=1152921504606846976:=by decide
  rw[e2];lia
 obtain⟨a,ha,ea⟩:=hm.full.from h12 (Nat.lt_succ_of_le hy)
 obtain⟨m,h1,h2,_,h4⟩:=far mask (12 + a) p v;refine⟨m,by lia,?_⟩
 rw[h4 (by lia),h2,leaps_add,leaps_f5 a _ hp,ea]
def Ris (xs:List Nat):Prop:=xs.Pairwise (· < ·)
theorem below_go (xs:Array Nat) (j:Nat) (hr:Ris xs.toList):∀ (fuel lo hi:Nat),hi - lo<=fuel->lo<=hi->hi<=xs.size->(∀ i,i < lo->xs.getD i j < j)->(∀ i,hi<=i->i < xs.size->j<=xs.getD i j) ->
  below.go xs j fuel lo hi<=xs.size/\(∀ i,i < below.go xs j fuel lo hi->xs.getD i j < j)/\∀ i,below.go xs j fuel lo hi<=i->i < xs.size->j<=xs.getD i j
 | 0,lo,hi,hf,hl,hs,h1,h2=>by
  have e:lo=hi:=by lia
  subst e;exact⟨hs,h1,h2⟩
 | fuel + 1,lo,hi,hf,hl,hs,h1,h2=>by
  unfold below.go
  by_cases hlt:lo < hi
  ·rw[if_pos hlt];have mlt:(lo + hi) / 2 < xs.size:=by lia
   have mono:∀ a b,a<=b->b < xs.size->xs.getD a j<=xs.getD b j:=fun a b hab hb=>by
    rcases Nat.lt_or_eq_of_le hab with h | h
    ·have q:=(bT.mp hr) a b (by simpa using Nat.lt_trans h hb) (by simpa using hb) h
     simp only[gF,hb,Nat.lt_trans h hb,dif_pos];simpa using Nat.le_of_lt q
    ·subst h;exact Nat.le_refl _
   show(if xs.getD ((lo + hi) / 2) j < j then _ else _)<=_/\_
   by_cases hc:xs.getD ((lo + hi) / 2) j < j
   ·simp only[hc,if_true];exact below_go xs j hr fuel _ hi (by lia) (by lia) hs (fun i hi'=>Nat.lt_of_le_of_lt (mono i ((lo + hi) / 2) (by lia) mlt) hc) h2
   ·simp only[hc,if_false];exact below_go xs j hr fuel lo _ (by lia) (by lia) (by lia) h1 (fun i hi' hs'=>Nat.le_trans (Nat.le_of_not_lt hc) (mono _ i hi' hs'))
  ·rw[if_neg hlt];have e:lo=hi:=by lia
   subst e;exact⟨hs,h1,h2⟩
theorem below_spec {xs:Array Nat} (hr:Ris xs.toList) (j:Nat):below xs j<=xs.size/\(∀ i,i < below xs j->xs.getD i j < j)/\∀ i,below xs j<=i->i < xs.size->j<=xs.getD i j :=
 below_go xs j hr xs.size 0 xs.size (by lia) (by lia) (Nat.le_refl _) (fun i h=>absurd h (Nat.not_lt_zero _)) (fun i h h'=>absurd h' (Nat.not_lt.mpr h))
theorem below_at {xs:Array Nat} (hr:Ris xs.toList) {i j:Nat} (h:xs[i]?=some j):below xs j=i:=by
 obtain⟨hi,e⟩:=c8.mp h;obtain⟨b1,b2,b3⟩:=below_spec hr j;have eg:∀ k,k < xs.size->xs.getD k j=xs.getD k 0:=fun k hk=>by simp[gF,hk]
 have ei:xs.getD i j=j:=by simp[gF,hi,e]
 have inc:∀ a b,a < b->b < xs.size->xs.getD a j < xs.getD b j:=fun a b hab hb=>by
  have q:=(bT.mp hr) a b (by simpa using Nat.lt_trans hab hb) (by simpa using hb) hab
  simp only[gF,hb,Nat.lt_trans hab hb,dif_pos];simpa using q
 rcases Nat.lt_trichotomy (below xs j) i with h | h | h
 ·have q1:=inc _ _ h hi;have q2:=b3 _ (Nat.le_refl _) (Nat.lt_trans h hi);lia
 ·exact h
 ·have q:=b2 i h;lia
structure Tab (t:aX):Prop where
 mask:Mask t.mask
 nodum:t.dummies=#[]
 ris:Ris t.place.toList
 top:∀ j∈t.place.toList,j<=t.mask
theorem slot_of {t:aX} (T:Tab t) {j i:Nat} (h:t.place[i]?=some j):t.slot j=.live i:=by
 unfold aX.slot;dsimp only;rw[below_at T.ris h,h];simp
theorem slot_free {t:aX} (T:Tab t) {j:Nat} (h:j∉t.place.toList):t.slot j=.empty:=by
 unfold aX.slot;dsimp only;have e:(t.place[below t.place j]? == some j)=false:=by
  cases q:t.place[below t.place j]? == some j with
  | false=>rfl
  | true =>
   have:=hW q
   obtain⟨hi,e⟩:=c8.mp this;exact absurd (by rw[<- e];simp) h
 rw[e];simp only[aL,if_false];have e2:has t.dummies j=false:=by rw[T.nodum];unfold has;simp
 rw[e2];simp
theorem slot_cases {t:aX} (T:Tab t) (j:Nat):(∃ i,t.slot j=.live i/\t.place[i]?=some j)\/(t.slot j=.empty/\j∉t.place.toList):=by
 by_cases h:j∈t.place.toList
 ·obtain⟨i,hi,e⟩:=bn h;have q:t.place[i]?=some j:=by
   rw[c8];exact⟨by simpa using hi,by simpa using e⟩
  exact .inl ⟨i,slot_of T q,q⟩
 ·exact .inr ⟨slot_free T h,h⟩
theorem go_spec {t : aX} (T : Tab t) (hashAt : Nat -> Int) (h : Int) : ∀ (fuel : Nat) (p : Probe), p.dummy = none -> (∃ m, m < fuel /\ (road t.mask m p).j ∉ t.place.toList) ->
    ∃ m, m < fuel /\ (∀ m', m' < m -> ∃ i, t.place[i]? = some (road t.mask m' p).j /\ hashAt i ≠ h) /\
      (((road t.mask m p).j ∉ t.place.toList /\ probe.go t hashAt h fuel p = some (.empty (road t.mask m p).j none)) \/
       ∃ i, t.place[i]? = some (road t.mask m p).j /\ t.slot (road t.mask m p).j = .live i /\ hashAt i = h /\ probe.go t hashAt h fuel p = some (.candidate (road t.mask m p).j i (road t.mask (m + 1) p)))
  | 0, p, _, ⟨m, hm, _⟩ => absurd hm (Nat.not_lt_zero _)
  | fuel + 1, p, hd, ⟨m, hm, hf⟩ => by
    unfold probe.go;rcases slot_cases T p.j with⟨i, e, q⟩ | ⟨e, q⟩
    · rw [e]
      dsimp only
      by_cases hh : hashAt i = h
      · refine⟨0, Nat.succ_pos _, fun _ h' => absurd h' (Nat.not_lt_zero _), .inr ⟨i, q, e, hh, ?_⟩⟩
        rw [if_pos (by simpa using hh), advance_eq]
        rfl
      · rw [if_neg (by simpa using hh), advance_eq]
        cases m with
        | zero => exact absurd (cT.mpr (eX q)) hf
        | succ m =>
          obtain⟨m1, h1, h2, h3⟩ := go_spec T hashAt h fuel (step t.mask p) (by rw [step_dummy]; exact hd) ⟨m, by lia, hf⟩
          refine⟨m1 + 1, by lia, fun m' hm' => ?_, h3⟩
          cases m' with
          | zero => exact⟨i, q, hh⟩
          | succ m' => exact h2 m' (by lia)
    · rw [e]
      exact⟨0, Nat.succ_pos _, fun _ h' => absurd h' (Nat.not_lt_zero _), .inl ⟨q, by rw [hd]; rfl⟩⟩
theorem free_place {t:aX} (T:Tab t) (hn:t.place.size<=t.mask):∃ y,y<=t.mask/\y∉t.place.toList:=by
 apply aK;intro hno;have all:∀ y,y < t.mask + 1->y∈t.place.toList:=fun y hy=>aK fun h=>hno ⟨y,Nat.le_of_lt_succ hy,h⟩;have hl:(aY (t.mask + 1)).length<=t.place.toList.length:=by
  apply List.Nodup.length_le_of_subset List.nodup_range;intro y hy;exact all y (bh.mp hy)
 rw[dN] at hl
 have:t.place.toList.length=t.place.size:=by simp
 lia
theorem probe_spec {t : aX} (T : Tab t) (hn : t.place.size <= t.mask) (hashAt : Nat -> Int) (h : Int) {p : Probe} (v : PV t.mask p) (hd : p.dummy = none) :
    ∃ m, (∀ m', m' < m -> ∃ i, t.place[i]? = some (road t.mask m' p).j /\ hashAt i ≠ h) /\
      (((road t.mask m p).j ∉ t.place.toList /\ t.probe hashAt h p = some (.empty (road t.mask m p).j none)) \/
       ∃ i, t.place[i]? = some (road t.mask m p).j /\ t.slot (road t.mask m p).j = .live i /\ hashAt i = h /\ t.probe hashAt h p = some (.candidate (road t.mask m p).j i (road t.mask (m + 1) p))) := by
  obtain⟨y, hy, hf⟩ := free_place T hn;obtain⟨m, hm, e⟩ := cover T.mask v hy;obtain⟨m1, _, h2, h3⟩ := go_spec T hashAt h (10 * turns t.mask) p hd ⟨m, hm, by rw [e]; exact hf⟩
  exact⟨m1, h2, h3⟩
end ST
set_option autoImplicit false
namespace ST
open PySem PySem.SetTable
theorem insertAt_list {α:Type} (xs:Array α) (p:Nat) (x:α) (h:p<=xs.size):(insertAt xs p x).toList=xs.toList.take p++x::xs.toList.drop p:=by
 unfold insertAt;simp only[ce,cj,Array.toList_extract,aR,List.singleton_append];simp only[List.extract,gl,Nat.sub_zero];rw[bq (l:=List.drop p xs.toList) (by simp)]
theorem insert_get {α:Type} {l:List α} {p i:Nat} {x y:α} (hp:p<=l.length) (h:(l.take p++x::l.drop p)[i]?=some y):(i < p/\l[i]?=some y)\/(i=p/\y=x)\/(p < i/\l[i - 1]?=some y):=by
 have hl:(l.take p).length=p:=by rw[aS];lia
 rcases Nat.lt_trichotomy i p with c | c | c
 ·left
  rw[cL (by lia),fK c] at h
  exact⟨c,h⟩
 ·right;left
  subst c;rw[bL (by lia),hl,Nat.sub_self] at h
  simp at h;exact⟨rfl,h.symm⟩
 ·right;right
  rw[bL (by lia),hl] at h
  rw[show i - p=(i - 1 - p) + 1 by lia,i9,List.getElem?_drop] at h
  rw[show p + (i - 1 - p)=i - 1 by lia] at h
  exact⟨c,h⟩
structure SetI (es:Array (Int × ae)) (t:aX):Prop where
 tab:Tab t
 size:t.place.size=es.size
 room:es.size * 5 < t.mask * 3
 reach:∀ (i j:Nat) (e:Int × ae),t.place[i]?=some j->es[i]?=some e->∃ r,(road t.mask r (start t.mask e.1)).j=j/\∀ r',r' < r->(road t.mask r' (start t.mask e.1)).j∈t.place.toList
theorem SetI.le {es:Array (Int × ae)} {t:aX} (I:SetI es t):t.place.size<=t.mask:=by have:=I.size;have:=I.room;lia
theorem SetI.fits {es:Array (Int × ae)} {t:aX} (I:SetI es t):t.fits es.size=true:=by
 unfold jU jV;rw[I.tab.nodum,I.size]
 have:=I.room
 simp only[aV,beq_iff_eq,decide_eq_true_eq];refine⟨trivial,?_⟩;simp;lia
theorem SetI.way {es:Array (Int × ae)} {t:aX} (I:SetI es t):t.gaveWay=false:=by
 unfold aX.gaveWay;rcases I.tab.mask with e | e | e | e <;> rw[e] <;> rfl
theorem fresh_ok (f m:Nat) (led:Bool):SetI #[] (jN f m led) where
 tab:=⟨.inl rfl,rfl,.nil,fun j h=>by simp[jN] at h⟩
 size:=rfl
 room:=by show 0 * 5 < 7 * 3;decide
 reach:=fun i j e h=>by simp[jN] at h
structure Put (t t':aX) (j p:Nat):Prop where
 tab:Tab t'
 mask:t'.mask=t.mask
 le:p<=t.place.size
 place:t'.place.toList=t.place.toList.take p++j::t.place.toList.drop p
theorem put_ok {t : aX} (T : Tab t) {j : Nat} (hj : j <= t.mask) (hf : j ∉ t.place.toList) : Put t (t.put j).1 j (t.put j).2 := by
  obtain⟨b1, b2, b3⟩ := below_spec T.ris j;have e : (t.put j).1.place.toList = t.place.toList.take (below t.place j) ++ j :: t.place.toList.drop (below t.place j) := insertAt_list _ _ _ b1;have e2 : (t.put j).1.dummies = #[] := by
    show(if has t.dummies j = true then _ else t.dummies) = #[]
    have q : has t.dummies j = false := by rw [T.nodum]; unfold has; simp
    rw [q]; simp [T.nodum]
  refine⟨⟨T.mask, e2, ?_, ?_⟩, rfl, b1, e⟩
  · unfold Ris
    rw [e, a9, bd];have hr := T.ris;unfold Ris at hr;have lt1 : ∀ a ∈ t.place.toList.take (below t.place j), a < j := fun a ha => by
      obtain⟨i, hi, ea⟩ := bn ha;rw [aS] at hi
      have hi' : i < t.place.size := by have : t.place.toList.length = t.place.size := by simp
                                        lia
      have q := b2 i (by lia)
      simp only [gF, hi', dif_pos] at q;rw [gn] at ea;rw [<- ea];simpa using q
    have gt1 : ∀ a ∈ t.place.toList.drop (below t.place j), j < a := fun a ha => by
      obtain⟨i, hi, ea⟩ := bn ha;rw [bB] at hi;have hl : t.place.toList.length = t.place.size := by simp
      have hi' : below t.place j + i < t.place.size := by lia
      have q := b3 (below t.place j + i) (by lia) hi'
      simp only [gF, hi', dif_pos] at q;rw [gp] at ea;have ne : a ≠ j := fun z => hf (by rw [<- z]; exact dI ha)
      have q' : j <= a := by rw [<- ea]; simpa using q
      lia
    refine⟨hr.sublist (c5 _ _), ⟨gt1, hr.sublist (List.drop_sublist _ _)⟩, fun a ha b hb => ?_⟩;rcases aB.mp hb with rfl | hb
    · exact lt1 a ha
    · exact Nat.lt_trans (lt1 a ha) (gt1 b hb)
  · intro a ha
    rw [e] at ha;rcases aU.mp ha with ha | ha
    · exact T.top a (dJ ha)
    · rcases aB.mp ha with rfl | ha
      · exact hj
      · exact T.top a (dI ha)
theorem put_set {es:Array (Int × ae)} {t:aX} (I:SetI es t) {j r:Nat} {h:Int} {x:ae} (hj:j<=t.mask) (hf:j∉t.place.toList) (e:(road t.mask r (start t.mask h)).j=j) (hr:∀ r',r' < r->(road t.mask r' (start t.mask h)).j∈t.place.toList) :
  ∀ b,(insertAt es (t.put j).2 (h,x)).toList=es.toList.take (t.put j).2++(h,x)::es.toList.drop (t.put j).2/\(insertAt es (t.put j).2 (h,x)).size=es.size + 1 /\
   Tab { (t.put j).1 with plain:=b }/\(t.put j).1.place.size=es.size + 1/\(t.put j).1.mask=t.mask /\
   ∀ (i j':Nat) (e':Int × ae),(t.put j).1.place[i]?=some j'->(insertAt es (t.put j).2 (h,x))[i]?=some e'->∃ r,(road t.mask r (start t.mask e'.1)).j=j'/\∀ r',r' < r->(road t.mask r' (start t.mask e'.1)).j∈(t.put j).1.place.toList:=by
 intro b;have P:=put_ok I.tab hj hf;have hle:(t.put j).2<=es.size:=by rw[<- I.size];exact P.le
 have el:=insertAt_list es (t.put j).2 (h,x) hle;have sz:(insertAt es (t.put j).2 (h,x)).size=es.size + 1:=by
  have q:=congrArg eE el;rw[az,aO,aS,bB] at q
  have:es.toList.length=es.size:=by simp
  rw[show(insertAt es (t.put j).2 (h,x)).toList.length=(insertAt es (t.put j).2 (h,x)).size by simp] at q
  lia
 have szp:(t.put j).1.place.size=es.size + 1:=by
  have q:=congrArg eE P.place;rw[az,aO,aS,bB] at q
  have:t.place.toList.length=t.place.size:=by simp
  have:=I.size
  have:=P.le
  rw[show(t.put j).1.place.toList.length=(t.put j).1.place.size by simp] at q
  lia
 refine⟨el,sz,⟨P.tab.mask,P.tab.nodum,P.tab.ris,P.tab.top⟩,szp,P.mask,fun i j' e' h1 h2=>?_⟩;have sub:∀ a∈t.place.toList,a∈(t.put j).1.place.toList:=fun a ha=>by
  rw[P.place];rw[<- bE (t.put j).2 t.place.toList] at ha;rcases aU.mp ha with ha | ha
  ·exact cF _ ha
  ·exact bj _ (ao _ ha)
 have old:∀ i0,t.place.toList[i0]?=some j'->es.toList[i0]?=some e'->∃ r,(road t.mask r (start t.mask e'.1)).j=j'/\∀ r',r' < r->(road t.mask r' (start t.mask e'.1)).j∈(t.put j).1.place.toList:=fun i0 a b=>by
  obtain⟨r,q1,q2⟩:=I.reach i0 j' e' (by rw[<- aQ];exact a) (by rw[<- aQ];exact b)
  exact⟨r,q1,fun r' hr'=>sub _ (q2 r' hr')⟩
 have h1':(t.place.toList.take (t.put j).2++j::t.place.toList.drop (t.put j).2)[i]?=some j':=by rw[<- P.place];simpa using h1
 have h2':(es.toList.take (t.put j).2++(h,x)::es.toList.drop (t.put j).2)[i]?=some e':=by rw[<- el];simpa using h2
 rcases insert_get (by simpa using P.le) h1' with⟨c1,q1⟩ | ⟨c1,q1⟩ | ⟨c1,q1⟩
 ·rcases insert_get (by simpa using hle) h2' with⟨c2,q2⟩ | ⟨c2,q2⟩ | ⟨c2,q2⟩
  ·exact old i q1 q2
  ·lia
  ·lia
 ·rcases insert_get (by simpa using hle) h2' with⟨c2,q2⟩ | ⟨c2,q2⟩ | ⟨c2,q2⟩
  ·lia
  ·subst q1 q2;exact⟨r,e,fun r' hr'=>sub _ (hr r' hr')⟩
  ·lia
 ·rcases insert_get (by simpa using hle) h2' with⟨c2,q2⟩ | ⟨c2,q2⟩ | ⟨c2,q2⟩
  ·lia
  ·lia
  ·exact old (i - 1) q1 q2
abbrev Own:=Array (Option Nat)
def liveOf (mask:Nat) (owner:Own):List (Nat × Nat):=(aY (mask + 1)).filterMap fun j=>(owner.getD j none).map (j,·)
theorem filterMap_congr' {α β:Type} {f g:α->Option β}:∀ {l:List α},(∀ a∈l,f a=g a)->l.filterMap f=l.filterMap g
 | [],_=>rfl
 | a::l,h=>by
  rw[cy,cy,h a am,filterMap_congr' fun b hb=>h b (ao _ hb)]
theorem live_set {mask:Nat} {owner:Own} {j k:Nat} (hs:owner.size=mask + 1) (hj:j<=mask) (hn:owner.getD j none=none):(liveOf mask (owner.setIfInBounds j (some k))).Perm ((j,k)::liveOf mask owner):=by
 unfold liveOf;obtain⟨s,u,e⟩:=List.append_of_mem (bh.mpr (Nat.lt_succ_of_le hj));have nd:(aY (mask + 1)).Nodup:=List.nodup_range;rw[e] at nd ⊢;have h1:j∉s:=fun h=>by
  have:=eZ.mp nd
  exact absurd rfl (this.2.2 j h j am)
 have h2:j∉u:=fun h=>by
  have:=eZ.mp nd
  exact(bZ.mp this.2.1).1 h
 have g:∀ a,a≠j->(owner.setIfInBounds j (some k)).getD a none=owner.getD a none:=fun a ha=>by
  rw[bU,bU,gz (cN ha)]
 have gj:(owner.setIfInBounds j (some k)).getD j none=some k:=by
  rw[bU,ff (by lia)];rfl
 rw[List.filterMap_append,List.filterMap_append,cy,cy,gj,hn];simp only[Option.map_some,Option.map_none];rw[filterMap_congr' (l:=s) (g:=fun j=>(owner.getD j none).map (j,·)) fun a ha=>by rw[g a fun z=>h1 (z ▸ ha)],filterMap_congr' (l:=u) (g:=fun j=>(owner.getD j none).map (j,·)) fun a ha=>by rw[g a fun z=>h2 (z ▸ ha)]]
 exact fy
theorem own_getD {owner:Own} {j:Nat} (h:j < owner.size) (d:Option Nat):owner.getD j d=owner[j]:=by simp[gF,h]
theorem free_spec {mask:Nat} {owner:Own} (hs:owner.size=mask + 1):∀ (fuel:Nat) (p:Probe),PV mask p->p.j=p.i->p.more=runEnd mask p.i - p.i->(∃ l,l < fuel/\owner.getD (leaps mask l (p.i,p.perturb)).1 none=none) ->
  ∃ r j,layClean.free mask owner fuel p.i p.perturb=some j/\(road mask r p).j=j/\j<=mask/\owner.getD j none=none/\∀ r',r' < r->(owner.getD (road mask r' p).j none).isSome=true
 | 0,p,_,_,_,⟨l,h,_⟩=>absurd h (Nat.not_lt_zero _)
 | fuel + 1,p,v,hj,hm,⟨l,hl,hf⟩=>by
  have re:=runEnd_le mask p.i v.i;have jm:=v.j;have inb:∀ k,k<=p.more->p.i + k<=mask:=fun k hk=>by lia
  have gd:∀ k,k<=p.more->owner.getD (p.i + k) (some 0)=owner.getD (p.i + k) none:=fun k hk=>by
   have:p.i + k < owner.size:=by have:=inb k hk;lia
   rw[own_getD this,own_getD this]
  have rd:∀ k,k<=p.more->(road mask k p).j=p.i + k:=fun k hk=>by rw[in_run mask k p hk,<- hj]
  unfold layClean.free;have en:runEnd mask p.i + 1 - p.i=p.more + 1:=by lia
  rw[en];cases hq:(aY (p.more + 1)).find? fun k=>(owner.getD (p.i + k) (some 0)).isNone with
  | some k =>
   rw[List.find?_range_eq_some] at hq;obtain⟨h1,h2,h3⟩:=hq;have hk:k<=p.more:=Nat.le_of_lt_succ (bh.mp h2);refine⟨k,p.i + k,rfl,rd k hk,inb k hk,?_,fun r' hr'=>?_⟩
   ·rw[gd k hk] at h1;exact Option.isNone_iff_eq_none.mp h1
   ·have q:=h3 r' hr';rw[gd r' (by lia)] at q
    rw[rd r' (by lia)]
    cases e:owner.getD (p.i + r') none with
    | none=>rw[e] at q;cases q
    | some z=>rfl
  | none =>
   rw[List.find?_eq_none] at hq;have taken:∀ k,k<=p.more->(owner.getD (p.i + k) none).isSome=true:=fun k hk=>by
    have q:=hq k (bh.mpr (Nat.lt_succ_of_le hk));rw[gd k hk] at q;cases e:owner.getD (p.i + k) none with
    | none=>rw[e] at q;exact absurd rfl q
    | some z=>rfl
   cases l with
   | zero =>
    have q:=taken 0 (Nat.zero_le _);have hf':owner.getD p.i none=none:=hf;rw[Nat.add_zero,hf'] at q;cases q
   | succ l =>
    have e:=to_leap mask p;have v':PV mask (road mask (p.more + 1) p):=PV.road _ v;obtain⟨r,j,f1,f2,f3,f4,f5⟩:=free_spec hs fuel (road mask (p.more + 1) p) v' (by rw[e]) (by rw[e]) ⟨l,by lia,by rw[e];exact hf⟩
    refine⟨p.more + 1 + r,j,?_,by rw[road_add];exact f2,f3,f4,fun r' hr'=>?_⟩
    ·rw[e] at f1;exact f1
    ·by_cases c:r'<=p.more
     ·rw[rd r' c];exact taken r' c
     ·have q:=f5 (r' - (p.more + 1)) (by lia)
      rw[<- road_add,show p.more + 1 + (r' - (p.more + 1))=r' by lia] at q
      exact q
structure OwnI (mask:Nat) (owner:Own) (hs:List Int):Prop where
 size:owner.size=mask + 1
 perm:((liveOf mask owner).map (·.2)).Perm (aY hs.length)
 reach:∀ (j k:Nat),owner.getD j none=some k->∃ h,hs[k]?=some h/\∃ r,(road mask r (start mask h)).j=j/\∀ r',r' < r->(owner.getD (road mask r' (start mask h)).j none).isSome=true
theorem OwnI.free {mask:Nat} (hm:Mask mask) {owner:Own} {hs:List Int} (I:OwnI mask owner hs) (hl:hs.length<=mask):∃ y,y<=mask/\owner.getD y none=none:=by
 apply aK;intro hno;have all:∀ y,y < mask + 1->(owner.getD y none).isSome=true:=fun y hy=>by
  cases e:owner.getD y none with
  | none=>exact absurd ⟨y,Nat.le_of_lt_succ hy,e⟩ hno
  | some z=>rfl
 have len:((aY (mask + 1)).filterMap fun j=>(owner.getD j none).map (j,·)).length=mask + 1:=by
  have gen:∀ l:List Nat,(∀ y∈l,(owner.getD y none).isSome=true)->(l.filterMap fun j=>(owner.getD j none).map (j,·)).length=l.length:=by
   intro l
   induction l with
   | nil=>intro _;rfl
   | cons a l ih =>
    intro h;obtain⟨z,e⟩:=cx.mp (h a am);rw[cy,e];simp only[Option.map_some,aO];rw[ih fun y hy=>h y (ao _ hy)]
  rw[gen _ fun y hy=>all y (bh.mp hy),dN]
 have q:=I.perm.length_eq;rw[ap,dN] at q;unfold liveOf at q;lia
theorem head_free {mask:Nat} (hm:Mask mask) {owner:Own} {y:Nat} (hy:y<=mask) (hf:owner.getD y none=none) (p:Probe) (v:PV mask p):∃ l,l < turns mask/\owner.getD (leaps mask l (p.i,p.perturb)).1 none=none:=by
 have h12:(leaps mask 12 (p.i,p.perturb)).1 < mask + 1:=by rw[leaps_succ mask 11];exact Nat.lt_succ_of_le (leap_le _ _ _)
 have hp:(leaps mask 12 (p.i,p.perturb)).2 < 32:=by
  rw[leaps_pt]
  have:=v.pt
  show p.perturb / 32 ^ 12 < 32;have e:(2:Nat) ^ 64=18446744073709551616:=by decide
  have e2:(32:Nat) ^ 12=1152921504606846976:=by decide
  rw[e2];lia
 obtain⟨a,ha,ea⟩:=hm.full.from h12 (Nat.lt_succ_of_le hy)
 refine⟨12 + a,by unfold turns;lia,?_⟩
 rw[leaps_add,leaps_f5 a _ hp,ea];exact hf
def layStep (mask:Nat) (acc:Option (Own × Nat)) (h:Int):Option (Own × Nat):=do
 let (owner,k) <- acc
 let j <- layClean.free mask owner (turns mask) (bits h % (mask + 1)) (bits h)
 pure (owner.setIfInBounds j (some k),k + 1)
theorem lay_fold {mask:Nat} (hm:Mask mask):∀ (hs done:List Int) (owner:Own),OwnI mask owner done->done.length + hs.length<=mask ->
  ∃ owner',hs.foldl (layStep mask) (some (owner,done.length))=some (owner',(done++hs).length)/\OwnI mask owner' (done++hs)
 | [],done,owner,I,_=>⟨owner,by rw[bR];rfl,by rw[bR];exact I⟩
 | h::hs,done,owner,I,hl=>by
  rw[aO] at hl;obtain⟨y,hy,hf⟩:=I.free hm (by lia)
  have v:=start_pv mask h;obtain⟨r,j,f1,f2,f3,f4,f5⟩:=free_spec I.size (turns mask) (start mask h) v rfl rfl (head_free hm hy hf _ v);have hjs:j < owner.size:=by have:=I.size;lia
  have gne:∀ a,a≠j->(owner.setIfInBounds j (some done.length)).getD a none=owner.getD a none:=fun a ha=>by
   rw[bU,bU,gz (cN ha)]
  have gj:(owner.setIfInBounds j (some done.length)).getD j none=some done.length:=by
   rw[bU,ff hjs];rfl
  have more:∀ a,(owner.getD a none).isSome=true->((owner.setIfInBounds j (some done.length)).getD a none).isSome=true:=fun a ha=>by
   by_cases c:a=j
   ·rw[c,gj];rfl
   ·rw[gne a c];exact ha
  have I':OwnI mask (owner.setIfInBounds j (some done.length)) (done++[h]):=by
   refine⟨by rw[Array.size_setIfInBounds];exact I.size,?_,fun a k e=>?_⟩
   ·have q:=(live_set (k:=done.length) I.size f3 f4).map (·.2);rw[aG] at q;refine q.trans ?_;rw[az,du,jD];exact(I.perm.cons _).trans (List.perm_append_singleton _ _).symm
   ·by_cases c:a=j
    ·subst c;rw[gj] at e;cases e;refine⟨h,by simp,r,f2,fun r' hr'=>more _ (f5 r' hr')⟩
    ·rw[gne a c] at e;obtain⟨h',e1,r',e2,e3⟩:=I.reach a k e;exact⟨h',by rw[cL (aD.mp e1).1];exact e1,r',e2,fun x hx=>more _ (e3 x hx)⟩
  obtain⟨owner',e1,e2⟩:=lay_fold hm hs (done++[h]) _ I' (by rw[az,du];lia)
  refine⟨owner',?_,by rw[aR] at e2;exact e2⟩
  rw[List.foldl_cons];have es:layStep mask (some (owner,done.length)) h=some (owner.setIfInBounds j (some done.length),done.length + 1):=by
   show(do let j <- layClean.free mask owner (turns mask) (bits h % (mask + 1)) (bits h);pure (owner.setIfInBounds j (some done.length),done.length + 1))=_
   have f1':layClean.free mask owner (turns mask) (bits h % (mask + 1)) (bits h)=some j:=f1;rw[f1']
   rfl
  rw[es];rw[az,du,aR] at e1;exact e1
theorem own_start (mask:Nat):OwnI mask (fT (mask + 1) none) [] where
 size:=by simp
 perm:=by
  have e:liveOf mask (fT (mask + 1) none)=[]:=by
   unfold liveOf;rw[List.filterMap_eq_nil_iff];intro a ha
   have:(fT (mask + 1) (none:Option Nat)).getD a none=none:=by
    rw[bU,iT];split <;> rfl
   rw[this];rfl
  rw[e];exact da _
 reach:=fun j k e=>by
  have:(fT (mask + 1) (none:Option Nat)).getD j none=none:=by
   rw[bU,iT];split <;> rfl
  rw[this] at e;cases e
theorem layClean_ok {mask:Nat} (hm:Mask mask) (hs:Array Int) (hl:hs.size<=mask):∃ owner,layClean mask hs=some owner/\OwnI mask owner hs.toList:=by
 obtain⟨owner,e1,e2⟩:=lay_fold hm hs.toList [] _ (own_start mask) (by simpa using hl)
 refine⟨owner,?_,by simpa using e2⟩
 unfold layClean
 have:hs.foldl (init:=some (fT (mask + 1) (none:Option Nat),0)) (fun acc h=>do
  let (owner,k) <- acc
  let j <- layClean.free mask owner (turns mask) (bits h % (mask + 1)) (bits h)
  pure (owner.setIfInBounds j (some k),k + 1))=some (owner,hs.size):=by
  rw[<- Array.foldl_toList];have q:=e1;simp only[bS,b4] at q;rw[show hs.toList.length=hs.size by simp] at q
  exact q
 rw[this]
 rfl
theorem fm_all {α β:Type} {f:α->Option β}:∀ {l:List α},(∀ a∈l,(f a).isSome=true)->(l.filterMap f).length=l.length/\∀ i:Nat,(l.filterMap f)[i]?=(l[i]?).bind f
 | [],_=>⟨rfl,fun i=>by simp⟩
 | a::l,h=>by
  obtain⟨z,e⟩:=cx.mp (h a am);obtain⟨h1,h2⟩:=fm_all (l:=l) (f:=f) fun b hb=>h b (ao _ hb);rw[cy,e];refine⟨by simp[h1],fun i=>?_⟩
  cases i with
  | zero=>simp[e]
  | succ i=>simpa using h2 i
theorem mem_live {mask:Nat} {owner:Own} {j k:Nat} (h:(j,k)∈liveOf mask owner):j<=mask/\owner.getD j none=some k:=by
 unfold liveOf at h;obtain⟨a,ha,e⟩:=eP.mp h;cases q:owner.getD a none with
 | none=>rw[q] at e;cases e
 | some z=>rw[q] at e;cases e;exact⟨Nat.le_of_lt_succ (bh.mp ha),q⟩
theorem live_mem {mask:Nat} {owner:Own} {j k:Nat} (h1:j<=mask) (h2:owner.getD j none=some k):(j,k)∈liveOf mask owner :=
 eP.mpr ⟨j,bh.mpr (Nat.lt_succ_of_le h1),by rw[h2];rfl⟩
theorem live_ris (mask:Nat) (owner:Own):Ris ((liveOf mask owner).map (·.1)):=by
 unfold Ris liveOf;rw[gq];refine jW.filterMap _ ?_ (gu (n:=mask + 1));intro a a' haa b hb b' hb';cases q:owner.getD a none with
 | none=>rw[q] at hb;cases hb
 | some z =>
  rw[q] at hb;cases hb;cases q':owner.getD a' none with
  | none=>rw[q'] at hb';cases hb'
  | some z'=>rw[q'] at hb';cases hb';exact haa
theorem range_fm {α:Type} (es:Array α):((aY es.size).filterMap fun k=>es[k]?)=es.toList:=by
 apply gk;intro i;have h:=fm_all (l:=aY es.size) (f:=fun k=>es[k]?) (fun a ha=>by
  have:=bh.mp ha
  simp[this])
 rw[h.2 i]
 by_cases c:i < es.size
 ·rw[List.getElem?_range c];simp
 ·rw[bP (by simpa using c)];simp[c]
theorem relaid_ok {es:Array (Int × ae)} {mask' wanted:Nat} (t:aX) (hm:Mask mask') (hw:sizeAbove wanted - 1=mask') (hsz:es.size * 5 < mask' * 3) :
  ∃ t' order,t.relaid (es.map (·.1)) wanted=some (t',order)/\(order.filterMap (es[·]?)).size=es.size/\SetI (order.filterMap (es[·]?)) t'/\(order.filterMap (es[·]?)).toList.Perm es.toList:=by
 obtain⟨owner,e1,I⟩:=layClean_ok hm (es.map (·.1)) (by rw[jO];lia)
 have el:(es.map (·.1)).toList.length=es.size:=by simp
 have hp:=I.perm;rw[el] at hp;have ks:∀ k∈(liveOf mask' owner).map (·.2),(es[k]?).isSome=true:=fun k hk=>by
  have:=bh.mp (hp.mem_iff.mp hk)
  simp[this]
 obtain⟨f1,f2⟩:=fm_all (f:=fun k=>es[k]?) ks;have etl:(jE (es[·]?) ((liveOf mask' owner).map (·.2)).toArray).toList=((liveOf mask' owner).map (·.2)).filterMap (fun k=>es[k]?):=by simp
 have perm:(jE (es[·]?) ((liveOf mask' owner).map (·.2)).toArray).toList.Perm es.toList:=by
  rw[etl,<- range_fm es];exact hp.filterMap _
 have size:(jE (es[·]?) ((liveOf mask' owner).map (·.2)).toArray).size=es.size:=by
  have:=perm.length_eq
  simpa using this
 refine⟨{ mask:=mask',place:=((liveOf mask' owner).map (·.1)).toArray,dummies:=#[],finger:=t.finger,led:=t.led,moves:=t.movedTo mask',plain:=t.plain },((liveOf mask' owner).map (·.2)).toArray,?_,size,?_,perm⟩
 ·unfold relaid laid;rw[hw,e1]
  rfl
 ·refine⟨⟨hm,rfl,?_,fun j hj=>?_⟩,?_,?_,fun i j e h1 h2=>?_⟩
  ·show Ris ((liveOf mask' owner).map (·.1)).toArray.toList;exact live_ris _ _
  ·have hj':j∈(liveOf mask' owner).map (·.1):=hj;obtain⟨⟨a,k⟩,h,rfl⟩:=cC.mp hj';exact(mem_live h).1
  ·rw[size];show((liveOf mask' owner).map (·.1)).toArray.size=es.size
   have:=hp.length_eq
   simpa using this
  ·rw[size];exact hsz
  ·have h1':((liveOf mask' owner).map (·.1))[i]?=some j:=by simpa using h1
   have h2':(((liveOf mask' owner).map (·.2)).filterMap (fun k=>es[k]?))[i]?=some e:=by
    rw[<- etl,aQ];exact h2
   rw[f2 i] at h2';rw[aJ] at h1' h2';cases q:(liveOf mask' owner)[i]? with
   | none=>rw[q] at h1';cases h1'
   | some jk =>
    obtain⟨a,k⟩:=jk;rw[q] at h1' h2';have ea:a=j:=aP h1';subst ea;have ek:es[k]?=some e:=h2';obtain⟨_,ow⟩:=mem_live (ak q);obtain⟨h,eh,r,r1,r2⟩:=I.reach a k ow;have eh':e.1=h:=by
     have:(es.map (·.1)).toList[k]?=some e.1:=by
      rw[aQ,Array.getElem?_map,ek];rfl
     rw[this] at eh;exact aP eh
    rw[eh'];refine⟨r,r1,fun r' hr'=>?_⟩;obtain⟨z,ez⟩:=cx.mp (r2 r' hr');have pv:=PV.road r' (start_pv mask' h)
    have:=pv.j
    show _∈((liveOf mask' owner).map (·.1)).toArray.toList;exact cC.mpr ⟨_,live_mem (by lia) ez,rfl⟩
theorem grow {mask n:Nat} (hm:Mask mask) (h1:n * 5 < mask * 3) (h2:(n + 1) * 5 >= mask * 3) (hn:n + 1<=300):∃ mask',Mask mask'/\sizeAbove (grown (n + 1)) - 1=mask'/\(n + 1) * 5 < mask' * 3/\¬ sizeAbove (grown (n + 1)) > sizeLine:=by
 rcases hm with rfl | rfl | rfl | rfl
 ·have e:n=4:=by lia
  subst e;exact⟨31,.inr (.inl rfl),by decide +kernel,by decide,by decide +kernel⟩
 ·have e:n=18:=by lia
  subst e;exact⟨127,.inr (.inr (.inl rfl)),by decide +kernel,by decide,by decide +kernel⟩
 ·have e:n=76:=by lia
  subst e;exact⟨511,.inr (.inr (.inr rfl)),by decide +kernel,by decide,by decide +kernel⟩
 ·lia
open PySem.Spec PyProof.Rows
section
variable {prog:ay} {w:aI} {A:a6} {E:ae->ai->Prop} {s:ai}
def TK (prog:ay) (w:aI) (h:be) (k:List Str) (v:ae):Prop:=∃ b,v=.ref b/\jv (strKind prog w) h k b
theorem TK.inj {h:be} {k k':List Str} {v:ae} (a:TK prog w h k v) (b:TK prog w h k' v):k=k':=by
 obtain⟨b1,rfl,h1⟩:=a;obtain⟨b2,e,h2⟩:=b;cases e;exact h1.inj h2
abbrev hashT (prog:ay) (w:aI) (k:List Str):Int:=tupleKeyHash (strKind prog w) k
theorem itemsAre_strs {k:List Str} {vs:List ae} (h:ItemsAre (strKind prog w) k vs):∀ v∈vs,∃ x t,v=i4 x t:=by
 induction h with
 | nil=>intro v hv;cases hv
 | cons h1 _ ih =>
  intro v hv;rcases aB.mp hv with rfl | hv
  ·obtain⟨t,e⟩:=gV h1;exact⟨_,t,e⟩
  ·exact ih v hv
theorem notClass {k:List Str} {v:ae} {Q:Bool->ai->Prop} (hk:TK prog w s.heap k v) (h:Q false s):aE (aF prog w) A (e8 8 v) Q E s:=by
 obtain⟨b,rfl,hk⟩:=hk;have hT:=hk.typeIs;obtain⟨o,items,n,ho,_,hd,hi⟩:=hk;unfold e8;refine ad (gg hT ?_);dsimp only;simp only[beq_self_eq_true,if_true];refine ad (af ?_);simp only[fN,aL,if_false];refine ad (eL ho hd ?_);dsimp only;refine ad ?_;show aE _ _ (forIn items _ _) _ _ s;rw[<- fW];refine gG _ (fun rest r s'=>r.1=none/\s'=s/\∀ v∈rest,∃ x t,v=i4 x t) _ ?_ ?_ _ _ ⟨rfl,rfl,itemsAre_strs hi⟩
 ·rintro x rest r s' ⟨hr,rfl,hall⟩;obtain⟨y,t,rfl⟩:=hall x am;unfold e8;refine ad (af ?_);simp only[aL,if_false];exact af ⟨rfl,rfl,fun u hu=>hall u (ao _ hu)⟩
 ·rintro⟨r1,r2⟩ s' ⟨hr,rfl,_⟩;simp only at hr;subst hr;exact af h
theorem quietT {k:List Str} {v:ae} {Q:Bool->ai->Prop} (hk:TK prog w s.heap k v) (h:Q true s):aE (aF prog w) A (eqIsQuiet 8 v) Q E s:=by
 obtain⟨b,rfl,hk⟩:=hk;exact wpAny_eqIsQuiet_tuple hk h
theorem notSeen {k:List Str} {x:ae} {stored:List ae} {Q:Bool->ai->Prop} (hx:TK prog w s.heap k x) (hs:∀ y∈stored,∃ k',TK prog w s.heap k' y) (h:Q false s) :
  aE (aF prog w) A (searchCouldBeSeen x stored) Q E s:=by
 unfold searchCouldBeSeen;refine ad (gG _ (fun rest r s'=>r.1=none/\s'=s/\∀ y∈rest,∃ k',TK prog w s.heap k' y) _ ?_ ?_ _ _ ⟨rfl,rfl,hs⟩)
 ·rintro y rest r s' ⟨hr,rfl,hall⟩;obtain⟨k',hy⟩:=hall y am;have fin:∀ y∈rest,∃ k',TK prog w s'.heap k' y:=fun z hz=>hall z (ao _ hz);obtain⟨bx,ex,_⟩:=id hx;obtain⟨by',ey,_⟩:=id hy
  have main:∀ c:Bool,aE (aF prog w) A (if c=true then pure (bp ((none,()):Option Bool × Unit)) else do
    if !(<- eqIsQuiet 8 x) then pure (bi (some true,())) else
    if !(<- eqIsQuiet 8 y) then pure (bi (some true,())) else
    if <- e8 8 x then pure (bi (some true,())) else
    if <- e8 8 y then pure (bi (some true,())) else pure (bp (none,())))
    (fun r s'_1=>match r with
     | bp b'=>b'.fst=none/\s'_1=s'/\∀ (y:ae),y∈rest->∃ k',TK prog w s'.heap k' y
     | bi b'=>False) E s':=by
   intro c;cases c with
   | true=>exact af ⟨rfl,rfl,fin⟩
   | false =>
    simp only[aL,if_false];refine ad (quietT hx ?_);simp only[fN,aL,if_false];refine ad (quietT hy ?_);simp only[fN,aL,if_false];refine ad (notClass hx ?_);simp only[aL,if_false];refine ad (notClass hy ?_);simp only[aL,if_false];exact af ⟨rfl,rfl,fin⟩
  rw[ex,ey] at main ⊢;dsimp only;refine d7 (main ((bx == by') || (ip (.ref bx) && ip (.ref by')))) (fun r s1 h=>?_) (fun _ _ e=>e)
  cases r with
  | yield b'=>exact h
  | done b'=>exact h.elim
 ·rintro⟨r1,r2⟩ s' ⟨hr,rfl,_⟩;simp only at hr;subst hr;exact af h
def ElT (prog:ay) (w:aI) (h:be) (es:List (Int × ae)):Prop:=∀ e∈es,∃ k,TK prog w h k e.2/\e.1=hashT prog w k
structure SetAt (h:be) (a:Addr) (es:Array (Int × ae)) (ep:Nat) (t:aX):Prop where
 obj:h.get? a=some { cls:=.type "set",dict:=none,data:=.set es ep t }
 inv:SetI es t
theorem SetAt.state {a:Addr} {es:Array (Int × ae)} {ep:Nat} {t:aX} {Q:(Array (Int × ae) × Nat × aX)->ai->Prop} (S:SetAt s.heap a es ep t) (h:Q (es,ep,t) s):aE (aF prog w) A (setState a) Q E s :=
 dO S.obj rfl S.inv.fits h
theorem searchT {a:Addr} {es:Array (Int × ae)} {ep:Nat} {t:aX} {k:List Str} {x:ae} {adding:Bool} (S:SetAt s.heap a es ep t) (hu:A.units < b7) (hel:ElT prog w s.heap es.toList) (hx:TK prog w s.heap k x)
  {M0:Nat} (hM:(road t.mask M0 (start t.mask (hashT prog w k))).j∉t.place.toList) {Q:SetFound->ai->Prop}
  (hfound:∀ i?,(adding=true\/i?.isSome=true)->(∃ e∈es.toList,TK prog w s.heap k e.2)->Q (.there i?) s)
  (hfree:∀ j r,j<=t.mask->j∉t.place.toList->(road t.mask r (start t.mask (hashT prog w k))).j=j->(∀ r',r' < r->(road t.mask r' (start t.mask (hashT prog w k))).j∈t.place.toList)->(¬ ∃ e∈es.toList,TK prog w s.heap k e.2)->Q (.free j false) s) :
  ∀ (fuel m:Nat) (stand:Option Probe),M0 < fuel + m->stand.getD (t.probeStart (hashT prog w k))=road t.mask m (start t.mask (hashT prog w k)) ->
   (∀ m',m' < m->∃ (i:Nat) (e:Int × ae),t.place[i]?=some (road t.mask m' (start t.mask (hashT prog w k))).j/\es[i]?=some e/\¬ TK prog w s.heap k e.2)->m<=M0 ->
   aE (aF prog w) A (setSearchFrom a x (hashT prog w k) adding fuel stand) Q E s
 | 0,m,stand,hf,_,_,hm=>by lia
 | fuel + 1,m,stand,hf,hst,hpast,hm=>by
  unfold setSearchFrom;refine ad (S.state ?_);dsimp only;rw[S.inv.way];simp only[aL,if_false];have v:=PV.road m (start_pv t.mask (hashT prog w k));have dn:∀ m,(road t.mask m (start t.mask (hashT prog w k))).dummy=none:=fun m=>by
   induction m with
   | zero=>rfl
   | succ m ih=>rw[road_succ,step_dummy];exact ih
  obtain⟨m1,p1,p2⟩:=probe_spec S.inv.tab S.inv.le (fun i=>(es[i]?.map (·.1)).getD 0) (hashT prog w k) v (dn m);rw[hst];have ahead:∀ r,r < m + m1->∃ (i:Nat) (e:Int × ae),t.place[i]?=some (road t.mask r (start t.mask (hashT prog w k))).j/\es[i]?=some e/\¬ TK prog w s.heap k e.2:=fun r hr=>by
   by_cases c:r < m
   ·exact hpast r c
   ·obtain⟨i,q1,q2⟩:=p1 (r - m) (by lia)
    rw[<- road_add,show m + (r - m)=r by lia] at q1
    obtain⟨hi,_⟩:=c8.mp q1;have hi':i < es.size:=by rw[<- S.inv.size];exact hi
    have ee:es[i]?=some es[i]:=by simp[hi']
    refine⟨i,es[i],q1,ee,fun z=>q2 ?_⟩;obtain⟨k',z',eh⟩:=hel es[i] (by simp)
    rw[ee];show es[i].1=_;rw[eh,z'.inj z]
  have inplace:∀ r,r < m + m1->(road t.mask r (start t.mask (hashT prog w k))).j∈t.place.toList:=fun r hr=>by
   obtain⟨i,e,q,_⟩:=ahead r hr;exact cT.mpr (eX q)
  have hmM:m + m1<=M0:=by
   rcases Nat.lt_or_ge M0 (m + m1) with c | c
   ·exact absurd (inplace M0 c) hM
   ·exact c
  rcases p2 with⟨q1,q2⟩ | ⟨i,q1,q2,q3,q4⟩
  ·generalize hP:aX.probe t _ (hashT prog w k) (road t.mask m (start t.mask (hashT prog w k)))=pr;have e2:pr=some (.empty (road t.mask m1 (road t.mask m (start t.mask (hashT prog w k)))).j none):=by rw[<- hP];exact q2
   rw[e2];dsimp only;rw[<- road_add] at q1 ⊢;have pv:=(PV.road (m + m1) (start_pv t.mask (hashT prog w k))).j;refine af (hfree _ (m + m1) (by lia) q1 rfl inplace ?_)
   rintro⟨e,he,hke⟩;obtain⟨i,hi,ei⟩:=bn he;have ee:es[i]?=some e:=by
    have h2:i < es.size:=by simpa using hi
    rw[<- ei];simp[h2]
   have hi':i < t.place.size:=by rw[S.inv.size];simpa using hi
   obtain⟨r,r1,r2⟩:=S.inv.reach i t.place[i] e (by simp[hi']) ee
   obtain⟨k',z',eh⟩:=hel e he;have hk':k'=k:=z'.inj hke;rw[eh,hk'] at r1 r2;rcases Nat.lt_or_ge r (m + m1) with c | c
   ·obtain⟨i',e',a1,a2,a3⟩:=ahead r c;rw[r1] at a1;have s1:=slot_of S.inv.tab a1;have s2:=slot_of (j:=t.place[i]) (i:=i) S.inv.tab (by simp[hi'])
    rw[s1] at s2;cases s2;rw[ee] at a2;cases a2;exact a3 hke
   ·rcases Nat.lt_or_eq_of_le c with c | c
    ·exact q1 (r2 _ c)
    ·rw[c,r1] at q1;exact q1 (by simp)
  ·generalize hP:aX.probe t _ (hashT prog w k) (road t.mask m (start t.mask (hashT prog w k)))=pr;have e2:pr=some (.candidate (road t.mask m1 (road t.mask m (start t.mask (hashT prog w k)))).j i (road t.mask (m1 + 1) (road t.mask m (start t.mask (hashT prog w k))))):=by rw[<- hP];exact q4
   rw[e2];dsimp only;have hi':i < es.size:=by
    obtain⟨hi,_⟩:=c8.mp q1;rw[<- S.inv.size];exact hi
   have ee:es[i]?=some es[i]:=by simp[hi']
   obtain⟨k',hy,eh⟩:=hel es[i] (by simp)
   by_cases hled:t.led=true
   ·rw[hled];simp only[fN,aL,if_false];rw[ee];obtain⟨b,eb,hb⟩:=hy;obtain⟨bx,ex,hbx⟩:=id hx;have hpair:es[i]=(es[i].1,bY b):=by rw[<- eb]
    rw[hpair];dsimp only;refine ad (cO ?_);rw[ex];refine iq hu hb hbx ?_;refine ad (S.state ?_);dsimp only;have yes:k'=k->∃ e∈es.toList,TK prog w s.heap k e.2:=fun c=>⟨es[i],by simp,⟨b,eb,c ▸ hb⟩⟩
    by_cases hadd:(adding && decide (k'=k))=true
    ·rw[if_pos hadd];have c:k'=k:=by
      simp only[aV,decide_eq_true_eq] at hadd;exact hadd.2
     exact af (hfound none (.inl (by simp only[aV] at hadd;exact hadd.1)) (yes c))
    ·rw[if_neg hadd];have sm:t.sameMemory t.moves t.mask=some true:=by unfold sameMemory;rw[if_pos (by simp)]
     rw[sm];dsimp only;rw[if_pos rfl,q2];dsimp only;rw[ee,hpair];dsimp only;refine ad (wpAny_isSame_ref_self ?_);rw[if_pos rfl];refine ad (af ?_);dsimp only
     by_cases c:k'=k
     ·rw[decide_eq_true c,if_pos rfl];exact af (hfound _ (.inr rfl) (yes c))
     ·rw[decide_eq_false c,if_neg ba];rw[<- ex];refine searchT S hu hel hx hM hfound hfree fuel (m + m1 + 1) _ (by lia) ?_ (fun r hr=>?_) ?_
      ·show road t.mask (m1 + 1) (road t.mask m _)=_;rw[<- road_add,Nat.add_assoc]
      ·rcases Nat.lt_or_eq_of_le (Nat.le_of_lt_succ hr) with d | d
       ·exact ahead r d
       ·rw[d];rw[<- road_add] at q1;refine⟨i,es[i],q1,ee,fun z=>c ?_⟩;exact TK.inj ⟨b,eb,hb⟩ z
      ·rcases Nat.lt_or_eq_of_le hmM with d | d
       ·exact d
       ·rw[<- road_add] at q1;rw[d] at q1;exact absurd (cT.mpr (eX q1)) hM
   ·have hled':t.led=false:=eY.mpr hled;rw[hled'];simp only[jP,if_true];refine ad (notSeen hx (fun y hy'=>?_) ?_)
    ·obtain⟨e,he,rfl⟩:=cC.mp hy';have he':e∈es.toList:=by
      have:=cT.mp he
      exact cT.mpr (Array.mem_filter.mp this).1
     obtain⟨k',z,_⟩:=hel e he';exact⟨k',z⟩
    ·simp only[aL,if_false];rw[ee];obtain⟨b,eb,hb⟩:=hy;obtain⟨bx,ex,hbx⟩:=id hx;have hpair:es[i]=(es[i].1,bY b):=by rw[<- eb]
     rw[hpair];dsimp only;refine ad (cO ?_);rw[ex];refine iq hu hb hbx ?_;refine ad (S.state ?_);dsimp only;have yes:k'=k->∃ e∈es.toList,TK prog w s.heap k e.2:=fun c=>⟨es[i],by simp,⟨b,eb,c ▸ hb⟩⟩
     by_cases hadd:(adding && decide (k'=k))=true
     ·rw[if_pos hadd];have c:k'=k:=by
       simp only[aV,decide_eq_true_eq] at hadd;exact hadd.2
      exact af (hfound none (.inl (by simp only[aV] at hadd;exact hadd.1)) (yes c))
     ·rw[if_neg hadd];have sm:t.sameMemory t.moves t.mask=some true:=by unfold sameMemory;rw[if_pos (by simp)]
      rw[sm];dsimp only;rw[if_pos rfl,q2];dsimp only;rw[ee,hpair];dsimp only;refine ad (wpAny_isSame_ref_self ?_);rw[if_pos rfl];refine ad (af ?_);dsimp only
      by_cases c:k'=k
      ·rw[decide_eq_true c,if_pos rfl];exact af (hfound _ (.inr rfl) (yes c))
      ·rw[decide_eq_false c,if_neg ba];rw[<- ex];refine searchT S hu hel hx hM hfound hfree fuel (m + m1 + 1) _ (by lia) ?_ (fun r hr=>?_) ?_
       ·show road t.mask (m1 + 1) (road t.mask m _)=_;rw[<- road_add,Nat.add_assoc]
       ·rcases Nat.lt_or_eq_of_le (Nat.le_of_lt_succ hr) with d | d
        ·exact ahead r d
        ·rw[d];rw[<- road_add] at q1;refine⟨i,es[i],q1,ee,fun z=>c ?_⟩;exact TK.inj ⟨b,eb,hb⟩ z
       ·rcases Nat.lt_or_eq_of_le hmM with d | d
        ·exact d
        ·rw[<- road_add] at q1;rw[d] at q1;exact absurd (cT.mpr (eX q1)) hM
end
section
variable {prog:ay} {w:aI} {A:a6} {E:ae->ai->Prop} {s:ai}
theorem setRelay_eq (a:Addr) (wanted:Nat):setRelay a wanted=(do
 let (es,_,t) <- setState a
 if aX.sizeAbove wanted > sizeLine then eO "set:memory"
 let (es,t) <- (do
  let some (t,order):=t.relaid (es.map (·.1)) wanted | eO "internal:set-table-without-room"
  let es':=order.filterMap (es[·]?)
  if es'.size != es.size then eO "internal:set-table-lost-an-element"
  pure (es',t))
 storeSet a es t):=by rfl
theorem hbvT {k:List Str} {v:ae} {Q:Bool->ai->Prop} (hk:TK prog w s.heap k v) (h:Q (decide (k=[])) s):aE (aF prog w) A (hashByValue 8 v) Q E s:=by
 obtain⟨b,rfl,hk⟩:=hk;have hT:=hk.typeIs;obtain⟨o,items,n,ho,_,hd,hi⟩:=hk;unfold hashByValue;refine ad (wpAny_specialOf hT PySem.F.slot_tuple_hash.lookup ?_);dsimp only;refine ad (eL ho hd ?_);refine ad ?_;show aE _ _ (forIn items _ _) _ _ s;rw[<- fW];generalize hits:items.toList=its at hi;cases hi with
 | nil =>
  rw[ir];exact af (af h)
 | cons h1 h2 =>
  obtain⟨t,e⟩:=gV h1;subst e;rw[dh];have e2:∀ n x t,hashByValue n (i4 x t)=pure false:=fun n x t=>by unfold hashByValue;rfl
  rw[e2];refine ad (ad (af ?_));simp only[jP,if_true];refine af ?_;exact af (af (by simpa using h))
def PlainT (prog:ay) (w:aI) (h:be) (es:List (Int × ae)) (t:aX):Prop:=t.plain=true->∀ e∈es,TK prog w h [] e.2
theorem addT {a:Addr} {es:Array (Int × ae)} {ep:Nat} {t:aX} {k:List Str} {x:ae} (S:SetAt s.heap a es ep t) (hu:A.units < b7) (hel:ElT prog w s.heap es.toList) (hpl:PlainT prog w s.heap es.toList t) (hx:TK prog w s.heap k x) (hn:es.size + 1<=300) {Q:Bool->ai->Prop}
  (h:∀ h' es' ep' t' added,SetAt h' a es' ep' t'->cQ a s.heap h'->PlainT prog w s.heap es'.toList t'->t'.led=t.led ->
   ((added=false/\es'=es/\∃ e∈es.toList,TK prog w s.heap k e.2)\/(added=true/\es'.toList.Perm ((hashT prog w k,x)::es.toList)/\¬ ∃ e∈es.toList,TK prog w s.heap k e.2))->Q added { s with heap:=h' }) :
  aE (aF prog w) A (setAddHashed a x (hashT prog w k)) Q E s:=by
 unfold setAddHashed setAddHashedIn;refine cO (ad (S.state ?_));dsimp only;have hbs:byScan x es=false:=by
  obtain⟨b,rfl,_⟩:=hx
  rfl
 rw[hbs];simp only[aL,if_false];obtain⟨y,hy,hf⟩:=free_place S.inv.tab S.inv.le;obtain⟨m,hm,e⟩:=cover S.inv.tab.mask (start_pv t.mask (hashT prog w k)) hy;have hm':m < 100000 + 0:=by
  have:=S.inv.tab.mask
  have:t.mask<=511:=by rcases this with z | z | z | z <;> lia
  lia
 refine ad ?_;unfold setSearch;refine searchT S hu hel hx (M0:=m) (by rw[e];exact hf) (fun i? _ hyes=>?_) (fun j r hj hfj ej hrj hno=>?_) 100000 0 none hm' rfl (fun m' h'=>absurd h' (Nat.not_lt_zero _)) (Nat.zero_le _)
 ·dsimp only;have q:=h s.heap es ep t false S (cQ.refl a s.heap) hpl rfl (.inl ⟨rfl,rfl,hyes⟩);exact af q
 ·dsimp only;refine ad (S.state ?_);dsimp only;have P:=put_set (x:=x) S.inv hj hfj ej hrj true;obtain⟨p1,p2,p3,p4,p5,p6⟩:=P;have p3d:(t.put j).1.dummies=#[]:=p3.nodum;have p3r:Ris (t.put j).1.place.toList:=p3.ris;have p3t:∀ a∈(t.put j).1.place.toList,a<=(t.put j).1.mask:=p3.top;generalize hes:aX.insertAt es (t.put j).2 (hashT prog w k,x)=es1 at p1 p2 p6 ⊢;have hperm:es1.toList.Perm ((hashT prog w k,x)::es.toList):=by
   rw[p1];refine fy.trans ?_;rw[bE]
  have rest:∀ tt:aX,tt.place=(t.put j).1.place->tt.dummies=#[]->tt.mask=t.mask->tt.led=t.led->(tt.plain=true->t.plain=true/\k=[])->aE (aF prog w) A (do
    storeSet a es1 tt
    if (!false && tt.tooFull)=true then do
     setRelay a (aX.grown (es.size + 1))
     pure true
    else pure true) Q E s:=by
   intro tt h1 h2 h3 h4 h5;have T':Tab tt:=⟨by rw[h3];exact S.inv.tab.mask,h2,by rw[h1];exact p3r,fun a ha=>by rw[h1] at ha;rw[h3,<- p5];exact p3t a ha⟩
   have hplain:∀ es'':List (Int × ae),es''.Perm ((hashT prog w k,x)::es.toList)->∀ t2:aX,t2.plain=tt.plain->PlainT prog w s.heap es'' t2:=by
    intro es'' hp t2 ht2 hpt ee hee;rw[ht2] at hpt;obtain⟨q1,q2⟩:=h5 hpt;rcases aB.mp (hp.mem_iff.mp hee) with q | q
    ·rw[q,<- q2];exact hx
    ·exact hpl q1 ee q
   have hz:es1.size<=sizeLine:=by rw[p2,bF];lia
   refine ad (wpAny_storeSet_of S.obj rfl ?_ hz);have ho1:(s.heap.update a (fX es1 tt)).get? a=some { cls:=.type "set",dict:=none,data:=.set es1 (ep + 1) tt }:=by
    have:=dw (fX es1 tt) S.obj (by rw[putSet_of _ _ rfl];rfl)
    rw[putSet_of _ _ rfl] at this;exact this
   have hsb1:=cf s.heap a (fX es1 tt);have tf:tt.tooFull=decide ((es.size + 1) * 5 >= t.mask * 3):=by
    unfold aX.tooFull jV;rw[h2,h1,p4,h3]
    rfl
   have room:=S.inv.room
   by_cases hfull:(es.size + 1) * 5 >= t.mask * 3
   ·rw[tf,decide_eq_true hfull];simp only[jP,Bool.and_self,if_true];obtain⟨mask',hm1,hm2,hm3,hm4⟩:=grow S.inv.tab.mask room hfull hn;obtain⟨t',order,r1,r2,r3,r4⟩:=relaid_ok (es:=es1) tt hm1 hm2 (by rw[p2];exact hm3)
    have hled:t'.led=tt.led/\t'.plain=tt.plain:=by
     unfold relaid laid at r1;cases hq:layClean (sizeAbove (grown (es.size + 1)) - 1) (Array.map (·.1) es1) with
     | none=>rw[hq] at r1;cases r1
     | some ow=>rw[hq] at r1;cases r1;exact⟨rfl,rfl⟩
    have hfit1:tt.fits es1.size=true:=by
     unfold jU jV
     have:t.mask >= 7:=by rcases S.inv.tab.mask with z | z | z | z <;> lia
     simp only[aV,beq_iff_eq,decide_eq_true_eq];rw[h2,h1,p4,p2,h3];refine⟨rfl,?_⟩;show es.size + 1 + 0<=t.mask;lia
    refine ad ?_;rw[setRelay_eq];refine ad (dO ho1 rfl hfit1 ?_);dsimp only;rw[if_neg hm4,r1];dsimp only;rw[r2];simp only[bne_self_eq_false,aL,if_false,pure_bind];have hz2:(order.filterMap (es1[·]?)).size<=sizeLine:=by rw[r2];exact hz
    refine wpAny_storeSet_of ho1 rfl ?_ hz2;have ho2:((s.heap.update a (fX es1 tt)).update a (fX (order.filterMap (es1[·]?)) t')).get? a=some { cls:=.type "set",dict:=none,data:=.set (order.filterMap (es1[·]?)) (ep + 1 + 1) t' }:=by
     have:=dw (fX (order.filterMap (es1[·]?)) t') ho1 (by rw[putSet_of _ _ rfl];rfl)
     rw[putSet_of _ _ rfl] at this;exact this
    have hsb2:=hsb1.trans (cf (s.heap.update a (fX es1 tt)) a (fX (order.filterMap (es1[·]?)) t'));exact af (h _ _ _ _ true ⟨ho2,r3⟩ hsb2 (hplain _ (r4.trans hperm) _ hled.2) (hled.1.trans h4) (.inr ⟨rfl,r4.trans hperm,hno⟩))
   ·rw[tf,decide_eq_false hfull];simp only[jM,aL,if_false];have I':SetI es1 tt:=by
     refine⟨T',by rw[h1,p4,p2],by rw[h3,p2];lia,fun i j' e' q1 q2=>?_⟩
     rw[h1] at q1;obtain⟨r,r1,r2⟩:=p6 i j' e' q1 q2;rw[h3,h1];exact⟨r,r1,r2⟩
    exact af (h _ _ (ep + 1) _ true ⟨ho1,I'⟩ hsb1 (hplain _ hperm _ rfl) h4 (.inr ⟨rfl,hperm,hno⟩))
  by_cases hp:t.plain=true
  ·have hp':(t.put j).1.plain=true:=hp;rw[hp'];simp only[if_true];refine ad (hbvT hx ?_)
   by_cases hk:k=[]
   ·rw[decide_eq_true hk];simp only[if_true];exact rest (t.put j).1 rfl p3d p5 rfl (fun _=>⟨hp,hk⟩)
   ·rw[decide_eq_false hk];simp only[aL,if_false];exact rest { (t.put j).1 with plain:=false } rfl p3d p5 rfl (fun z=>nomatch z)
  ·have hp':(t.put j).1.plain=false:=eY.mpr hp;rw[hp'];simp only[aL,if_false];refine ad (af ?_);simp only[if_true];exact rest (t.put j).1 rfl p3d p5 rfl (fun z=>by rw[hp'] at z;cases z)
theorem setAddT {a:Addr} {es:Array (Int × ae)} {ep:Nat} {t:aX} {k:List Str} {x:ae} (S:SetAt s.heap a es ep t) (hu:A.units < b7) (hel:ElT prog w s.heap es.toList) (hpl:PlainT prog w s.heap es.toList t) (hx:TK prog w s.heap k x) (hn:es.size + 1<=300) {Q:Bool->ai->Prop}
  (h:∀ h' tk es' ep' t' added,SetAt h' a es' ep' t'->cQ a s.heap h'->PlainT prog w s.heap es'.toList t'->t'.led=t.led->s.toks<=tk ->
   ((added=false/\es'=es/\∃ e∈es.toList,TK prog w s.heap k e.2)\/(added=true/\es'.toList.Perm ((hashT prog w k,x)::es.toList)/\¬ ∃ e∈es.toList,TK prog w s.heap k e.2))->Q added { s with heap:=h',toks:=tk }) :
  aE (aF prog w) A (setAdd a x) Q E s:=by
 obtain⟨b,rfl,hk⟩:=id hx;unfold setAdd;refine cO (ad (wpAny_pyHash_tuple hu hk ?_));exact addT (s:={ s with toks:=s.toks + (k.length + 1) }) S hu hel hpl hx hn fun h' es' ep' t' added h1 h2 h3 h4 h5=>h h' _ es' ep' t' added h1 h2 h3 h4 (Nat.le_add_right _ _) h5
end
def TupKeep (h h':be):Prop:=∀ b o,h.get? b=some o->o.cls=.type "tuple"->h'.get? b=some o
theorem TupKeep.trans {a b c:be} (x:TupKeep a b) (y:TupKeep b c):TupKeep a c:=fun d o e h=>y d o (x d o e h) h
def setOb (es:Array (Int × ae)) (ep:Nat) (t:aX):Obj:={ cls:=.type "set",dict:=none,data:=.set es ep t }
structure SetKd (prog:ay) (w:aI) (κ:Type) where
 is:be->κ->ae->Prop
 I:be->Addr->Array (Int × ae)->Nat->aX->Prop
 inj:∀ {h:be} {k k':κ} {v:ae},is h k v->is h k' v->k=k'
 obj:∀ {h:be} {a:Addr} {es:Array (Int × ae)} {ep:Nat} {t:aX},I h a es ep t->h.get? a=some (setOb es ep t)
 fits:∀ {h:be} {a:Addr} {es:Array (Int × ae)} {ep:Nat} {t:aX},I h a es ep t->t.fits es.size=true
 few:∀ {h:be} {a:Addr} {es:Array (Int × ae)} {ep:Nat} {t:aX} {ks:List κ},I h a es ep t->aZ (fun(e:Int × ae) k=>is h k e.2) es.toList ks->ks.Nodup->t.plain=true->es.size<=1
 fresh:∀ {h:be} {a:Addr} {led:Bool},h.get? a=some (setOb #[] 0 (.fresh 0 0 led))->I h a #[] 0 (.fresh 0 0 led)
 keepIs:∀ {h h':be} {k:κ} {v:ae},is h k v->TupKeep h h'->is h' k v
 keepI:∀ {h h':be} {a:Addr} {es:Array (Int × ae)} {ep:Nat} {t:aX},I h a es ep t->h'.get? a=h.get? a->TupKeep h h'->I h' a es ep t
 add:∀ {A:a6} {E:ae->ai->Prop} {s:ai} {a:Addr} {es:Array (Int × ae)} {ep:Nat} {t:aX} {k:κ} {x:ae} {Q:Bool->ai->Prop},A.units < b7->I s.heap a es ep t->is s.heap k x->es.size + 1<=300 ->
  (∀ h' tk es' ep' t' added,I h' a es' ep' t'->cQ a s.heap h'->t'.led=t.led->s.toks<=tk ->
   ((added=false/\es'=es/\∃ e∈es.toList,is s.heap k e.2)\/(added=true/\(∃ hh,es'.toList.Perm ((hh,x)::es.toList))/\¬ ∃ e∈es.toList,is s.heap k e.2))->Q added { s with heap:=h',toks:=tk }) ->
  aE (aF prog w) A (setAdd a x) Q E s
theorem sameBut_tup {h h':be} {a:Addr} {es:Array (Int × ae)} {ep:Nat} {t:aX} (ho:h.get? a=some (setOb es ep t)) (sb:cQ a h h'):TupKeep h h':=fun b o e c=>by
 refine(sb.2 b ?_).trans e;rintro rfl;rw[ho] at e;have e':o=setOb es ep t:=(aP e).symm;rw[e'] at c;have c':cZ "set" = cZ "tuple":=c;injection c' with c''
 exact absurd c'' (by decide)
section
variable {prog:ay} {w:aI}
theorem TK.keep {h h':be} {k:List Str} {v:ae} (x:TK prog w h k v) (kp:TupKeep h h'):TK prog w h' k v:=by
 obtain⟨b,rfl,o,items,n,ho,hc,hd,hi⟩:=x;exact⟨b,rfl,o,items,n,kp b o ho hc,hc,hd,hi⟩
theorem paired_mem {α β:Type} {R:α->β->Prop}:∀ {l:List α} {m:List β},aZ R l m->∀ a∈l,∃ b∈m,R a b
 | _,_,.nil,a,h=>nomatch h
 | _,_,.cons r t,a,h=>by
  rcases aB.mp h with rfl | h
  ·exact⟨_,am,r⟩
  ·obtain⟨b,hb,q⟩:=paired_mem t a h;exact⟨b,ao _ hb,q⟩
theorem paired_mem' {α β:Type} {R:α->β->Prop}:∀ {l:List α} {m:List β},aZ R l m->∀ b∈m,∃ a∈l,R a b
 | _,_,.nil,a,h=>nomatch h
 | _,_,.cons r t,a,h=>by
  rcases aB.mp h with rfl | h
  ·exact⟨_,am,r⟩
  ·obtain⟨b,hb,q⟩:=paired_mem' t a h;exact⟨b,ao _ hb,q⟩
theorem paired_perm {α β:Type} {R:α->β->Prop} {l l':List α} (p:l'.Perm l):∀ {m:List β},aZ R l m->∃ m',m'.Perm m/\aZ R l' m':=by
 have gen:∀ {l l':List α},l.Perm l'->∀ {m:List β},aZ R l m->∃ m',m'.Perm m/\aZ R l' m':=by
  intro l l' p
  induction p with
  | nil=>intro m h;cases h;exact⟨[],da _,.nil⟩
  | cons x _ ih =>
   intro m h;cases h with
   | cons r t =>
    obtain⟨m',h1,h2⟩:=ih t;exact⟨_,h1.cons _,.cons r h2⟩
  | swap x y l =>
   intro m h;cases h with
   | cons r t =>
    cases t with
    | cons r2 t2=>exact⟨_,jQ.swap _ _ _,.cons r2 (.cons r t2)⟩
  | trans _ _ ih1 ih2 =>
   intro m h;obtain⟨m1,a1,b1⟩:=ih1 h;obtain⟨m2,a2,b2⟩:=ih2 b1;exact⟨m2,a2.trans a1,b2⟩
 intro m h;exact gen p.symm h
theorem few_aux {α β:Type} {R:α->β->Prop} {k0:β} {l:List α} {m:List β} (hp:aZ R l m) (h0:∀ a∈l,R a k0) (inj:∀ a b b',R a b->R a b'->b=b') (nd:m.Nodup):l.length<=1:=by
 cases hp with
 | nil=>exact Nat.zero_le _
 | cons r1 t1 =>
  cases t1 with
  | nil=>exact Nat.le_refl _
  | cons r2 t2 =>
   have k1:=inj _ _ _ (h0 _ am) r1;have k2:=inj _ _ _ (h0 _ (ao _ am)) r2
   have:=(bZ.mp nd).1
   exact absurd (by rw[<- k1,k2];exact am) this
theorem empty_el {P:Int × ae->Prop}:∀ e∈(#[]:Array (Int × ae)).toList,P e:=fun e he=>absurd he (by simp)
def tupKd (prog:ay) (w:aI):SetKd prog w (List Str) where
 is:=TK prog w
 I:=fun h a es ep t=>SetAt h a es ep t/\ElT prog w h es.toList/\PlainT prog w h es.toList t
 inj:=fun a b=>a.inj b
 obj:=fun x=>x.1.obj
 fits:=fun x=>x.1.inv.fits
 few:=fun {h a es ep t ks} x hp nd hpl=>by
  have q:=few_aux hp (x.2.2 hpl) (fun _ _ _ r1 r2=>r1.inj r2) nd;simpa using q
 fresh:=fun ho=>⟨⟨ho,fresh_ok _ _ _⟩,empty_el,fun _=>empty_el⟩
 keepIs:=fun x kp=>x.keep kp
 keepI:=fun x e kp=>⟨⟨by rw[e];exact x.1.obj,x.1.inv⟩,fun e he=>by
  obtain⟨k,q1,q2⟩:=x.2.1 e he;exact⟨k,q1.keep kp,q2⟩,fun hp e he=>(x.2.2 hp e he).keep kp⟩
 add:=fun {A E s a es ep t k x Q} hu hI hx hn h=>by
  obtain⟨S,hel,hpl⟩:=hI;refine setAddT S hu hel hpl hx hn fun h' tk es' ep' t' added h1 h2 h3 h4 h5 h6=>?_;have kp:=sameBut_tup S.obj h2;refine h h' tk es' ep' t' added ⟨h1,?_,fun hp e he=>(h3 hp e he).keep kp⟩ h2 h4 h5 ?_
  ·intro e he;rcases h6 with⟨_,rfl,_⟩ | ⟨_,hp,_⟩
   ·obtain⟨k,q1,q2⟩:=hel e he;exact⟨k,q1.keep kp,q2⟩
   ·rcases aB.mp (hp.mem_iff.mp he) with q | q
    ·rw[q];exact⟨k,hx.keep kp,rfl⟩
    ·obtain⟨k,q1,q2⟩:=hel e q;exact⟨k,q1.keep kp,q2⟩
  ·rcases h6 with q | ⟨q1,q2,q3⟩
   ·exact .inl q
   ·exact .inr ⟨q1,⟨_,q2⟩,q3⟩
end
section
variable {prog:ay} {w:aI}
structure Mem {κ:Type} (D:SetKd prog w κ) (h:be) (a:Addr) (done:List κ) (led:Bool) (ks:List κ):Prop where
 ex:∃ es ep t,D.I h a es ep t/\t.led=led/\aZ (fun(e:Int × ae) k=>D.is h k e.2) es.toList ks
 nd:ks.Nodup
 mem:∀ k,k∈ks↔k∈done
theorem Mem.keep {κ:Type} {D:SetKd prog w κ} {h h':be} {a:Addr} {done:List κ} {led:Bool} {ks:List κ} (M:Mem D h a done led ks) (e:h'.get? a=h.get? a) (kp:TupKeep h h'):Mem D h' a done led ks:=by
 obtain⟨es,ep,t,h1,h2,h3⟩:=M.ex;exact⟨⟨es,ep,t,D.keepI h1 e kp,h2,L2.Paired.mapP h3 fun _ _ q=>D.keepIs q kp⟩,M.nd,M.mem⟩
theorem Mem.size {κ:Type} {D:SetKd prog w κ} {h:be} {a:Addr} {done:List κ} {led:Bool} {ks:List κ} (M:Mem D h a done led ks):ks.length<=done.length :=
 M.nd.length_le_of_subset fun k hk=>(M.mem k).mp hk
theorem addM {κ:Type} [DecidableEq κ] (D:SetKd prog w κ) {A:a6} {E:ae->ai->Prop} {s:ai} {a:Addr} {done:List κ} {led:Bool} {ks:List κ} {k:κ} {x:ae} {Q:Bool->ai->Prop} (hu:A.units < b7) (M:Mem D s.heap a done led ks) (hx:D.is s.heap k x) (hn:done.length + 1<=300)
  (h:∀ h' tk ks',Mem D h' a (done++[k]) led ks'->cQ a s.heap h'->TupKeep s.heap h'->s.toks<=tk->Q (decide (k∉ks)) { s with heap:=h',toks:=tk }) :
  aE (aF prog w) A (setAdd a x) Q E s:=by
 have hsz:=M.size;obtain⟨es,ep,t,h1,h2,h3⟩:=M.ex;have hl:es.size=ks.length:=by have:=bV h3;simpa using this
 refine D.add hu h1 hx (by lia) fun h' tk es' ep' t' added q1 q2 q3 q4 q5=>?_
 have kp:=sameBut_tup (D.obj h1) q2;have h3':aZ (fun(e:Int × ae) k=>D.is h' k e.2) es.toList ks:=L2.Paired.mapP h3 fun _ _ q=>D.keepIs q kp;have isin:(∃ e∈es.toList,D.is s.heap k e.2)↔k∈ks:=by
  constructor
  ·rintro⟨e,he,q⟩;obtain⟨k',hk',q'⟩:=paired_mem h3 e he;rw[D.inj q q'];exact hk'
  ·intro hk;obtain⟨e,he,q⟩:=paired_mem' h3 k hk;exact⟨e,he,q⟩
 rcases q5 with⟨r1,r2,r3⟩ | ⟨r1,⟨hh,r2⟩,r3⟩
 ·have hk:=isin.mp r3;have q:=h h' tk ks ⟨⟨es',ep',t',q1,q3.trans h2,by rw[r2];exact h3'⟩,M.nd,fun k'=>by
   rw[M.mem k',aU,aN];exact⟨.inl,fun z=>z.elim id fun z=>by rw[z];exact(M.mem k).mp hk⟩⟩ q2 kp q4
  rw[decide_eq_false (fun z=>z hk)] at q;rw[r1];exact q
 ·have hk:k∉ks:=fun z=>r3 (isin.mpr z);obtain⟨ks',p1,p2⟩:=paired_perm r2 (R:=fun(e:Int × ae) k=>D.is h' k e.2) (m:=k::ks) (.cons (D.keepIs hx kp) h3');have q:=h h' tk ks' ⟨⟨es',ep',t',q1,q3.trans h2,p2⟩,p1.nodup_iff.mpr (bZ.mpr ⟨hk,M.nd⟩),fun k'=>by
   rw[p1.mem_iff,aB,aU,aN,M.mem k'];exact⟨fun z=>z.symm,fun z=>z.symm⟩⟩ q2 kp q4
  rw[decide_eq_true hk] at q;rw[r1];exact q
theorem set_loop {κ:Type} [DecidableEq κ] (D:SetKd prog w κ) {A:a6} {R:Result->ai->Prop} {I S l:Addr} {items:Array ae} {ks:List κ} {led:Bool} (hh:A.in1.handled=none) (hu:A.in1.units < b7) (hne:l≠I) (hSI:S≠I) (hSl:S≠l) (hn:items.size + 1<=300) :
  ∀ (j i:Nat) (s:ai),items.size - i=j->i<=items.size->s.heap.IsListIter I l i->s.heap.IsList l items->aZ (fun v k=>D.is s.heap k v) items.toList ks->(∃ ms,Mem D s.heap S (ks.take i) led ms) ->
   (∀ h' tk ms,Mem D h' S ks led ms->TupKeep s.heap h'->(∀ b o,b≠S->b≠I->s.heap.get? b=some o->h'.get? b=some o)->R (.ok (.ret .none)) { s with heap:=h',toks:=tk }) ->
   gI (aF prog w) A (.builtin "set.update.loop" ⟨[.ref S,.ref I],[]⟩) R s:=by
 have itk:∀ {h h':be} {i:Nat},h.IsListIter I l i->(∀ b o,b≠I->h.get? b=some o->h'.get? b=some o)->TupKeep h h':=fun st k b o e c=>k b o (by
  rintro rfl;obtain⟨o',e',c',_⟩:=st;rw[e] at e';cases e';rw[c] at c';injection c' with c''
  exact absurd c'' (by decide)) e
 intro j
 induction j with
 | zero =>
  intro i s hj hi hst hl hp hM hR;have hin:i=items.size:=by lia
  subst hin;refine dR fH ?_;rw[cU dX _];show aE _ A.in1 (fj (.ref I) >>= _) _ _ s;refine ad (wpAny_pyNext_list_end hh hst hl (by simp) fun h' eb=>?_)
  show aE _ A.in1 (ret bQ) _ _ _;have kp:=itk hst fun b o hb e=>eb b o hb e;obtain⟨ms,M⟩:=hM;have hlen:ks.length=items.size:=by have:=bV hp;simpa using this.symm
  rw[bq (by lia)] at M
  obtain⟨es,ep,t,h1,_⟩:=id M.ex;have hS:=D.obj h1;exact af (hR h' s.toks ms (M.keep (by rw[hS];exact eb S _ hSI hS) kp) kp fun b o _ hb e=>eb b o hb e)
 | succ j ih =>
  intro i s hj hi hst hl hp hM hR;have hlt:i < items.size:=by lia
  refine dR fH ?_;rw[cU dX _];show aE _ A.in1 (fj (.ref I) >>= _) _ _ s;refine ad (wpAny_pyNext_list_item hst hl (x:=items[i]) (by simp[hlt]) fun h1 st1 sb1=>?_)
  have kp1:=itk hst fun b o hb e=>(sb1.2 b hb).trans e;obtain⟨ms,M⟩:=hM;obtain⟨es,ep,t,q1,_⟩:=id M.ex;have hS:=D.obj q1;have M1:=M.keep (h':=h1) (by rw[sb1.2 S hSI]) kp1
  have hlen:ks.length=items.size:=by have:=bV hp;simpa using this.symm
  have hki:ks[i]?=some ks[i]:=ag (by lia)
  have hx:D.is s.heap ks[i] items[i]:=by
   have gen:∀ {l:List ae} {m:List κ},aZ (fun v k=>D.is s.heap k v) l m->∀ (n:Nat) (v:ae) (k:κ),l[n]?=some v->m[n]?=some k->D.is s.heap k v:=by
    intro l m hp
    induction hp with
    | nil=>intro n v k h;simp at h
    | cons r _ ih =>
     intro n v k h1 h2;cases n with
     | zero=>simp at h1 h2;subst h1;subst h2;exact r
     | succ n=>exact ih n v k (by simpa using h1) (by simpa using h2)
   exact gen hp i _ _ (by simp[hlt]) hki
  show aE _ A.in1 (holding [items[i]] (setAdd S items[i]) >>= _) _ _ _;refine ad (cO ?_);refine addM D (s:={ s with heap:=h1 }) hu M1 (D.keepIs hx kp1) (by rw[aS];lia) fun h2 tk ms' M2 sb2 kp2 htk=>?_
  have hl2:h2.IsList l items:=by
   obtain⟨o,e,r⟩:=hl;exact⟨o,(sb2.2 l (cN hSl)).trans ((sb1.2 l hne).trans e),r⟩
  have st2:h2.IsListIter I l (i + 1):=by
   obtain⟨o,e,r⟩:=st1;exact⟨o,(sb2.2 I (cN hSI)).trans e,r⟩
  refine af ⟨gL dX _,ih (i + 1) _ (by lia) hlt st2 hl2 (L2.Paired.mapP hp fun _ _ q=>D.keepIs q (kp1.trans kp2)) ⟨ms',?_⟩ fun h' tk' ms'' a1 a2 a3=>?_⟩
  ·have et:ks.take (i + 1)=ks.take i++[ks[i]]:=by rw[cm,hki];rfl
   rw[et];exact M2
  ·exact hR h' tk' ms'' a1 ((kp1.trans kp2).trans a2) fun b o hb1 hb2 e=>a3 b o hb1 hb2 ((sb2.2 b hb1).trans ((sb1.2 b hb2).trans e))
abbrev ledOf (w:aI):Bool:=!(w.params.followText "set-order")
theorem set_newT {A:a6} {E:ae->ai->Prop} {s:ai} (a:ae) {Q1:ae->ai->Prop}
  (h:Q1 (.ref s.heap.objs.size) { s with heap:=s.heap.push (setOb #[] 0 (.fresh 0 0 (ledOf w))) }) :
  gI (aF prog w) A (.call (.builtin "set.__new__") ⟨[.type "set",a],[]⟩) (wants Q1 E) s:=by
 refine codeAny_of_tree ?_;show aE _ A.in1 (do checkBuiltinCall "set.__new__" ⟨[.type "set",a],[]⟩;again (.builtin "set.__new__" ⟨[.type "set",a],[]⟩)) _ _ s
 refine ad (wpAny_of_eq (PySem.F.newCall_set_1 a) (af ⟨gL jH _,dR PySem.F.entry_set_new ?_⟩));rw[cU jH _];unfold b6.«set.__new__» b6.Frozenset.newClass;have hsub:=sub_set_self;obtain⟨hp,g,d,tk,os⟩:=s;dsimp only
 wp_walk
 refine dE (af ?_);dsimp only;simp only[newObj];refine ad (wpAny_alloc (af ?_));exact af h
end
section
variable {prog:ay} {w:aI}
theorem call_setK {κ:Type} [DecidableEq κ] (D:SetKd prog w κ) {A:a6} {E:ae->ai->Prop} {s:ai} {l:Addr} {items:Array ae} {ks:List κ} {Q:ae->ai->Prop}
  (hh:A.handled=none) (hu:A.units + 8 < b7) (hl:s.heap.IsList l items) (hi:aZ (fun v k=>D.is s.heap k v) items.toList ks) (hb:items.size + 1<=300)
  (h:∀ (h':be) (tk:Nat) ms,Mem D h' s.heap.objs.size ks (ledOf w) ms->TupKeep s.heap h' ->
   (∀ b o,b < s.heap.objs.size->s.heap.get? b=some o->h'.get? b=some o)->Q (.ref s.heap.objs.size) { s with heap:=h',toks:=tk }) :
  aE (aF prog w) A (call (.type "set") [.ref l]) Q E s:=by
 obtain⟨c,tl,hmro⟩:=PySem.F.called_set.mro;have hmade:=PySem.F.called_set.made;have hsub:=PySem.F.called_set.sub;refine wpAny_call (codeAny_of_tree ?_);show aE _ _ (callAny (.type "set") _) _ _ _;refine af ⟨Code.quiet_builtin _ (by decide +kernel),dR PySem.F.entry_type_call ?_⟩
 rw[a6.under_plain (weight_type_call_type "set" [.ref l] []) rfl];have h1:=PySem.F.called_set.notType;have h2:=PySem.F.called_set.canCreate;have hct:=PySem.F.typeCall_set_1 (.ref l)
 repeat (any_goals (first | assumption | wp_step))
 refine gY (set_newT (.ref l) (E:=E) (Q1:=fun obj s1=>obj=.ref s.heap.objs.size/\s1={ s with heap:=s.heap.push (setOb #[] 0 (.fresh 0 0 (ledOf w))) }) ⟨rfl,rfl⟩) fun r s1 hr=>?_
 cases r with
 | error e=>exact hr
 | ok fl =>
  cases fl with
  | ret obj =>
   obtain⟨rfl,rfl⟩:=hr;have hS:(s.heap.push (setOb #[] 0 (.fresh 0 0 (ledOf w)))).get? s.heap.objs.size=some (setOb #[] 0 (.fresh 0 0 (ledOf w))):=av _ rfl;have hT:jX { s with heap:=s.heap.push (setOb #[] 0 (.fresh 0 0 (ledOf w))) } (.ref s.heap.objs.size) "set":=⟨_,hS,rfl⟩
   have hli:=PySem.F.called_set.init.lookup;have hbi:=PySem.F.called_set.init.bind (.ref s.heap.objs.size)
   repeat (any_goals (first | assumption | wp_step))
   refine gY (codeAny_call_builtin (R:=wants (fun r s2=>r=.none/\∃ h' tk ms,s2={ s with heap:=h',toks:=tk }/\Mem D h' s.heap.objs.size ks (ledOf w) ms/\TupKeep s.heap h' /\
     (∀ b o,b < s.heap.objs.size->s.heap.get? b=some o->h'.get? b=some o)) E) PySem.F.called_set.init.plain PySem.F.entry_set_init (check_set_init_1 hT ?_)) fun r2 s2 hr2=>?_
   ·obtain⟨ol,hol,hcl,nl,hdl⟩:=hl;obtain⟨ocls,odict,odata,oslots⟩:=ol;simp only at hcl hdl;subst hcl;subst hdl;have hol':(s.heap.push (setOb #[] 0 (.fresh 0 0 (ledOf w)))).get? l=some { cls:=.type "list",dict:=odict,data:=.seq items nl,slots:=oslots }:=ah _ hol;have hsls:=PySem.F.sub_list_set;have hslf:=PySem.F.sub_list_frozenset;have hne:(cZ "list" == cZ "dict")=false:=by decide
    have hl1:(s.heap.push (setOb #[] 0 (.fresh 0 0 (ledOf w)))).IsList l items:=⟨_,hol',rfl,nl,rfl⟩;unfold b6.«set.__init__» noKeywords b6.Frozenset.updateFrom;generalize hPI:pyIter=PI;unfold setOb at *
    wp_walk
    subst hPI;refine gv hl1 ?_;refine ad (wpAny_runValue ?_);have hlS:l < s.heap.objs.size:=aC hol;have hh3:A.in1.in1.in1.handled=none:=by simp[hh]
    have hu3:A.in1.in1.in1.units < b7:=by show A.units + 1 + 1 + 1 < b7;lia
    have hneI:l≠(s.heap.push { cls:=.type "set",dict:=none,data:=.set #[] 0 (.fresh 0 0 (ledOf w)) }).objs.size:=by
     rw[cP];exact Nat.ne_of_lt (Nat.lt_succ_of_lt hlS)
    have hSI:s.heap.objs.size≠(s.heap.push { cls:=.type "set",dict:=none,data:=.set #[] 0 (.fresh 0 0 (ledOf w)) }).objs.size:=by
     rw[cP];exact Nat.ne_of_lt (Nat.lt_succ_self _)
    have kp:TupKeep s.heap ((s.heap.push { cls:=.type "set",dict:=none,data:=.set #[] 0 (.fresh 0 0 (ledOf w)) }).push { cls:=.type "list_iterator",data:=.fields #[.ref l,.int 0 0] }):=fun b o e _=>ah _ (ah _ e)
    have hget:((s.heap.push { cls:=.type "set",dict:=none,data:=.set #[] 0 (.fresh 0 0 (ledOf w)) }).push { cls:=.type "list_iterator",data:=.fields #[.ref l,.int 0 0] }).get? s.heap.objs.size
       = some (setOb #[] 0 (.fresh 0 0 (ledOf w))):=ah _ hS
    refine set_loop D hh3 hu3 hneI hSI (cN (Nat.ne_of_lt hlS)) hb (items.size - 0) 0 _ (by lia) (Nat.zero_le _) ⟨_,av _ rfl,rfl,rfl⟩ (hl1.push _) (L2.Paired.mapP hi fun _ _ q=>D.keepIs q kp)
     ⟨[],⟨⟨#[],0,.fresh 0 0 (ledOf w),D.fresh hget,rfl,.nil⟩,d8,fun k=>by simp⟩⟩ ?hR
    case hR =>
     intro h' tk' ms hM kp' hk';show aE _ _ _ _ _ _;refine af ?_;show aE _ _ (ret bQ) _ _ _;refine af ⟨rfl,h',tk',ms,rfl,hM,kp.trans kp',fun b o hb e=>?_⟩;exact hk' b o (Nat.ne_of_lt hb) (by rw[cP];exact Nat.ne_of_lt (Nat.lt_succ_of_lt hb)) (ah _ (ah _ e))
   ·cases r2 with
    | error e=>exact hr2
    | ok fl2 =>
     cases fl2 with
     | ret r =>
      obtain⟨rfl,h',tk,ms,rfl,hM,kp',hk'⟩:=hr2
      repeat (any_goals (first | assumption | wp_step))
      exact h _ _ _ hM kp' hk'
     | _=>exact hr2.elim
  | _=>exact hr.elim
end
end ST
set_option maxHeartbeats 1000000
namespace L2
open PySem PySem.Spec PyProof.Rows
variable {α β:Type}
theorem bool_at {H:Hp} {xs:List V} {us:List ae} {bs:List Bool} (p:aZ (dB H) xs bs) (r:Vals xs us) {i:Nat} {v:ae} (h:us[i]?=some v):∃ b,bs[i]?=some b/\v=.bool b:=by
 have hl:=r.length;have hi:i < xs.length:=by
  rcases Nat.lt_or_ge i us.length with z | z
  ·omega
  ·rw[bP z] at h;cases h
 obtain⟨b,e,rb⟩:=Paired.get' p (ag hi);obtain⟨u,eu,ru⟩:=r.get (ag hi);rw[h] at eu;cases eu;have rb':xs[i]=V.bl b:=rb;rw[rb'] at ru;exact⟨b,e,ru⟩
theorem walk_old {h h':be} {o:Obj} (hk:∀ b x,b∉[h.objs.size]->(h.push o).get? b=some x->h'.get? b=some x):∀ b x,h.get? b=some x->h'.get? b=some x:=fun b x e =>
 hk b x (fun z=>by have:=aN.mp z;subst this;exact Nat.lt_irrefl _ (aC e)) (ah _ e)
theorem range_all' (bs:List Bool):∀ n,n=bs.length->((aY n).all fun i=>(bs[i]?).getD true)=bs.all id:=by
 rintro n rfl;rw[dU,a7,a7];refine⟨fun h b hb=>?_,fun h i hi=>?_⟩
 ·obtain⟨i,hi,rfl⟩:=bn hb
  have:=h i (bh.mpr hi)
  rwa [ag hi] at this
 ·have hi':=bh.mp hi;rw[ag hi'];exact h _ (d6 hi')
theorem range_any' (bs:List Bool):∀ n,n=bs.length->((aY n).any fun i=>(bs[i]?).getD false)=bs.any id:=by
 rintro n rfl;rw[dU,ja,ja];refine⟨fun⟨i,hi,h⟩=>?_,fun⟨b,hb,h⟩=>?_⟩
 ·have hi':=bh.mp hi;rw[ag hi'] at h;exact⟨_,d6 hi',h⟩
 ·obtain⟨i,hi,rfl⟩:=bn hb;exact⟨i,bh.mpr hi,by rw[ag hi];exact h⟩
section
variable {X:Cx}
theorem call_allD (hc:X.calm=true):CallR X (.builtin "all") (fun xs H Q=>∃ x bs,xs=[x]/\dL X.K dB H x bs/\Q (.bl (bs.all id)) H):=by
 intro pins s σ H xs us Q I r h;obtain⟨x,bs,rfl,⟨a,ys,rfl,hq,p⟩,q⟩:=h;obtain⟨u,rfl,rx⟩:=vals1 r;cases rx;obtain⟨its,ri,pl,_⟩:=I.list hq;obtain⟨o,ho,_⟩:=id pl.isList;refine PySem.call_all_walk (gv pl.isList ⟨_,_,_,_,_,_,fun i=>(bs[i]?).getD true,rfl,PySem.Walks.list (A:=X.A.in1) (by have:=I.ok.hd hc;simp[this]) _ a (Nat.ne_of_lt (aC ho)) its.toArray,⟨⟨_,av _ rfl,rfl,rfl⟩,pl.isList.push _⟩,fun i v s' Q' E' hP hQ=>?_,fun h' tk hk=>?_⟩)
 ·obtain⟨b,e,rfl⟩:=bool_at p ri (show its[i]?=some v by simpa using hP)
  simp only[e,jb] at hQ;exact cA hQ
 ·rw[range_all' bs _ (by rw[aq,<- ri.length,p.length])]
  exact⟨.bl _,H,I.kept (t':=tk) (walk_old hk),rfl,q⟩
theorem call_anyD (hc:X.calm=true):CallR X (.builtin "any") (fun xs H Q=>∃ x bs,xs=[x]/\dL X.K dB H x bs/\Q (.bl (bs.any id)) H):=by
 intro pins s σ H xs us Q I r h;obtain⟨x,bs,rfl,⟨a,ys,rfl,hq,p⟩,q⟩:=h;obtain⟨u,rfl,rx⟩:=vals1 r;cases rx;obtain⟨its,ri,pl,_⟩:=I.list hq;obtain⟨o,ho,_⟩:=id pl.isList;refine PySem.call_any_walk (gv pl.isList ⟨_,_,_,_,_,_,fun i=>(bs[i]?).getD false,rfl,PySem.Walks.list (A:=X.A.in1) (by have:=I.ok.hd hc;simp[this]) _ a (Nat.ne_of_lt (aC ho)) its.toArray,⟨⟨_,av _ rfl,rfl,rfl⟩,pl.isList.push _⟩,fun i v s' Q' E' hP hQ=>?_,fun h' tk hk=>?_⟩)
 ·obtain⟨b,e,rfl⟩:=bool_at p ri (show its[i]?=some v by simpa using hP)
  simp only[e,jb] at hQ;exact cA hQ
 ·rw[range_any' bs _ (by rw[aq,<- ri.length,p.length])]
  exact⟨.bl _,H,I.kept (t':=tk) (walk_old hk),rfl,q⟩
def SzOk (ds:List α) (n:Nat):Prop:=n<=ds.length/\(n=ds.length↔ds.Nodup)
theorem nodup_of_len [DecidableEq α]:∀ (ds ms:List α),ms.Nodup->ms ⊆ ds->ds.length<=ms.length->ds.Nodup
 | [],_,_,_,_=>d8
 | x::xs,ms,nd,sub,le=>by
  have hx:x∉xs:=fun hx=>by
   have:ms ⊆ xs:=fun k hk=>by
    rcases aB.mp (sub hk) with rfl | z
    ·exact hx
    ·exact z
   have:=nd.length_le_of_subset this
   simp only[aO] at le;omega
  refine bZ.mpr ⟨hx,nodup_of_len xs (ms.erase x) (nd.erase x) (fun k hk=>?_) ?_⟩
  ·have hk':=(List.Nodup.mem_erase_iff nd).mp hk;exact(aB.mp (sub hk'.2)).resolve_left hk'.1
  ·simp only[aO] at le
   have:=List.length_erase (a:=x) (l:=ms)
   split at this <;> omega
theorem szOk_of [DecidableEq α] {ds ms:List α} (nd:ms.Nodup) (h:∀ k,k∈ms↔k∈ds):SzOk ds ms.length:=by
 have sub:ms ⊆ ds:=fun k hk=>(h k).mp hk;have le:ms.length<=ds.length:=nd.length_le_of_subset sub;refine⟨le,fun e=>?_,fun nd'=>Nat.le_antisymm le (nd'.length_le_of_subset fun k hk=>(h k).mpr hk)⟩;exact nodup_of_len ds ms nd sub (by omega)
theorem tk_of {P:ay} {w:aI} {h:be} {H:Hp} {K:Fg} {b:Addr} {xs:List V} {its:List ae} {k:List Str} (p:aZ (dS H) xs k) (r:Vals xs its) (t:iK h b its.toArray):ST.TK P w h k (.ref b):=by
 obtain⟨o,ho,hc,n,hd⟩:=t;refine⟨b,rfl,o,its.toArray,n,ho,hc,hd,?_⟩;show ItemsAre (iU P w) k its;have go:∀ {xs:List V} {its:List ae} {k:List Str},aZ (dS H) xs k->Vals xs its->ItemsAre (iU P w) k its:=by
  intro xs its k p r
  induction p generalizing its with
  | nil=>cases r;first | exact trivial | exact .nil
  | cons e _ ih =>
   cases r with
   | cons r t =>
    cases e;obtain⟨tk,rfl⟩:=r
    first
     | exact⟨by simp[iU,jS],ih t⟩
     | exact .cons (by simp[iU,jS]) (ih t)
 exact go p r
end
end L2
set_option maxHeartbeats 4000000
namespace L2
open PySem PySem.Spec PyProof.Rows
section
variable {prog:ay} {w:aI} {A:a6} {E:ae->ai->Prop} {s:ai}
theorem nx_item {it t:Addr} {i:Nat} {items:Array ae} {x:ae} {Q:ae->ai->Prop} (hit:s.heap.IsTupleIter it t i) (ht:s.heap.IsTuple t items) (hx:items[i]?=some x)
  (hQ:∀ h',h'.IsTupleIter it t (i + 1)->cQ it s.heap h'->Q x { s with heap:=h' }):aE (aF prog w) A (iH (.ref it)) Q E s:=by
 obtain⟨o,ho,hc,hd⟩:=id hit;obtain⟨ol,hol,_,nl,hdl⟩:=ht;have ne:¬ ((bY t == bQ)=true):=ba;refine ad (bX (name:=cb "__next__") hit.typeIs F.slot_tuple_iterator_next (bM F.slot_tuple_iterator_next hit.typeIs F.entry_tuple_iterator_next ?_ (F.args_tuple_iterator_next_1 _)));refine ad (m:=field (.ref it) 0) (dg ho hd (x:=.ref t) rfl ?_);refine(if_neg ne).symm ▸ (ad (m:=field (.ref it) 1) (dg ho hd (x:=.int i 0) rfl ?_));refine ad (m:=seqItems? (.ref t)) (eL hol hdl ?_);simp only[bG,hx];refine ad (wpAny_setField ho hd (by simp) (af ⟨x,rfl,af (hQ _ ⟨_,dw _ ho (Obj.isFreed_of_fields (Obj.data_mapFields hd _)),(Obj.cls_mapFields ..).trans hc,?_⟩ (cf ..))⟩))
 rw[Obj.data_mapFields hd];simp[eW]
theorem nx_end {it t:Addr} {i:Nat} {items:Array ae} {Q:ae->ai->Prop} (hh:A.handled=none) (hit:s.heap.IsTupleIter it t i) (ht:s.heap.IsTuple t items) (hx:items[i]?=none)
  (hE:∀ h' e,be.ExtBut it s.heap h'->(∃ o,h'.get? e=some o/\o.cls=.type "StopIteration")->E (.ref e) { s with heap:=h' }):aE (aF prog w) A (iH (.ref it)) Q E s:=by
 obtain⟨o,ho,hc,hd⟩:=id hit;obtain⟨ol,hol,_,nl,hdl⟩:=ht;have ne:¬ ((bY t == bQ)=true):=ba;refine ad (bX (name:=cb "__next__") hit.typeIs F.slot_tuple_iterator_next (bM F.slot_tuple_iterator_next hit.typeIs F.entry_tuple_iterator_next ?_ (F.args_tuple_iterator_next_1 _)));refine ad (m:=field (.ref it) 0) (dg ho hd (x:=.ref t) rfl ?_);refine(if_neg ne).symm ▸ (ad (m:=field (.ref it) 1) (dg ho hd (x:=.int i 0) rfl ?_));refine ad (m:=seqItems? (.ref t)) (eL hol hdl ?_);simp only[bG,hx];refine ad (d9 (ad (wpAny_setField ho hd (by simp) (ad (m:=newExc (.type "StopIteration") []) ?_))))
 simp only[newExc,newTuple];refine ad (bm (ad (m:=iu _ _) (wpAny_of_eq (a:=bQ) (by first | rfl | (simp only[iu];rfl)) (bm ?_ (by size_fits)))) (by size_fits))
 simp only[raiseNew];refine ad (wpAny_handled ?_)
 first | rw[show A.in1.handled=none from hh] | rw[hh]
 exact ad (af (wpAny_throw (hE _ _ (((cf ..).extBut.push _).push _) ⟨_,av _ rfl,rfl⟩)))
theorem draws_tup (hh:A.handled=none) (it l:Addr) (hne:l≠it) (items:Array ae):Draws prog w A it [it,l] items.size (fun i v=>items[i]?=some v) (fun i h=>h.IsTupleIter it l i/\h.IsTuple l items) where
 live:=fun _ _ st=>let ⟨o,ho,_⟩:=st.1;⟨o,ho⟩
 frame:=fun _ _ _ st hk=>⟨let ⟨o,ho,r⟩:=st.1;⟨o,hk it (by simp) o ho,r⟩,let ⟨o,ho,r⟩:=st.2;⟨o,hk l (by simp) o ho,r⟩⟩
 item:=fun i s Q E hi st hQ=>nx_item st.1 st.2 (x:=items[i]) (by simp[hi]) fun h' hit' hs'=>hQ _ h' s.toks (by simp[hi]) ⟨hit',st.2.extBut hs'.extBut hne⟩ hs'
 done:=fun s Q E st hE=>nx_end hh st.1 st.2 (by simp) hE
theorem en_new (l:Addr) (items:Array ae) (n:Nat) (dct:Option Addr) (sl:Array (Option ae)) :
  Meets (b6.«enumerate.__new__» ⟨[.type "enumerate",.ref l],[]⟩) (fun _ R s=>s.heap.get? l=some { cls:=.type "tuple",dict:=dct,data:=.seq items n,slots:=sl } /\
   R (.ok (.ret (.ref (s.heap.push { cls:=.type "tuple_iterator",data:=.fields #[.ref l,.int 0 0] }).objs.size)))
    { s with heap:=(s.heap.push { cls:=.type "tuple_iterator",data:=.fields #[.ref l,.int 0 0] }).push { cls:=.type "enumerate",data:=.fields #[.none,.bool false,.ref s.heap.objs.size,eW 0,.none,.none] } }) :=
 .of_wp fun prog w A R s h=>by
  obtain⟨hp,g,d,tk,os⟩:=s;obtain⟨hl,h⟩:=h;have hsub:=sub_enumerate;have hT:be.IsTuple (ai.heap ⟨hp,g,d,tk,os⟩) l items:=⟨_,hl,rfl,n,rfl⟩
  wp_walk using eD hl
  refine wpAny_stack_any fun st=>af ?_
  split
  ·rename_i c _ _ _ _ _;cases (c == cZ "enumerate") <;>
   ·wp_walk using eD hl,iw hT
    exact⟨_,rfl,h⟩
  ·wp_walk using eD hl,iw hT
   exact⟨_,rfl,h⟩
theorem call_en {l:Addr} {items:Array ae} {Q:ae->ai->Prop} (hT:s.heap.IsTuple l items)
  (h:∀ h',IsEnum h' (s.heap.objs.size + 1) s.heap.objs.size 0 .none->h'.IsTupleIter s.heap.objs.size l 0->(∀ b o,s.heap.get? b=some o->h'.get? b=some o)->Q (.ref (s.heap.objs.size + 1)) { s with heap:=h' }) :
  aE (aF prog w) A (call (.type "enumerate") [.ref l]) Q E s:=by
 obtain⟨⟨c,dct,dt,sl⟩,hl,hc,n,hd⟩:=hT;replace hc:c=.type "tuple":=hc;replace hd:dt=.seq items n:=hd;subst hc hd;refine callType_new F.called_enumerate (by decide) (F.typeCall_enumerate_1 _) (F.newCall_enumerate_1 _) (fun obj=>F.args_object_init_2 obj _) F.entry_enumerate_new (en_new l items n dct sl) ⟨hl,?_⟩
 generalize ho:({ cls:=.type "tuple_iterator",data:=.fields #[.ref l,.int 0 0] }:Obj)=o1;have hz:(s.heap.push o1).objs.size=s.heap.objs.size + 1:=cP ..;have he:=av (s.heap.push o1) (o:={ cls:=.type "enumerate",data:=.fields #[.none,.bool false,.ref s.heap.objs.size,eW 0,.none,.none] }) rfl;have hi:(s.heap.push o1).get? s.heap.objs.size=some o1:=av _ (by rw[<- ho];rfl)
 show _/\_;rw[hz] at he ⊢;exact⟨⟨_,he,rfl⟩,h _ he ⟨o1,ah _ hi,by rw[<- ho],by rw[<- ho];rfl⟩ fun b o x=>ah _ (ah _ x)⟩
end
def Ite (K:Fg) (a:Addr):It:=⟨fun i H=>∃ xs x,SqT K H a xs/\xs[i]?=some x,fun i H x H'=>∃ p y,H p=none/\x=.ref p/\H'=upd H p (.tup [.int i,y])/\∀ xs,SqT K H a xs->xs[i]?=some y,fun i H=>∃ xs,SqT K H a xs/\xs.length<=i⟩
theorem turn_en {P:ay} {w:aI} {K:Fg} {elts:List Expr} {x1:Nat} {pos:Pos} (a it e:Addr) (hei:e≠it) (hae:a≠e) (hai:a≠it):Turn P w K (.Tuple elts x1 pos) (Ite K a) [e,it] e (fun i h=>(∃ old,IsEnum h e it i old)/\h.IsTupleIter it a i) where
 mem:=by simp
 obj:=fun i h st b hb=>by
  obtain⟨⟨old,he⟩,o,ho,hc,hd⟩:=st;rcases aB.mp hb with rfl | hb
  ·exact⟨_,he,fun v z=>by cases z⟩
  ·have:=aN.mp hb
   subst this;exact⟨o,ho,fun v z=>by rw[hd] at z;cases z⟩
 keep:=fun i h h' st k=>by
  obtain⟨⟨old,he⟩,o,ho,r⟩:=st;exact⟨⟨old,k e (by simp) _ he⟩,o,k it (by simp) _ ho,r⟩
 item:=by
  intro X hP hw hK hc i pins s σ H E I hf st hg;subst hP hw hK;obtain⟨xs,x,hq,hx⟩:=hg;obtain⟨its,rv,p,hz⟩:=I.tuple hq;obtain⟨u,hu,ru⟩:=rv.get hx;obtain⟨⟨old,he⟩,st2⟩:=st;have hi:i < its.toArray.size:=by
   rcases Nat.lt_or_ge i its.toArray.size with z | z
   ·exact z
   ·rw[aq] at z;rw[bP z] at hu;cases hu
  have hh:X.A.in1.handled=none:=by have:=I.ok.hd hc;simp[this]
  have hT:s.heap.IsTuple a its.toArray:=p;refine wpAny_pyNext_enum_itemD (draws_tup hh it a hai its.toArray) he ⟨st2,hT⟩ hi hei (by simp;exact⟨hei,fun z=>hae z.symm⟩) fun y h' tk hy ho hs' hT' hsz hk=>⟨_,rfl,?_⟩
  have hy':y=u:=by
   have:its[i]?=some y:=by simpa using hy
   rw[hu] at this;exact(aP this).symm
  subst hy';refine wpAny_letOwnedTupleGo_enum ho fun h2 he2 hs2=>?_;have fe:=hf e (by simp)
  have fi:=hf it (by simp)
  have kk:∀ b o,b≠e->b≠it->s.heap.get? b=some o->h2.get? b=some o:=fun b o n1 n2 g=>(hs2.2 b n1).trans (hk b o n1 n2 g);have hel:e < s.heap.objs.size:=aC he;have hfresh:H s.heap.objs.size=none:=I.hok.fresh (Nat.le_refl _);have nT:∀ b o,s.heap.get? b=some o->b≠s.heap.objs.size:=fun b o g=>Nat.ne_of_lt (aC g);have nH:∀ b u,H b=some u->b≠e/\b≠it:=fun b u g=>⟨fun z=>(by rw[z,fe.1] at g;cases g),fun z=>(by rw[z,fi.1] at g;cases g)⟩
  have tupT:h2.get? s.heap.objs.size=some { cls:=.type "tuple",data:=.seq #[.int i tk,y] }:=(hs2.2 _ (Nat.ne_of_gt hel)).trans hT';have hok:HOk X.prog X.w (upd H s.heap.objs.size (.tup [.int i,x])) h2:=fun b ob g=>by
   by_cases hb:b=s.heap.objs.size
   ·subst hb;rw[upd_same] at g;cases g;refine⟨by rw[bF];show 2<=_;decide,[.int i tk,y],.cons ⟨tk,rfl⟩ (.cons ru .nil),⟨_,tupT,rfl,0,rfl⟩,fun o e=>by rw[tupT] at e;cases e;rfl⟩
   ·rw[upd_ne hb] at g;refine(I.hok b ob g).stay (fun c w' hc' q=>?_) (fun c q=>?_) fun c ys q=>?_
    ·rcases hc' with rfl | hc'
     ·exact kk _ _ (nH _ _ g).1 (nH _ _ g).2 q
     ·exact kk _ _ (nH _ _ hc').1 (nH _ _ hc').2 q
    ·rw[upd_ne (ne_of_none q hfresh)];exact q
    ·rw[upd_ne (ne_of_none q hfresh)];exact q
  have un:Un (frs X.stack) [e,it] H (upd H s.heap.objs.size (.tup [.int i,x])) s.heap h2:=by
   have ab:∀ {b:Addr},b∉[e,it]->b≠e/\b≠it:=fun hb=>⟨fun z=>hb (by simp[z]),fun z=>hb (by simp[z])⟩
   exact⟨fun b o g _ _ hb=>kk b o (ab hb).1 (ab hb).2 g,fun b o g _ _ hb=>⟨o.slots,kk b o (ab hb).1 (ab hb).2 g⟩,fun b o g n _=>by rw[upd_ne (nT b o g)];exact n,fun b o g hb=>⟨o,kk b o (ab hb).1 (ab hb).2 g⟩,
    fun b ys g=>by rw[upd_ne (ne_of_none g hfresh)];exact g,fun b o v g=>by rw[upd_ne (ne_of_none g hfresh)];exact g,fun b ps g=>⟨#[],by rw[upd_ne (ne_of_none g hfresh),g];simp⟩⟩
  have I2:Inv X pins σ (upd H s.heap.objs.size (.tup [.int i,x])) { s with heap:=h2,toks:=tk + 1 }:=I.call' (s':={ s with heap:=h2,toks:=tk + 1 }) rfl un hok I.bare fun b hb=>by
   rcases aB.mp hb with rfl | hb
   ·exact⟨fe.2.2.2.1,fe.2.1,fe.2.2.2.2.1,fe.2.2.2.2.2⟩
   ·have:=aN.mp hb
    subst this;exact⟨fi.2.2.2.1,fi.2.1,fi.2.2.2.2.1,fi.2.2.2.2.2⟩
  refine⟨.ref s.heap.objs.size,_,I2,rfl,⟨_,x,hfresh,rfl,rfl,fun ys hy=>by rw[I.tuple_inj hy hq];exact hx⟩,⟨⟨_,by simpa using he2⟩,?_⟩,fun b hb=>?_⟩
  ·obtain⟨o,g,r⟩:=hs'.1;exact⟨o,(hs2.2 it (cN hei)).trans g,r⟩
  ·have hb':b < s.heap.objs.size:=by
    rcases aB.mp hb with rfl | hb
    ·exact hel
    ·have:=aN.mp hb
     subst this;obtain⟨o,g,_⟩:=st2;exact aC g
   rw[upd_ne (Nat.ne_of_lt hb')];exact(hf b hb).1
 done:=by
  intro X hP hw hK hc i pins s σ H E I hf st hg;subst hP hw hK;obtain⟨xs,hq,hx⟩:=hg;obtain⟨its,rv,p,hz⟩:=I.tuple hq;obtain⟨⟨old,he⟩,st2⟩:=st;have hl:=rv.length;have hh:X.A.in1.handled=none:=by have:=I.ok.hd hc;simp[this]
  have hT:s.heap.IsTuple a its.toArray:=p;obtain⟨f0,f1,f2,f3,f4,f5⟩:=hf it (by simp)
  have hT2:s.TypeIs (.ref e) "enumerate":=⟨_,he,rfl⟩;unfold fj;refine ad (fO (bX (name:=cb "__next__") hT2 F.slot_enumerate_next (bM F.slot_enumerate_next hT2 F.entry_enumerate_next ?_ (F.args_enumerate_next_1 _))));refine ad (m:=field (.ref e) 2) (dg he rfl (x:=.ref it) rfl (ad (nx_end hh st2 hT (by simp;lia) fun h' x he' hx'=>?_)))
  obtain⟨o,ho,hc'⟩:=hx';refine ad (fA (T := "StopIteration") (b:=true) ⟨o,ho,hc'⟩ isSubtype_stop ?_);exact af ⟨rfl,I.turned (t':=s.toks) (fun b o hb g=>he' b o hb g) f0 f1 f3 f4 f5⟩
 self:=fun A i s Q E st h=>by
  obtain⟨⟨old,he⟩,_⟩:=st;exact gw he h
section
variable {X:Cx}
def iEnT (K:Fg) (ta:TA):TI:=fun σ H R=>ta σ H fun vs H1=>∃ a,vs=[.ref a]/\(∃ xs,SqT K H1 a xs)/\R (Ite K a) H1
theorem pi_en {e:Expr} {ta:TA} {p pos:Pos} {elts:List Expr} {x1:Nat} {tpos:Pos} (hg:Gl X "enumerate") (hm:X.mg "enumerate" = none) (ha:PA X [e] ta) (hs:ax [e] X.env=[(false,eval e X.env)]:=by rfl) :
  PI X (.Tuple elts x1 tpos) (.Call (.Name "enumerate" p) [e] [] pos) (iEnT X.K ta):=by
 intro pins s σ H R I h;refine Call_ (ld_blt I hg hm g6 (cY (thn (ha pos pins s σ H _ I h) fun us s1 ⟨vs,H1,I1,r1,q1⟩=>?_) hs rfl));obtain⟨a,rfl,⟨xs,hq⟩,q⟩:=q1;obtain⟨u,rfl,rx⟩:=vals1 r1;cases rx;obtain⟨its,rv,pl,hz⟩:=I1.tuple hq;have hal:a < s1.heap.objs.size:=by obtain⟨o,e,_⟩:=id pl;exact aC e
 refine call_en (show s1.heap.IsTuple a its.toArray from pl) fun h' he hi hk=>gw he ?_
 refine⟨s1.heap.objs.size + 1,[s1.heap.objs.size + 1,s1.heap.objs.size],_,_,H1,rfl,I1.kept (t':=s1.toks) hk,turn_en a s1.heap.objs.size (s1.heap.objs.size + 1) (Nat.succ_ne_self _) (Nat.ne_of_lt (Nat.lt_succ_of_lt hal)) (Nat.ne_of_lt hal),⟨⟨_,he⟩,hi⟩,fun b hb=>?_,q⟩;rcases aB.mp hb with rfl | hb
 ·exact I1.fpOk (Nat.le_succ _) (I1.hok.fresh (Nat.le_succ _))
 ·have:=aN.mp hb
  subst this;exact I1.fpOk (Nat.le_refl _) (I1.hok.fresh (Nat.le_refl _))
end
end L2
namespace HT
open PySem PyProof.Rows
def ltS (a b:Str):Bool:=decide (a.cps.toList < b.cps.toList)
def lexS:List Str->List Str->Bool
 | [],[]=>false
 | [],_::_=>true
 | _::_,[]=>false
 | x::xs,y::ys=>if x=y then lexS xs ys else ltS x y
theorem lexS_cons (x y:Str) (xs ys:List Str):lexS (x::xs) (y::ys)=if x=y then lexS xs ys else ltS x y:=rfl
theorem lexS_nil_nil:lexS [] []=false:=rfl
theorem lexS_nil_cons (y:Str) (ys:List Str):lexS [] (y::ys)=true:=rfl
theorem lexS_cons_nil (x:Str) (xs:List Str):lexS (x::xs) []=false:=rfl
abbrev SAre:List ae->List Str->Prop:=aZ fun v x=>∃ t,v=.str x t
theorem SAre.len {l:List ae} {m:List Str} (h:SAre l m):l.length=m.length:=bV h
theorem eqAt_st (A:a6) (s:ai) (a:Str) (t:Tok) (c:Str) (u:Tok):∃ e,cS A s (.str a t) (.str c u) e/\(e=true↔a=c) :=
 ⟨(a == c),ix a t c u,by simp⟩
theorem rcLt_st (A:a6) (s:ai) (a:Str) (t:Tok) (c:Str) (u:Tok) (prog:ay) (w:aI) (E:ae->ai->Prop) (Q:ae->ai->Prop) (h:Q (.bool (ltS a c)) s) :
  aE (aF prog w) A (richCompare .Lt (.str a t) (.str c u)) Q E s :=
 (jR h:aE (aF prog w) A (bW .Lt (.str a t) (.str c u)) Q E s)
section
open PySem.SeqAt
open PySem.AutoSeq1 (wpAny_loadPart')
open PySem.MeetsSeq PySem.MeetsSeq2 PySem.MeetsSeq3
theorem tuple_lt_strs (l b:Addr) (items items2:Array ae) (n n2:Nat) (dd dd2:Option Addr) (sl sl2:Array (Option ae)) (ns ms:List Str) (hi:SAre items.toList ns) (hj:SAre items2.toList ms) :
  Meets (b6.«tuple.__lt__» ⟨[.ref l,.ref b],[]⟩)
   (fun _ R s=>s.heap.get? l=some { cls:=.type "tuple",dict:=dd,data:=.seq items n,slots:=sl }/\s.heap.get? b=some { cls:=.type "tuple",dict:=dd2,data:=.seq items2 n2,slots:=sl2 } /\
    R (.ok (.ret (.bool (lexS ns ms)))) s) :=
 .of_wp fun prog w A R s h=>by
  obtain⟨hp,g,d,tk,os⟩:=s;obtain⟨hl,hb,h⟩:=h;have f2:=iV;have z1:items.size=ns.length:=by rw[<- hi.len];simp
  have z2:items2.size=ms.length:=by rw[<- hj.len];simp
  wp_walk using eD hl,eD hb,gG _ (fun rest b s'=>b.1=none/\s'=⟨hp,g,d,tk,os⟩/\∃ (vs ws:List ae) (ns' ms':List Str),rest=vs.zip ws /\
   SAre vs ns'/\SAre ws ms'/\ns'.length + items2.size=ms'.length + items.size/\R (.ok (.ret (.bool (lexS ns' ms')))) ⟨hp,g,d,tk,os⟩) _
  case turn =>
   rintro⟨y,x⟩ rest b s' ⟨hb',rfl,vs,ws,ns',ms',hz,hvi,hwi,hlen,hR⟩;cases hvi with
   | nil=>rw[iO] at hz;cases hz
   | @cons va a _ _ ha hvi' =>
    obtain⟨t,rfl⟩:=ha;cases hwi with
    | nil=>rw[eR] at hz;cases hz
    | @cons vc c _ _ hc hwi' =>
     obtain⟨u,rfl⟩:=hc;rw[dF] at hz;injection hz with hyx hrest
     injection hyx with hy hx
     subst hy hx;rw[lexS_cons] at hR;simp only[aO] at hlen;obtain⟨e,he,hiff⟩:=eqAt_st A.in1 ⟨hp,g,d,tk,os⟩ a t c u;refine ad (he prog w _ _ ?_);cases e with
     | true =>
      rw[if_pos (hiff.mp rfl)] at hR
      wp_walk
      exact⟨rfl,rfl,_,_,_,_,hrest,hvi',hwi',by lia,hR⟩
     | false =>
      rw[if_neg (fun q=>absurd (hiff.mpr q) ba)] at hR;have hri:=rcLt_st A.in1 ⟨hp,g,d,tk,os⟩ a t c u prog w
      wp_walk using hri
      exact⟨_,rfl,by simpa using hR⟩
  case fin =>
   rintro⟨b1,b2⟩ s' ⟨hb',rfl,vs,ws,ns',ms',hz,hvi,hwi,hlen,hR⟩;simp only at hb';subst hb';have hv:lexS ns' ms'=decide (items.size < items2.size):=by
    cases hvi with
    | nil =>
     cases hwi with
     | nil =>
      simp only[b4] at hlen;rw[lexS_nil_nil];exact(decide_eq_false (by lia)).symm
     | cons hc hw =>
      simp only[b4,aO] at hlen;rw[lexS_nil_cons];exact(decide_eq_true (by lia)).symm
    | cons ha hv =>
     cases hwi with
     | nil =>
      simp only[b4,aO] at hlen;rw[lexS_cons_nil];exact(decide_eq_false (by lia)).symm
     | cons hc hw =>
      rw[dF] at hz;cases hz
   rw[hv] at hR
   wp_walk
   exact⟨_,rfl,by simpa [gA] using hR⟩
  case h =>
   exact⟨rfl,rfl,items.toList,items2.toList,ns,ms,rfl,hi,hj,by lia,h⟩
end
section
variable {prog:ay} {w:aI} {A:a6} {E:ae->ai->Prop} {s:ai}
theorem lt_tupStrs {l b:Addr} {items items2:Array ae} {ns ms:List Str} {Q:ae->ai->Prop} (hl:iK s.heap l items) (hb:iK s.heap b items2) (hi:SAre items.toList ns) (hj:SAre items2.toList ms)
  (hu:A.units < b7) (h:Q (.bool (lexS ns ms)) s):aE (aF prog w) A (bW .Lt (.ref l) (.ref b)) Q E s:=by
 obtain⟨⟨cls,dd,data,sl⟩,ho,hc,n,hd⟩:=id hl;obtain⟨⟨cls2,dd2,data2,sl2⟩,ho2,hc2,n2,hd2⟩:=id hb;simp only at hc hd hc2 hd2;subst hc hd hc2 hd2;exact richCompare_meets_room (op:=.Lt) ⟨_,ho,rfl⟩ ⟨_,ho2,rfl⟩ gB jw (jc _ _) (tuple_lt_strs l b items items2 n n2 dd dd2 sl sl2 ns ms hi hj)
  ⟨ho,ho2,show jp (lexS ns ms)≠Value.notImplemented/\Q (.bool (lexS ns ms)) s from⟨(fun x=>nomatch x),h⟩⟩ hu
end
end HT
namespace L2
open PySem PySem.Spec PyProof.Rows
theorem sare_of {H:Hp}:∀ {xs:List V} {us:List ae} {ds:List Str},aZ (dS H) xs ds->Vals xs us->HT.SAre us ds
 | _,_,_,.nil,.nil=>.nil
 | _,_,_,.cons p q,.cons r t=>by
  cases p;exact .cons r (sare_of q t)
def rLtS (K:Fg):R2:=fun x y H Q=>∃ d e,dT K dS H x d/\dT K dS H y e/\Q (.bl (HT.lexS d e)) H
theorem op_ltS {X:Cx} (hu:X.A.units < b7):OpR X (bW .Lt) (rLtS X.K):=by
 intro pins s σ H x y v u Q I rx ry h;obtain⟨d,e,⟨a,xs,rfl,ha,pa⟩,⟨b,ys,rfl,hb,pb⟩,q⟩:=h;cases rx;cases ry;obtain⟨its,r1,p1,_⟩:=I.tuple ha;obtain⟨its2,r2,p2,_⟩:=I.tuple hb;exact HT.lt_tupStrs p1 p2 (sare_of pa r1) (sare_of pb r2) hu ⟨.bl (HT.lexS d e),H,I,rfl,q⟩
end L2
set_option maxHeartbeats 1000000
namespace L2
open PySem PySem.Spec PyProof.Rows
variable {α β γ:Type}
theorem at_m1 (l:List α) (h:l≠[]):atI l (-1)=some (l.getLast h):=by
 unfold atI ixN;have hl:0 < l.length:=db.mpr h;have e:(-1 + (l.length:Int)).toNat=l.length - 1:=by omega
 rw[if_neg (by decide),if_pos (by omega),e]
 show l[l.length - 1]?=_;rw[jd,ag (by omega)]
theorem nd_ (l:List Str) (h:l.Nodup:=by decide +kernel):l.Nodup:=h
theorem lt64 {k n:Nat} {A:a6} (r:Room k A) (h:n<=64:=by decide):A.units + n < b7:=by have:=r.units;omega
section
variable {X:Cx} {K:Fg} {tg:Expr} {a:Expr} {ta:TE}
theorem sl_tupK (hK:X.K=K:=by rfl):SlR X (rSlT K):=hK ▸ sl_tup
theorem sl_listK (hK:X.K=K:=by rfl):SlR X (rSlL K):=hK ▸ sl_list
theorem op_catTK (hK:X.K=K:=by rfl):OpR X (dW .Add) (rCatT K):=hK ▸ op_catT
theorem call_tupleK (hK:X.K=K:=by rfl):CallR X (.type "tuple") (fun xs H Q=>∃ p ys,xs=[.ref p]/\((SqL K H p ys/\∀ l,H l=none->Q (.ref l) (upd H l (.tup ys)))\/(SqT K H p ys/\Q (.ref p) H))):=hK ▸ call_tuple_of
theorem call_listK (hK:X.K=K:=by rfl):CallR X (.type "list") (fun xs H Q=>∃ p ys,xs=[.ref p]/\(SqL K H p ys\/SqT K H p ys)/\∀ l,H l=none->Q (.ref l) (upd H l (.lst ys))):=hK ▸ call_list_of
theorem call_allK (hK:X.K=K:=by rfl) (hc:X.calm=true:=by rfl):CallR X (.builtin "all") (fun xs H Q=>∃ x bs,xs=[x]/\dL K dB H x bs/\Q (.bl (bs.all id)) H):=hK ▸ call_allD hc
theorem call_anyK (hK:X.K=K:=by rfl) (hc:X.calm=true:=by rfl):CallR X (.builtin "any") (fun xs H Q=>∃ x bs,xs=[x]/\dL K dB H x bs/\Q (.bl (bs.any id)) H):=hK ▸ call_anyD hc
theorem op_ltSK (hu:X.A.units < b7) (hK:X.K=K:=by rfl):OpR X (bW .Lt) (rLtS K):=hK ▸ op_ltS hu
theorem pt_truthK (ha:PE X a ta) (he:∀ whole,isTrue a X.env whole=(do let v <- whole;jq a.pos;holding [v] (truthy v))) (hK:X.K=K:=by rfl):PT X a (fun σ H Q=>ta σ H fun x H'=>∃ k,TruV K x H' k/\Q k H'):=by subst hK;exact pt_truth ha he
theorem pi_enK {e:Expr} {ta:TA} {p pos:Pos} {elts:List Expr} {x1:Nat} {tpos:Pos} (hg:Gl X "enumerate") (hm:X.mg "enumerate" = none) (ha:PA X [e] ta) (hs:ax [e] X.env=[(false,eval e X.env)]:=by rfl) (hK:X.K=K:=by rfl) :
  PI X (.Tuple elts x1 tpos) (.Call (.Name "enumerate" p) [e] [] pos) (iEnT K ta):=by subst hK;exact pi_en hg hm ha hs
end
end L2
set_option maxHeartbeats 4000000
namespace KS
open PySem PySem.W PyProof.Rows
variable {lt:Nat->Nat->Bool} {n:Nat}
end KS
set_option maxHeartbeats 1000000
namespace ST
open PySem PySem.SetTable PySem.Spec PyProof.Rows
theorem entry_set_iter:entryFor table "set.__iter__" = some b6.«frozenset.__iter__»:=entryFor_alias (id' := "frozenset.__iter__") (by kernel_rfl) rfl (by decide +kernel) (by kernel_rfl)
theorem slot_setit_next:Slot "set_iterator" "__next__" "set_iterator.__next__" :=
 .of (owner := "set_iterator") (n := "__next__") (by rw[typeLookup_type,builtinLookup_eq_fast];kernel_rfl) (by decide +kernel) (by decide +kernel) (by decide +kernel)
  (by first | exact .inl (by decide +kernel) | exact .inr (by decide +kernel)) (by rw[isSubtype_type];kernel_rfl)
theorem entry_setit_next:entryFor table "set_iterator.__next__" = some b6.«set_iterator.__next__»:=entryFor_of_tree (by kernel_rfl)
theorem args_setit_next (a:ae):argsOk "set_iterator.__next__" ⟨[a],[]⟩:=by unfold argsOk;kernel_rfl
theorem hint_set:typeLookup (.type "set") "__len__" = pure (some (.builtin "set.__len__")):=by rw[typeLookup_type,builtinLookup_eq_fast];kernel_rfl
section
variable {prog:ay} {w:aI} {A:a6} {E:ae->ai->Prop} {s:ai}
theorem lenHint {p:Addr} {es:Array (Int × ae)} {ep:Nat} {t:aX} {Q:Bool->ai->Prop} (ho:s.heap.get? p=some (setOb es ep t)) (h:Q false s):aE (aF prog w) A (g7 (.ref p)) Q E s:=by
 have hT:s.TypeIs (.ref p) "set":=⟨_,ho,rfl⟩;unfold g7;refine ad (wpAny_specialOf hT hint_set ?_);dsimp only;have e1:splitId "set.__len__" = some ("set", "__len__"):=by decide +kernel
 rw[e1];dsimp only;refine ad (fA (b:=true) hT (by rw[isSubtype_type];kernel_rfl) ?_)
 rw[if_neg (show ¬ ((!true)=true) by decide)]
 refine gT (fun hc=>?_) (fun hc=>absurd (by decide +kernel) hc)
 refine ad (gg hT ?_);exact af h
theorem erase_perm {α:Type} {l:List α} {i:Nat} (h:i < l.length):(l[i]::l.eraseIdx i).Perm l:=by
 have e:l=l.take i++l[i]::l.drop (i + 1):=by
  rw[<- cM h,bE]
 rw[List.eraseIdx_eq_take_drop_succ];refine fy.symm.trans ?_;rw[<- e]
theorem chooseT {n:Nat} {Q:Nat->ai->Prop} (hn:n≠0) (h:∀ i,i < n->Q i { s with drawn:=s.drawn.bump .order }):aE (aF prog w) A (choose .order n) Q E s:=fun Γ p hΓ=>by
 show Sem.wp _ _ (.choose .order n .pure) _ _ _ _;rw[Sem.wp_choose];exact⟨hn,h _ (Nat.mod_lt _ (Nat.pos_of_ne_zero hn))⟩
theorem drawT {α:Type}:∀ (n:Nat) (xs:List α) {s:ai} {Q:List α->ai->Prop},xs.length=n->(∀ ys d,ys.Perm xs->Q ys { s with drawn:=d })->aE (aF prog w) A (drawOrder n xs) Q E s
 | 0,xs,s,Q,hl,h=>by
  have e:xs=[]:=ga.mp hl;subst e;unfold drawOrder;exact af (h [] s.drawn (da _))
 | n + 1,xs,s,Q,hl,h=>by
  cases xs with
  | nil=>cases hl
  | cons x r =>
   unfold drawOrder;refine ad ?_;have hne:(x::r).length≠0:=by simp
   refine chooseT hne fun i hi=>?_;have hg:(x::r)[i]?=some (x::r)[i]:=ag hi;rw[hg];dsimp only;refine ad (drawT n ((x::r).eraseIdx i) (s:={ s with drawn:=s.drawn.bump .order }) (by rw[iy hi];simp at hl ⊢;omega) fun ys d hp=>?_)
   refine af (h _ d ?_);refine(hp.cons _).trans ?_;exact erase_perm hi
theorem pick_perm {α:Type} (next:Nat->Nat):∀ (fuel k:Nat) (left:List α) (out:Array α),left.length=fuel->(j0 next fuel k left out).toList.Perm (out.toList++left)
 | 0,k,left,out,hl=>by
  have e:left=[]:=ga.mp hl;subst e;unfold j0;rw[bR]
 | fuel + 1,k,left,out,hl=>by
  unfold j0;have hi:next k % left.length < left.length:=Nat.mod_lt _ (by omega)
  rw[ag hi];dsimp only;refine(pick_perm next fuel (k + 1) _ _ (by rw[iy hi];omega)).trans ?_
  rw[cj,aR];exact er _ (erase_perm hi)
theorem pickOrder_perm {α:Type} (next:Nat->Nat) (xs:Array α):(hX next xs).toList.Perm xs.toList:=by
 have:=pick_perm next xs.size 0 xs.toList #[] (by simp)
 simpa [hX] using this
def itOb (first:ae) (i:Nat) (p:Addr) (n ep:Nat):Obj:={ cls:=.type "set_iterator",dict:=none,data:=.fields #[first,.int i 0,.ref p,.int n 0,.int ep 0],slots:=#[] }
theorem stopT {I:Addr} {Q:Option ae->ai->Prop} {s:ai} (hh:A.in1.handled=none) (h:∀ h',(∀ b o,s.heap.get? b=some o->h'.get? b=some o)->Q none { s with heap:=h' }) :
  aE (aF prog w) A.in1 (newExc (.type "StopIteration") [] >>= fun e=>(raiseNew e:Sem Fin)) (fun fin s'=>∃ r,fin=.done (.ret r)/\aE (aF prog w) A (pure (some r)) Q E s') (fun e s'=>aE (aF prog w) A (do if <- isInstance e (.type "StopIteration") then pure none else throw e) Q E s') s:=by
 refine ad ?_;simp only[newExc,newTuple];refine ad (bm ?_ (by size_fits))
 refine ad (m:=iu _ _) (wpAny_of_eq (a:=bQ) (by first | rfl | (simp only[iu];rfl)) ?_)
 refine bm ?_ (by size_fits)
 simp only[raiseNew];refine ad (wpAny_handled ?_);rw[hh];refine ad (af (wpAny_throw ?_));refine ad (fA (T := "StopIteration") (b:=true) ⟨_,av _ rfl,rfl⟩ isSubtype_stop ?_);exact af (h _ fun b o e=>ah _ (ah _ e))
theorem nextPre {I p:Addr} {es:Array (Int × ae)} {ep:Nat} {t:aX} {first:ae} {i:Nat} {Q:Option ae->ai->Prop} (hp:s.heap.get? p=some (setOb es ep t)) (hf:t.fits es.size=true) (hI:s.heap.get? I=some (itOb first i p es.size ep))
  (h:aE (aF prog w) A.in1 (if let .int slot _:=first then do
    match <- setNext p slot.toNat (i:Int).toNat (ep:Int).toNat with
    | some (x,next)=>do
     gP (.ref I) 0 (eW next)
     gP (.ref I) 1 (eW ((i:Int) + 1))
     ret x
    | none=>do gP (.ref I) 2 .none;raiseNew (<- newExc (.type "StopIteration") [])
   else do
    let some places <- seqItems? first | eO "internal:set_iterator"
    match places[(i:Int).toNat]? with
    | some (.int place _)=>do
     let x <- setNextDrawn p place.toNat (ep:Int).toNat
     gP (.ref I) 1 (eW ((i:Int) + 1))
     ret x
    | some _=>eO "internal:set_iterator"
    | none=>do gP (.ref I) 0 (eW 0);gP (.ref I) 2 .none;raiseNew (<- newExc (.type "StopIteration") []))
   (fun fin s'=>∃ r,fin=.done (.ret r)/\aE (aF prog w) A (pure (some r)) Q E s') (fun e s'=>aE (aF prog w) A (do if <- isInstance e (.type "StopIteration") then pure none else throw e) Q E s') s) :
  aE (aF prog w) A (fj (.ref I)) Q E s:=by
 have hT:s.TypeIs (.ref I) "set_iterator":=⟨_,hI,rfl⟩;unfold fj;refine ad (fO (bX (name:=cb "__next__") hT slot_setit_next
  (bM slot_setit_next hT entry_setit_next ?_ (args_setit_next _))))
 unfold b6.«set_iterator.__next__» slotArgs;simp only[je,fN,aL,↓reduceIte,bind_assoc,b4,bne_self_eq_false];refine ad (af ?_)
 try dsimp only
 refine ad (gx hI rfl ?_);dsimp only;refine ad (wpAny_setEntries_of hp rfl hf ?_);rw[if_neg (by simp)]
 exact h
structure Gives (prog:ay) (w:aI) (A:a6) (I:Addr) (fp:List Addr) (vals:List ae) (St:Nat->be->Prop):Prop where
 mem:I∈fp
 frame:∀ i h h',St i h->(∀ b∈fp,∀ o,h.get? b=some o->h'.get? b=some o)->St i h'
 item:∀ (i:Nat) (s:ai) (v:ae) (Q:Option ae->ai->Prop) (E:ae->ai->Prop),vals[i]?=some v->St i s.heap ->
  (∀ h',St (i + 1) h'->(∀ b o,b≠I->s.heap.get? b=some o->h'.get? b=some o)->Q (some v) { s with heap:=h' })->aE (aF prog w) A (fj (.ref I)) Q E s
 done:∀ (s:ai) (Q:Option ae->ai->Prop) (E:ae->ai->Prop),St vals.length s.heap ->
  (∀ h',(∀ b o,b≠I->s.heap.get? b=some o->h'.get? b=some o)->Q none { s with heap:=h' })->aE (aF prog w) A (fj (.ref I)) Q E s
theorem nextText {p:Addr} {es:Array (Int × ae)} {ep i:Nat} {t:aX} {Q:Option (ae × Nat)->ai->Prop} (hp:s.heap.get? p=some (setOb es ep t)) (hf:t.fits es.size=true) (hw:w.params.followText "set-order" = true)
  (h:Q (((hX (w.params.setOrder p ep) es)[i]?).map fun e=>(e.2,0)) s):aE (aF prog w) A (setNext p (0:Int).toNat (i:Int).toNat (ep:Int).toNat) Q E s:=by
 unfold setNext;refine ad (dO hp rfl hf ?_);dsimp only;unfold jx;refine ad (ad (dE (af ?_)));have hw':(aF prog w).w.params.followText "set-order" = true:=hw;rw[hw',if_pos rfl,if_neg (by simp)]
 unfold setWalk;refine ad (ad (dO hp rfl hf ?_));dsimp only;unfold jx;refine ad (ad (dE (af ?_)));rw[hw',if_pos rfl];refine ad (dE ?_);refine af (af ?_);rw[bG];exact h
theorem givesA {p I T:Addr} {es:Array (Int × ae)} {ep:Nat} {t:aX} {vals:List ae} {places:Array ae} (hh:A.in1.handled=none) (hTI:T≠I) (hpI:p≠I) (hl:places.size=vals.length)
  (hpl:∀ (j:Nat) (pl:ae),places[j]?=some pl->∃ q:Nat,pl=gD (q:Int) 0/\∃ e,es[q]?=some e/\vals[j]?=some e.2) :
  Gives prog w A I [I,p,T] vals (fun i h=>h.get? p=some (setOb es ep t)/\t.fits es.size=true/\h.get? I=some (itOb (.ref T) i p es.size ep)/\∃ o c,h.get? T=some o/\o.data=.seq places c) where
 mem:=by simp
 frame:=fun i h h' st k=>by
  obtain⟨h1,h2,h3,o,c,h4,h5⟩:=st;exact⟨k p (by simp) _ h1,h2,k I (by simp) _ h3,o,c,k T (by simp) _ h4,h5⟩
 item:=fun i s v Q E hv st hQ=>by
  obtain⟨h1,h2,h3,o,c,h4,h5⟩:=st;refine nextPre h1 h2 h3 ?_;dsimp only;refine ad (eL h4 h5 ?_);dsimp only;have hi:i < places.size:=by rw[hl];exact(aD.mp hv).1
  obtain⟨q,e1,e,e2,e3⟩:=hpl i places[i] (by simp[hi])
  have eg:places[(i:Int).toNat]?=some (gD (q:Int) 0):=by rw[bG,<- e1];simp[hi]
  rw[eg];dsimp only;have ev:e.2=v:=by rw[hv] at e3;exact(aP e3).symm
  refine ad ?_;unfold setNextDrawn;refine ad (dO h1 rfl h2 ?_);dsimp only;rw[if_neg (by simp),bG,e2]
  dsimp only;refine af ?_;refine ad (bI h3 (by show 1 < 5;decide) fun h' g1 g2=>?_)
  rw[ev];refine af ⟨v,rfl,af (hQ h' ⟨?_,h2,?_,o,c,?_,h5⟩ fun b o' hb e=>(g2.2 b hb).trans e)⟩
  ·exact(g2.2 p hpI).trans h1
  ·exact g1
  ·exact(g2.2 T hTI).trans h4
 done:=fun s Q E st hQ=>by
  obtain⟨h1,h2,h3,o,c,h4,h5⟩:=st;refine nextPre h1 h2 h3 ?_;dsimp only;refine ad (eL h4 h5 ?_);dsimp only;have eg:places[(vals.length:Int).toNat]?=none:=by rw[bG,<- hl];simp
  rw[eg];dsimp only;refine ad (bI h3 (by show 0 < 5;decide) fun h' g1 g2=>?_)
  refine ad (bI g1 (by show 2 < 5;decide) fun h'' g3 g4=>?_)
  exact stopT (I:=I) hh fun h3' k=>hQ h3' fun b o' hb e=>k b o' ((g4.2 b hb).trans ((g2.2 b hb).trans e))
theorem givesB {p I:Addr} {es:Array (Int × ae)} {ep:Nat} {t:aX} {vals:List ae} (hh:A.in1.handled=none) (hpI:p≠I) (hw:w.params.followText "set-order" = true) (hv:vals=(hX (w.params.setOrder p ep) es).toList.map (·.2)) :
  Gives prog w A I [I,p] vals (fun i h=>h.get? p=some (setOb es ep t)/\t.fits es.size=true/\h.get? I=some (itOb (.int 0 0) i p es.size ep)) where
 mem:=by simp
 frame:=fun i h h' st k=>by
  obtain⟨h1,h2,h3⟩:=st;exact⟨k p (by simp) _ h1,h2,k I (by simp) _ h3⟩
 item:=fun i s v Q E hv' st hQ=>by
  obtain⟨h1,h2,h3⟩:=st;refine nextPre h1 h2 h3 ?_;dsimp only;refine ad (nextText h1 h2 hw ?_);have eg:((hX (w.params.setOrder p ep) es)[i]?).map (fun e=>(e.2,0))=some (v,0):=by
   rw[hv,aJ,aQ] at hv';cases q:(hX (w.params.setOrder p ep) es)[i]? with
   | none=>rw[q] at hv';cases hv'
   | some e=>rw[q] at hv';cases hv';rfl
  rw[eg];dsimp only;refine ad (bI h3 (by show 0 < 5;decide) fun h' g1 g2=>?_)
  refine ad (bI g1 (by show 1 < 5;decide) fun h'' g3 g4=>?_)
  refine af ⟨v,rfl,af (hQ h'' ⟨?_,h2,g3⟩ fun b o' hb e=>(g4.2 b hb).trans ((g2.2 b hb).trans e))⟩;exact(g4.2 p hpI).trans ((g2.2 p hpI).trans h1)
 done:=fun s Q E st hQ=>by
  obtain⟨h1,h2,h3⟩:=st;refine nextPre h1 h2 h3 ?_;dsimp only;refine ad (nextText h1 h2 hw ?_);have eg:(hX (w.params.setOrder p ep) es)[vals.length]?=none:=by
   rw[hv];simp
  rw[eg];dsimp only[Option.map];refine ad (bI h3 (by show 2 < 5;decide) fun h'' g3 g4=>?_)
  exact stopT (I:=I) hh fun h3' k=>hQ h3' fun b o' hb e=>k b o' ((g4.2 b hb).trans e)
end
end ST
set_option maxHeartbeats 4000000
namespace ST
open PySem PySem.SetTable PySem.Spec PyProof.Rows
section
variable {prog:ay} {w:aI} {A:a6} {E:ae->ai->Prop} {s:ai}
theorem nextPlain {p:Addr} {es:Array (Int × ae)} {ep i sl:Nat} {t:aX} {Q:Option (ae × Nat)->ai->Prop} (hp:s.heap.get? p=some (setOb es ep t)) (hf:t.fits es.size=true) (hw:w.params.followText "set-order" = false) (hled:t.led=true) (h1:es.size<=1)
  (h:Q (match es[below t.place sl]?,t.place[below t.place sl]? with | some (_,x),some j=>some (x,j + 1) | _,_=>none) s):aE (aF prog w) A (setNext p (sl:Int).toNat (i:Int).toNat (ep:Int).toNat) Q E s:=by
 unfold setNext;refine ad (dO hp rfl hf ?_);dsimp only;unfold jx;refine ad (ad (dE (af ?_)));have hw':(aF prog w).w.params.followText "set-order" = false:=hw;rw[hw',if_neg ba];refine gT (fun hc=>?_) (fun _=>?_)
 ·have hc':(!t.plain && decide (es.size > 1))=true:=hc;simp only[aV,decide_eq_true_eq] at hc';lia
 ·refine ad ?_;show aE _ _ (if (!t.led && !es.isEmpty)=true then eO "set:maker-not-led" else pure ()) _ _ _
  rw[hled,if_neg (by simp)]
  refine af ?_;refine af ?_;rw[bG];exact h
theorem below_one (j sl:Nat):below #[j] sl=if j < sl then 1 else 0:=by
 unfold below;simp only[aq,du];unfold below.go;simp only[Nat.lt_irrefl,if_true,Nat.zero_lt_one]
 split
 ·rename_i h;have h':j < sl:=by simpa using h
  rw[if_pos h'];rfl
 ·rename_i h;have h':¬ j < sl:=by simpa using h
  rw[if_neg h'];rfl
theorem place_of {es:Array (Int × ae)} {t:aX} (hf:t.fits es.size=true):t.place.size=es.size:=by
 unfold jU at hf;simp only[aV,beq_iff_eq] at hf;exact hf.1
theorem givesC {p I:Addr} {es:Array (Int × ae)} {ep:Nat} {t:aX} {vals:List ae} (hh:A.in1.handled=none) (hpI:p≠I) (hw:w.params.followText "set-order" = false) (hled:t.led=true) (h1s:es.size<=1) (hv:vals=es.toList.map (·.2)) :
  Gives prog w A I [I,p] vals (fun i h=>h.get? p=some (setOb es ep t)/\t.fits es.size=true/\∃ sl:Nat,h.get? I=some (itOb (.int sl 0) i p es.size ep)/\(i=0->sl=0)/\(i=1->∀ j,t.place=#[j]->sl=j + 1)) where
 mem:=by simp
 frame:=fun i h h' st k=>by
  obtain⟨h1,h2,sl,h3,h4⟩:=st;exact⟨k p (by simp) _ h1,h2,sl,k I (by simp) _ h3,h4⟩
 item:=fun i s v Q E hv' st hQ=>by
  obtain⟨h1,h2,sl,h3,h4,h5⟩:=st;refine nextPre h1 h2 h3 ?_;dsimp only;refine ad (nextPlain h1 h2 hw hled h1s ?_);have hi:i < es.size:=by
   have:=(aD.mp hv').1
   rw[hv] at this;simpa using this
  have i0:i=0:=by lia
  subst i0;have sl0:=h4 rfl;subst sl0;have hps:=place_of h2;obtain⟨j,ej⟩:∃ j,t.place=#[j]:=by
   have:t.place.size=1:=by lia
   exact⟨t.place[0],Array.ext (by simp[this]) fun k hk1 hk2=>by
    have:k=0:=by lia
    subst this;simp⟩
  rw[ej,below_one,if_neg (Nat.not_lt_zero _)];have ee:es[0]?=some es[0]:=by simp[hi]
  have e0:es[0].2=v:=by
   rw[hv,aJ,aQ,ee] at hv';exact aP hv'
  have e1:es[0]?=some (es[0].1,v):=by rw[ee,<- e0]
  have e2:(#[j]:Array Nat)[0]?=some j:=rfl;rw[e1,e2];dsimp only;refine ad (bI h3 (by show 0 < 5;decide) fun h' g1 g2=>?_)
  refine ad (bI g1 (by show 1 < 5;decide) fun h'' g3 g4=>?_)
  refine af ⟨v,rfl,af (hQ h'' ⟨?_,h2,j + 1,g3,(fun z=>nomatch z),fun _ j' ej'=>?_⟩ fun b o' hb e=>(g4.2 b hb).trans ((g2.2 b hb).trans e))⟩
  ·exact(g4.2 p hpI).trans ((g2.2 p hpI).trans h1)
  ·rw[ej] at ej'
   have:=congrArg (fun a:Array Nat=>a[0]?) ej'
   simp at this;rw[this]
 done:=fun s Q E st hQ=>by
  obtain⟨h1,h2,sl,h3,h4,h5⟩:=st;refine nextPre h1 h2 h3 ?_;dsimp only;refine ad (nextPlain h1 h2 hw hled h1s ?_);have hlen:vals.length=es.size:=by rw[hv];simp
  have hps:=place_of h2;have nn:es[below t.place sl]?=none:=by
   by_cases c:es.size=0
   ·simp[c]
   ·have c1:es.size=1:=by lia
    obtain⟨j,ej⟩:∃ j,t.place=#[j]:=by
     have:t.place.size=1:=by lia
     exact⟨t.place[0],Array.ext (by simp[this]) fun k hk1 hk2=>by
      have:k=0:=by lia
      subst this;simp⟩
    have:=h5 (by lia) j ej
    rw[ej,below_one,if_pos (by lia)]
    simp[c1]
  rw[nn];dsimp only;refine ad (bI h3 (by show 2 < 5;decide) fun h'' g3 g4=>?_)
  exact stopT (I:=I) hh fun h3' k=>hQ h3' fun b o' hb e=>k b o' ((g4.2 b hb).trans e)
theorem iterT {p:Addr} {es:Array (Int × ae)} {ep:Nat} {t:aX} {Q:ae->ai->Prop} (hh:A.in1.handled=none) (hp:s.heap.get? p=some (setOb es ep t)) (hf:t.fits es.size=true) (hled:t.led=ledOf w) (hpl:t.plain=true->es.size<=1) (hn:es.size<=300)
  (h:∀ I fp vals St h' d,vals.Perm (es.toList.map (·.2))->Gives prog w A I fp vals St->St 0 h'->s.heap.objs.size<=I->(∀ b∈fp,b=p\/s.heap.objs.size<=b)->(∀ b o,s.heap.get? b=some o->h'.get? b=some o)->Q (.ref I) { s with heap:=h',drawn:=d }) :
  aE (aF prog w) A (pyIter (.ref p)) Q E s:=by
 have hT:s.TypeIs (.ref p) "set":=⟨_,hp,rfl⟩;have hlt:p < s.heap.objs.size:=aC hp;refine wpAny_pyIter_slot hT jI (bM jI hT entry_set_iter ?_ (PySem.F.args_set_iter_1 _));unfold b6.«frozenset.__iter__» b6.Frozenset.slot0 slotArgs;simp only[je,fN,aL,↓reduceIte,bind_assoc,b4,bne_self_eq_false];unfold iW b6.Frozenset.sizeOf;refine ad (af ?_)
 try dsimp only
 refine ad (af ?_);refine ad (ad (wpAny_setEntries_of hp rfl hf (af ?_)));unfold setDrawn jx;refine ad (ad (dO hp rfl hf ?_));dsimp only;refine ad (ad (dE (af ?_)));refine af ?_;have fin:∀ (first:ae) (h1:be) (d:Drawn) (Q':Fin->ai->Prop),h1.get? p=some (setOb es ep t) ->
   Q' (.done (.ret (.ref h1.objs.size))) { s with heap:=h1.push (itOb first 0 p es.size ep),drawn:=d } ->
   aE (aF prog w) A.in1 (do
    let e <- setEpoch p
    let v <- newFields "set_iterator" [first,eW 0,.ref p,eW es.size,eW e]
    ret v) Q' E { s with heap:=h1,drawn:=d }:=by
  intro first h1 d Q' ho hQ';refine ad (wpAny_setEpoch_of (s:={ s with heap:=h1,drawn:=d }) ho rfl hf ?_)
  exact ad (bm (af hQ'))
 refine gT (fun hc=>?_) (fun hc=>?_)
 ·refine ad (drawT es.size (aY es.size) (by simp) fun ys d hperm=>?_)
  have yl:ys.length=es.size:=by have:=hperm.length_eq;simpa using this
  have yr:∀ q∈ys,q < es.size:=fun q hq=>bh.mp (hperm.mem_iff.mp hq);obtain⟨f1,f2⟩:=fm_all (l:=ys) (f:=fun q=>(es[q]?).map (·.2)) (fun q hq=>by have:=yr q hq;simp[this])
  refine ad (bm ?_ (by show(ys.map fun(i:Nat)=>eW i).toArray.size<=sizeLine;rw[aq,ap,yl,bF];lia))
  generalize hh1:s.heap.push _=h1;have hsz:h1.objs.size=s.heap.objs.size + 1:=by rw[<- hh1,cP]
  have old:∀ b o,s.heap.get? b=some o->h1.get? b=some o:=fun b o e=>by rw[<- hh1];exact ah _ e
  have hTup:h1.get? s.heap.objs.size=some { cls:=.type "tuple",dict:=none,data:=.seq (ys.map fun(i:Nat)=>eW i).toArray }:=by rw[<- hh1];exact av _ rfl
  refine fin (.ref s.heap.objs.size) h1 d _ (old p _ hp) ?_;have G:=givesA (prog:=prog) (w:=w) (A:=A) (p:=p) (I:=h1.objs.size) (T:=s.heap.objs.size) (es:=es) (ep:=ep) (t:=t) (vals:=ys.filterMap fun q=>(es[q]?).map (·.2)) (places:=(ys.map fun(i:Nat)=>eW i).toArray) hh (by rw[hsz];exact Nat.ne_of_lt (Nat.lt_succ_self _)) (by rw[hsz];exact Nat.ne_of_lt (Nat.lt_succ_of_lt hlt)) (by simp[f1]) (fun j pl hj=>by
   have hj':(ys.map fun(i:Nat)=>eW i)[j]?=some pl:=by simpa using hj
   rw[aJ] at hj';cases q:ys[j]? with
   | none=>rw[q] at hj';cases hj'
   | some z =>
    rw[q] at hj';have hz:=yr z (ak q);refine⟨z,(aP hj').symm,es[z],by simp[hz],?_⟩
    rw[f2 j,q];simp[hz])
  refine⟨_,rfl, "set_iterator",_,⟨_,av _ rfl,rfl⟩,slot_setit_next.lookup,h _ _ _ _ _ d ?_ G ⟨ah _ (old p _ hp),hf,av _ rfl,_,_,ah _ hTup,rfl⟩ (by rw[hsz];exact Nat.le_succ _) (fun b hb=>?_) fun b o e=>ah _ (old b o e)⟩
  ·refine(hperm.filterMap _).trans ?_;have e:(aY es.size).filterMap (fun q=>(es[q]?).map (·.2))=es.toList.map (·.2):=by
    rw[<- range_fm es,List.map_filterMap]
   rw[e]
  ·simp only[aB,d5,or_false] at hb;rcases hb with e | e | e
   ·right;rw[e,hsz];exact Nat.le_succ _
   ·exact .inl e
   ·right;rw[e];exact Nat.le_refl _
 ·refine ad (af ?_);refine fin (eW 0) s.heap s.drawn _ hp ?_;have hpI:p≠s.heap.objs.size:=Nat.ne_of_lt hlt;have small:∀ b∈[s.heap.objs.size,p],b=p\/s.heap.objs.size<=b:=fun b hb=>by
   simp only[aB,d5,or_false] at hb;rcases hb with e | e
   ·right;rw[e];exact Nat.le_refl _
   ·exact .inl e
  by_cases hw:w.params.followText "set-order" = true
  ·have G:=givesB (prog:=prog) (w:=w) (A:=A) (p:=p) (I:=s.heap.objs.size) (es:=es) (ep:=ep) (t:=t) hh hpI hw rfl;exact⟨_,rfl, "set_iterator",_,⟨_,av _ rfl,rfl⟩,slot_setit_next.lookup,h _ _ _ _ _ s.drawn ((pickOrder_perm _ _).map _) G ⟨ah _ hp,hf,av _ rfl⟩ (Nat.le_refl _) small fun b o e=>ah _ e⟩
  ·have hw':w.params.followText "set-order" = false:=eY.mpr hw;have h1:es.size<=1:=by
    have hc':¬ ((!(w.params.followText "set-order") && (!t.plain && decide (es.size > 1)))=true):=hc;rw[hw'] at hc'
    by_cases hp1:t.plain=true
    ·exact hpl hp1
    ·have:t.plain=false:=eY.mpr hp1
     rw[this] at hc';simp at hc';exact hc'
   have hl':t.led=true:=by rw[hled];show(!(w.params.followText "set-order"))=true;rw[hw'];rfl
   have G:=givesC (prog:=prog) (w:=w) (A:=A) (p:=p) (I:=s.heap.objs.size) (es:=es) (ep:=ep) (t:=t) hh hpI hw' hl' h1 rfl;exact⟨_,rfl, "set_iterator",_,⟨_,av _ rfl,rfl⟩,slot_setit_next.lookup,h _ _ _ _ _ s.drawn (da _) G ⟨ah _ hp,hf,0,av _ rfl,fun _=>rfl,(fun z=>nomatch z)⟩ (Nat.le_refl _) small fun b o e=>ah _ e⟩
theorem ext_loop {I S:Addr} {fp:List Addr} {vals:List ae} {St:Nat->be->Prop} {R:Result->ai->Prop} (G:Gives prog w A.in1 I fp vals St) (hn:vals.length<=300) (hSf:S∉fp) (res:ae) :
  ∀ (k i:Nat) (s:ai) (c:Nat),vals.length - i=k->i<=vals.length->St i s.heap->s.heap.get? S=some { cls:=.type "list",dict:=none,data:=.seq (vals.take i).toArray c,slots:=#[] } ->
  (∀ h' c',(∀ b o,b≠S->b≠I->s.heap.get? b=some o->h'.get? b=some o)->h'.get? S=some { cls:=.type "list",dict:=none,data:=.seq vals.toArray c',slots:=#[] }->R (.ok (.ret res)) { s with heap:=h' }) ->
  gI (aF prog w) A (.builtin "list.extend.loop" ⟨[.ref S,.ref I,res],[]⟩) R s:=by
 have hSI:S≠I:=fun e=>hSf (e ▸ G.mem);intro k
 induction k with
 | zero =>
  intro i s c hk hi hst hS hR;have hin:i=vals.length:=by lia
  subst hin;refine dR iI ?_;rw[cU eB _];show aE _ A.in1 (fj (.ref I) >>= _) _ _ s;refine ad (G.done s _ _ hst fun h' hk'=>?_);rw[bq (Nat.le_refl _)] at hS;exact af (hR h' c (fun b o _ hb e=>hk' b o hb e) (hk' S _ hSI hS))
 | succ k ih =>
  intro i s c hk hi hst hS hR;have hlt:i < vals.length:=by lia
  have hv:vals[i]?=some vals[i]:=ag hlt;refine dR iI ?_;rw[cU eB _];show aE _ A.in1 (fj (.ref I) >>= _) _ _ s;refine ad (G.item i s _ _ _ hv hst fun h1 st1 k1=>?_);have hS1:=k1 S _ hSI hS;have szl:=bF;have hts:(vals.take i).toArray.size=i:=by rw[aq,aS];lia
  show aE _ A.in1 (updateSeq S (·.push vals[i]) >>= _) _ _ _;refine ad ?_;refine wpAny_updateSeq (s:={ s with heap:=h1 }) hS1 rfl (af ⟨gL eB _,?_⟩) (by rw[hts];lia) (by show((vals.take i).toArray.push vals[i]).size<=sizeLine + 1;rw[dj,hts];lia)
  have hS2:=dw (b9 (·.push vals[i])) hS1 rfl;have et:(vals.take i).toArray.push vals[i]=(vals.take (i + 1)).toArray:=by
   rw[cm,hv];simp
  obtain⟨c1,hS2'⟩:∃ c1,(h1.update S (b9 (·.push vals[i]))).get? S=some { cls:=.type "list",dict:=none,data:=.seq (vals.take (i + 1)).toArray c1,slots:=#[] }:=⟨_,by rw[<- et];exact hS2⟩
  refine ih (i + 1) { s with heap:=h1.update S (b9 (·.push vals[i])) } c1 (by lia) hlt (G.frame _ _ _ st1 fun b hb o e=>(cJ _ _ (fun h:S=b=>hSf (by rw[h];exact hb))).trans e) hS2' fun h' c' a1 a2=>?_
  ·exact hR h' c' (fun b o hb1 hb2 e=>a1 b o hb1 hb2 ((cJ _ _ (cN hb1)).trans (k1 b o hb2 e))) a2
theorem collectT {p:Addr} {es:Array (Int × ae)} {ep:Nat} {t:aX} {Q:List ae->ai->Prop} (hh:A.handled=none) (hp:s.heap.get? p=some (setOb es ep t)) (hf:t.fits es.size=true) (hled:t.led=ledOf w) (hpl:t.plain=true->es.size<=1) (hn:es.size<=300)
  (h:∀ vals h' d,vals.Perm (es.toList.map (·.2))->(∀ b o,s.heap.get? b=some o->h'.get? b=some o)->Q vals { s with heap:=h',drawn:=d }):aE (aF prog w) A (collect (.ref p)) Q E s:=by
 have hlt:p < s.heap.objs.size:=aC hp;have hT:∀ s':ai,s'.heap.get? p=some (setOb es ep t)->s'.TypeIs (.ref p) "set":=fun s' e=>⟨_,e,rfl⟩;unfold collect;refine ad (wpAny_runValue (dR PySem.F.entry_proto_collect ?_));rw[cU PySem.F.plain_proto_collect _];show aE _ A.in1 (newList [] >>= fun l=>again (.builtin "list.__iadd__" ⟨[l,.ref p],[]⟩)) _ _ s;refine ad (bm ?_);refine af ⟨gL jf _,dR PySem.F.entry_list_iadd ?_⟩;rw[cU jf _];show aE _ A.in1 (g8 (.ref s.heap.objs.size) (.ref p) (.ref s.heap.objs.size)) _ _ _;generalize hh1:s.heap.push _=h1;have old:∀ b o,s.heap.get? b=some o->h1.get? b=some o:=fun b o e=>by rw[<- hh1];exact ah _ e
 have hsz:h1.objs.size=s.heap.objs.size + 1:=by rw[<- hh1,cP]
 have hS1:h1.get? s.heap.objs.size=some { cls:=.type "list",dict:=none,data:=.seq #[] 0,slots:=#[] }:=by rw[<- hh1];exact av _ rfl
 have hp1:=old p _ hp;unfold g8;refine ad (gg (hT { s with heap:=h1 } hp1) ?_)
 have e1:iX (.ref s.heap.objs.size) (.ref p)=false:=by simp[iX,Nat.ne_of_gt hlt]
 rw[if_neg (by rw[e1];decide)]
 refine ad (iterT (s:={ s with heap:=h1 }) hh hp1 hf hled hpl hn fun I fp vals St h2 d hperm G st2 hI hfp k2=>?_)
 have hvl:vals.length=es.size:=by have:=hperm.length_eq;simpa using this
 have hI':h1.objs.size<=I:=hI;have hSI:s.heap.objs.size≠I:=by lia
 refine ad (cO (lenHint (k2 p _ hp1) ?_));have hSf:s.heap.objs.size∉fp:=fun z=>by
  have q:=hfp _ z;have q':s.heap.objs.size=p\/h1.objs.size<=s.heap.objs.size:=q;rcases q' with e | e
  ·exact absurd e (Nat.ne_of_gt hlt)
  ·rw[hsz] at e;exact absurd e (Nat.not_succ_le_self _)
 refine gT (fun _=>?_) (fun hc=>absurd (by decide +kernel) hc)
 refine ad (d9 ?_);refine ad ?_;have hS2:=k2 _ _ hS1;show aE _ _ (updateSeq s.heap.objs.size (·.push .none) >>= fun _=>updateSeq s.heap.objs.size (·.pop)) _ _ _;refine ad (wpAny_updateSeq hS2 rfl ?_);have hS3:=dw (b9 (·.push bQ)) hS2 rfl;refine wpAny_updateSeq (hz:=by seq_fits) hS3 rfl ?_
 have hS4:=dw (b9 (·.pop)) hS3 rfl;refine af ⟨gL eB _,?_⟩;refine ext_loop G (by lia) hSf _ (vals.length - 0) 0 _ _ rfl (Nat.zero_le _) (G.frame _ _ _ st2 fun b hb o e=>?_) hS4 fun h' c' a1 a2=>?_
 ·have hbS:b≠s.heap.objs.size:=fun z=>hSf (z ▸ hb);exact(cJ _ _ (cN hbS)).trans ((cJ _ _ (cN hbS)).trans e)
 ·show aE _ A (load s.heap.objs.size >>= _) _ _ _;refine ad (wpAny_load a2 ?_)
  have:=h vals h' d hperm fun b o e=>?_
  ·exact af this
  ·have hbS:b≠s.heap.objs.size:=Nat.ne_of_lt (aC e);have hbI:b≠I:=Nat.ne_of_lt (Nat.lt_of_lt_of_le (aC e) (Nat.le_trans (by rw[hsz];exact Nat.le_succ _) hI'))
   exact a1 b o hbS hbI ((cJ _ _ (cN hbS)).trans ((cJ _ _ (cN hbS)).trans (k2 b o (old b o e))))
end
end ST
namespace KS
open PySem PySem.W PyProof.Rows
def TS (h:be) (v:ae) (d:List Str):Prop:=∃ b items,v=.ref b/\iK h b items/\HT.SAre items.toList d
section
variable {prog:ay} {w:aI} {A:a6} {E:ae->ai->Prop} {s:ai}
theorem lex_go {Q:Bool->ai->Prop}:∀ {us vs:List ae} {d e:List Str} (i:Nat) {fin:Bool},HT.SAre us d->HT.SAre vs e->fin=decide (d.length < e.length)->Q (HT.lexS d e) s->KatLex prog w A true fin Q (us.zip vs) i s
 | _,_,_,_,i,fin,.nil,.nil,hf,h=>by subst hf;exact kat_nil h
 | _,_,_,_,i,fin,.nil,.cons _ _,hf,h=>by
  subst hf;rw[iO];rw[HT.lexS_nil_cons] at h;exact kat_nil (by simpa using h)
 | _,_,_,_,i,fin,.cons _ _,.nil,hf,h=>by
  subst hf;rw[eR];rw[HT.lexS_cons_nil] at h;exact kat_nil (by simpa using h)
 | _,_,x::d,y::e,i,fin,.cons ⟨t,ht⟩ p,.cons ⟨u,hu⟩ q,hf,h=>by
  subst ht hu;rw[dF];rw[HT.lexS_cons] at h;refine kat_cons (ix x t y u _ _ _ _ ?_);refine kat_go (fun z=>kat_yes (lex_go (i + 1) p q (by subst hf;simp) (by rw[if_pos (by simpa using z)] at h;exact h))) fun z=>kat_no ?_
  rw[if_neg (by simpa using z)] at h
  cases i with
  | zero=>exact oneLt_str h
  | succ i =>
   show aE _ _ (oneLt' false _ _) _ _ _;exact kat_one _ _ (jR (show PySem.W.BoolBack Q (.bool (HT.ltS x y)) s from h))
theorem lt_tuples {x y:ae} {d e:List Str} {Q:Bool->ai->Prop} (hx:TS s.heap x d) (hy:TS s.heap y e) (h:Q (HT.lexS d e) s):aE (aF prog w) A (keyLt' (tuples' true) x y) Q E s:=by
 obtain⟨b,items,rfl,⟨o,ho,_,n,hd⟩,p⟩:=hx;obtain⟨b2,items2,rfl,⟨o2,ho2,_,n2,hd2⟩,p2⟩:=hy;refine kat_lt ho hd ho2 hd2 (lex_go 0 p p2 ?_ h);have l1:=p.len;have l2:=p2.len;simp only[bf] at l1 l2;rw[l1,l2]
theorem lt_general {x y:ae} {d e:List Str} {Q:Bool->ai->Prop} (hu:A.units < b7) (hx:TS s.heap x d) (hy:TS s.heap y e) (h:Q (HT.lexS d e) s):aE (aF prog w) A (keyLt' general' x y) Q E s:=by
 obtain⟨b,items,rfl,t1,p⟩:=hx;obtain⟨b2,items2,rfl,t2,p2⟩:=hy;show aE _ _ (oneLt' false _ _) _ _ _;exact kat_one _ _ (HT.lt_tupStrs t1 t2 p p2 hu (show PySem.W.BoolBack Q (.bool (HT.lexS d e)) s from h))
theorem lt_one {x y:ae} {d e:List Str} {Q:Bool->ai->Prop} (hu:A.units < b7) (hx:TS s.heap x d) (hy:TS s.heap y e) (h:Q (HT.lexS d e) s):aE (aF prog w) A (keyLt' oneType' x y) Q E s:=by
 obtain⟨b,items,rfl,t1,p⟩:=hx;obtain⟨b2,items2,rfl,t2,p2⟩:=hy;rw[keyLt'_oneType,oneLt'_eq];simp only[if_true];obtain⟨⟨cls,dd,data,sl⟩,ho,hc,n,hd⟩:=id t1;obtain⟨⟨cls2,dd2,data2,sl2⟩,ho2,hc2,n2,hd2⟩:=id t2;simp only at hc hd hc2 hd2;subst hc hd hc2 hd2;refine ad (wpAny_cRoomFor hu ?_);refine ad (wpAny_callSpecialIfBound?_slot ⟨_,ho,rfl⟩ gB (ju gB ⟨_,ho,rfl⟩ jw (jc _ _) (HT.tuple_lt_strs b b2 items items2 n n2 dd dd2 sl sl2 d e p p2) ⟨ho,ho2,?_⟩));exact cA h
theorem firsts_go:∀ {vs:List ae} {ds:List (List Str)} {Q:List (Option ae)->ai->Prop},aZ (TS s.heap) vs ds->(∀ fs:List (Option ae),aZ (fun f d=>match f with | none=>d=[] | some v=>∃ x r t,d=x::r/\v=.str x t) fs ds->Q fs s)->aE (aF prog w) A (vs.mapM firstOfTuple') Q E s
 | _,_,_,.nil,h=>by rw[List.mapM_nil];exact af (h [] .nil)
 | _,_,Q,.cons p q,h=>by
  obtain⟨b,items,rfl,⟨o,ho,hc,n,hd⟩,sa⟩:=p;rw[List.mapM_cons];refine ad ?_;rw[kas_first_eq];refine ad (Looks.here (show Looks (aF prog w) s.heap (typeOf (.ref b)) o.cls from(Looks.ld ho).andThen .now) ?_)
  rw[hc,if_neg (by first | decide | simp)]
  refine ad (listItems_at ho hd (af ?_));refine ad (firsts_go q fun fs pf=>af (h _ (.cons ?_ pf)));obtain⟨items⟩:=items;have sa:HT.SAre items _:=sa;have e:(Array.mk items)[0]?=items[0]?:=by simp
  rw[e];cases sa with
  | nil=>rfl
  | cons z _=>obtain⟨t,ht⟩:=z;exact⟨_,_,t,rfl,ht⟩
theorem kind_go {vs:List ae} {ds:List (List Str)} {Q:eM->ai->Prop} (p:aZ (TS s.heap) vs ds) (hne:vs≠[]) (h:∀ κ,κ=tuples' true\/κ=general'\/κ=oneType'->Q κ s):aE (aF prog w) A (keyKind' vs.toArray) Q E s:=by
 rw[kat_kind_eq,iP,map_eq_pure_bind];refine ad (ad (firsts_go p fun fs pf=>af ?_))
 by_cases hall:(fs.toArray.all fun x=>x.isSome)=true
 ·rw[if_pos hall];refine ad (d9 ?_);rw[oneTypeOnly'_eq];have hv:∀ v∈(fs.toArray.filterMap id).toList,∃ x t,v=.str x t:=fun v hv=>by
   simp only[Array.toList_filterMap,eP,id] at hv;obtain⟨f,hf,rfl⟩:=hv
   have:∀ {fs:List (Option ae)} {ds:List (List Str)},aZ (fun f d=>match f with | none=>d=[] | some v=>∃ x r t,d=x::r/\v=.str x t) fs ds->some v∈fs->∃ x t,v=.str x t:=by
    intro fs ds pf
    induction pf with
    | nil=>intro hm;cases hm
    | cons z _ ih =>
     intro hm;rcases aB.mp hm with e | hm
     ·subst e;obtain⟨x,r,t,_,e⟩:=z;exact⟨x,t,e⟩
     ·exact ih hm
   exact this pf hf
  have hne':(fs.toArray.filterMap id).toList≠[]:=by
   have hfl:fs.length=vs.length:=by have:=bV p;have:=bV pf;lia
   cases fs with
   | nil=>exact absurd (cu (by simpa using hfl.symm)) hne
   | cons f fs =>
    simp only[List.all_toArray,fP,aV] at hall;obtain⟨v,rfl⟩:=cx.mp hall.1;simp
  generalize (fs.toArray.filterMap id)=gs at hv hne';obtain⟨gs⟩:=gs;rw[iP,map_eq_pure_bind];refine ad (ad (ad (kas_mapM (r:=cZ "str") gs (fun v hv' Q' hq=>?_) (af ?_))))
  ·obtain⟨x,t,rfl⟩:=hv v hv';exact af hq
  ·obtain⟨g,gr,rfl⟩:∃ g gr,gs=g::gr:=by
    cases gs with
    | nil=>exact absurd rfl hne'
    | cons g gr=>exact⟨g,gr,rfl⟩
   have h0:(List.map (fun _=>cZ "str") (g::gr)).toArray[0]?=some (cZ "str"):=by simp
   have hall2:((List.map (fun _=>cZ "str") (g::gr)).toArray.all fun x=>x == cZ "str")=true:=by
    simp only[List.all_toArray,g9,a7];intro _ _;simp
   rw[h0];simp only[hall2,if_true];exact af (af (h _ (.inl rfl)))
 ·rw[if_neg hall]
  by_cases h1:((fs.toArray[0]?.bind id).isSome)=true
  ·rw[if_pos h1];exact af (h _ (.inr (.inl rfl)))
  ·rw[if_neg h1,oneTypeOnly'_eq,iP,map_eq_pure_bind];refine ad (ad (ad (kas_mapM (r:=cZ "tuple") vs (fun v hv' Q' hq=>?_) (af ?_))))
   ·have:∀ {vs:List ae} {ds:List (List Str)},aZ (TS s.heap) vs ds->v∈vs->∃ d,TS s.heap v d:=by
     intro vs ds pp
     induction pp with
     | nil=>intro hm;cases hm
     | cons z _ ih =>
      intro hm;rcases aB.mp hm with e | hm
      ·subst e;exact⟨_,z⟩
      ·exact ih hm
    obtain⟨d,b,items,rfl,⟨o,ho,hc,_⟩,_⟩:=this p hv';refine Looks.here (show Looks (aF prog w) s.heap (typeOf (.ref b)) (.type "tuple") from ?_) hq
    rw[<- hc];exact(Looks.ld ho).andThen .now
   ·generalize (List.map (fun _=>cZ "tuple") vs).toArray=ts;cases ts[0]? with
    | none=>exact af (af (by first | exact h _ (.inr (.inl rfl)) | exact h _ (.inr (.inr rfl))))
    | some t =>
     by_cases h2:(ts.all (· == t))=true
     ·simp only[h2,if_true];exact af (af (h _ (.inr (.inr rfl))))
     ·simp only[h2,if_false];exact af (af (h _ (.inr (.inl rfl))))
end
end KS
namespace SF
open PySem PyProof.Rows
abbrev SM:=StateT cG Sem
def gal:Bool->aH->Array aH->Nat->Nat->Nat->SM (Option Nat):=sortPriv% PySem.Builtin.gallop
def mLo:Array aH->Array aH->SM (Array aH):=sortPriv% PySem.Builtin.mergeLo
def mHi:Array aH->Array aH->SM (Array aH):=sortPriv% PySem.Builtin.mergeHi
abbrev setG (st:cG) (g:Nat):cG:=iz (kindOf st) (aM st) (bK st) g (ft st)
def bey (lf:Bool) (key:aH) (arr:Array aH) (b0 i:Nat):SM (Option Bool):=do
 let x <- ef arr (b0 + i)
 if lf then lt' x key else return (<- lt' key x).map (!·)
theorem gal_eq (lf:Bool) (key:aH) (arr:Array aH) (b0 n at0:Nat):gal lf key arr b0 n at0=(do
 let mut lastofs:=0
 let mut ofs:=1
 let mut lo:=0
 let mut hi:=0
 let some rt <- bey lf key arr b0 at0 | return none
 if rt then
  let mx:=n - at0
  for _ in [0:n] do
   if ofs >= mx then break
   let some m1 <- bey lf key arr b0 (at0 + ofs) | return none
   if !m1 then break
   lastofs:=ofs
   ofs:=2 * ofs + 1
  lo:=at0 + lastofs + 1
  hi:=at0 + min ofs mx
 else
  let mx:=at0 + 1
  for _ in [0:n] do
   if ofs >= mx then break
   let some f1 <- bey lf key arr b0 (at0 - ofs) | return none
   if f1 then break
   lastofs:=ofs
   ofs:=2 * ofs + 1
  lo:=at0 + 1 - min ofs mx
  hi:=at0 - lastofs
 for _ in [0:n] do
  if lo >= hi then break
  let m:=lo + (hi - lo) / 2
  let some m2 <- bey lf key arr b0 m | return none
  if m2 then lo:=m + 1 else hi:=m
 return some hi):=rfl
theorem mLo_eq (a b:Array aH):mLo a b=(do
 rule "list.sort.merge-lo"
 let total:=a.size + b.size
 let fin (o:Array aH) (ia ib:Nat):=o++a.extract ia a.size++b.extract ib b.size
 let lst (o:Array aH) (ia ib:Nat):=o++b.extract ib b.size++a.extract ia a.size
 let mut out:Array aH:=#[<- ef b 0]
 let mut ia:=0
 let mut ib:=1
 if ib == b.size then return fin out ia ib
 if ia + 1 == a.size then return lst out ia ib
 let mut minGallop:=gallopOf (<- get)
 for _ in [0:total] do
  let mut acount:=0
  let mut bcount:=0
  for _ in [0:total] do
   let some bw <- lt' (<- ef b ib) (<- ef a ia) | return fin out ia ib
   if bw then
    out:=out.push (<- ef b ib)
    ib:=ib + 1
    bcount:=bcount + 1
    acount:=0
    if ib == b.size then return fin out ia ib
    if bcount >= minGallop then break
   else
    out:=out.push (<- ef a ia)
    ia:=ia + 1
    acount:=acount + 1
    bcount:=0
    if ia + 1 == a.size then return lst out ia ib
    if acount >= minGallop then break
  rule "list.sort.gallop"
  minGallop:=minGallop + 1
  for _ in [0:total] do
   if minGallop > 1 then minGallop:=minGallop - 1
   modify (fun s=>setG s minGallop)
   let some k <- gal false (<- ef b ib) a ia (a.size - ia) 0 | return fin out ia ib
   acount:=k
   if k > 0 then
    out:=out++a.extract ia (ia + k)
    ia:=ia + k
    if ia + 1 == a.size then return lst out ia ib
    if ia == a.size then return fin out ia ib
   out:=out.push (<- ef b ib)
   ib:=ib + 1
   if ib == b.size then return fin out ia ib
   let some k <- gal true (<- ef a ia) b ib (b.size - ib) 0 | return fin out ia ib
   bcount:=k
   if k > 0 then
    out:=out++b.extract ib (ib + k)
    ib:=ib + k
    if ib == b.size then return fin out ia ib
   out:=out.push (<- ef a ia)
   ia:=ia + 1
   if ia + 1 == a.size then return lst out ia ib
   if acount < 7 && bcount < 7 then break
  minGallop:=minGallop + 1
  modify (fun s=>setG s minGallop)
 eO "internal:list.sort.merge-bound"):=rfl
structure Orc (prog:ay) (w:aI) (A:a6) (s:ai) (κ:eM) (P:aH->Prop) (lt:aH->aH->Bool):Prop where
 ask:∀ x y (Q:Bool->ai->Prop),P x->P y->Q (lt x y) s->aE (aF prog w) A (keyLt' κ x.1 y.1) Q (fun _ _=>False) s
 as:∀ x y,P x->P y->lt x y=true->lt y x=false
 tr:∀ x y z,P x->P y->P z->lt y x=false->lt z y=false->lt z x=false
section
variable {prog:ay} {w:aI} {A:a6} {E:ae->ai->Prop} {s:ai} {κ:eM} {P:aH->Prop} {lt:aH->aH->Bool}
theorem wp_lt (o:Orc prog w A s κ P lt) {st:cG} {x y:aH} {Q:Option Bool->cG->Prop} (hk:kindOf st=κ) (hx:P x) (hy:P y) (h:Q (some (lt x y)) st):wpS (aF prog w) A E s (lt' x y) Q st:=by
 rw[lt'_eq];refine au (hJ ?_);rw[hk];refine au (iA (fO (d7 (o.ask x y (fun b s'=>s'=s/\b=lt x y) hx hy ⟨rfl,rfl⟩) (fun b s' hb=>?_) fun _ _ hF=>hF.elim)));obtain⟨rfl,rfl⟩:=hb;exact⟨rfl,aA h⟩
theorem wp_el {st:cG} {arr:Array aH} {i:Nat} {x:aH} {Q:aH->cG->Prop} (hx:arr[i]?=some x) (h:Q x st):wpS (aF prog w) A E s (ef arr i) Q st:=by
 rw[elem'_eq,hx];exact aA h
def bv (lt:aH->aH->Bool) (lf:Bool) (key x:aH):Bool:=if lf then lt x key else !lt key x
theorem wp_bey (o:Orc prog w A s κ P lt) {st:cG} {lf:Bool} {key x:aH} {arr:Array aH} {b0 i:Nat} {Q:Option Bool->cG->Prop} (hk:kindOf st=κ) (hkey:P key) (hx:arr[b0 + i]?=some x) (px:P x) (h:Q (some (bv lt lf key x)) st):wpS (aF prog w) A E s (bey lf key arr b0 i) Q st:=by
 unfold bey;refine au (wp_el hx ?_);cases lf with
 | true=>exact wp_lt o hk px hkey h
 | false=>exact au (wp_lt o hk hkey px (aA h))
theorem wp_hlv {st:cG} {b:Nat->Bool} {n lo hi:Nat} {body:Nat->Option (Option Nat) × Nat × Nat->SM (ForInStep (Option (Option Nat) × Nat × Nat))} {Q:Option (Option Nat) × Nat × Nat->cG->Prop}
  (hb:∀ x lo hi (Q':ForInStep (Option (Option Nat) × Nat × Nat)->cG->Prop),hi<=n->(hi<=lo->Q' (.done (none,lo,hi)) st)->(lo < hi->b (lo + (hi - lo) / 2)=true->Q' (.yield (none,lo + (hi - lo) / 2 + 1,hi)) st)->(lo < hi->b (lo + (hi - lo) / 2)=false->Q' (.yield (none,lo,lo + (hi - lo) / 2)) st)->wpS (aF prog w) A E s (body x (none,lo,hi)) Q' st)
  (mono:∀ i j,i<=j->j < n->b j=true->b i=true) (h1:lo<=hi) (h2:hi<=n) (h3:∀ i,i < lo->b i=true) (h4:∀ i,hi<=i->i < n->b i=false)
  (h:∀ k,k<=n->(∀ i,i < k->b i=true)->(∀ i,k<=i->i < n->b i=false)->Q (none,k,k) st):wpS (aF prog w) A E s (forIn [0:n] ((none,lo,hi):Option (Option Nat) × Nat × Nat) body) Q st:=by
 refine cV (bO (I:=fun x c st'=>st'=st/\∃ lo hi,c=(none,lo,hi)/\lo<=hi/\hi<=n/\hi + x<=lo + n/\(∀ i,i < lo->b i=true)/\∀ i,hi<=i->i < n->b i=false)
  (Q:=fun c st'=>st'=st/\∃ lo hi,c=(none,lo,hi)/\hi<=lo/\lo<=hi/\hi<=n/\(∀ i,i < lo->b i=true)/\∀ i,hi<=i->i < n->b i=false) ?_ ?_ ⟨rfl,lo,hi,rfl,h1,h2,by omega,h3,h4⟩) ?_
 ·rintro x c st' _ hx ⟨rfl,lo,hi,rfl,a1,a2,a3,a4,a5⟩;refine hb x lo hi _ a2 (fun hc=>⟨rfl,lo,hi,rfl,hc,a1,a2,a4,a5⟩) (fun hc e=>⟨rfl,_,_,rfl,by omega,a2,by omega,fun i hi'=>mono i _ (by omega) (by omega) e,a5⟩) fun hc e=>⟨rfl,_,_,rfl,by omega,by omega,by omega,a4,fun i h1 h2=>?_⟩
  cases e2:b i with
  | false=>rfl
  | true=>rw[mono _ i h1 h2 e2] at e;cases e
 ·rintro c st' ⟨rfl,lo,hi,rfl,a1,a2,a3,a4,a5⟩;exact⟨rfl,lo,hi,rfl,by omega,a1,a2,a4,a5⟩
 ·rintro c st' ⟨rfl,lo,hi,rfl,a0,a1,a2,a4,a5⟩
  have:lo=hi:=by omega
  subst this;exact h lo a2 a4 a5
theorem wp_gal (o:Orc prog w A s κ P lt) {st:cG} {lf:Bool} {key:aH} {arr:Array aH} {b0 n at0:Nat} {f:Nat->aH} {Q:Option Nat->cG->Prop} (hk:kindOf st=κ) (hkey:P key)
  (hf:∀ i,i < n->arr[b0 + i]?=some (f i)/\P (f i)) (mono:∀ i j,i<=j->j < n->bv lt lf key (f j)=true->bv lt lf key (f i)=true) (h0:at0 < n)
  (h:∀ k,k<=n->(∀ i,i < k->bv lt lf key (f i)=true)->(∀ i,k<=i->i < n->bv lt lf key (f i)=false)->Q (some k) st):wpS (aF prog w) A E s (gal lf key arr b0 n at0) Q st:=by
 rw[gal_eq];dsimp only;have up:∀ i j,i<=j->j < n->bv lt lf key (f i)=false->bv lt lf key (f j)=false:=fun i j h1 h2 h3=>by
  cases e:bv lt lf key (f j) with
  | false=>rfl
  | true=>rw[mono i j h1 h2 e] at h3;cases h3
 refine au (wp_bey o hk hkey (hf at0 h0).1 (hf at0 h0).2 ?_);dsimp only;cases e0:bv lt lf key (f at0) with
 | true =>
  rw[if_pos rfl];refine au (cV (bO (I:=fun x c st'=>st'=st/\∃ l ofs,c=(none,l,ofs)/\l < ofs/\x + 1<=ofs/\at0 + l < n/\bv lt lf key (f (at0 + l))=true)
   (Q:=fun c st'=>st'=st/\∃ l ofs,c=(none,l,ofs)/\l < ofs/\at0 + l < n/\bv lt lf key (f (at0 + l))=true/\(n - at0<=ofs\/(at0 + ofs < n/\bv lt lf key (f (at0 + ofs))=false))) ?_ ?_ ⟨rfl,0,1,rfl,by decide,by decide,h0,e0⟩) ?_)
  ·rintro x c st' _ hx ⟨rfl,l,ofs,rfl,a1,a2,a3,a4⟩;dsimp only
   by_cases hc:ofs >= n - at0
   ·rw[if_pos hc];exact aA ⟨rfl,l,ofs,rfl,a1,a3,a4,.inl hc⟩
   ·rw[if_neg hc];have hm:at0 + ofs < n:=by omega
    refine au (wp_bey o hk hkey (hf _ hm).1 (hf _ hm).2 ?_);dsimp only;cases e:bv lt lf key (f (at0 + ofs)) with
    | true=>rw[if_neg (by simp)];exact aA ⟨rfl,ofs,_,rfl,by omega,by omega,hm,e⟩
    | false=>rw[if_pos (by rfl)];exact aA ⟨rfl,l,ofs,rfl,a1,a3,a4,.inr ⟨hm,e⟩⟩
  ·rintro c st' ⟨rfl,l,ofs,rfl,a1,a2,a3,a4⟩;exact⟨rfl,l,ofs,rfl,a1,a3,a4,.inl (by omega)⟩
  ·rintro c st' ⟨rfl,l,ofs,rfl,a1,a3,a4,a5⟩;have H4:∀ i,at0 + min ofs (n - at0)<=i->i < n->bv lt lf key (f i)=false:=fun i h1 h2=>by
    rcases a5 with z | ⟨z1,z2⟩
    ·omega
    ·exact up (at0 + ofs) i (by omega) h2 z2
   refine au (wp_hlv (b:=fun i=>bv lt lf key (f i)) (n:=n) (lo:=at0 + l + 1) (hi:=at0 + min ofs (n - at0)) (fun x lo hi Q' hn q1 q2 q3=>?_) mono (by omega) (by omega) (fun i hi=>mono i (at0 + l) (by omega) a3 a4) H4 fun k k1 k2 k3=>aA (h k k1 k2 k3))
   dsimp only
   by_cases hc:lo >= hi
   ·rw[if_pos hc];exact aA (q1 hc)
   ·rw[if_neg hc];have hm:lo + (hi - lo) / 2 < n:=by omega
    refine au (wp_bey o hk hkey (hf _ hm).1 (hf _ hm).2 ?_);dsimp only;cases e:bv lt lf key (f (lo + (hi - lo) / 2)) with
    | true=>rw[if_pos rfl];exact aA (q2 (by omega) e)
    | false=>rw[if_neg (by simp)];exact aA (q3 (by omega) e)
 | false =>
  rw[if_neg (by simp)]
  refine au (cV (bO (I:=fun x c st'=>st'=st/\∃ l ofs,c=(none,l,ofs)/\l < ofs/\x + 1<=ofs/\l<=at0/\bv lt lf key (f (at0 - l))=false)
   (Q:=fun c st'=>st'=st/\∃ l ofs,c=(none,l,ofs)/\l < ofs/\l<=at0/\bv lt lf key (f (at0 - l))=false/\(at0 + 1<=ofs\/(ofs<=at0/\bv lt lf key (f (at0 - ofs))=true))) ?_ ?_ ⟨rfl,0,1,rfl,by decide,by decide,Nat.zero_le _,e0⟩) ?_)
  ·rintro x c st' _ hx ⟨rfl,l,ofs,rfl,a1,a2,a3,a4⟩;dsimp only
   by_cases hc:ofs >= at0 + 1
   ·rw[if_pos hc];exact aA ⟨rfl,l,ofs,rfl,a1,a3,a4,.inl hc⟩
   ·rw[if_neg hc];have hm:at0 - ofs < n:=by omega
    refine au (wp_bey o hk hkey (hf _ hm).1 (hf _ hm).2 ?_);dsimp only;cases e:bv lt lf key (f (at0 - ofs)) with
    | true=>rw[if_pos rfl];exact aA ⟨rfl,l,ofs,rfl,a1,a3,a4,.inr ⟨by omega,e⟩⟩
    | false=>rw[if_neg (by simp)];exact aA ⟨rfl,ofs,_,rfl,by omega,by omega,by omega,e⟩
  ·rintro c st' ⟨rfl,l,ofs,rfl,a1,a2,a3,a4⟩;exact⟨rfl,l,ofs,rfl,a1,a3,a4,.inl (by omega)⟩
  ·rintro c st' ⟨rfl,l,ofs,rfl,a1,a3,a4,a5⟩;have H3:∀ i,i < at0 + 1 - min ofs (at0 + 1)->bv lt lf key (f i)=true:=fun i hi=>by
    rcases a5 with z | ⟨z1,z2⟩
    ·omega
    ·exact mono i (at0 - ofs) (by omega) (by omega) z2
   refine au (wp_hlv (b:=fun i=>bv lt lf key (f i)) (n:=n) (lo:=at0 + 1 - min ofs (at0 + 1)) (hi:=at0 - l) (fun x lo hi Q' hn q1 q2 q3=>?_) mono (by omega) (by omega) H3 (fun i h1 h2=>up (at0 - l) i h1 h2 a4) fun k k1 k2 k3=>aA (h k k1 k2 k3))
   dsimp only
   by_cases hc:lo >= hi
   ·rw[if_pos hc];exact aA (q1 hc)
   ·rw[if_neg hc];have hm:lo + (hi - lo) / 2 < n:=by omega
    refine au (wp_bey o hk hkey (hf _ hm).1 (hf _ hm).2 ?_);dsimp only;cases e:bv lt lf key (f (lo + (hi - lo) / 2)) with
    | true=>rw[if_pos rfl];exact aA (q2 (by omega) e)
    | false=>rw[if_neg (by simp)];exact aA (q3 (by omega) e)
end
def Sd {α:Type} (lt:α->α->Bool) (l:List α):Prop:=l.Pairwise fun x y=>lt y x=false
structure Iv {α:Type} (lt:α->α->Bool) (T out rest:List α):Prop where
 perm:(out++rest).Perm T
 sd:Sd lt out
 lo:∀ x∈out,∀ y∈rest,lt y x=false
section
variable {α:Type} {lt:α->α->Bool} {T out rest:List α}
theorem Iv.step (h:Iv lt T out rest) {xs rest':List α} (hp:rest.Perm (xs++rest')) (hs:Sd lt xs) (hl:∀ x∈xs,∀ y∈rest',lt y x=false):Iv lt T (out++xs) rest':=by
 refine⟨?_,a9.mpr ⟨h.sd,hs,fun x hx y hy=>h.lo x hx y (hp.mem_iff.mpr (cF _ hy))⟩,fun x hx y hy=>?_⟩
 ·rw[aR];exact(er out hp.symm).trans h.perm
 ·rcases aU.mp hx with z | z
  ·exact h.lo x z y (hp.mem_iff.mpr (bj _ hy))
  ·exact hl x z y hy
theorem Iv.done (h:Iv lt T out rest) (hs:Sd lt rest):Sd lt (out++rest)/\(out++rest).Perm T:=⟨a9.mpr ⟨h.sd,hs,h.lo⟩,h.perm⟩
theorem Iv.perm' (h:Iv lt T out rest) {rest':List α} (hp:rest.Perm rest'):Iv lt T out rest':=⟨(er out hp.symm).trans h.perm,h.sd,fun x hx y hy=>h.lo x hx y (hp.mem_iff.mpr hy)⟩
theorem Iv.size (h:Iv lt T out rest):out.length + rest.length=T.length:=by rw[<- az];exact h.perm.length_eq
theorem drop_at {l:List α} {i:Nat} {x:α} (h:l[i]?=some x):l.drop i=x::l.drop (i + 1):=by
 have hi:=(aD.mp h).1;rw[cM hi]
 congr 1
 exact(aD.mp h).2
theorem Sd.drop {l:List α} (h:Sd lt l) (i:Nat):Sd lt (l.drop i):=h.sublist (List.drop_sublist _ _)
theorem Sd.at {l:List α} (h:Sd lt l) {i j:Nat} {x y:α} (hij:i < j) (hx:l[i]?=some x) (hy:l[j]?=some y):lt y x=false:=by
 obtain⟨h1,e1⟩:=aD.mp hx;obtain⟨h2,e2⟩:=aD.mp hy
 have:=bT.mp h i j h1 h2 hij
 rw[e1,e2] at this;exact this
theorem mem_drop_at {l:List α} {i:Nat} {y:α} (h:y∈l.drop i):∃ j,i<=j/\l[j]?=some y:=by
 obtain⟨k,hk,e⟩:=bn h;rw[gp] at e;rw[bB] at hk;exact⟨i + k,by omega,by rw[ag (by omega),e]⟩
end
section
variable {prog:ay} {w:aI} {A:a6} {s:ai} {κ:eM} {P:aH->Prop} {lt:aH->aH->Bool} {T out la lb:List aH} {ia ib:Nat} {x y:aH}
theorem le_run (o:Orc prog w A s κ P lt) {l:List aH} (hP:∀ z∈l,P z) (hs:Sd lt l) {i:Nat} {z:aH} (hz:P z) {y:aH} (hy:l[i]?=some y) (h:lt y z=false):∀ u∈l.drop i,lt u z=false:=fun u hu=>by
 obtain⟨j,hj,e⟩:=mem_drop_at hu;rcases Nat.eq_or_lt_of_le hj with rfl | hlt
 ·rw[hy] at e;cases e;exact h
 ·exact o.tr z y u hz (hP y (ak hy)) (hP u (ak e)) h (hs.at hlt hy e)
theorem Iv.pushB (h:Iv lt T out (la.drop ia++lb.drop ib)) (sb:Sd lt lb) (hy:lb[ib]?=some y) (hl:∀ u∈la.drop ia,lt u y=false):Iv lt T (out++[y]) (la.drop ia++lb.drop (ib + 1)):=by
 refine h.step ?_ (bt _ _) fun x hx u hu=>?_
 ·rw[drop_at hy];exact fy
 ·rw[aN.mp hx];rcases aU.mp hu with z | z
  ·exact hl u z
  ·obtain⟨j,hj,e⟩:=mem_drop_at z;exact sb.at (by omega) hy e
theorem Iv.pushA (h:Iv lt T out (la.drop ia++lb.drop ib)) (sa:Sd lt la) (hx:la[ia]?=some x) (hl:∀ u∈lb.drop ib,lt u x=false):Iv lt T (out++[x]) (la.drop (ia + 1)++lb.drop ib):=by
 refine h.step ?_ (bt _ _) fun z hz u hu=>?_
 ·rw[drop_at hx];exact da _
 ·rw[aN.mp hz];rcases aU.mp hu with z | z
  ·obtain⟨j,hj,e⟩:=mem_drop_at z;exact sa.at (by omega) hx e
  ·exact hl u z
theorem Iv.blockA (h:Iv lt T out (la.drop ia++lb.drop ib)) (sa:Sd lt la) (k:Nat) (hl:∀ z∈(la.drop ia).take k,∀ u∈lb.drop ib,lt u z=false):Iv lt T (out++(la.drop ia).take k) (la.drop (ia + k)++lb.drop ib):=by
 have e:la.drop ia=(la.drop ia).take k++la.drop (ia + k):=by rw[<- List.drop_drop];exact(bE k _).symm
 have sd:=sa.drop ia;rw[e] at sd;obtain⟨s1,_,s3⟩:=a9.mp sd;refine h.step ?_ s1 fun z hz u hu=>?_
 ·rw[<- aR,<- e]
 ·rcases aU.mp hu with v | v
  ·exact s3 z hz u v
  ·exact hl z hz u v
theorem Iv.blockB (h:Iv lt T out (la.drop ia++lb.drop ib)) (sb:Sd lt lb) (k:Nat) (hl:∀ z∈(lb.drop ib).take k,∀ u∈la.drop ia,lt u z=false):Iv lt T (out++(lb.drop ib).take k) (la.drop ia++lb.drop (ib + k)):=by
 have e:lb.drop ib=(lb.drop ib).take k++lb.drop (ib + k):=by rw[<- List.drop_drop];exact(bE k _).symm
 have sd:=sb.drop ib;rw[e] at sd;obtain⟨s1,_,s3⟩:=a9.mp sd;refine h.step ?_ s1 fun z hz u hu=>?_
 ·have e2:la.drop ia++lb.drop ib=la.drop ia++((lb.drop ib).take k++lb.drop (ib + k)):=by rw[<- e]
  rw[e2,<- aR,<- aR];exact dY _ dA
 ·rcases aU.mp hu with v | v
  ·exact hl z hz u v
  ·exact s3 z hz u v
theorem mem_take_at {l:List aH} {i k:Nat} {z:aH} (h:z∈(l.drop i).take k):∃ j,j < k/\l[i + j]?=some z:=by
 obtain⟨j,hj,e⟩:=bn h;rw[aS,bB] at hj;rw[gn,gp] at e;exact⟨j,by omega,by rw[ag (by omega),e]⟩
end
theorem ext_list (a:Array aH) (i j:Nat):(a.extract i j).toList=(a.toList.drop i).take (j - i):=by simp
theorem ext_all (a:Array aH) (i:Nat):(a.extract i a.size).toList=a.toList.drop i:=by
 rw[ext_list];exact bq (by rw[bB];simp)
end SF
theorem hd {g:Prop} (h:∀ G:Prop,(g->G)->G):g:=h g id
namespace SF
open PySem PyProof.Rows
section
variable {prog:ay} {w:aI} {A:a6} {E:ae->ai->Prop} {s:ai} {κ:eM} {P:aH->Prop} {lt:aH->aH->Bool}
theorem at_list {a:Array aH} {i:Nat} (h:i < a.size):∃ x,a[i]?=some x/\a.toList[i]?=some x:=⟨a[i],by simp[h],by simp[h]⟩
theorem wpS_t {σ α:Type} {M:Model} {c:Prop} {di:Decidable c} {X Y:StateT σ Sem α} {Q:α->σ->Prop} {st:σ} (hc:c) (h:wpS M A E s X Q st):wpS M A E s (@ite _ c di X Y) Q st:=by rw[if_pos hc];exact h
theorem wpS_f {σ α:Type} {M:Model} {c:Prop} {di:Decidable c} {X Y:StateT σ Sem α} {Q:α->σ->Prop} {st:σ} (hc:¬ c) (h:wpS M A E s Y Q st):wpS M A E s (@ite _ c di X Y) Q st:=by rw[if_neg hc];exact h
theorem wpS_jp {σ α:Type} {M:Model} {c:Nat->Prop} {di:∀ n,Decidable (c n)} {X Y:Nat->StateT σ Sem α} {Q:α->σ->Prop} {st:σ} (e:∀ n,X n=Y (n - 1)) (h:∀ m,wpS M A E s (Y m) Q st) (n:Nat):wpS M A E s (@ite _ (c n) (di n) (X n) (Y n)) Q st:=by
 split
 ·rw[e];exact h _
 ·exact h _
theorem wp_mLo (o:Orc prog w A s κ P lt) {st:cG} {a b:Array aH} {Q:Array aH->cG->Prop} (hk:kindOf st=κ) (pa:∀ x∈a.toList,P x) (pb:∀ y∈b.toList,P y) (sa:Sd lt a.toList) (sb:Sd lt b.toList) (na:1<=a.size) (nb:1<=b.size)
  (hfst:∀ y,b.toList[0]?=some y->∀ x∈a.toList,lt x y=false) (hlst:∀ z,a.toList[a.size - 1]?=some z->∀ y∈b.toList,lt z y=false)
  (h:∀ out g,Sd lt out.toList->out.toList.Perm (a.toList++b.toList)->Q out (setG st g)):wpS (aF prog w) A E s (mLo a b) Q st:=by
 have sz:(a.toList++b.toList).length=a.size + b.size:=by simp
 have finA:∀ (out:Array aH) ia ib g,ib=b.size->Iv lt (a.toList++b.toList) out.toList (a.toList.drop ia++b.toList.drop ib)->Q (out++a.extract ia a.size++b.extract ib b.size) (setG st g):=fun out ia ib g e iv=>by
  have e0:b.toList.drop ib=[]:=bA (by simp[e])
  rw[e0,bR] at iv
  have:=iv.done (sa.drop ia)
  refine h _ g ?_ ?_ <;> simp only[ce,ext_all,e0,bR]
  ·exact this.1
  ·exact this.2
 have finB:∀ (out:Array aH) ia ib g,ia=a.size->Iv lt (a.toList++b.toList) out.toList (a.toList.drop ia++b.toList.drop ib)->Q (out++a.extract ia a.size++b.extract ib b.size) (setG st g):=fun out ia ib g e iv=>by
  have e0:a.toList.drop ia=[]:=bA (by simp[e])
  rw[e0,bS] at iv
  have:=iv.done (sb.drop ib)
  refine h _ g ?_ ?_ <;> simp only[ce,ext_all,e0,bR]
  ·exact this.1
  ·exact this.2
 have finL:∀ (out:Array aH) ia ib g,ia + 1=a.size->Iv lt (a.toList++b.toList) out.toList (a.toList.drop ia++b.toList.drop ib)->Q (out++b.extract ib b.size++a.extract ia a.size) (setG st g):=fun out ia ib g e iv=>by
  obtain⟨z,hz,hzl⟩:=at_list (a:=a) (i:=ia) (by lia)
  have e0:a.toList.drop ia=[z]:=by rw[drop_at hzl,bA (by simp;lia)]
  have iv2:=iv.perm' dA;have hz2:a.toList[a.size - 1]?=some z:=by rw[<- e];exact hzl
  have:=iv2.done (a9.mpr ⟨sb.drop ib,sa.drop ia,fun x hx y hy=>by
   rw[e0] at hy;rw[aN.mp hy];exact hlst z hz2 x (dI hx)⟩)
  refine h _ g ?_ ?_ <;> simp only[ce,ext_all,aR]
  ·exact this.1
  ·exact this.2
 have t2:∀ (Post:ForInStep (Option (Array aH) × Array aH × Nat × Nat × Nat × Nat × Nat)->cG->Prop) (out:Array aH) (ia ib mg ac bc g:Nat),(∀ r c',Q r (setG st g)->Post (.done (some r,c')) (setG st g)) ->
   (∀ out' ia' ib' ac' bc',ia' + 1 < a.size->ib' < b.size->Iv lt (a.toList++b.toList) out'.toList (a.toList.drop ia'++b.toList.drop ib')->out.size<=out'.size->Post (.done (none,out',ia',ib',mg,ac',bc')) (setG st g)/\Post (.yield (none,out',ia',ib',mg,ac',bc')) (setG st g)) ->
   ia + 1 < a.size->ib < b.size->Iv lt (a.toList++b.toList) out.toList (a.toList.drop ia++b.toList.drop ib)->(∀ x,a.toList[ia]?=some x->∀ u∈b.toList.drop ib,lt u x=false) ->
   wpS (aF prog w) A E s (do
    let x <- ef a ia
    if (ia + 1 + 1 == a.size)=true then pure (bi (some (out.push x++b.extract ib b.size++a.extract (ia + 1) a.size),out.push x,ia + 1,ib,mg,ac,bc))
    else if (decide (ac < 7) && decide (bc < 7))=true then pure (bi (none,out.push x,ia + 1,ib,mg,ac,bc))
    else pure (bp (none,out.push x,ia + 1,ib,mg,ac,bc))) Post (setG st g):=by
  intro Post out ia ib mg ac bc g hd hg hia hib iv hl;obtain⟨x1,hx1,hx1l⟩:=at_list (a:=a) (i:=ia) (by lia)
  refine au (wp_el hx1 ?_);have iv2:Iv lt (a.toList++b.toList) (out.push x1).toList (a.toList.drop (ia + 1)++b.toList.drop ib):=by
   rw[cj];exact iv.pushA sa hx1l (hl x1 hx1l)
  have sp:(out.push x1).size=out.size + 1:=dj ..
  by_cases c1:(ia + 1 + 1 == a.size)=true
  ·refine wpS_t c1 ?_;exact aA (hd _ _ (finL _ _ _ g (by simpa using c1) iv2))
  ·refine wpS_f c1 ?_;have c1':ia + 1 + 1≠a.size:=by simpa using c1
   have:=hg (out.push x1) (ia + 1) ib ac bc (by lia) hib iv2 (by lia)
   by_cases c2:(decide (ac < 7) && decide (bc < 7))=true
   ·refine wpS_t c2 ?_;exact aA this.1
   ·refine wpS_f c2 ?_;exact aA this.2
 have t1:∀ (Post:ForInStep (Option (Array aH) × Array aH × Nat × Nat × Nat × Nat × Nat)->cG->Prop) (out:Array aH) (ia ib mg ac bc g:Nat),(∀ r c',Q r (setG st g)->Post (.done (some r,c')) (setG st g)) ->
   (∀ out' ia' ib' ac' bc',ia' + 1 < a.size->ib' < b.size->Iv lt (a.toList++b.toList) out'.toList (a.toList.drop ia'++b.toList.drop ib')->out.size<=out'.size->Post (.done (none,out',ia',ib',mg,ac',bc')) (setG st g)/\Post (.yield (none,out',ia',ib',mg,ac',bc')) (setG st g)) ->
   ia + 1 < a.size->ib < b.size->Iv lt (a.toList++b.toList) out.toList (a.toList.drop ia++b.toList.drop ib)->(∀ y,b.toList[ib]?=some y->∀ u∈a.toList.drop ia,lt u y=false) ->
   wpS (aF prog w) A E s (do
    let y <- ef b ib
    if (ib + 1 == b.size)=true then pure (bi (some (out.push y++a.extract ia a.size++b.extract (ib + 1) b.size),out.push y,ia,ib + 1,mg,ac,bc))
    else do
     let x <- ef a ia
     let z <- gal true x b (ib + 1) (b.size - (ib + 1)) 0
     match z with
     | some k1 =>
      if k1 > 0 then
       if (ib + 1 + k1 == b.size)=true then pure (bi (some (out.push y++b.extract (ib + 1) (ib + 1 + k1)++a.extract ia a.size++b.extract (ib + 1 + k1) b.size),out.push y++b.extract (ib + 1) (ib + 1 + k1),ia,ib + 1 + k1,mg,ac,k1))
       else do
        let x <- ef a ia
        if (ia + 1 + 1 == a.size)=true then pure (bi (some ((out.push y++b.extract (ib + 1) (ib + 1 + k1)).push x++b.extract (ib + 1 + k1) b.size++a.extract (ia + 1) a.size),(out.push y++b.extract (ib + 1) (ib + 1 + k1)).push x,ia + 1,ib + 1 + k1,mg,ac,k1))
        else if (decide (ac < 7) && decide (k1 < 7))=true then pure (bi (none,(out.push y++b.extract (ib + 1) (ib + 1 + k1)).push x,ia + 1,ib + 1 + k1,mg,ac,k1))
        else pure (bp (none,(out.push y++b.extract (ib + 1) (ib + 1 + k1)).push x,ia + 1,ib + 1 + k1,mg,ac,k1))
      else do
       let x <- ef a ia
       if (ia + 1 + 1 == a.size)=true then pure (bi (some ((out.push y).push x++b.extract (ib + 1) b.size++a.extract (ia + 1) a.size),(out.push y).push x,ia + 1,ib + 1,mg,ac,k1))
       else if (decide (ac < 7) && decide (k1 < 7))=true then pure (bi (none,(out.push y).push x,ia + 1,ib + 1,mg,ac,k1))
       else pure (bp (none,(out.push y).push x,ia + 1,ib + 1,mg,ac,k1))
     | _=>pure (bi (some (out.push y++a.extract ia a.size++b.extract (ib + 1) b.size),out.push y,ia,ib + 1,mg,ac,bc))) Post (setG st g):=by
  intro Post out ia ib mg ac bc g hd hg hia hib iv hl;obtain⟨y1,hy1,hy1l⟩:=at_list (a:=b) (i:=ib) hib;obtain⟨x1,hx1,hx1l⟩:=at_list (a:=a) (i:=ia) (by lia)
  have px1:=pa x1 (ak hx1l);refine au (wp_el hy1 ?_);have iv2:Iv lt (a.toList++b.toList) (out.push y1).toList (a.toList.drop ia++b.toList.drop (ib + 1)):=by
   rw[cj];exact iv.pushB sb hy1l (hl y1 hy1l)
  have sp:(out.push y1).size=out.size + 1:=dj ..
  by_cases c1:(ib + 1 == b.size)=true
  ·refine wpS_t c1 ?_;exact aA (hd _ _ (finA _ _ _ g (by simpa using c1) iv2))
  refine wpS_f c1 ?_;have c1':ib + 1≠b.size:=by simpa using c1
  refine au (wp_el hx1 (au (wp_gal o (f:=fun i=>b.toList.getD (ib + 1 + i) (.none,.none)) hk px1 (fun i hi=>?_) (fun i j hij hj hb=>?_) (by lia) fun k k1 k2 k3=>?_)))
  ·obtain⟨z,hz,hzl⟩:=at_list (a:=b) (i:=ib + 1 + i) (by lia)
   rw[aj,hzl];exact⟨hz,pb z (ak hzl)⟩
  ·obtain⟨z,hz,hzl⟩:=at_list (a:=b) (i:=ib + 1 + i) (by lia)
   obtain⟨z',hz',hzl'⟩:=at_list (a:=b) (i:=ib + 1 + j) (by lia)
   rw[aj,hzl'] at hb;rw[aj,hzl];have hb':lt z' x1=true:=hb;show lt z x1=true;cases e:lt z x1 with
   | true=>rfl
   | false =>
    exfalso;have pz:=pb z (ak hzl);have pz':=pb z' (ak hzl');rcases Nat.eq_or_lt_of_le hij with rfl | hlt
    ·rw[hzl] at hzl';cases hzl';rw[e] at hb';cases hb'
    ·have:=o.tr x1 z z' px1 pz pz' e (sb.at (by lia) hzl hzl')
     rw[hb'] at this;cases this
  have behind:∀ j y,ib + 1 + k<=j->b.toList[j]?=some y->lt y x1=false:=fun j y hj hy=>by
   have hjb:j < b.size:=by have:=(aD.mp hy).1;simpa using this
   have:=k3 (j - (ib + 1)) (by lia) (by lia)
   rw[aj,show ib + 1 + (j - (ib + 1))=j by lia,hy] at this
   exact this
  dsimp only
  by_cases ck:k > 0
  ·refine wpS_t ck ?_;have iv3:Iv lt (a.toList++b.toList) (out.push y1++b.extract (ib + 1) (ib + 1 + k)).toList (a.toList.drop ia++b.toList.drop (ib + 1 + k)):=by
    rw[ce,ext_list,show ib + 1 + k - (ib + 1)=k by lia]
    refine iv2.blockB sb k fun z hz u hu=>?_;obtain⟨j,hj,hzl⟩:=mem_take_at hz;have pz:=pb z (ak hzl);have hb:=k2 j hj;rw[aj,hzl] at hb;exact le_run o pa sa pz hx1l (o.as _ _ pz px1 hb) u hu
   have sz3:out.size<=(out.push y1++b.extract (ib + 1) (ib + 1 + k)).size:=by rw[e9];lia
   by_cases c3:(ib + 1 + k == b.size)=true
   ·refine wpS_t c3 ?_;exact aA (hd _ _ (finA _ _ _ g (by simpa using c3) iv3))
   ·refine wpS_f c3 ?_;have c3':ib + 1 + k≠b.size:=by simpa using c3
    refine t2 Post _ ia (ib + 1 + k) mg ac k g hd (fun o' i1 i2 a1 b1 q1 q2 q3 q4=>hg o' i1 i2 a1 b1 q1 q2 q3 (by lia)) hia (by lia) iv3 fun x hx u hu=>?_
    rw[hx1l] at hx;cases hx;obtain⟨j,hj,e⟩:=mem_drop_at hu;exact behind j u hj e
  ·refine wpS_f ck ?_;have k0:k=0:=by lia
   refine t2 Post _ ia (ib + 1) mg ac k g hd (fun o' i1 i2 a1 b1 q1 q2 q3 q4=>hg o' i1 i2 a1 b1 q1 q2 q3 (by lia)) hia (by lia) iv2 fun x hx u hu=>?_
   rw[hx1l] at hx;cases hx;obtain⟨j,hj,e⟩:=mem_drop_at hu;exact behind j u (by lia) e
 rw[mLo_eq];refine au (iA (d9 ⟨rfl,?_⟩));dsimp only;obtain⟨y0,hy0,hy0l⟩:=at_list (a:=b) (i:=0) nb;refine au (wp_el hy0 ?_);have iv0:Iv lt (a.toList++b.toList) (#[y0]:Array aH).toList (a.toList.drop 0++b.toList.drop 1):=by
  have i0:Iv lt (a.toList++b.toList) [] (a.toList.drop 0++b.toList.drop 0):=⟨by simp,gi,by simp⟩
  exact i0.pushB sb hy0l fun u hu=>hfst y0 hy0l u hu
 have est:st=setG st (gallopOf st):=rfl
 by_cases hb1:(1 == b.size)=true
 ·refine wpS_t hb1 ?_;refine aA ?_;rw[est];exact finA _ 0 1 _ (by simpa using hb1) iv0
 refine wpS_f hb1 ?_
 by_cases ha1:(0 + 1 == a.size)=true
 ·refine wpS_t ha1 ?_;refine aA ?_;rw[est];exact finL _ 0 1 _ (by simpa using ha1) iv0
 refine wpS_f ha1 ?_;have hb2:1 < b.size:=by
  have:1≠b.size:=by simpa using hb1
  lia
 have ha2:0 + 1 < a.size:=by
  have:0 + 1≠a.size:=by simpa using ha1
  lia
 refine au (hJ ?_);refine au (cV (bO (I:=fun x c st'=>∃ out ia ib mg g,c=(none,out,ia,ib,mg)/\st'=setG st g/\ia + 1 < a.size/\ib < b.size/\Iv lt (a.toList++b.toList) out.toList (a.toList.drop ia++b.toList.drop ib)/\x + 1<=out.size)
  (Q:=fun c st'=>∃ r,c.fst=some r/\Q r st') ?_ ?_ ⟨#[y0],0,1,_,_,rfl,est,ha2,hb2,iv0,by simp⟩) ?_)
 ·intro x c st' _ hx zq;refine hd fun Gq kq=>?_;obtain⟨out,ia,ib,mg,g,rfl,rfl,hia,hib,iv,hsz⟩:=zq;refine kq ?_;dsimp only;refine au (cV (bO (I:=fun y c st'=>∃ out' ia' ib' ac bc,c=(none,out',ia',ib',ac,bc)/\st'=setG st g/\ia' + 1 < a.size/\ib' < b.size/\Iv lt (a.toList++b.toList) out'.toList (a.toList.drop ia'++b.toList.drop ib')/\out.size + y<=out'.size)
   (Q:=fun c st'=>st'=setG st g/\((∃ r,c.fst=some r/\Q r st')\/∃ out' ia' ib' ac bc,c=(none,out',ia',ib',ac,bc)/\ia' + 1 < a.size/\ib' < b.size/\Iv lt (a.toList++b.toList) out'.toList (a.toList.drop ia'++b.toList.drop ib')/\out.size + 1<=out'.size)) ?_ ?_ ⟨out,ia,ib,0,0,rfl,rfl,hia,hib,iv,Nat.le_refl _⟩) ?_)
  ·intro y c st' _ hy zq;refine hd fun Gq kq=>?_;obtain⟨out',ia',ib',ac,bc,rfl,rfl,hia',hib',iv',hsz'⟩:=zq;refine kq ?_;obtain⟨x1,hx1,hx1l⟩:=at_list (a:=a) (i:=ia') (by lia)
   obtain⟨y1,hy1,hy1l⟩:=at_list (a:=b) (i:=ib') hib';have px1:=pa x1 (ak hx1l);have py1:=pb y1 (ak hy1l);dsimp only;refine au (wp_el hy1 (au (wp_el hx1 (au (wp_lt o hk py1 px1 ?_)))));dsimp only;cases e:lt y1 x1 with
   | true =>
    refine wpS_t rfl ?_;refine au (wp_el hy1 ?_);have iv2:Iv lt (a.toList++b.toList) (out'.push y1).toList (a.toList.drop ia'++b.toList.drop (ib' + 1)):=by
     rw[cj];exact iv'.pushB sb hy1l (le_run o pa sa py1 hx1l (o.as _ _ py1 px1 e))
    have sp:(out'.push y1).size=out'.size + 1:=dj ..
    by_cases c1:(ib' + 1 == b.size)=true
    ·refine wpS_t c1 ?_;exact aA ⟨rfl,.inl ⟨_,rfl,finA _ _ _ g (by simpa using c1) iv2⟩⟩
    ·refine wpS_f c1 ?_;have c1':ib' + 1≠b.size:=by simpa using c1
     by_cases c2:bc + 1 >= mg
     ·refine wpS_t c2 ?_;exact aA ⟨rfl,.inr ⟨_,_,_,_,_,rfl,hia',by lia,iv2,by lia⟩⟩
     ·refine wpS_f c2 ?_;exact aA ⟨_,_,_,_,_,rfl,rfl,hia',by lia,iv2,by lia⟩
   | false =>
    refine wpS_f (by simp) ?_
    refine au (wp_el hx1 ?_);have iv2:Iv lt (a.toList++b.toList) (out'.push x1).toList (a.toList.drop (ia' + 1)++b.toList.drop ib'):=by
     rw[cj];exact iv'.pushA sa hx1l (le_run o pb sb px1 hy1l e)
    have sp:(out'.push x1).size=out'.size + 1:=dj ..
    by_cases c1:(ia' + 1 + 1 == a.size)=true
    ·refine wpS_t c1 ?_;exact aA ⟨rfl,.inl ⟨_,rfl,finL _ _ _ g (by simpa using c1) iv2⟩⟩
    ·refine wpS_f c1 ?_;have c1':ia' + 1 + 1≠a.size:=by simpa using c1
     by_cases c2:ac + 1 >= mg
     ·refine wpS_t c2 ?_;exact aA ⟨rfl,.inr ⟨_,_,_,_,_,rfl,by lia,hib',iv2,by lia⟩⟩
     ·refine wpS_f c2 ?_;exact aA ⟨_,_,_,_,_,rfl,rfl,by lia,hib',iv2,by lia⟩
  ·intro c st' zq;refine hd fun Gq kq=>?_;obtain⟨out',ia',ib',ac,bc,rfl,rfl,hia',hib',iv',hsz'⟩:=zq;refine kq ?_;exact⟨rfl,.inr ⟨_,_,_,_,_,rfl,hia',hib',iv',by lia⟩⟩
  ·rintro c st' ⟨rfl,⟨r,hr,q⟩ | ⟨out1,ia1,ib1,ac1,bc1,rfl,hia1,hib1,iv1,hsz1⟩⟩
   ·obtain⟨c1,c2⟩:=c;dsimp only at hr;subst hr;exact aA ⟨r,rfl,q⟩
   ·dsimp only;refine au (iA (d9 ⟨rfl,?_⟩));refine au (cV (bO (I:=fun y c st'=>∃ out' ia' ib' mg' ac bc g',c=(none,out',ia',ib',mg',ac,bc)/\st'=setG st g'/\ia' + 1 < a.size/\ib' < b.size/\Iv lt (a.toList++b.toList) out'.toList (a.toList.drop ia'++b.toList.drop ib')/\out1.size<=out'.size)
     (Q:=fun c st'=>(∃ r,c.fst=some r/\Q r st')\/∃ out' ia' ib' mg' ac bc g',c=(none,out',ia',ib',mg',ac,bc)/\st'=setG st g'/\ia' + 1 < a.size/\ib' < b.size/\Iv lt (a.toList++b.toList) out'.toList (a.toList.drop ia'++b.toList.drop ib')/\out1.size<=out'.size) ?_ ?_ ⟨out1,ia1,ib1,_,ac1,bc1,g,rfl,rfl,hia1,hib1,iv1,Nat.le_refl _⟩) ?_)
    ·intro y c st' _ hy zq;refine hd fun Gq kq=>?_;obtain⟨out',ia',ib',mg',ac,bc,g',rfl,rfl,hia',hib',iv',hsz'⟩:=zq;refine kq ?_;dsimp only;obtain⟨y1,hy1,hy1l⟩:=at_list (a:=b) (i:=ib') hib';have py1:=pb y1 (ak hy1l);have fa:∀ i,i < a.size - ia'->a[ia' + i]?=some (a.toList.getD (ia' + i) (.none,.none))/\P (a.toList.getD (ia' + i) (.none,.none)):=fun i hi=>by
      obtain⟨z,hz,hzl⟩:=at_list (a:=a) (i:=ia' + i) (by lia)
      rw[aj,hzl];exact⟨hz,pa z (ak hzl)⟩
     have mono:∀ i j,i<=j->j < a.size - ia'->bv lt false y1 (a.toList.getD (ia' + j) (.none,.none))=true->bv lt false y1 (a.toList.getD (ia' + i) (.none,.none))=true:=fun i j hij hj hb=>by
      obtain⟨z,hz,hzl⟩:=at_list (a:=a) (i:=ia' + i) (by lia)
      obtain⟨z',hz',hzl'⟩:=at_list (a:=a) (i:=ia' + j) (by lia)
      rw[aj,hzl'] at hb;rw[aj,hzl];have hb':lt y1 z'=false:=by simpa [bv] using hb
      show(!lt y1 z)=true;rcases Nat.eq_or_lt_of_le hij with rfl | hlt
      ·rw[hzl] at hzl';cases hzl';rw[hb'];rfl
      ·rw[o.tr z z' y1 (pa z (ak hzl)) (pa z' (ak hzl')) py1 (sa.at (by lia) hzl hzl') hb'];rfl
     clear kq
     revert mg'
     refine wpS_jp (fun _=>rfl) fun m2=>?_;refine au (cH (au (wp_el hy1 (au (wp_gal o (f:=fun i=>a.toList.getD (ia' + i) (.none,.none)) hk py1 fa mono (by lia) fun k k1 k2 k3=>?_)))))
     dsimp only;have behind:∀ j z,ia' + k<=j->a.toList[j]?=some z->lt z y1=false:=fun j z hj hz=>by
      have hja:j < a.size:=by have:=(aD.mp hz).1;simpa using this
      have:=k3 (j - ia') (by lia) (by lia)
      rw[aj,show ia' + (j - ia')=j by lia,hz] at this
      have h1:(!lt y1 z)=false:=this;exact o.as _ _ py1 (pa z (ak hz)) (by simpa using h1)
     by_cases ck:k > 0
     ·refine wpS_t ck ?_;have iv3:Iv lt (a.toList++b.toList) (out'++a.extract ia' (ia' + k)).toList (a.toList.drop (ia' + k)++b.toList.drop ib'):=by
       rw[ce,ext_list,show ia' + k - ia'=k by lia]
       refine iv'.blockA sa k fun z hz u hu=>?_;obtain⟨j,hj,hzl⟩:=mem_take_at hz;have hb:=k2 j hj;rw[aj,hzl] at hb;have h1:(!lt y1 z)=true:=hb;exact le_run o pb sb (pa z (ak hzl)) hy1l (by simpa using h1) u hu
      have sz3:out1.size<=(out'++a.extract ia' (ia' + k)).size:=by rw[e9];lia
      by_cases c3:(ia' + k + 1 == a.size)=true
      ·refine wpS_t c3 ?_;exact aA (.inl ⟨_,rfl,finL _ _ _ _ (by simpa using c3) iv3⟩)
      ·refine wpS_f c3 ?_;have c3':ia' + k + 1≠a.size:=by simpa using c3
       by_cases c4:(ia' + k == a.size)=true
       ·refine wpS_t c4 ?_;exact aA (.inl ⟨_,rfl,finB _ _ _ _ (by simpa using c4) iv3⟩)
       ·refine wpS_f c4 ?_;have c4':ia' + k≠a.size:=by simpa using c4
        refine t1 _ _ (ia' + k) ib' m2 k bc m2 (fun r c' q=>.inl ⟨r,rfl,q⟩) (fun o' i1 i2 a1 b1 q1 q2 q3 q4=>⟨.inr ⟨_,_,_,_,_,_,_,rfl,rfl,q1,q2,q3,by lia⟩,⟨_,_,_,_,_,_,_,rfl,rfl,q1,q2,q3,by lia⟩⟩) (by lia) hib' iv3 fun y hy u hu=>?_
        rw[hy1l] at hy;cases hy;obtain⟨j,hj,e⟩:=mem_drop_at hu;exact behind j u hj e
     ·refine wpS_f ck ?_;refine t1 _ _ ia' ib' m2 k bc m2 (fun r c' q=>.inl ⟨r,rfl,q⟩) (fun o' i1 i2 a1 b1 q1 q2 q3 q4=>⟨.inr ⟨_,_,_,_,_,_,_,rfl,rfl,q1,q2,q3,by lia⟩,⟨_,_,_,_,_,_,_,rfl,rfl,q1,q2,q3,by lia⟩⟩) hia' hib' iv' fun y hy u hu=>?_
      rw[hy1l] at hy;cases hy;obtain⟨j,hj,e⟩:=mem_drop_at hu;exact behind j u (by lia) e
    ·intro c st' zq;refine hd fun Gq kq=>?_;obtain⟨out',ia',ib',mg',ac,bc,g',rfl,rfl,hia',hib',iv',hsz'⟩:=zq;refine kq ?_;exact .inr ⟨_,_,_,_,_,_,_,rfl,rfl,hia',hib',iv',hsz'⟩
    ·rintro c st' (⟨r,hr,q⟩ | ⟨out',ia',ib',mg',ac,bc,g',rfl,rfl,hia',hib',iv',hsz'⟩)
     ·obtain⟨c1,c2⟩:=c;dsimp only at hr;subst hr;exact aA ⟨r,rfl,q⟩
     ·dsimp only;exact au (cH (aA ⟨_,_,_,_,_,rfl,rfl,hia',hib',iv',by lia⟩))
 ·intro c st' zq;refine hd fun Gq kq=>?_;obtain⟨out,ia,ib,mg,g,rfl,rfl,hia,hib,iv,hsz⟩:=zq;refine kq ?_;exfalso
  have:=iv.size
  rw[sz,bf] at this;lia
 ·rintro c st' ⟨r,hr,q⟩;obtain⟨c1,c2⟩:=c;dsimp only at hr;subst hr;exact aA q
end
theorem mHi_eq (a b:Array aH):mHi a b=(do
 rule "list.sort.merge-hi"
 let total:=a.size + b.size
 let fin (o:Array aH) (na nb:Nat):=a.extract 0 na++b.extract 0 nb++o.reverse
 let fst (o:Array aH) (na nb:Nat):=b.extract 0 nb++a.extract 0 na++o.reverse
 let mut na:=a.size - 1
 let mut nb:=b.size
 let mut out:Array aH:=#[<- ef a na]
 if na == 0 then return fin out na nb
 if nb == 1 then return fst out na nb
 let mut minGallop:=gallopOf (<- get)
 for _ in [0:total] do
  let mut acount:=0
  let mut bcount:=0
  for _ in [0:total] do
   let some aw <- lt' (<- ef b (nb - 1)) (<- ef a (na - 1)) | return fin out na nb
   if aw then
    na:=na - 1
    out:=out.push (<- ef a na)
    acount:=acount + 1
    bcount:=0
    if na == 0 then return fin out na nb
    if acount >= minGallop then break
   else
    nb:=nb - 1
    out:=out.push (<- ef b nb)
    bcount:=bcount + 1
    acount:=0
    if nb == 1 then return fst out na nb
    if bcount >= minGallop then break
  rule "list.sort.gallop"
  minGallop:=minGallop + 1
  for _ in [0:total] do
   if minGallop > 1 then minGallop:=minGallop - 1
   modify (fun s=>setG s minGallop)
   let some p <- gal false (<- ef b (nb - 1)) a 0 na (na - 1) | return fin out na nb
   let k:=na - p
   acount:=k
   if k > 0 then
    out:=out++(a.extract p na).reverse
    na:=p
    if na == 0 then return fin out na nb
   nb:=nb - 1
   out:=out.push (<- ef b nb)
   if nb == 1 then return fst out na nb
   let some p <- gal true (<- ef a (na - 1)) b 0 nb (nb - 1) | return fin out na nb
   let k:=nb - p
   bcount:=k
   if k > 0 then
    out:=out++(b.extract p nb).reverse
    nb:=p
    if nb == 1 then return fst out na nb
    if nb == 0 then return fin out na nb
   na:=na - 1
   out:=out.push (<- ef a na)
   if na == 0 then return fin out na nb
   if acount < 7 && bcount < 7 then break
  minGallop:=minGallop + 1
  modify (fun s=>setG s minGallop)
 eO "internal:list.sort.merge-bound"):=rfl
section
variable {α:Type} {lt:α->α->Bool} {T out rest:List α}
abbrev rl (lt:α->α->Bool):α->α->Bool:=fun x y=>lt y x
theorem Iv.doneR (h:Iv (rl lt) T out rest) {l:List α} (hp:l.Perm rest) (hs:Sd lt l):Sd lt (l++out.reverse)/\(l++out.reverse).Perm T:=by
 refine⟨a9.mpr ⟨hs,gC.mpr h.sd,fun x hx y hy=>h.lo y (jg.mp hy) x (hp.mem_iff.mp hx)⟩,?_⟩;exact(jQ.append hp (iQ out)).trans (dA.trans h.perm)
theorem take_at {l:List α} {i:Nat} {x:α} (h:l[i]?=some x):l.take (i + 1)=l.take i++[x]:=by rw[cm,h];rfl
theorem Sd.take {l:List α} (h:Sd lt l) (i:Nat):Sd lt (l.take i):=h.sublist (c5 _ _)
theorem mem_take_at' {l:List α} {i:Nat} {y:α} (h:y∈l.take i):∃ j,j < i/\l[j]?=some y:=by
 obtain⟨k,hk,e⟩:=bn h;rw[aS] at hk;rw[gn] at e;exact⟨k,by lia,by rw[ag (by lia),e]⟩
end
section
variable {prog:ay} {w:aI} {A:a6} {s:ai} {κ:eM} {P:aH->Prop} {lt:aH->aH->Bool} {T out la lb:List aH} {na nb:Nat} {x y:aH}
theorem ge_run (o:Orc prog w A s κ P lt) {l:List aH} (hP:∀ z∈l,P z) (hs:Sd lt l) {i:Nat} {z:aH} (hz:P z) {y:aH} (hy:l[i]?=some y) (h:lt z y=false):∀ u∈l.take (i + 1),lt z u=false:=fun u hu=>by
 obtain⟨j,hj,e⟩:=mem_take_at' hu;rcases Nat.eq_or_lt_of_le (Nat.le_of_lt_succ hj) with rfl | hlt
 ·rw[hy] at e;cases e;exact h
 ·exact o.tr u y z (hP u (ak e)) (hP y (ak hy)) hz (hs.at hlt e hy) h
theorem Iv.popA (h:Iv (rl lt) T out (la.take (na + 1)++lb.take nb)) (sa:Sd lt la) (hx:la[na]?=some x) (hl:∀ u∈lb.take nb,lt x u=false):Iv (rl lt) T (out++[x]) (la.take na++lb.take nb):=by
 refine h.step ?_ (bt _ _) fun z hz u hu=>?_
 ·rw[take_at hx,aR];exact fy
 ·rw[aN.mp hz];rcases aU.mp hu with v | v
  ·obtain⟨j,hj,e⟩:=mem_take_at' v;exact sa.at hj e hx
  ·exact hl u v
theorem Iv.popB (h:Iv (rl lt) T out (la.take na++lb.take (nb + 1))) (sb:Sd lt lb) (hy:lb[nb]?=some y) (hl:∀ u∈la.take na,lt y u=false):Iv (rl lt) T (out++[y]) (la.take na++lb.take nb):=by
 refine h.step ?_ (bt _ _) fun z hz u hu=>?_
 ·rw[take_at hy,<- aR];exact dA
 ·rw[aN.mp hz];rcases aU.mp hu with v | v
  ·exact hl u v
  ·obtain⟨j,hj,e⟩:=mem_take_at' v;exact sb.at hj e hy
theorem cut_run (l:List aH) {p n:Nat} (h:p<=n):l.take n=l.take p++(l.drop p).take (n - p):=by
 have:n=p + (n - p):=by lia
 rw[this,List.take_add];simp
theorem Iv.backA (h:Iv (rl lt) T out (la.take na++lb.take nb)) (sa:Sd lt la) {p:Nat} (hp:p<=na) (hl:∀ z∈(la.drop p).take (na - p),∀ u∈lb.take nb,lt z u=false):Iv (rl lt) T (out++((la.drop p).take (na - p)).reverse) (la.take p++lb.take nb):=by
 have e:=cut_run la hp;have sd:=sa.take na;rw[e] at sd;obtain⟨_,s2,s3⟩:=a9.mp sd;refine h.step ?_ (gC.mpr s2) fun z hz u hu=>?_
 ·rw[e,aR];refine(List.perm_append_comm_assoc _ _ _).trans ?_;exact dY _ (iQ _).symm
 ·have hz:=jg.mp hz;rcases aU.mp hu with v | v
  ·exact s3 u v z hz
  ·exact hl z hz u v
theorem Iv.backB (h:Iv (rl lt) T out (la.take na++lb.take nb)) (sb:Sd lt lb) {p:Nat} (hp:p<=nb) (hl:∀ z∈(lb.drop p).take (nb - p),∀ u∈la.take na,lt z u=false):Iv (rl lt) T (out++((lb.drop p).take (nb - p)).reverse) (la.take na++lb.take p):=by
 have e:=cut_run lb hp;have sd:=sb.take nb;rw[e] at sd;obtain⟨_,s2,s3⟩:=a9.mp sd;refine h.step ?_ (gC.mpr s2) fun z hz u hu=>?_
 ·rw[e,<- aR];refine dA.trans ?_;exact dY _ (iQ _).symm
 ·have hz:=jg.mp hz;rcases aU.mp hu with v | v
  ·exact hl z hz u v
  ·exact s3 u v z hz
end
theorem ext_to (a:Array aH) (n:Nat):(a.extract 0 n).toList=a.toList.take n:=by rw[ext_list];simp
section
variable {prog:ay} {w:aI} {A:a6} {E:ae->ai->Prop} {s:ai} {κ:eM} {P:aH->Prop} {lt:aH->aH->Bool}
theorem wp_mHi (o:Orc prog w A s κ P lt) {st:cG} {a b:Array aH} {Q:Array aH->cG->Prop} (hk:kindOf st=κ) (pa:∀ x∈a.toList,P x) (pb:∀ y∈b.toList,P y) (sa:Sd lt a.toList) (sb:Sd lt b.toList) (na0:1<=a.size) (nb0:1<=b.size)
  (hfst:∀ y,b.toList[0]?=some y->∀ x∈a.toList,lt x y=false) (hlst:∀ z,a.toList[a.size - 1]?=some z->∀ y∈b.toList,lt z y=false)
  (h:∀ out g,Sd lt out.toList->out.toList.Perm (a.toList++b.toList)->Q out (setG st g)):wpS (aF prog w) A E s (mHi a b) Q st:=by
 have sz:(a.toList++b.toList).length=a.size + b.size:=by simp
 have finG:∀ (out:Array aH) na nb g,Sd lt (a.toList.take na++b.toList.take nb)->Iv (rl lt) (a.toList++b.toList) out.toList (a.toList.take na++b.toList.take nb)->Q (a.extract 0 na++b.extract 0 nb++out.reverse) (setG st g):=fun out na nb g e iv=>by
  have:=iv.doneR (da _) e
  refine h _ g ?_ ?_ <;> simp only[ce,fu,ext_to]
  ·exact this.1
  ·exact this.2
 have finF:∀ (out:Array aH) na nb g,nb=1->Iv (rl lt) (a.toList++b.toList) out.toList (a.toList.take na++b.toList.take nb)->Q (b.extract 0 nb++a.extract 0 na++out.reverse) (setG st g):=fun out na nb g e iv=>by
  obtain⟨y0,hy0,hy0l⟩:=at_list (a:=b) (i:=0) nb0;have e1:b.toList.take nb=[y0]:=by rw[e];exact(take_at (i:=0) hy0l)
  have sd:Sd lt (b.toList.take nb++a.toList.take na):=by
   rw[e1];exact bd.mpr ⟨fun u hu=>hfst y0 hy0l u (dJ hu),sa.take na⟩
  have:=iv.doneR dA sd
  refine h _ g ?_ ?_ <;> simp only[ce,fu,ext_to]
  ·exact this.1
  ·exact this.2
 have t2:∀ (Post:ForInStep (Option (Array aH) × Nat × Nat × Array aH × Nat × Nat × Nat)->cG->Prop) (out:Array aH) (na nb mg ac bc g:Nat),(∀ r c',Q r (setG st g)->Post (.done (some r,c')) (setG st g)) ->
   (∀ na' nb' out' ac' bc',1<=na'->(na'<=a.size/\2<=nb'/\nb'<=b.size)->Iv (rl lt) (a.toList++b.toList) out'.toList (a.toList.take na'++b.toList.take nb')->out.size<=out'.size->Post (.done (none,na',nb',out',mg,ac',bc')) (setG st g)/\Post (.yield (none,na',nb',out',mg,ac',bc')) (setG st g)) ->
   1<=na->na<=a.size->(2<=nb/\nb<=b.size)->Iv (rl lt) (a.toList++b.toList) out.toList (a.toList.take na++b.toList.take nb)->(∀ x,a.toList[na - 1]?=some x->∀ u∈b.toList.take nb,lt x u=false) ->
   wpS (aF prog w) A E s (do
    let x <- ef a (na - 1)
    if (na - 1 == 0)=true then pure (bi (some (a.extract 0 (na - 1)++b.extract 0 nb++((out).push x).reverse),na - 1,nb,(out).push x,mg,ac,bc))
    else if (decide (ac < 7) && decide (bc < 7))=true then pure (bi (none,na - 1,nb,(out).push x,mg,ac,bc))
    else pure (bp (none,na - 1,nb,(out).push x,mg,ac,bc))) Post (setG st g):=by
  intro Post out na nb mg ac bc g hd hg hna hla hnb iv hl;obtain⟨m,rfl⟩:∃ m,na=m + 1:=⟨na - 1,by lia⟩
  simp only[Nat.add_sub_cancel] at hl ⊢;obtain⟨x1,hx1,hx1l⟩:=at_list (a:=a) (i:=m) (by lia)
  refine au (wp_el hx1 ?_);have iv2:Iv (rl lt) (a.toList++b.toList) (out.push x1).toList (a.toList.take m++b.toList.take nb):=by
   rw[cj];exact iv.popA sa hx1l (hl x1 hx1l)
  have sp:(out.push x1).size=out.size + 1:=dj ..
  by_cases c1:(m == 0)=true
  ·have m0:m=0:=by simpa using c1
   refine wpS_t c1 ?_;refine aA (hd _ _ (finG _ _ _ g ?_ iv2));rw[m0];exact sb.take _
  ·refine wpS_f c1 ?_;have c1':m≠0:=by simpa using c1
   have:=hg m nb (out.push x1) ac bc (by lia) ⟨by lia,hnb⟩ iv2 (by lia)
   by_cases c2:(decide (ac < 7) && decide (bc < 7))=true
   ·refine wpS_t c2 ?_;exact aA this.1
   ·refine wpS_f c2 ?_;exact aA this.2
 have t1:∀ (Post:ForInStep (Option (Array aH) × Nat × Nat × Array aH × Nat × Nat × Nat)->cG->Prop) (out:Array aH) (na nb mg ac bc g:Nat),(∀ r c',Q r (setG st g)->Post (.done (some r,c')) (setG st g)) ->
   (∀ na' nb' out' ac' bc',1<=na'->(na'<=a.size/\2<=nb'/\nb'<=b.size)->Iv (rl lt) (a.toList++b.toList) out'.toList (a.toList.take na'++b.toList.take nb')->out.size<=out'.size->Post (.done (none,na',nb',out',mg,ac',bc')) (setG st g)/\Post (.yield (none,na',nb',out',mg,ac',bc')) (setG st g)) ->
   1<=na->na<=a.size->(2<=nb/\nb<=b.size)->Iv (rl lt) (a.toList++b.toList) out.toList (a.toList.take na++b.toList.take nb)->(∀ y,b.toList[nb - 1]?=some y->∀ u∈a.toList.take na,lt y u=false) ->
   wpS (aF prog w) A E s (do
    let y <- ef b (nb - 1)
    if (nb - 1 == 1)=true then pure (bi (some (b.extract 0 (nb - 1)++a.extract 0 na++(out.push y).reverse),na,nb - 1,out.push y,mg,ac,bc))
    else do
     let x <- ef a (na - 1)
     let z <- gal true x b 0 (nb - 1) (nb - 1 - 1)
     match z with
     | some p1 =>
      if nb - 1 - p1 > 0 then
       if (p1 == 1)=true then pure (bi (some (b.extract 0 p1++a.extract 0 na++(out.push y++(b.extract p1 (nb - 1)).reverse).reverse),na,p1,out.push y++(b.extract p1 (nb - 1)).reverse,mg,ac,nb - 1 - p1))
       else if (p1 == 0)=true then pure (bi (some (a.extract 0 na++b.extract 0 p1++(out.push y++(b.extract p1 (nb - 1)).reverse).reverse),na,p1,out.push y++(b.extract p1 (nb - 1)).reverse,mg,ac,nb - 1 - p1))
       else do
        let x <- ef a (na - 1)
        if (na - 1 == 0)=true then pure (bi (some (a.extract 0 (na - 1)++b.extract 0 p1++((out.push y++(b.extract p1 (nb - 1)).reverse).push x).reverse),na - 1,p1,(out.push y++(b.extract p1 (nb - 1)).reverse).push x,mg,ac,(nb - 1 - p1)))
        else if (decide (ac < 7) && decide ((nb - 1 - p1) < 7))=true then pure (bi (none,na - 1,p1,(out.push y++(b.extract p1 (nb - 1)).reverse).push x,mg,ac,(nb - 1 - p1)))
        else pure (bp (none,na - 1,p1,(out.push y++(b.extract p1 (nb - 1)).reverse).push x,mg,ac,(nb - 1 - p1)))
      else do
       let x <- ef a (na - 1)
       if (na - 1 == 0)=true then pure (bi (some (a.extract 0 (na - 1)++b.extract 0 (nb - 1)++((out.push y).push x).reverse),na - 1,(nb - 1),(out.push y).push x,mg,ac,(nb - 1 - p1)))
       else if (decide (ac < 7) && decide ((nb - 1 - p1) < 7))=true then pure (bi (none,na - 1,(nb - 1),(out.push y).push x,mg,ac,(nb - 1 - p1)))
       else pure (bp (none,na - 1,(nb - 1),(out.push y).push x,mg,ac,(nb - 1 - p1)))
     | _=>pure (bi (some (a.extract 0 na++b.extract 0 (nb - 1)++(out.push y).reverse),na,nb - 1,out.push y,mg,ac,bc))) Post (setG st g):=by
  intro Post out na nb mg ac bc g hd hg hna hla hnb iv hl;obtain⟨m,rfl⟩:∃ m,nb=m + 1:=⟨nb - 1,by lia⟩
  simp only[Nat.add_sub_cancel] at hl ⊢;obtain⟨y1,hy1,hy1l⟩:=at_list (a:=b) (i:=m) (by lia)
  obtain⟨x1,hx1,hx1l⟩:=at_list (a:=a) (i:=na - 1) (by lia)
  have px1:=pa x1 (ak hx1l);refine au (wp_el hy1 ?_);have iv2:Iv (rl lt) (a.toList++b.toList) (out.push y1).toList (a.toList.take na++b.toList.take m):=by
   rw[cj];exact iv.popB sb hy1l (hl y1 hy1l)
  have sp:(out.push y1).size=out.size + 1:=dj ..
  by_cases c1:(m == 1)=true
  ·refine wpS_t c1 ?_;exact aA (hd _ _ (finF _ _ _ g (by simpa using c1) iv2))
  refine wpS_f c1 ?_;have c1':m≠1:=by simpa using c1
  refine au (wp_el hx1 (au (wp_gal o (f:=fun i=>b.toList.getD (0 + i) (.none,.none)) hk px1 (fun i hi=>?_) (fun i j hij hj hb=>?_) (by lia) fun k k1 k2 k3=>?_)))
  ·obtain⟨z,hz,hzl⟩:=at_list (a:=b) (i:=0 + i) (by lia)
   rw[aj,hzl];exact⟨hz,pb z (ak hzl)⟩
  ·obtain⟨z,hz,hzl⟩:=at_list (a:=b) (i:=0 + i) (by lia)
   obtain⟨z',hz',hzl'⟩:=at_list (a:=b) (i:=0 + j) (by lia)
   rw[aj,hzl'] at hb;rw[aj,hzl];have hb':lt z' x1=true:=hb;show lt z x1=true;cases e:lt z x1 with
   | true=>rfl
   | false =>
    exfalso;have pz:=pb z (ak hzl);have pz':=pb z' (ak hzl');rcases Nat.eq_or_lt_of_le hij with rfl | hlt
    ·rw[hzl] at hzl';cases hzl';rw[e] at hb';cases hb'
    ·have:=o.tr x1 z z' px1 pz pz' e (sb.at (by lia) hzl hzl')
     rw[hb'] at this;cases this
  have ahead:∀ u∈b.toList.take k,lt x1 u=false:=fun u hu=>by
   obtain⟨j,hj,e⟩:=mem_take_at' hu
   have:=k2 j hj
   rw[aj,Nat.zero_add,e] at this;exact o.as _ _ (pb u (ak e)) px1 this
  dsimp only
  by_cases ck:m - k > 0
  ·refine wpS_t ck ?_;have iv3:Iv (rl lt) (a.toList++b.toList) (out.push y1++(b.extract k m).reverse).toList (a.toList.take na++b.toList.take k):=by
    rw[ce,fu,ext_list];refine iv2.backB sb k1 fun z hz u hu=>?_;obtain⟨j,hj,hzl⟩:=mem_take_at hz;have pz:=pb z (ak hzl);have hb:=k3 (k + j) (by lia) (by lia)
    rw[aj,Nat.zero_add,hzl] at hb
    have:=ge_run o pa sa pz hx1l hb
    rw[show na - 1 + 1=na by lia] at this
    exact this u hu
   have sz3:out.size<=(out.push y1++(b.extract k m).reverse).size:=by rw[e9];lia
   by_cases c3:(k == 1)=true
   ·refine wpS_t c3 ?_;exact aA (hd _ _ (finF _ _ _ g (by simpa using c3) iv3))
   ·refine wpS_f c3 ?_;have c3':k≠1:=by simpa using c3
    by_cases c4:(k == 0)=true
    ·have k0:k=0:=by simpa using c4
     refine wpS_t c4 ?_;refine aA (hd _ _ (finG _ _ _ g ?_ iv3));rw[k0,List.take_zero,bR];exact sa.take _
    ·refine wpS_f c4 ?_;have c4':k≠0:=by simpa using c4
     refine t2 Post _ na k mg ac (m - k) g hd (fun n1 n2 o' a1 b1 q1 q2 q3 q4=>hg n1 n2 o' a1 b1 q1 q2 q3 (by lia)) hna hla ⟨by lia,by lia⟩ iv3 fun x hx u hu=>?_
     rw[hx1l] at hx;cases hx;exact ahead u hu
  ·refine wpS_f ck ?_;have ek:k=m:=by lia
   refine t2 Post _ na m mg ac (m - k) g hd (fun n1 n2 o' a1 b1 q1 q2 q3 q4=>hg n1 n2 o' a1 b1 q1 q2 q3 (by lia)) hna hla ⟨by lia,by lia⟩ iv2 fun x hx u hu=>?_
   rw[hx1l] at hx;cases hx;exact ahead u (by rw[ek];exact hu)
 rw[mHi_eq];refine au (iA (d9 ⟨rfl,?_⟩));dsimp only;obtain⟨x0,hx0,hx0l⟩:=at_list (a:=a) (i:=a.size - 1) (by lia)
 refine au (wp_el hx0 ?_);have iv0:Iv (rl lt) (a.toList++b.toList) (#[x0]:Array aH).toList (a.toList.take (a.size - 1)++b.toList.take b.size):=by
  have e1:a.toList.take (a.size - 1 + 1)=a.toList:=bq (by simp;lia)
  have e2:b.toList.take b.size=b.toList:=bq (by simp)
  have i0:Iv (rl lt) (a.toList++b.toList) [] (a.toList.take (a.size - 1 + 1)++b.toList.take b.size):=⟨by rw[e1,e2];exact da _,gi,by simp⟩
  exact i0.popA sa hx0l fun u hu=>hlst x0 hx0l u (dJ hu)
 have est:st=setG st (gallopOf st):=rfl
 by_cases ha1:(a.size - 1 == 0)=true
 ·refine wpS_t ha1 ?_;have a0:a.size - 1=0:=by simpa using ha1
  refine aA ?_;rw[est];refine finG _ _ _ _ ?_ iv0;rw[a0];exact sb.take _
 refine wpS_f ha1 ?_
 by_cases hb1:(b.size == 1)=true
 ·refine wpS_t hb1 ?_;refine aA ?_;rw[est];exact finF _ _ _ _ (by simpa using hb1) iv0
 refine wpS_f hb1 ?_;have hb2:2<=b.size:=by
  have:b.size≠1:=by simpa using hb1
  lia
 have ha2:1<=a.size - 1:=by
  have:a.size - 1≠0:=by simpa using ha1
  lia
 refine au (hJ ?_);refine au (cV (bO (I:=fun x c st'=>∃ na nb out mg g,c=(none,na,nb,out,mg)/\st'=setG st g/\1<=na/\na<=a.size/\(2<=nb/\nb<=b.size)/\Iv (rl lt) (a.toList++b.toList) out.toList (a.toList.take na++b.toList.take nb)/\x + 1<=out.size)
  (Q:=fun c st'=>∃ r,c.fst=some r/\Q r st') ?_ ?_ ⟨_,_,#[x0],_,_,rfl,est,ha2,by lia,⟨hb2,Nat.le_refl _⟩,iv0,by simp⟩) ?_)
 ·intro x c st' _ hx zq;refine hd fun Gq kq=>?_;obtain⟨na,nb,out,mg,g,rfl,rfl,hna,hla,hnb,iv,hsz⟩:=zq;refine kq ?_;dsimp only;refine au (cV (bO (I:=fun y c st'=>∃ na' nb' out' ac bc,c=(none,na',nb',out',ac,bc)/\st'=setG st g/\1<=na'/\na'<=a.size/\(2<=nb'/\nb'<=b.size)/\Iv (rl lt) (a.toList++b.toList) out'.toList (a.toList.take na'++b.toList.take nb')/\out.size + y<=out'.size)
   (Q:=fun c st'=>st'=setG st g/\((∃ r,c.fst=some r/\Q r st')\/∃ na' nb' out' ac bc,c=(none,na',nb',out',ac,bc)/\1<=na'/\na'<=a.size/\(2<=nb'/\nb'<=b.size)/\Iv (rl lt) (a.toList++b.toList) out'.toList (a.toList.take na'++b.toList.take nb')/\out.size + 1<=out'.size)) ?_ ?_ ⟨na,nb,out,0,0,rfl,rfl,hna,hla,hnb,iv,Nat.le_refl _⟩) ?_)
  ·intro y c st' _ hy zq;refine hd fun Gq kq=>?_;obtain⟨na',nb',out',ac,bc,rfl,rfl,hna',hla',hnb',iv',hsz'⟩:=zq;refine kq ?_;obtain⟨ma,rfl⟩:∃ m,na'=m + 1:=⟨na' - 1,by lia⟩
   obtain⟨mb,rfl⟩:∃ m,nb'=m + 1:=⟨nb' - 1,by lia⟩
   obtain⟨x1,hx1,hx1l⟩:=at_list (a:=a) (i:=ma) (by lia)
   obtain⟨y1,hy1,hy1l⟩:=at_list (a:=b) (i:=mb) (by lia)
   have px1:=pa x1 (ak hx1l);have py1:=pb y1 (ak hy1l);dsimp only;simp only[Nat.add_sub_cancel];refine au (wp_el hy1 (au (wp_el hx1 (au (wp_lt o hk py1 px1 ?_)))));dsimp only;cases e:lt y1 x1 with
   | true =>
    refine wpS_t rfl ?_;refine au (wp_el hx1 ?_);have iv2:Iv (rl lt) (a.toList++b.toList) (out'.push x1).toList (a.toList.take ma++b.toList.take (mb + 1)):=by
     rw[cj];exact iv'.popA sa hx1l (ge_run o pb sb px1 hy1l (o.as _ _ py1 px1 e))
    have sp:(out'.push x1).size=out'.size + 1:=dj ..
    by_cases c1:(ma == 0)=true
    ·have m0:ma=0:=by simpa using c1
     refine wpS_t c1 ?_;refine aA ⟨rfl,.inl ⟨_,rfl,finG _ _ _ g ?_ iv2⟩⟩;rw[m0];exact sb.take _
    ·refine wpS_f c1 ?_;have c1':ma≠0:=by simpa using c1
     by_cases c2:ac + 1 >= mg
     ·refine wpS_t c2 ?_;exact aA ⟨rfl,.inr ⟨_,_,_,_,_,rfl,by lia,by lia,hnb',iv2,by lia⟩⟩
     ·refine wpS_f c2 ?_;exact aA ⟨_,_,_,_,_,rfl,rfl,by lia,by lia,hnb',iv2,by lia⟩
   | false =>
    refine wpS_f (by simp) ?_
    refine au (wp_el hy1 ?_);have iv2:Iv (rl lt) (a.toList++b.toList) (out'.push y1).toList (a.toList.take (ma + 1)++b.toList.take mb):=by
     rw[cj];exact iv'.popB sb hy1l (ge_run o pa sa py1 hx1l e)
    have sp:(out'.push y1).size=out'.size + 1:=dj ..
    by_cases c1:(mb == 1)=true
    ·refine wpS_t c1 ?_;exact aA ⟨rfl,.inl ⟨_,rfl,finF _ _ _ g (by simpa using c1) iv2⟩⟩
    ·refine wpS_f c1 ?_;have c1':mb≠1:=by simpa using c1
     by_cases c2:bc + 1 >= mg
     ·refine wpS_t c2 ?_;exact aA ⟨rfl,.inr ⟨_,_,_,_,_,rfl,by lia,by lia,⟨by lia,by lia⟩,iv2,by lia⟩⟩
     ·refine wpS_f c2 ?_;exact aA ⟨_,_,_,_,_,rfl,rfl,by lia,by lia,⟨by lia,by lia⟩,iv2,by lia⟩
  ·intro c st' zq;refine hd fun Gq kq=>?_;obtain⟨na',nb',out',ac,bc,rfl,rfl,hna',hla',hnb',iv',hsz'⟩:=zq;refine kq ?_;exact⟨rfl,.inr ⟨_,_,_,_,_,rfl,hna',hla',hnb',iv',by lia⟩⟩
  ·rintro c st' ⟨rfl,⟨r,hr,q⟩ | ⟨na1,nb1,out1,ac1,bc1,rfl,hna1,hla1,hnb1,iv1,hsz1⟩⟩
   ·obtain⟨c1,c2⟩:=c;dsimp only at hr;subst hr;exact aA ⟨r,rfl,q⟩
   ·dsimp only;refine au (iA (d9 ⟨rfl,?_⟩));refine au (cV (bO (I:=fun y c st'=>∃ na' nb' out' mg' ac bc g',c=(none,na',nb',out',mg',ac,bc)/\st'=setG st g'/\1<=na'/\(na'<=a.size/\2<=nb'/\nb'<=b.size)/\Iv (rl lt) (a.toList++b.toList) out'.toList (a.toList.take na'++b.toList.take nb')/\out1.size<=out'.size)
     (Q:=fun c st'=>(∃ r,c.fst=some r/\Q r st')\/∃ na' nb' out' mg' ac bc g',c=(none,na',nb',out',mg',ac,bc)/\st'=setG st g'/\1<=na'/\(na'<=a.size/\2<=nb'/\nb'<=b.size)/\Iv (rl lt) (a.toList++b.toList) out'.toList (a.toList.take na'++b.toList.take nb')/\out1.size<=out'.size) ?_ ?_ ⟨na1,nb1,out1,_,ac1,bc1,g,rfl,rfl,hna1,⟨hla1,hnb1⟩,iv1,Nat.le_refl _⟩) ?_)
    ·intro y c st' _ hy zq;refine hd fun Gq kq=>?_;obtain⟨na',nb',out',mg',ac,bc,g',rfl,rfl,hna',⟨hla',hnb'⟩,iv',hsz'⟩:=zq;refine kq ?_;dsimp only;obtain⟨y1,hy1,hy1l⟩:=at_list (a:=b) (i:=nb' - 1) (by lia)
     have py1:=pb y1 (ak hy1l);have fa:∀ i,i < na'->a[0 + i]?=some (a.toList.getD (0 + i) (.none,.none))/\P (a.toList.getD (0 + i) (.none,.none)):=fun i hi=>by
      obtain⟨z,hz,hzl⟩:=at_list (a:=a) (i:=0 + i) (by lia)
      rw[aj,hzl];exact⟨hz,pa z (ak hzl)⟩
     have mono:∀ i j,i<=j->j < na'->bv lt false y1 (a.toList.getD (0 + j) (.none,.none))=true->bv lt false y1 (a.toList.getD (0 + i) (.none,.none))=true:=fun i j hij hj hb=>by
      obtain⟨z,hz,hzl⟩:=at_list (a:=a) (i:=0 + i) (by lia)
      obtain⟨z',hz',hzl'⟩:=at_list (a:=a) (i:=0 + j) (by lia)
      rw[aj,hzl'] at hb;rw[aj,hzl];have hb':lt y1 z'=false:=by simpa [bv] using hb
      show(!lt y1 z)=true;rcases Nat.eq_or_lt_of_le hij with rfl | hlt
      ·rw[hzl] at hzl';cases hzl';rw[hb'];rfl
      ·rw[o.tr z z' y1 (pa z (ak hzl)) (pa z' (ak hzl')) py1 (sa.at (by lia) hzl hzl') hb'];rfl
     clear kq
     revert mg'
     refine wpS_jp (fun _=>rfl) fun m2=>?_;refine au (cH (au (wp_el hy1 (au (wp_gal o (f:=fun i=>a.toList.getD (0 + i) (.none,.none)) hk py1 fa mono (by lia) fun k k1 k2 k3=>?_)))))
     dsimp only;have ahead:∀ u∈a.toList.take k,lt y1 u=false:=fun u hu=>by
      obtain⟨j,hj,e⟩:=mem_take_at' hu
      have:=k2 j hj
      rw[aj,Nat.zero_add,e] at this;have h1:(!lt y1 u)=true:=this;simpa using h1
     by_cases ck:na' - k > 0
     ·refine wpS_t ck ?_;have iv3:Iv (rl lt) (a.toList++b.toList) (out'++(a.extract k na').reverse).toList (a.toList.take k++b.toList.take nb'):=by
       rw[ce,fu,ext_list];refine iv'.backA sa k1 fun z hz u hu=>?_;obtain⟨j,hj,hzl⟩:=mem_take_at hz;have hb:=k3 (k + j) (by lia) (by lia)
       rw[aj,Nat.zero_add,hzl] at hb;have h1:(!lt y1 z)=false:=hb;have pz:=pa z (ak hzl)
       have:=ge_run o pb sb pz hy1l (o.as _ _ py1 pz (by simpa using h1))
       rw[show nb' - 1 + 1=nb' by lia] at this
       exact this u hu
      have sz3:out1.size<=(out'++(a.extract k na').reverse).size:=by rw[e9];lia
      by_cases c3:(k == 0)=true
      ·have k0:k=0:=by simpa using c3
       refine wpS_t c3 ?_;refine aA (.inl ⟨_,rfl,finG _ _ _ _ ?_ iv3⟩);rw[k0];exact sb.take _
      ·refine wpS_f c3 ?_;have c3':k≠0:=by simpa using c3
       refine t1 _ _ k nb' m2 (na' - k) bc m2 (fun r c' q=>.inl ⟨r,rfl,q⟩) (fun n1 n2 o' a1 b1 q1 q2 q3 q4=>⟨.inr ⟨_,_,_,_,_,_,_,rfl,rfl,q1,q2,q3,by lia⟩,⟨_,_,_,_,_,_,_,rfl,rfl,q1,q2,q3,by lia⟩⟩) (by lia) (by lia) hnb' iv3 fun y hy u hu=>?_
       rw[hy1l] at hy;cases hy;exact ahead u hu
     ·refine wpS_f ck ?_;have ek:k=na':=by lia
      refine t1 _ _ na' nb' m2 (na' - k) bc m2 (fun r c' q=>.inl ⟨r,rfl,q⟩) (fun n1 n2 o' a1 b1 q1 q2 q3 q4=>⟨.inr ⟨_,_,_,_,_,_,_,rfl,rfl,q1,q2,q3,by lia⟩,⟨_,_,_,_,_,_,_,rfl,rfl,q1,q2,q3,by lia⟩⟩) hna' hla' hnb' iv' fun y hy u hu=>?_
      rw[hy1l] at hy;cases hy;exact ahead u (by rw[ek];exact hu)
    ·intro c st' zq;refine hd fun Gq kq=>?_;obtain⟨na',nb',out',mg',ac,bc,g',rfl,rfl,hna',hl',iv',hsz'⟩:=zq;refine kq ?_;exact .inr ⟨_,_,_,_,_,_,_,rfl,rfl,hna',hl',iv',hsz'⟩
    ·rintro c st' (⟨r,hr,q⟩ | ⟨na',nb',out',mg',ac,bc,g',rfl,rfl,hna',hl',iv',hsz'⟩)
     ·obtain⟨c1,c2⟩:=c;dsimp only at hr;subst hr;exact aA ⟨r,rfl,q⟩
     ·dsimp only;exact au (cH (aA ⟨_,_,_,_,_,rfl,rfl,hna',hl'.1,hl'.2,iv',by lia⟩))
 ·intro c st' zq;refine hd fun Gq kq=>?_;obtain⟨na,nb,out,mg,g,rfl,rfl,hna,hla,hnb,iv,hsz⟩:=zq;refine kq ?_;exfalso
  have:=iv.size
  rw[sz,bf] at this;lia
 ·rintro c st' ⟨r,hr,q⟩;obtain⟨c1,c2⟩:=c;dsimp only at hr;subst hr;exact aA q
end
theorem mAt_eq (i:Nat):mergeAt' i=(do
 let s <- get
 let (some (sa,na,pw),some (sb,nb,_)):=((bK s)[i]?,(bK s)[i + 1]?) | eO "internal:list.sort.pending"
 set (fw s (((bK s).setIfInBounds i (sa,na + nb,pw)).eraseIdxIfInBounds (i + 1)))
 let some k <- gal false (<- ef (aM s) sb) (aM s) sa na 0 | return false
 let (sa,na):=(sa + k,na - k)
 if na == 0 then return true
 let some nb <- gal true (<- ef (aM s) (sa + na - 1)) (aM s) sb nb (nb - 1) | return false
 if nb == 0 then return true
 let x:=(aM s).extract sa sb
 let y:=(aM s).extract sb (sb + nb)
 let m <- if na<=nb then mLo x y else mHi x y
 modify fun s=>cE s (m.toList.zipIdx.foldl (fun a (p,j)=>a.setIfInBounds (sa + j) p) (aM s))
 return (ft (<- get)).isNone):=rfl
theorem wpS_set {M:Model} {A:a6} {E:ae->ai->Prop} {s:ai} {σ:Type} {st st':σ} {Q:PUnit->σ->Prop} (h:Q ⟨⟩ st'):wpS M A E s (set st':StateT σ Sem PUnit) Q st:=by
 unfold wpS;show aE M A (pure (PUnit.unit,st'):Sem (PUnit × σ)) _ E s;exact af ⟨rfl,h⟩
theorem put_list (off:Nat):∀ (M:List aH) (k:Nat) (xs:Array aH),off + k + M.length<=xs.size->((M.zipIdx k).foldl (fun a pj=>a.setIfInBounds (off + pj.2) pj.1) xs).toList=xs.toList.take (off + k)++M++xs.toList.drop (off + k + M.length)
 | [],k,xs,h=>by simp
 | x::M,k,xs,h=>by
  rw[List.zipIdx_cons,List.foldl_cons,put_list off M (k + 1) _ (by simp at h ⊢;lia)]
  simp only[iB];rw[aO] at h ⊢;have hl:off + k < xs.toList.length:=by simp;lia
  rw[show off + (k + 1)=off + k + 1 by lia,List.take_set,List.drop_set_of_lt (by lia),List.set_eq_take_append_cons_drop]
  have e1:(off + k) < (xs.toList.take (off + k + 1)).length:=by rw[aS];lia
  rw[if_pos e1,List.take_take,Nat.min_eq_left (by lia),bA (by rw[aS];lia)]
  simp[aR,show off + k + 1 + M.length=off + k + (M.length + 1) by lia]
section
variable {prog:ay} {w:aI} {A:a6} {E:ae->ai->Prop} {s:ai} {κ:eM} {P:aH->Prop} {lt:aH->aH->Bool}
theorem wp_mAt (o:Orc prog w A s κ P lt) {st:cG} {i sa na pw sb nb pw':Nat} {L1 Aa Bb L2:List aH} {Q:Bool->cG->Prop} (hk:kindOf st=κ) (hf:ft st=none) (hp1:(bK st)[i]?=some (sa,na,pw)) (hp2:(bK st)[i + 1]?=some (sb,nb,pw'))
  (hsb:sb=sa + na) (hl:(aM st).toList=L1++(Aa++(Bb++L2))) (l1:L1.length=sa) (lA:Aa.length=na) (lB:Bb.length=nb) (na1:1<=na) (nb1:1<=nb) (PA:∀ x∈Aa,P x) (PB:∀ x∈Bb,P x) (sA:Sd lt Aa) (sB:Sd lt Bb)
  (h:∀ C g xs,xs.toList=L1++(C++L2)->Sd lt C->C.Perm (Aa++Bb)->Q true (iz κ xs (((bK st).setIfInBounds i (sa,na + nb,pw)).eraseIdxIfInBounds (i + 1)) g none)):wpS (aF prog w) A E s (mergeAt' i) Q st:=by
 have hsz:(aM st).size=sa + na + nb + L2.length:=by
  have:=congrArg eE hl
  simp only[bf,az] at this;lia
 have atA:∀ j x,Aa[j]?=some x->(aM st)[sa + j]?=some x:=fun j x hj=>by
  have hjl:=(aD.mp hj).1;rw[<- aQ,hl,bL (by lia),l1,Nat.add_sub_cancel_left,cL hjl];exact hj
 have atB:∀ j x,Bb[j]?=some x->(aM st)[sb + j]?=some x:=fun j x hj=>by
  have hjl:=(aD.mp hj).1;rw[<- aQ,hl,bL (by lia),l1,bL (by lia),lA,cL (by lia)]
  rw[show sb + j - sa - na=j by lia];exact hj
 have getA:∀ j,j < na->∃ x,Aa[j]?=some x:=fun j hj=>⟨Aa[j],ag (by lia)⟩
 have getB:∀ j,j < nb->∃ x,Bb[j]?=some x:=fun j hj=>⟨Bb[j],ag (by lia)⟩
 obtain⟨b0,hb0⟩:=getB 0 nb1;have pb0:=PB b0 (ak hb0);rw[mAt_eq];refine au (hJ ?_);rw[hp1,hp2];dsimp only;refine au (wpS_set ?_);have hk2:kindOf (fw st (((bK st).setIfInBounds i (sa,na + nb,pw)).eraseIdxIfInBounds (i + 1)))=κ:=hk;have est:∀ g xs,cE (setG (fw st (((bK st).setIfInBounds i (sa,na + nb,pw)).eraseIdxIfInBounds (i + 1))) g) xs=iz κ xs (((bK st).setIfInBounds i (sa,na + nb,pw)).eraseIdxIfInBounds (i + 1)) g none:=fun g xs=>by
  show iz (kindOf st) xs _ g (ft st)=_;rw[hk,hf]
 refine au (wp_el (x:=b0) (by have:=atB 0 b0 hb0;rwa [Nat.add_zero] at this) (au (wp_gal o (f:=fun j=>Aa.getD j (.none,.none)) hk2 pb0 (fun j hj=>?_) (fun j j' hjj hj hb=>?_) (by lia) fun k k1 k2 k3=>?_)))
 ·obtain⟨x,hx⟩:=getA j hj;rw[aj,hx];exact⟨atA j x hx,PA x (ak hx)⟩
 ·obtain⟨z,hz⟩:=getA j (by lia)
  obtain⟨z',hz'⟩:=getA j' hj;rw[aj,hz'] at hb;rw[aj,hz];have hb':lt b0 z'=false:=by simpa [bv] using hb
  show(!lt b0 z)=true;rcases Nat.eq_or_lt_of_le hjj with rfl | hlt
  ·rw[hz] at hz';cases hz';rw[hb'];rfl
  ·rw[o.tr z z' b0 (PA z (ak hz)) (PA z' (ak hz')) pb0 (sA.at hlt hz hz') hb'];rfl
 have lowA:∀ u∈Aa.take k,∀ v∈Bb,lt v u=false:=fun u hu v hv=>by
  obtain⟨j,hj,e⟩:=mem_take_at' hu
  have:=k2 j hj
  rw[aj,e] at this;have h1:(!lt b0 u)=true:=this;exact le_run o PB sB (i:=0) (PA u (ak e)) hb0 (by simpa using h1) v hv
 have upA:∀ u∈Aa.drop k,lt u b0=false:=fun u hu=>by
  obtain⟨j,hj,e⟩:=mem_drop_at hu;have hjl:=(aD.mp e).1
  have:=k3 j hj (by lia)
  rw[aj,e] at this;have h1:(!lt b0 u)=false:=this;exact o.as _ _ pb0 (PA u (ak e)) (by simpa using h1)
 dsimp only;have whole:∀ g,Sd lt (Aa++Bb)->Q true (setG (fw st (((bK st).setIfInBounds i (sa,na + nb,pw)).eraseIdxIfInBounds (i + 1))) g):=fun g hs=>by
  have:=h (Aa++Bb) g (aM st) (by rw[hl,aR]) hs (da _)
  rw[<- est g (aM st)] at this;exact this
 by_cases c1:(na - k == 0)=true
 ·rw[if_pos c1];have kn:k=na:=by
   have:na - k=0:=by simpa using c1
   lia
  refine aA (whole _ (a9.mpr ⟨sA,sB,fun u hu v hv=>lowA u ?_ v hv⟩));rw[kn,<- lA,b5];exact hu
 rw[if_neg c1];have c1':na - k≠0:=by simpa using c1
 obtain⟨al,hal⟩:=getA (na - 1) (by lia)
 have pal:=PA al (ak hal);refine au (wp_el (x:=al) (by have:=atA _ al hal;rwa [show sa + k + (na - k) - 1=sa + (na - 1) by lia]) (au (wp_gal o (f:=fun j=>Bb.getD j (.none,.none)) hk2 pal (fun j hj=>?_) (fun j j' hjj hj hb=>?_) (by lia) fun m m1 m2 m3=>?_)))
 ·obtain⟨x,hx⟩:=getB j hj;rw[aj,hx];exact⟨atB j x hx,PB x (ak hx)⟩
 ·obtain⟨z,hz⟩:=getB j (by lia)
  obtain⟨z',hz'⟩:=getB j' hj;rw[aj,hz'] at hb;rw[aj,hz];have hb':lt z' al=true:=hb;show lt z al=true;cases e:lt z al with
  | true=>rfl
  | false =>
   exfalso;have pz:=PB z (ak hz);have pz':=PB z' (ak hz');rcases Nat.eq_or_lt_of_le hjj with rfl | hlt
   ·rw[hz] at hz';cases hz';rw[e] at hb';cases hb'
   ·have:=o.tr al z z' pal pz pz' e (sB.at hlt hz hz')
    rw[hb'] at this;cases this
 have upB:∀ v∈Bb.drop m,∀ u∈Aa,lt v u=false:=fun v hv u hu=>by
  obtain⟨j,hj,e⟩:=mem_drop_at hv;have hjl:=(aD.mp e).1
  have:=m3 j hj (by lia)
  rw[aj,e] at this;have h1:lt v al=false:=this
  have:=ge_run o PA sA (PB v (ak e)) hal h1
  rw[show na - 1 + 1=Aa.length by lia,b5] at this
  exact this u hu
 have lowB:∀ v∈Bb.take m,lt al v=false:=fun v hv=>by
  obtain⟨j,hj,e⟩:=mem_take_at' hv
  have:=m2 j hj
  rw[aj,e] at this;exact o.as _ _ (PB v (ak e)) pal this
 dsimp only
 by_cases c2:(m == 0)=true
 ·rw[if_pos c2];have m0:m=0:=by simpa using c2
  refine aA (whole _ (a9.mpr ⟨sA,sB,fun u hu v hv=>upB v ?_ u hu⟩));rw[m0];exact hv
 rw[if_neg c2];have c2':m≠0:=by simpa using c2
 have ex:((aM st).extract (sa + k) sb).toList=Aa.drop k:=by
  rw[ext_list,hl,<- l1,fB,bA (by lia),bS,Nat.add_sub_cancel_left,gQ (by lia),dM (by rw[bB];lia)]
  exact bq (by rw[bB];lia)
 have ey:((aM st).extract sb (sb + m)).toList=Bb.take m:=by
  rw[ext_list,hl,Nat.add_sub_cancel_left,fB,bA (by lia),bS,fB,bA (by lia),bS,show sb - L1.length - Aa.length=0 by lia,gl,dM (by lia)]
 have zx:((aM st).extract (sa + k) sb).size=na - k:=by rw[<- bf,ex,bB,lA]
 have zy:((aM st).extract sb (sb + m)).size=m:=by rw[<- bf,ey,aS];lia
 have fin:∀ (M:Array aH) g,Sd lt M.toList->M.toList.Perm (((aM st).extract (sa + k) sb).toList++((aM st).extract sb (sb + m)).toList)->wpS (aF prog w) A E s (do
   modify fun s=>cE s (M.toList.zipIdx.foldl (fun a pj=>a.setIfInBounds (sa + k + pj.2) pj.1) (aM s))
   let z <- get
   pure (ft z).isNone) Q (setG (fw st (((bK st).setIfInBounds i (sa,na + nb,pw)).eraseIdxIfInBounds (i + 1))) g):=fun M g hs hpm=>by
  refine au (cH (au (hJ (aA ?_))));rw[ex,ey] at hpm;have ml:=hpm.length_eq;rw[az,bB,aS] at ml;have ll:=put_list (sa + k) M.toList 0 (aM st) (by lia)
  have hfn:(ft (cE (setG (fw st (((bK st).setIfInBounds i (sa,na + nb,pw)).eraseIdxIfInBounds (i + 1))) g) (M.toList.zipIdx.foldl (fun a pj=>a.setIfInBounds (sa + k + pj.2) pj.1) (aM st)))).isNone=true:=by
   show(ft st).isNone=true;rw[hf];rfl
  have main:=h (Aa.take k++(M.toList++Bb.drop m)) g (M.toList.zipIdx.foldl (fun a pj=>a.setIfInBounds (sa + k + pj.2) pj.1) (aM st)) ?_ ?_ ?_
  ·rw[<- est g] at main;show Q _ _;have e0:(ft (cE (setG (fw st (((bK st).setIfInBounds i (sa,na + nb,pw)).eraseIdxIfInBounds (i + 1))) g) (M.toList.zipIdx.foldl (fun a pj=>a.setIfInBounds (sa + k + pj.2) pj.1) (aM st)))).isNone=true:=hfn;exact(e0.symm ▸ main)
  ·rw[ll,hl];have t1:(L1++(Aa++(Bb++L2))).take (sa + k + 0)=L1++Aa.take k:=by
    rw[<- l1,Nat.add_zero,List.take_append,bq (by lia),Nat.add_sub_cancel_left,dM (by lia)]
   have t2:(L1++(Aa++(Bb++L2))).drop (sa + k + 0 + M.toList.length)=Bb.drop m++L2:=by
    rw[fB,bA (by lia),bS,fB,bA (by lia),bS,show sa + k + 0 + M.toList.length - L1.length - Aa.length=m by lia,gQ (by lia)]
   rw[t1,t2];simp only[aR]
  ·have sA':Sd lt (Aa.take k++Aa.drop k):=by rw[bE];exact sA
   have sB':Sd lt (Bb.take m++Bb.drop m):=by rw[bE];exact sB
   obtain⟨a1,_,a3⟩:=a9.mp sA';obtain⟨_,b2,b3⟩:=a9.mp sB';refine a9.mpr ⟨a1,a9.mpr ⟨hs,b2,fun u hu v hv=>?_⟩,fun u hu v hv=>?_⟩
   ·rcases aU.mp (hpm.mem_iff.mp hu) with z | z
    ·exact upB v hv u (dI z)
    ·exact b3 u z v hv
   ·rcases aU.mp hv with z | z
    ·rcases aU.mp (hpm.mem_iff.mp z) with y | y
     ·exact a3 u hu v y
     ·exact lowA u hu v (dJ y)
    ·exact lowA u hu v (dI z)
  ·have e1:(Aa++Bb)=Aa.take k++(Aa.drop k++(Bb.take m++Bb.drop m)):=by rw[<- aR,bE,bE]
   rw[e1];refine er _ ?_;rw[<- aR];exact dY _ hpm
 have pX:∀ x∈((aM st).extract (sa + k) sb).toList,P x:=fun x hx=>PA x (dI (by rw[ex] at hx;exact hx))
 have pY:∀ x∈((aM st).extract sb (sb + m)).toList,P x:=fun x hx=>PB x (dJ (by rw[ey] at hx;exact hx))
 have hF:∀ y,((aM st).extract sb (sb + m)).toList[0]?=some y->∀ x∈((aM st).extract (sa + k) sb).toList,lt x y=false:=fun y hy x hx=>by
  rw[ey,fK (by lia),hb0] at hy
  cases hy;rw[ex] at hx;exact upA x hx
 have hL:∀ z,((aM st).extract (sa + k) sb).toList[((aM st).extract (sa + k) sb).size - 1]?=some z->∀ y∈((aM st).extract sb (sb + m)).toList,lt z y=false:=fun z hz y hy=>by
  rw[ex,zx,List.getElem?_drop,show k + (na - k - 1)=na - 1 by lia,hal] at hz
  cases hz;rw[ey] at hy;exact lowB y hy
 have sX:Sd lt ((aM st).extract (sa + k) sb).toList:=by rw[ex];exact sA.drop k
 have sY:Sd lt ((aM st).extract sb (sb + m)).toList:=by rw[ey];exact sB.take m
 by_cases c3:na - k<=m
 ·rw[if_pos c3];exact au (wp_mLo o hk2 pX pY sX sY (by lia) (by lia) hF hL fun M g hs hpm=>fin M g hs hpm)
 ·rw[if_neg c3];exact au (wp_mHi o hk2 pX pY sX sY (by lia) (by lia) hF hL fun M g hs hpm=>fin M g hs hpm)
end
def at0 (xs:Array aH) (i:Nat):aH:=(xs[i]?).getD (.none,.none)
theorem at_of {xs ys:Array aH} {i j:Nat} (h:xs[i]?=ys[j]?):at0 xs i=at0 ys j:=by unfold at0;rw[h]
def Gd (lo:Nat) (a xs:Array aH):Prop:=xs.Perm a/\∀ i,i < lo->xs[i]?=a[i]?
theorem Gd.size {lo:Nat} {a xs:Array aH} (h:Gd lo a xs):xs.size=a.size:=h.1.size_eq
def Up (lt:aH->aH->Bool) (xs:Array aH) (i j:Nat):Prop:=∀ p q,i<=p->p < q->q < j->lt (at0 xs q) (at0 xs p)=false
def Dn (lt:aH->aH->Bool) (xs:Array aH) (i j:Nat):Prop:=∀ p q,i<=p->p < q->q < j->lt (at0 xs p) (at0 xs q)=false
def Eqs (lt:aH->aH->Bool) (xs:Array aH) (i j:Nat):Prop:=∀ p q,i<=p->p < j->i<=q->q < j->lt (at0 xs p) (at0 xs q)=false
theorem rev_at {xs:Array aH} {i j:Nat} (hj:j<=xs.size) (k:Nat):at0 (dl xs i j ((j - i) / 2)) k=if i<=k/\k < j then at0 xs (i + j - 1 - k) else at0 xs k:=by
 have e:=getElem?_mirror_all (i:=i) hj k
 split at e
 ·next h=>rw[if_pos h];exact at_of e
 ·next h=>rw[if_neg h];exact at_of e
theorem Gd.rev {lo i j d:Nat} {a xs:Array aH} (h:Gd lo a xs) (hi:lo<=i) (hj:j<=xs.size) (hd:d=(j - i) / 2):Gd lo a (dl xs i j d):=by
 subst hd;refine⟨(mirror_perm _ _ _ _).trans h.1,fun k hk=>?_⟩;rw[getElem?_mirror_all hj,if_neg (by lia)]
 exact h.2 k hk
section
variable {prog:ay} {w:aI} {A:a6} {E:ae->ai->Prop} {s:ai} {κ:eM} {P:aH->Prop} {lt:aH->aH->Bool}
theorem gd_P {lo:Nat} {a xs:Array aH} (h:Gd lo a xs) (PA:∀ x∈a.toList,P x) {i:Nat} (hi:i < a.size):xs[i]?=some (at0 xs i)/\P (at0 xs i):=by
 have hi':i < xs.size:=by rw[h.size];exact hi
 have e:xs[i]?=some xs[i]:=getElem?_pos _ i hi';have e2:at0 xs i=xs[i]:=by unfold at0;rw[e];rfl
 rw[e2];exact⟨e,PA _ ((cI.mp h.1).mem_iff.mp (by simp))⟩
theorem wp_ltAt (o:Orc prog w A s κ P lt) {st:cG} {xs:Array aH} {lo i j:Nat} {Q:Option Bool->cG->Prop} (hk:kindOf st=κ) (PA:∀ x∈(aM st).toList,P x) (g:Gd lo (aM st) xs) (hi:i < (aM st).size) (hj:j < (aM st).size) (h:Q (some (lt (at0 xs i) (at0 xs j))) (cE st xs)) :
  wpS (aF prog w) A E s (ltAt' i j) Q (cE st xs):=by
 rw[ltAt'_eq];refine au (hJ ?_);obtain⟨e1,p1⟩:=gd_P g PA hi;obtain⟨e2,p2⟩:=gd_P g PA hj;exact au (wp_el e1 (au (wp_el e2 (wp_lt o hk p1 p2 h))))
theorem irr (o:Orc prog w A s κ P lt) {x:aH} (hx:P x):lt x x=false:=by
 cases e:lt x x with
 | false=>rfl
 | true=>exact absurd (e.symm.trans (o.as x x hx hx e)) (by decide)
variable {st:cG} {xs:Array aH} {lo:Nat}
theorem Up.more (o:Orc prog w A s κ P lt) {i j:Nat} (hP:∀ p,p<=j->P (at0 xs p)) (h:Up lt xs i j) (hij:i < j) (e:lt (at0 xs j) (at0 xs (j - 1))=false):Up lt xs i (j + 1):=fun p q h1 h2 h3=>by
 rcases Nat.lt_or_ge q j with z | z
 ·exact h p q h1 h2 z
 ·have:q=j:=by lia
  subst this;rcases Nat.lt_or_ge p (q - 1) with y | y
  ·exact o.tr _ _ _ (hP p (by lia)) (hP (q - 1) (by lia)) (hP q (by lia)) (h p (q - 1) h1 y (by lia)) e
  ·have:p=q - 1:=by lia
   rw[this];exact e
theorem Dn.more (o:Orc prog w A s κ P lt) {i j:Nat} (hP:∀ p,p<=j->P (at0 xs p)) (h:Dn lt xs i j) (hij:i < j) (e:lt (at0 xs (j - 1)) (at0 xs j)=false):Dn lt xs i (j + 1):=fun p q h1 h2 h3=>by
 rcases Nat.lt_or_ge q j with z | z
 ·exact h p q h1 h2 z
 ·have:q=j:=by lia
  subst this;rcases Nat.lt_or_ge p (q - 1) with y | y
  ·exact o.tr _ _ _ (hP q (by lia)) (hP (q - 1) (by lia)) (hP p (by lia)) e (h p (q - 1) h1 y (by lia))
  ·have:p=q - 1:=by lia
   rw[this];exact e
theorem Dn.rev {i j d:Nat} (h:Dn lt xs i j) (hj:j<=xs.size) (hd:d=(j - i) / 2):Up lt (dl xs i j d) i j:=fun p q h1 h2 h3=>by
 subst hd;rw[rev_at hj,rev_at hj,if_pos ⟨by lia,by lia⟩,if_pos ⟨by lia,by lia⟩]
 exact h _ _ (by lia) (by lia) (by lia)
theorem Dn.eqs {i j c d:Nat} (h:Dn lt xs i j) (hc:i<=c) (he:Eqs lt xs c j) (hj:j<=xs.size) (hd:d=(j - c) / 2):Dn lt (dl xs c j d) i j:=fun p q h1 h2 h3=>by
 subst hd;rw[rev_at hj,rev_at hj]
 by_cases a1:c<=p/\p < j
 ·rw[if_pos a1,if_pos ⟨by lia,by lia⟩]
  exact he _ _ (by lia) (by lia) (by lia) (by lia)
 ·rw[if_neg a1]
  by_cases a2:c<=q/\q < j
  ·rw[if_pos a2];exact h _ _ h1 (by lia) (by lia)
  ·rw[if_neg a2];exact h _ _ h1 h2 h3
theorem wp_cnt (o:Orc prog w A s κ P lt) {nrem:Nat} {Q:Option Nat->cG->Prop} (hk:kindOf st=κ) (PA:∀ x∈(aM st).toList,P x) (hn:1<=nrem) (hs:lo + nrem<=(aM st).size)
  (h:∀ n xs,1<=n->n<=nrem->Gd lo (aM st) xs->Up lt xs lo (lo + n)->Q (some n) (cE st xs)):wpS (aF prog w) A E s (countRun' lo nrem) Q st:=by
 have pP:∀ {xs},Gd lo (aM st) xs->∀ p,p < (aM st).size->P (at0 xs p):=fun g p hp=>(gd_P g PA hp).2;rw[countRun'_eq];dsimp only;have est:st=cE st (aM st):=rfl;have g0:Gd lo (aM st) (aM st):=⟨jF _,fun _ _=>rfl⟩;refine au (cV (bO (I:=fun x c st'=>st'=cE st (aM st)/\c=(none,x)/\1<=x/\Up lt (aM st) lo (lo + x))
  (Q:=fun c st'=>st'=cE st (aM st)/\∃ n,c=(none,n)/\1<=n/\n<=nrem/\Up lt (aM st) lo (lo + n)/\(n < nrem->lt (at0 (aM st) (lo + n)) (at0 (aM st) (lo + n - 1))=true)) ?_ ?_ ⟨est,rfl,Nat.le_refl _,fun p q _ _ _=>by lia⟩) ?_)
 ·rintro x c st' _ hx ⟨rfl,rfl,h1,hu⟩;dsimp only;refine au (wp_ltAt o (i:=lo + x) (j:=lo + x - 1) hk PA g0 (by lia) (by lia) ?_)
  dsimp only;cases e:lt (at0 (aM st) (lo + x)) (at0 (aM st) (lo + x - 1)) with
  | true=>rw[if_pos rfl];exact aA ⟨rfl,x,rfl,h1,by lia,hu,fun _=>e⟩
  | false=>rw[if_neg (by simp)];exact aA ⟨rfl,rfl,by lia,Up.more o (i:=lo) (j:=lo + x) (fun p hp=>pP g0 p (by lia)) hu (by lia) e⟩
 ·rintro c st' ⟨rfl,rfl,h1,hu⟩;refine⟨rfl,_,rfl,by lia,by lia,hu,fun z=>by lia⟩
 ·rintro c st' ⟨rfl,n,rfl,n1,n2,hu,hlt⟩;dsimp only
  by_cases c0:(n == nrem)=true
  ·rw[if_pos c0];exact aA (h n _ n1 n2 g0 hu)
  rw[if_neg c0];have c0':n < nrem:=by
   have:n≠nrem:=by simpa using c0
   lia
  have hlt':=hlt c0';have pp:∀ p,p<=lo + n->P (at0 (aM st) p):=fun p hp=>pP g0 p (by lia)
  have hle:=o.as _ _ (pp _ (Nat.le_refl _)) (pp _ (by lia)) hlt'
  by_cases cn:n > 1
  ·rw[if_pos cn];refine au (wp_ltAt o (i:=lo) (j:=lo + n - 1) hk PA g0 (by lia) (by lia) ?_)
   dsimp only;cases e:lt (at0 (aM st) lo) (at0 (aM st) (lo + n - 1)) with
   | true=>rw[if_pos rfl];exact aA (h n _ n1 n2 g0 hu)
   | false =>
    rw[if_neg (by simp),cW]
    have down:∀ p,lo<=p->p < lo + n->lt (at0 (aM st) p) (at0 (aM st) (lo + n - 1))=false:=fun p h1 h2=>by
     rcases Nat.eq_or_lt_of_le h1 with rfl | h1
     ·exact e
     ·exact o.tr _ _ _ (pp _ (by lia)) (pp _ (by lia)) (pp _ (by lia)) e (hu lo p (Nat.le_refl _) h1 h2)
    have dn:Dn lt (aM st) lo (lo + n):=fun p q h1 h2 h3=>by
     rcases Nat.eq_or_lt_of_le (show q<=lo + n - 1 by lia) with z | z
     ·rw[z];exact down p h1 (by lia)
     ·exact o.tr _ _ _ (pp _ (by lia)) (pp _ (by lia)) (pp _ (by lia)) (hu q (lo + n - 1) (by lia) z (by lia)) (down p h1 (by lia))
    have eqs:Eqs lt (aM st) lo (lo + n):=fun p q h1 h2 h3 h4=>by
     rcases Nat.lt_trichotomy p q with z | z | z
     ·exact dn p q h1 z h4
     ·subst z;exact irr o (pp _ (by lia))
     ·exact hu q p h3 z h2
    have g2:Gd lo (aM st) (dl (aM st) lo (lo + n) ((lo + n - lo) / 2)):=g0.rev (Nat.le_refl _) (by lia) rfl
    have hd:Dn lt (dl (aM st) lo (lo + n) ((lo + n - lo) / 2)) lo (lo + (n + 1)):=by
     refine Dn.more o (i:=lo) (j:=lo + n) (fun p hp=>pP g2 p (by lia)) (dn.eqs (Nat.le_refl _) eqs (by lia) rfl) (by lia) ?_
     have rv:=rev_at (xs:=aM st) (i:=lo) (j:=lo + n) (by lia)
     rw[rv,rv,if_pos ⟨by lia,by lia⟩,if_neg (by lia)]
     exact o.tr _ _ _ (pp _ (by lia)) (pp (lo + n - 1) (by lia)) (pp _ (by lia)) hle (down _ (by lia) (by lia))
    have n2:=c0';refine au (cH ?_);change wpS _ _ _ _ _ _ (cE st (dl (aM st) lo (lo + n) ((lo + n - lo) / 2)))
    rename Gd lo (aM st) (dl (aM st) lo (lo + n) ((lo + n - lo) / 2))=>g
    generalize dl (aM st) lo (lo + n) ((lo + n - lo) / 2)=xs at g hd ⊢;refine au (iA (d9 ⟨rfl,?_⟩));refine au (cV (bO (I:=fun x c st'=>∃ xs q,st'=cE st xs/\c=(none,x,q)/\2<=x/\q + 1<=x/\Gd lo (aM st) xs/\Dn lt xs lo (lo + x)/\Eqs lt xs (lo + x - (q + 1)) (lo + x))
     (Q:=fun c st'=>∃ xs n q,st'=cE st xs/\c=(none,n,q)/\1<=n/\n<=nrem/\q + 1<=n/\Gd lo (aM st) xs/\Dn lt xs lo (lo + n)/\Eqs lt xs (lo + n - (q + 1)) (lo + n)) ?_ ?_ ⟨xs,0,rfl,rfl,by lia,by lia,g,hd,fun p q h1 h2 h3 h4=>by
      have:p=q:=by lia
      subst this;exact irr o (pP g p (by lia))⟩) ?_)
    ·rintro x c st' _ hx ⟨xs,q,rfl,rfl,x2,hq,g,hd,he⟩;have hxs:xs.size=(aM st).size:=g.size;dsimp only;refine au (wp_ltAt o (i:=lo + x) (j:=lo + x - 1) hk PA g (by lia) (by lia) ?_)
     dsimp only;cases e:lt (at0 xs (lo + x)) (at0 xs (lo + x - 1)) with
     | true =>
      rw[if_pos rfl];have e2:=o.as _ _ (pP g _ (by lia)) (pP g _ (by lia)) e
      have one:∀ ys,Gd lo (aM st) ys->Eqs lt ys (lo + (x + 1) - (0 + 1)) (lo + (x + 1)):=fun ys g' p q h1 h2 h3 h4=>by
       have:p=q:=by lia
       subst this;exact irr o (pP g' p (by lia))
      by_cases cq:q > 0
      ·rw[if_pos cq,cW];have hd2:(lo + x - (lo + x - (q + 1))) / 2=(lo + x - (lo + x - (q + 1))) / 2:=rfl;have g2:Gd lo (aM st) (dl xs (lo + x - (q + 1)) (lo + x) ((lo + x - (lo + x - (q + 1))) / 2)):=g.rev (by lia) (by lia) rfl
       have d2:Dn lt (dl xs (lo + x - (q + 1)) (lo + x) ((lo + x - (lo + x - (q + 1))) / 2)) lo (lo + x):=hd.eqs (by lia) he (by lia) rfl
       refine au (cH (aA ⟨_,0,rfl,rfl,by lia,by lia,g2,Dn.more o (i:=lo) (j:=lo + x) (fun p hp=>pP g2 p (by lia)) d2 (by lia) ?_,one _ g2⟩))
       have rv:=rev_at (xs:=xs) (i:=lo + x - (q + 1)) (j:=lo + x) (by lia)
       rw[rv,rv,if_pos ⟨by lia,by lia⟩,if_neg (by lia)]
       exact o.tr (at0 xs (lo + x)) (at0 xs (lo + x - 1)) _ (pP g _ (by lia)) (pP g _ (by lia)) (pP g _ (by lia)) e2 (he _ _ (by lia) (by lia) (by lia) (by lia))
      ·rw[if_neg cq];exact aA ⟨xs,0,rfl,rfl,by lia,by lia,g,Dn.more o (i:=lo) (j:=lo + x) (fun p hp=>pP g p (by lia)) hd (by lia) e2,one _ g⟩
     | false =>
      rw[if_neg (by simp)]
      refine au (wp_ltAt o (i:=lo + x - 1) (j:=lo + x) hk PA g (by lia) (by lia) ?_)
      dsimp only;cases e2:lt (at0 xs (lo + x - 1)) (at0 xs (lo + x)) with
      | true=>rw[if_pos rfl];exact aA ⟨xs,x,q,rfl,rfl,by lia,by lia,hq,g,hd,he⟩
      | false =>
       rw[if_neg (by simp)]
       refine aA ⟨xs,q + 1,rfl,rfl,by lia,by lia,g,Dn.more o (i:=lo) (j:=lo + x) (fun p hp=>pP g p (by lia)) hd (by lia) e2,fun p r h1 h2 h3 h4=>?_⟩
       have pp:∀ p,p<=lo + x->P (at0 xs p):=fun p hp=>pP g p (by lia)
       have low:∀ p,lo + x - (q + 1)<=p->p < lo + x->lt (at0 xs p) (at0 xs (lo + x))=false/\lt (at0 xs (lo + x)) (at0 xs p)=false:=fun p a1 a2=>by
        have b1:=he p (lo + x - 1) a1 a2 (by lia) (by lia)
        have b2:=he (lo + x - 1) p (by lia) (by lia) a1 a2
        exact⟨o.tr _ _ _ (pp _ (by lia)) (pp _ (by lia)) (pp _ (by lia)) e2 b1,o.tr _ _ _ (pp _ (by lia)) (pp _ (by lia)) (pp _ (by lia)) b2 e⟩
       by_cases z1:p=lo + x
       ·by_cases z2:r=lo + x
        ·rw[z1,z2];exact irr o (pp _ (by lia))
        ·rw[z1];exact(low r (by lia) (by lia)).2
       ·by_cases z2:r=lo + x
        ·rw[z2];exact(low p (by lia) (by lia)).1
        ·exact he p r (by lia) (by lia) (by lia) (by lia)
    ·rintro c st' ⟨xs,q,rfl,rfl,x2,hq,g,hd,he⟩;exact⟨xs,_,q,rfl,rfl,by lia,by lia,hq,g,by rwa [show max (n + 1) nrem=nrem by lia] at hd ⊢,he⟩
    ·rintro c st' ⟨xs,n,q,rfl,rfl,n1,n2,hq,g,hd,he⟩;have hxs:xs.size=(aM st).size:=g.size;dsimp only
     by_cases cq:q > 0
     ·rw[if_pos cq,cW,cW];have g2:Gd lo (aM st) (dl xs (lo + n - (q + 1)) (lo + n) ((lo + n - (lo + n - (q + 1))) / 2)):=g.rev (by lia) (by lia) rfl
      have d2:Dn lt (dl xs (lo + n - (q + 1)) (lo + n) ((lo + n - (lo + n - (q + 1))) / 2)) lo (lo + n):=hd.eqs (by lia) he (by lia) rfl
      have s2:=g2.size;have g3:=g2.rev (i:=lo) (j:=lo + n) (Nat.le_refl _) (by lia) rfl
      have u3:=d2.rev (i:=lo) (j:=lo + n) (by lia) rfl
      refine au (cH (au (cH ?_)));change wpS _ _ _ _ _ _ (cE st (dl (dl xs (lo + n - (q + 1)) (lo + n) ((lo + n - (lo + n - (q + 1))) / 2)) lo (lo + n) ((lo + n - lo) / 2)));generalize dl (dl xs (lo + n - (q + 1)) (lo + n) ((lo + n - (lo + n - (q + 1))) / 2)) lo (lo + n) ((lo + n - lo) / 2)=zs at g3 u3 ⊢;refine au (cV (bO (I:=fun x c st'=>st'=cE st zs/\c=(none,x)/\n<=x/\Up lt (zs) lo (lo + x))
       (Q:=fun c st'=>st'=cE st zs/\∃ n,c=(none,n)/\1<=n/\n<=nrem/\Up lt (zs) lo (lo + n)) ?_ ?_ ⟨rfl,rfl,Nat.le_refl _,u3⟩) ?_)
      ·rintro x c st' _ hx ⟨rfl,rfl,h1,hu⟩;dsimp only;refine au (wp_ltAt o (i:=lo + x) (j:=lo + x - 1) hk PA g3 (by lia) (by lia) ?_)
       dsimp only;cases e:lt (at0 (zs) (lo + x)) (at0 (zs) (lo + x - 1)) with
       | true=>rw[if_pos rfl];exact aA ⟨rfl,x,rfl,by lia,by lia,hu⟩
       | false=>rw[if_neg (by simp)];exact aA ⟨rfl,rfl,by lia,Up.more o (i:=lo) (j:=lo + x) (fun p hp=>pP g3 p (by lia)) hu (by lia) e⟩
      ·rintro c st' ⟨rfl,rfl,h1,hu⟩;exact⟨rfl,_,rfl,by lia,by lia,hu⟩
      ·rintro c st' ⟨rfl,n,rfl,n1,n2,hu⟩;exact aA (h n (zs) n1 n2 g3 hu)
     ·rw[if_neg cq,cW];have g3:=g.rev (i:=lo) (j:=lo + n) (Nat.le_refl _) (by lia) rfl
      have u3:=hd.rev (i:=lo) (j:=lo + n) (by lia) rfl
      refine au (cH ?_);change wpS _ _ _ _ _ _ (cE st (dl xs lo (lo + n) ((lo + n - lo) / 2)));generalize dl xs lo (lo + n) ((lo + n - lo) / 2)=zs at g3 u3 ⊢;refine au (cV (bO (I:=fun x c st'=>st'=cE st zs/\c=(none,x)/\n<=x/\Up lt (zs) lo (lo + x))
       (Q:=fun c st'=>st'=cE st zs/\∃ n,c=(none,n)/\1<=n/\n<=nrem/\Up lt (zs) lo (lo + n)) ?_ ?_ ⟨rfl,rfl,Nat.le_refl _,u3⟩) ?_)
      ·rintro x c st' _ hx ⟨rfl,rfl,h1,hu⟩;dsimp only;refine au (wp_ltAt o (i:=lo + x) (j:=lo + x - 1) hk PA g3 (by lia) (by lia) ?_)
       dsimp only;cases e:lt (at0 (zs) (lo + x)) (at0 (zs) (lo + x - 1)) with
       | true=>rw[if_pos rfl];exact aA ⟨rfl,x,rfl,by lia,by lia,hu⟩
       | false=>rw[if_neg (by simp)];exact aA ⟨rfl,rfl,by lia,Up.more o (i:=lo) (j:=lo + x) (fun p hp=>pP g3 p (by lia)) hu (by lia) e⟩
      ·rintro c st' ⟨rfl,rfl,h1,hu⟩;exact⟨rfl,_,rfl,by lia,by lia,hu⟩
      ·rintro c st' ⟨rfl,n,rfl,n1,n2,hu⟩;exact aA (h n (zs) n1 n2 g3 hu)
  ·rw[if_neg cn];have e1:n=1:=by lia
   subst e1;have hd:Dn lt (aM st) lo (lo + (1 + 1)):=fun p q h1 h2 h3=>by
    have ep:p=lo:=by lia
    have eq:q=lo + 1:=by lia
    rw[ep,eq];exact hle
   have n2:=c0';have g:=g0;refine au (iA (d9 ⟨rfl,?_⟩));refine au (cV (bO (I:=fun x c st'=>∃ xs q,st'=cE st xs/\c=(none,x,q)/\2<=x/\q + 1<=x/\Gd lo (aM st) xs/\Dn lt xs lo (lo + x)/\Eqs lt xs (lo + x - (q + 1)) (lo + x))
    (Q:=fun c st'=>∃ xs n q,st'=cE st xs/\c=(none,n,q)/\1<=n/\n<=nrem/\q + 1<=n/\Gd lo (aM st) xs/\Dn lt xs lo (lo + n)/\Eqs lt xs (lo + n - (q + 1)) (lo + n)) ?_ ?_ ⟨aM st,0,rfl,rfl,by lia,by lia,g,hd,fun p q h1 h2 h3 h4=>by
     have:p=q:=by lia
     subst this;exact irr o (pP g p (by lia))⟩) ?_)
   ·rintro x c st' _ hx ⟨xs,q,rfl,rfl,x2,hq,g,hd,he⟩;have hxs:xs.size=(aM st).size:=g.size;dsimp only;refine au (wp_ltAt o (i:=lo + x) (j:=lo + x - 1) hk PA g (by lia) (by lia) ?_)
    dsimp only;cases e:lt (at0 xs (lo + x)) (at0 xs (lo + x - 1)) with
    | true =>
     rw[if_pos rfl];have e2:=o.as _ _ (pP g _ (by lia)) (pP g _ (by lia)) e
     have one:∀ ys,Gd lo (aM st) ys->Eqs lt ys (lo + (x + 1) - (0 + 1)) (lo + (x + 1)):=fun ys g' p q h1 h2 h3 h4=>by
      have:p=q:=by lia
      subst this;exact irr o (pP g' p (by lia))
     by_cases cq:q > 0
     ·rw[if_pos cq,cW];have hd2:(lo + x - (lo + x - (q + 1))) / 2=(lo + x - (lo + x - (q + 1))) / 2:=rfl;have g2:Gd lo (aM st) (dl xs (lo + x - (q + 1)) (lo + x) ((lo + x - (lo + x - (q + 1))) / 2)):=g.rev (by lia) (by lia) rfl
      have d2:Dn lt (dl xs (lo + x - (q + 1)) (lo + x) ((lo + x - (lo + x - (q + 1))) / 2)) lo (lo + x):=hd.eqs (by lia) he (by lia) rfl
      refine au (cH (aA ⟨_,0,rfl,rfl,by lia,by lia,g2,Dn.more o (i:=lo) (j:=lo + x) (fun p hp=>pP g2 p (by lia)) d2 (by lia) ?_,one _ g2⟩))
      have rv:=rev_at (xs:=xs) (i:=lo + x - (q + 1)) (j:=lo + x) (by lia)
      rw[rv,rv,if_pos ⟨by lia,by lia⟩,if_neg (by lia)]
      exact o.tr (at0 xs (lo + x)) (at0 xs (lo + x - 1)) _ (pP g _ (by lia)) (pP g _ (by lia)) (pP g _ (by lia)) e2 (he _ _ (by lia) (by lia) (by lia) (by lia))
     ·rw[if_neg cq];exact aA ⟨xs,0,rfl,rfl,by lia,by lia,g,Dn.more o (i:=lo) (j:=lo + x) (fun p hp=>pP g p (by lia)) hd (by lia) e2,one _ g⟩
    | false =>
     rw[if_neg (by simp)]
     refine au (wp_ltAt o (i:=lo + x - 1) (j:=lo + x) hk PA g (by lia) (by lia) ?_)
     dsimp only;cases e2:lt (at0 xs (lo + x - 1)) (at0 xs (lo + x)) with
     | true=>rw[if_pos rfl];exact aA ⟨xs,x,q,rfl,rfl,by lia,by lia,hq,g,hd,he⟩
     | false =>
      rw[if_neg (by simp)]
      refine aA ⟨xs,q + 1,rfl,rfl,by lia,by lia,g,Dn.more o (i:=lo) (j:=lo + x) (fun p hp=>pP g p (by lia)) hd (by lia) e2,fun p r h1 h2 h3 h4=>?_⟩
      have pp:∀ p,p<=lo + x->P (at0 xs p):=fun p hp=>pP g p (by lia)
      have low:∀ p,lo + x - (q + 1)<=p->p < lo + x->lt (at0 xs p) (at0 xs (lo + x))=false/\lt (at0 xs (lo + x)) (at0 xs p)=false:=fun p a1 a2=>by
       have b1:=he p (lo + x - 1) a1 a2 (by lia) (by lia)
       have b2:=he (lo + x - 1) p (by lia) (by lia) a1 a2
       exact⟨o.tr _ _ _ (pp _ (by lia)) (pp _ (by lia)) (pp _ (by lia)) e2 b1,o.tr _ _ _ (pp _ (by lia)) (pp _ (by lia)) (pp _ (by lia)) b2 e⟩
      by_cases z1:p=lo + x
      ·by_cases z2:r=lo + x
       ·rw[z1,z2];exact irr o (pp _ (by lia))
       ·rw[z1];exact(low r (by lia) (by lia)).2
      ·by_cases z2:r=lo + x
       ·rw[z2];exact(low p (by lia) (by lia)).1
       ·exact he p r (by lia) (by lia) (by lia) (by lia)
   ·rintro c st' ⟨xs,q,rfl,rfl,x2,hq,g,hd,he⟩;exact⟨xs,_,q,rfl,rfl,by lia,by lia,hq,g,by rwa [show max (1 + 1) nrem=nrem by lia] at hd ⊢,he⟩
   ·rintro c st' ⟨xs,n,q,rfl,rfl,n1,n2,hq,g,hd,he⟩;have hxs:xs.size=(aM st).size:=g.size;dsimp only
    by_cases cq:q > 0
    ·rw[if_pos cq,cW,cW];have g2:Gd lo (aM st) (dl xs (lo + n - (q + 1)) (lo + n) ((lo + n - (lo + n - (q + 1))) / 2)):=g.rev (by lia) (by lia) rfl
     have d2:Dn lt (dl xs (lo + n - (q + 1)) (lo + n) ((lo + n - (lo + n - (q + 1))) / 2)) lo (lo + n):=hd.eqs (by lia) he (by lia) rfl
     have s2:=g2.size;have g3:=g2.rev (i:=lo) (j:=lo + n) (Nat.le_refl _) (by lia) rfl
     have u3:=d2.rev (i:=lo) (j:=lo + n) (by lia) rfl
     refine au (cH (au (cH ?_)));change wpS _ _ _ _ _ _ (cE st (dl (dl xs (lo + n - (q + 1)) (lo + n) ((lo + n - (lo + n - (q + 1))) / 2)) lo (lo + n) ((lo + n - lo) / 2)));generalize dl (dl xs (lo + n - (q + 1)) (lo + n) ((lo + n - (lo + n - (q + 1))) / 2)) lo (lo + n) ((lo + n - lo) / 2)=zs at g3 u3 ⊢;refine au (cV (bO (I:=fun x c st'=>st'=cE st zs/\c=(none,x)/\n<=x/\Up lt (zs) lo (lo + x))
      (Q:=fun c st'=>st'=cE st zs/\∃ n,c=(none,n)/\1<=n/\n<=nrem/\Up lt (zs) lo (lo + n)) ?_ ?_ ⟨rfl,rfl,Nat.le_refl _,u3⟩) ?_)
     ·rintro x c st' _ hx ⟨rfl,rfl,h1,hu⟩;dsimp only;refine au (wp_ltAt o (i:=lo + x) (j:=lo + x - 1) hk PA g3 (by lia) (by lia) ?_)
      dsimp only;cases e:lt (at0 (zs) (lo + x)) (at0 (zs) (lo + x - 1)) with
      | true=>rw[if_pos rfl];exact aA ⟨rfl,x,rfl,by lia,by lia,hu⟩
      | false=>rw[if_neg (by simp)];exact aA ⟨rfl,rfl,by lia,Up.more o (i:=lo) (j:=lo + x) (fun p hp=>pP g3 p (by lia)) hu (by lia) e⟩
     ·rintro c st' ⟨rfl,rfl,h1,hu⟩;exact⟨rfl,_,rfl,by lia,by lia,hu⟩
     ·rintro c st' ⟨rfl,n,rfl,n1,n2,hu⟩;exact aA (h n (zs) n1 n2 g3 hu)
    ·rw[if_neg cq,cW];have g3:=g.rev (i:=lo) (j:=lo + n) (Nat.le_refl _) (by lia) rfl
     have u3:=hd.rev (i:=lo) (j:=lo + n) (by lia) rfl
     refine au (cH ?_);change wpS _ _ _ _ _ _ (cE st (dl xs lo (lo + n) ((lo + n - lo) / 2)));generalize dl xs lo (lo + n) ((lo + n - lo) / 2)=zs at g3 u3 ⊢;refine au (cV (bO (I:=fun x c st'=>st'=cE st zs/\c=(none,x)/\n<=x/\Up lt (zs) lo (lo + x))
      (Q:=fun c st'=>st'=cE st zs/\∃ n,c=(none,n)/\1<=n/\n<=nrem/\Up lt (zs) lo (lo + n)) ?_ ?_ ⟨rfl,rfl,Nat.le_refl _,u3⟩) ?_)
     ·rintro x c st' _ hx ⟨rfl,rfl,h1,hu⟩;dsimp only;refine au (wp_ltAt o (i:=lo + x) (j:=lo + x - 1) hk PA g3 (by lia) (by lia) ?_)
      dsimp only;cases e:lt (at0 (zs) (lo + x)) (at0 (zs) (lo + x - 1)) with
      | true=>rw[if_pos rfl];exact aA ⟨rfl,x,rfl,by lia,by lia,hu⟩
      | false=>rw[if_neg (by simp)];exact aA ⟨rfl,rfl,by lia,Up.more o (i:=lo) (j:=lo + x) (fun p hp=>pP g3 p (by lia)) hu (by lia) e⟩
     ·rintro c st' ⟨rfl,rfl,h1,hu⟩;exact⟨rfl,_,rfl,by lia,by lia,hu⟩
     ·rintro c st' ⟨rfl,n,rfl,n1,n2,hu⟩;exact aA (h n (zs) n1 n2 g3 hu)
end
theorem bub_at {xs:Array aH} {src d:Nat} (hs:src < xs.size) (hd:d<=src) (k:Nat) :
  at0 (bubble xs src d) k=if k=src - d then at0 xs src else if src - d < k/\k<=src then at0 xs (k - 1) else at0 xs k:=by
 have e:=getElem?_bubble hs d hd k
 by_cases h1:k=src - d
 ·rw[if_pos h1] at e ⊢;exact at_of e
 ·rw[if_neg h1] at e ⊢
  by_cases h2:src - d < k/\k<=src
  ·rw[if_pos h2] at e ⊢;exact at_of e
  ·rw[if_neg h2] at e ⊢;exact at_of e
section
variable {prog:ay} {w:aI} {A:a6} {E:ae->ai->Prop} {s:ai} {κ:eM} {P:aH->Prop} {lt:aH->aH->Bool} {st:cG} {lo:Nat}
theorem wp_bin (o:Orc prog w A s κ P lt) {n ok:Nat} {Q:Bool->cG->Prop} (hk:kindOf st=κ) (PA:∀ x∈(aM st).toList,P x) (hs:lo + n<=(aM st).size) (hok:ok<=n) (hu:Up lt (aM st) lo (lo + ok))
  (h:∀ xs,Gd lo (aM st) xs->Up lt xs lo (lo + n)->Q true (cE st xs)):wpS (aF prog w) A E s (binarySort' lo n ok) Q st:=by
 have pP:∀ {xs},Gd lo (aM st) xs->∀ p,p < (aM st).size->P (at0 xs p):=fun g p hp=>(gd_P g PA hp).2;have g0:Gd lo (aM st) (aM st):=⟨jF _,fun _ _=>rfl⟩;rw[binarySort'_eq];refine au (cV (bO (I:=fun k c st'=>∃ xs,st'=cE st xs/\c=(none,())/\Gd lo (aM st) xs/\Up lt xs lo (lo + min k n))
  (Q:=fun c st'=>∃ xs,st'=cE st xs/\c=(none,())/\Gd lo (aM st) xs/\Up lt xs lo (lo + n)) ?step ?fin ?init) ?post)
 case post =>
  rintro c st' ⟨xs,rfl,rfl,g,hu⟩;exact aA (h xs g hu)
 case init =>
  refine⟨aM st,rfl,rfl,g0,fun p q h1 h2 h3=>?_⟩
  by_cases z:ok=0
  ·lia
  ·exact hu p q h1 h2 (by lia)
 case fin =>
  rintro c st' ⟨xs,rfl,rfl,g,hu⟩;refine⟨xs,rfl,rfl,g,?_⟩;rwa [show min (max (max ok 1) n) n=n by lia] at hu
 case step =>
  rintro k c st' hak hkn ⟨xs,rfl,rfl,g,hu⟩;rw[show min k n=k by lia] at hu
  have hxs:xs.size=(aM st).size:=g.size;have pp:∀ p,p < lo + n->P (at0 xs p):=fun p hp=>pP g p (by lia)
  dsimp only;refine au (cV (bO (I:=fun x c st''=>st''=cE st xs/\∃ l r,c=(none,l,r)/\l<=r/\r<=k/\r - l<=k - x /\
    (∀ i,i < l->lt (at0 xs (lo + k)) (at0 xs (lo + i))=false)/\(∀ i,r<=i->i < k->lt (at0 xs (lo + i)) (at0 xs (lo + k))=false))
   (Q:=fun c st''=>st''=cE st xs/\∃ l r,c=(none,l,r)/\l<=k /\
    (∀ i,i < l->lt (at0 xs (lo + k)) (at0 xs (lo + i))=false)/\(∀ i,l<=i->i < k->lt (at0 xs (lo + i)) (at0 xs (lo + k))=false)) ?istep ?ifin ?iinit) ?ipost)
  case iinit=>exact⟨rfl,0,k,rfl,by lia,by lia,by lia,fun i hi=>by lia,fun i h1 h2=>by lia⟩
  case ifin =>
   rintro c st'' ⟨rfl,l,r,rfl,hlr,hrk,hm,hlo,hhi⟩
   have:l=r:=by lia
   subst this;exact⟨rfl,l,l,rfl,hrk,hlo,hhi⟩
  case istep =>
   rintro x c st'' _ hxk ⟨rfl,l,r,rfl,hlr,hrk,hm,hlo,hhi⟩;dsimp only
   by_cases hge:l >= r
   ·rw[if_pos hge]
    have:l=r:=by lia
    subst this;exact aA ⟨rfl,l,l,rfl,hrk,hlo,hhi⟩
   ·rw[if_neg hge];refine au (wp_ltAt o hk PA g (i:=lo + k) (j:=lo + (l + r) / 2) (by lia) (by lia) ?_)
    dsimp only;cases e:lt (at0 xs (lo + k)) (at0 xs (lo + (l + r) / 2)) with
    | true =>
     rw[if_pos rfl];refine aA ⟨rfl,l,(l + r) / 2,rfl,by lia,by lia,by lia,hlo,fun i h1 h2=>?_⟩
     have e2:=o.as _ _ (pp _ (by lia)) (pp _ (by lia)) e
     rcases Nat.eq_or_lt_of_le h1 with z | z
     ·rw[<- z];exact e2
     ·exact o.tr _ _ _ (pp _ (by lia)) (pp (lo + (l + r) / 2) (by lia)) (pp _ (by lia)) e2 (hu _ _ (by lia) (by lia) (by lia))
    | false =>
     rw[if_neg (by simp)]
     refine aA ⟨rfl,(l + r) / 2 + 1,r,rfl,by lia,by lia,by lia,fun i h1=>?_,hhi⟩
     rcases Nat.eq_or_lt_of_le (show i<=(l + r) / 2 by lia) with z | z
     ·rw[z];exact e
     ·exact o.tr _ _ _ (pp _ (by lia)) (pp (lo + (l + r) / 2) (by lia)) (pp _ (by lia)) (hu _ _ (by lia) (by lia) (by lia)) e
  case ipost =>
   rintro c st'' ⟨rfl,l,r,rfl,hlk,hlo,hhi⟩;show wpS _ _ _ _ (do moveDown' (lo + k) (lo + l);pure (bp (none,()))) _ _
   rw[moveDown'_eq];have hks:lo + k < xs.size:=by lia
   have ed:lo + k - (lo + l)=k - l:=by lia
   refine au (cH (aA ⟨bubble xs (lo + k) (lo + k - (lo + l)),rfl,rfl,⟨(bubble_perm _ _ _).trans g.1,fun i hi=>?_⟩,?_⟩))
   ·rw[getElem?_bubble hks _ (by lia),if_neg (by lia),if_neg (by lia)]
    exact g.2 i hi
   ·rw[show min (k + 1) n=k + 1 by lia]
    intro p q h1 h2 h3;rw[bub_at hks (by lia),bub_at hks (by lia),show lo + k - (lo + k - (lo + l))=lo + l by lia]
    have hlo':∀ i,lo<=i->i < lo + l->lt (at0 xs (lo + k)) (at0 xs i)=false:=fun i a b=>by
     have:=hlo (i - lo) (by lia)
     rwa [show lo + (i - lo)=i by lia] at this
    have hhi':∀ i,lo + l<=i->i < lo + k->lt (at0 xs i) (at0 xs (lo + k))=false:=fun i a b=>by
     have:=hhi (i - lo) (by lia) (by lia)
     rwa [show lo + (i - lo)=i by lia] at this
    repeat' split
    all_goals first
     | (exfalso;lia)
     | exact hlo' _ (by lia) (by lia)
     | exact hhi' _ (by lia) (by lia)
     | exact hu _ _ (by lia) (by lia) (by lia)
end
def offs:Nat->List (List aH)->List (Nat × Nat)
 | _,[]=>[]
 | k,s::ss=>(k,s.length)::offs (k + s.length) ss
theorem offs_len:∀ k ss,(offs k ss).length=ss.length
 | _,[]=>rfl
 | k,s::ss=>by simp[offs,offs_len]
theorem offs_app:∀ k (s1 s2:List (List aH)),offs k (s1++s2)=offs k s1++offs (k + s1.flatten.length) s2
 | k,[],s2=>by simp[offs]
 | k,s::s1,s2=>by simp[offs,offs_app,Nat.add_assoc]
def sl (x:Nat × Nat × Nat):Nat × Nat:=(x.1,x.2.1)
structure Pn (κ:eM) (P:aH->Prop) (lt:aH->aH->Bool) (a0:List aH) (st:cG) (segs:List (List aH)) (rest:List aH):Prop where
 kind:kindOf st=κ
 fl:ft st=none
 arr:(aM st).toList=segs.flatten++rest
 perm:(aM st).toList.Perm a0
 sd:∀ sg∈segs,Sd lt sg/\sg≠[]
 pd:(bK st).toList.map sl=offs 0 segs
section
variable {prog:ay} {w:aI} {A:a6} {E:ae->ai->Prop} {s:ai} {κ:eM} {P:aH->Prop} {lt:aH->aH->Bool} {st:cG} {a0 rest:List aH} {segs:List (List aH)}
theorem Pn.psize (h:Pn κ P lt a0 st segs rest):(bK st).size=segs.length:=by
 have:=congrArg eE h.pd
 rwa [ap,offs_len,bf] at this
theorem Pn.size (h:Pn κ P lt a0 st segs rest):(aM st).size=a0.length:=by rw[<- bf];exact h.perm.length_eq
theorem Pn.room (h:Pn κ P lt a0 st segs rest):segs.flatten.length + rest.length=a0.length:=by rw[<- az,<- h.arr];exact h.perm.length_eq
theorem wp_mIn (o:Orc prog w A s κ P lt) (PA:∀ x∈a0,P x) (h:Pn κ P lt a0 st segs rest) {i:Nat} (hi:i + 1 < segs.length) {Q:Bool->cG->Prop}
  (hq:∀ st' segs',Pn κ P lt a0 st' segs' rest->segs'.length + 1=segs.length->segs'.flatten.length=segs.flatten.length->Q true st'):wpS (aF prog w) A E s (mergeAt' i) Q st:=by
 obtain⟨S1,Aa,Bb,S2,rfl,rfl⟩:∃ S1 Aa Bb S2,segs=S1++Aa::Bb::S2/\S1.length=i:=by
  refine⟨segs.take i,segs[i],segs[i + 1],segs.drop (i + 2),?_,by rw[aS];lia⟩
  rw[<- cM hi,<- cM (by lia),bE]
 have hpd:=h.pd;rw[offs_app,Nat.zero_add] at hpd;obtain⟨p1,p2',e1,e2,e3⟩:=List.map_eq_append_iff.mp hpd;simp only[offs] at e3;obtain⟨x,p2'',rfl,ex,e4⟩:=List.map_eq_cons_iff.mp e3;obtain⟨y,p2,rfl,ey,e5⟩:=List.map_eq_cons_iff.mp e4;have lp1:p1.length=S1.length:=by rw[<- ap (f:=sl),e2,offs_len]
 have g1:(bK st)[S1.length]?=some (S1.flatten.length,Aa.length,x.2.2):=by
  rw[<- aQ,e1,<- lp1,bL (Nat.le_refl _),Nat.sub_self,jh];obtain⟨x1,x2,x3⟩:=x;cases ex;rfl
 have g2:(bK st)[S1.length + 1]?=some (S1.flatten.length + Aa.length,Bb.length,y.2.2):=by
  rw[<- aQ,e1,<- lp1,bL (by lia),Nat.add_sub_cancel_left,i9,jh]
  obtain⟨y1,y2,y3⟩:=y;cases ey;rfl
 have sA:=h.sd Aa (by simp)
 have sB:=h.sd Bb (by simp)
 have hl:(aM st).toList=S1.flatten++(Aa++(Bb++(S2.flatten++rest))):=by rw[h.arr];simp
 have pm:∀ x∈Aa++Bb,P x:=fun x hx=>PA x (h.perm.mem_iff.mp (by rw[hl];simp at hx ⊢;grind))
 refine wp_mAt o h.kind h.fl g1 g2 rfl hl rfl rfl rfl (db.mpr sA.2) (db.mpr sB.2) (fun x hx=>pm x (cF _ hx)) (fun x hx=>pm x (bj _ hx)) sA.1 sB.1 fun C g xs hx hC hp=>?_;have lC:=hp.length_eq;rw[az] at lC;refine hq _ (S1++C::S2) ⟨rfl,rfl,?_,?_,fun sg hsg=>?_,?_⟩ (by simp only[az,aO];lia) (by simp;lia)
 ·show xs.toList=_;rw[hx];simp
 ·show xs.toList.Perm _;refine jQ.trans ?_ h.perm;rw[hx,hl];refine er _ ?_
  have:=dY (S2.flatten++rest) hp
  rwa [aR Aa] at this
 ·rcases aU.mp hsg with z | z
  ·exact h.sd sg (by simp[z])
  ·rcases aB.mp z with rfl | z
   ·exact⟨hC,fun e=>by
     have:=db.mpr sA.2
     rw[e] at lC;simp at lC;lia⟩
   ·exact h.sd sg (by simp[z])
 ·show(((bK st).setIfInBounds S1.length (S1.flatten.length,Aa.length + Bb.length,x.2.2)).eraseIdxIfInBounds (S1.length + 1)).toList.map sl=_;rw[Array.toList_eraseIdxIfInBounds,iB,e1,<- lp1,List.set_append_right _ _ (Nat.le_refl _),Nat.sub_self,List.set_cons_zero,List.eraseIdx_append_of_length_le (by lia),Nat.add_sub_cancel_left,List.eraseIdx_cons_succ,List.eraseIdx_cons_zero,br,aG,e2,e5,offs_app]
  simp[offs,sl,lC,Nat.add_assoc]
theorem Pn.next (h:Pn κ P lt a0 st segs rest) {xs:Array aH} {n:Nat} (hn:1<=n) (hs:segs.flatten.length + n<=a0.length) (g:Gd segs.flatten.length (aM st) xs) (hu:Up lt xs segs.flatten.length (segs.flatten.length + n)) :
  ∃ sg rest',sg.length=n/\Sd lt sg/\sg≠[]/\Pn κ P lt a0 (cE st xs) segs (sg++rest'):=by
 have hz:xs.toList.length=a0.length:=by rw[bf,g.size,h.size]
 have tk:xs.toList.take segs.flatten.length=segs.flatten:=by
  have:(aM st).toList.take segs.flatten.length=segs.flatten:=by rw[h.arr,dM (Nat.le_refl _),b5]
  rw[<- this];refine gk fun i=>?_;rw[List.getElem?_take,List.getElem?_take,this]
  split
  ·next hi=>rw[aQ,aQ];exact g.2 i hi
  ·rfl
 refine⟨(xs.toList.drop segs.flatten.length).take n,(xs.toList.drop segs.flatten.length).drop n,by rw[aS,bB];lia,?_,fun e=>?_,h.kind,h.fl,?_,?_,h.sd,h.pd⟩
 ·refine bT.mpr fun i j hi hj hij=>?_;rw[aS,bB] at hi hj
  have:=hu (segs.flatten.length + i) (segs.flatten.length + j) (by lia) (by lia) (by lia)
  have ea:∀ k,segs.flatten.length + k < xs.toList.length->∀ hk,((xs.toList.drop segs.flatten.length).take n)[k]'hk=at0 xs (segs.flatten.length + k):=fun k h1 hk=>by
   rw[gn,gp];unfold at0;rw[<- aQ,ag h1]
   rfl
  rw[ea i (by lia),ea j (by lia)]
  exact this
 ·have:=congrArg eE e
  rw[aS,bB,b4] at this;lia
 ·show xs.toList=_;rw[bE]
  conv=>lhs;rw[<- bE segs.flatten.length xs.toList,tk]
 ·exact(cI.mp g.1).trans h.perm
theorem Pn.push {sg rest':List aH} (h:Pn κ P lt a0 st segs (sg++rest')) (hs:Sd lt sg) (hne:sg≠[]) {lo n:Nat} (hlo:segs.flatten.length=lo) (hn:sg.length=n):Pn κ P lt a0 (fw st ((bK st).push (lo,n,0))) (segs++[sg]) rest':=by
 subst hlo hn;refine⟨h.kind,h.fl,?_,h.perm,fun x hx=>?_,?_⟩
 ·show(aM st).toList=_;rw[h.arr];simp
 ·rcases aU.mp hx with z | z
  ·exact h.sd x z
  ·rw[aN.mp z];exact⟨hs,hne⟩
 ·show((bK st).push _).toList.map sl=_;rw[cj,br,h.pd,offs_app];simp[offs,sl]
theorem Pn.repow (h:Pn κ P lt a0 st segs rest) (i pw:Nat):Pn κ P lt a0 (fw st ((bK st).modify i fun x=>(x.1,x.2.1,pw))) segs rest:=by
 refine⟨h.kind,h.fl,h.arr,h.perm,h.sd,?_⟩;show((bK st).modify i _).toList.map sl=_;rw[<- h.pd,Array.toList_modify];refine gk fun j=>?_;rw[aJ,aJ,List.getElem?_modify]
 by_cases c:i=j
 ·simp only[c,if_true];cases (bK st).toList[j]? <;> rfl
 ·simp only[c,if_false];cases (bK st).toList[j]? <;> rfl
theorem flat_len:∀ (ss:List (List aH)),(∀ sg∈ss,sg≠[])->ss.length<=ss.flatten.length
 | [],_=>Nat.le_refl _
 | s::ss,h=>by
  have:=flat_len ss fun x hx=>h x (.tail _ hx)
  have:=db.mpr (h s (.head _))
  rw[List.flatten_cons,az,aO];lia
end
section
variable {prog:ay} {w:aI} {A:a6} {E:ae->ai->Prop} {s:ai} {κ:eM} {P:aH->Prop} {lt:aH->aH->Bool} {st:cG} {a0 rest:List aH} {segs:List (List aH)}
theorem wp_runs (o:Orc prog w A s κ P lt) (PA:∀ x∈(aM st).toList,P x) (hk:kindOf st=κ) (hf:ft st=none) (hp:bK st=#[]) {Q:Unit->cG->Prop}
  (h:∀ st',(aM st').toList.Perm (aM st).toList->ft st'=none->Sd lt (aM st').toList->Q () st'):wpS (aF prog w) A E s sortRuns' Q st:=by
 have h0:Pn κ P lt (aM st).toList st [] (aM st).toList:=⟨hk,hf,rfl,da _,fun _ hx=>absurd hx d5,by rw[hp];rfl⟩
 have pA:∀ {st' segs rest},Pn κ P lt (aM st).toList st' segs rest->∀ x∈(aM st').toList,P x:=fun I x hx=>PA x (I.perm.mem_iff.mp hx);rw[sortRuns'_eq];refine au (hJ ?_);dsimp only;have lz:(aM st).toList.length=(aM st).size:=bf;refine au (cV (bO
  (I:=fun x c st'=>∃ segs rest,c=(none,segs.flatten.length)/\Pn κ P lt (aM st).toList st' segs rest/\x<=segs.flatten.length)
  (Q:=fun c st'=>∃ segs,c=(none,segs.flatten.length)/\Pn κ P lt (aM st).toList st' segs []) ?step ?fin ⟨[],_,rfl,h0,Nat.le_refl _⟩) ?post)
 case fin =>
  rintro c st' ⟨segs,rest,rfl,I,hx⟩;have r:=I.room;obtain rfl:rest=[]:=cu (by lia)
  exact⟨segs,rfl,I⟩
 case post =>
  rintro c st' ⟨segs,rfl,I⟩;have r:=I.room;rw[b4] at r;have fl:=flat_len segs fun sg hsg=>(I.sd sg hsg).2;dsimp only;refine au (cV (bO (I:=fun x c st'=>∃ segs,c=(none,())/\Pn κ P lt (aM st).toList st' segs []/\(segs.length<=1\/segs.length + x<=(aM st).size))
   (Q:=fun c st'=>∃ segs,c=(none,())/\Pn κ P lt (aM st).toList st' segs []/\segs.length<=1) ?_ ?_ ⟨segs,rfl,I,by lia⟩) ?_)
  ·rintro x c st' _ hx ⟨segs,rfl,I,hc⟩;refine au (hJ ?_);have hps:=I.psize
   by_cases c1:(bK st').size<=1
   ·rw[if_pos c1];exact aA ⟨segs,rfl,I,by lia⟩
   ·rw[if_neg c1];have hi:∀ b:Bool,(if b=true then (bK st').size - 2 - 1 else (bK st').size - 2) + 1 < segs.length:=fun b=>by split <;> lia
    refine au (wp_mIn o PA I (hi _) fun st2 segs2 I2 l2 _=>?_);exact aA ⟨segs2,rfl,I2,by lia⟩
  ·rintro c st' ⟨segs,rfl,I,hc⟩;exact⟨segs,rfl,I,by lia⟩
  ·rintro c st' ⟨segs,rfl,I,hc⟩;refine aA (h st' I.perm I.fl ?_);rw[I.arr,bR]
   match segs,hc,I with
   | [],_,_=>exact gi
   | [sg],_,I=>rw[dZ];exact(I.sd sg (.head _)).1
 case step =>
  rintro x c st' _ hx ⟨segs,rest,rfl,I,hxs⟩;have r:=I.room;have sz:=I.size;dsimp only
  by_cases c1:segs.flatten.length >= (aM st).size
  ·rw[if_pos c1];obtain rfl:rest=[]:=cu (by lia)
   exact aA ⟨segs,rfl,I⟩
  rw[if_neg c1];refine au (wp_cnt o I.kind (pA I) (lo:=segs.flatten.length) (by lia) (by lia) fun n xs n1 n2 g hu=>?_)
  dsimp only
  by_cases c2:n < minRun' (aM st).size (aM st).size 0
  rw[if_pos c2];refine au (iA (d9 ⟨rfl,?_⟩));refine au (wp_bin o (st:=cE st' xs) I.kind (fun x hx=>pA I x ((cI.mp g.1).mem_iff.mp hx)) (by have:=g.size;show _<=xs.size;lia) (by lia) hu fun ys g2 hu2=>?_)
  rw[if_neg (by simp)]
  obtain⟨sg,rest',ls,hs,hne,I2⟩:=I.next (by lia) (by lia) ⟨g2.1.trans g.1,fun i hi=>(g2.2 i hi).trans (g.2 i hi)⟩ hu2
  change Pn κ P lt _ (cE (cE st' xs) ys) _ _ at I2
  rotate_left
  rw[if_neg c2];obtain⟨sg,rest',ls,hs,hne,I2⟩:=I.next n1 (by lia) g hu
  all_goals
   have lp:=db.mpr hne;refine au (hJ ?_)
   split
   next s1 n1' _ hb =>
    refine au (cV (bO (I:=fun _ c st''=>∃ segs2,c=(none,())/\Pn κ P lt (aM st).toList st'' segs2 (sg++rest')/\segs2.flatten.length=segs.flatten.length)
     (Q:=fun c st''=>∃ segs2,c=(none,())/\Pn κ P lt (aM st).toList st'' segs2 (sg++rest')/\segs2.flatten.length=segs.flatten.length) ?_ (fun _ _ hh=>hh) ⟨segs,rfl,I2,rfl⟩) ?_)
    ·rintro y c st2 _ hy ⟨segs2,rfl,I3,l3⟩;refine au (hJ ?_);have hps:=I3.psize
     split
     next older he =>
      have hgt:(bK st2).size > 1:=by
       by_cases z:(bK st2).size > 1
       ·exact z
       ·rw[if_neg z] at he;cases he
      split
      ·exact aA ⟨segs2,rfl,I3,l3⟩
      ·refine au (wp_mIn o PA I3 (by lia) fun st4 segs4 I4 _ l4=>?_)
       exact aA ⟨segs4,rfl,I4,l4.trans l3⟩
     next=>exact aA ⟨segs2,rfl,I3,l3⟩
    ·rintro c st2 ⟨segs2,rfl,I3,l3⟩;dsimp only;refine au (cH (au (cH (aA ⟨segs2++[sg],rest',?_,(I3.repow _ _).push hs hne l3 ls,?_⟩))))
     ·rw[fI,az,dZ,ls,l3]
     ·rw[fI,az,dZ,l3];lia
   next =>
    refine au (cH (aA ⟨segs++[sg],rest',?_,I2.push hs hne rfl ls,?_⟩))
    ·rw[fI,az,dZ,ls]
    ·rw[fI,az,dZ];lia
end
theorem mem_zip_same {α:Type}:∀ {l:List α} {x y:α},(x,y)∈l.zip l->x=y/\x∈l
 | a::l,x,y,h=>by
  rw[dF] at h;rcases aB.mp h with e | h
  ·cases e;exact⟨rfl,.head _⟩
  ·exact⟨(mem_zip_same h).1,.tail _ (mem_zip_same h).2⟩
section
variable {prog:ay} {w:aI} {A:a6} {E:ae->ai->Prop} {s:ai}
theorem short_pw {α:Type} {R:α->α->Prop}:∀ l:List α,l.length < 2->l.Pairwise R
 | [],_=>.nil
 | [x],_=>bt _ _
theorem sort_any {a:Addr} {vs:List ae} {n:Nat} {P:hZ->ai->Prop} (lt:ae->ae->Bool) (hz:vs.length<=sizeLine) (ho:s.heap.get? a=some (cz "list" vs.toArray n))
  (H:∀ h2:be,(∀ b o,b≠a->s.heap.get? b=some o->h2.get? b=some o)->2<=vs.length->∀ (Q:eM->ai->Prop),(∀ κ,Orc prog w A { s with heap:=h2 } κ (fun x=>x.1∈vs) (fun x y=>lt x.1 y.1)->Q κ { s with heap:=h2 })->aE (aF prog w) A (keyKind' vs.toArray) Q E { s with heap:=h2 })
  (h:∀ xs:Array aH,xs.Perm (gM vs)->xs.toList.Pairwise (fun x y=>lt y.1 x.1=false)->P (.done (.ret .none)) { s with heap:=iC s.heap a vs (xs.map (·.2)) }) :
  aE (aF prog w) A (b6.«list.sort» ⟨[.ref a],[]⟩) P E s:=by
 rw[list_sort_plain];have ha:a < s.heap.objs.size:=aC ho;refine ad (listItems_at ho rfl ?_);refine ad (listUpdate_at ho rfl ?_ (by rw[aq];exact hz) (Nat.zero_le _))
 obtain⟨e1,ho1⟩:∃ e1,(s.heap.update a (b9 fun _=>#[])).get? a=some (cz "list" #[] e1):=⟨_,fU ho (fun _=>#[])⟩;refine ad (seqEpoch_at ho1 rfl ?_);refine ad (wpAny_newTuple ?_ (by show vs.length<=_;exact hz))
 refine ad (wpAny_newList ?_ (Nat.zero_le _));refine cO ?_;have sb:=cf s.heap a (b9 fun _=>(#[]:Array ae));have ho6:(((s.heap.update a (b9 fun _=>#[])).push (cz "tuple" vs.toArray 0)).push (cz "list" #[] 0)).get? a=some (cz "list" #[] e1):=ah _ (ah _ ho1);have kp:∀ b o,b≠a->s.heap.get? b=some o->(((s.heap.update a (b9 fun _=>#[])).push (cz "tuple" vs.toArray 0)).push (cz "list" #[] 0)).get? b=some o:=fun b o hb e=>ah _ (ah _ ((sb.2 b hb).trans e));show aE (aF prog w) A _ P E { s with heap:=((s.heap.update a (b9 fun _=>#[])).push (cz "tuple" vs.toArray 0)).push (cz "list" #[] 0) }
 dsimp only;have pz:(gM vs).size=vs.length:=pairsOf_size vs
 by_cases h2:vs.toArray.size < 2
 ·rw[if_pos h2,if_pos h2];refine ad (af ?_);rw[StateT.run_pure];refine ad (af ?_);dsimp only;refine ad (seqEpoch_at ho6 rfl ?_);refine ad (listUpdate_at ho6 rfl ?_ (Nat.zero_le _) (by rw[jO];show(gM vs).size<=_;rw[pz];exact Nat.le_succ_of_le hz))
  simp only[bne_self_eq_false,aL,if_false];refine af (h (gM vs) (jF _) ?_)
  have:(gM vs).toList.length < 2:=by rw[bf,pz];simpa using h2
  exact short_pw _ this
 ·rw[if_neg h2,if_neg h2];refine ad (H _ kp (by simpa using h2) _ fun κ o=>?_)
  refine ad (d7 (wp_runs o (st:=iz κ (vs.toArray.zip vs.toArray) #[] 7 none) (Q:=fun _ st'=>(aM st').toList.Perm (gM vs).toList/\ft st'=none/\Sd (fun x y:aH=>lt x.1 y.1) (aM st').toList)
   (fun x hx=>(mem_zip_same (x:=x.1) (y:=x.2) (by rw[<- iD];exact hx)).2) rfl rfl rfl fun st' a1 a2 a3=>⟨a1,a2,a3⟩) ?_ fun _ _ e=>e)
  rintro⟨⟨⟩,st'⟩ s' ⟨rfl,hp,hf,hs⟩;dsimp only;refine ad (seqEpoch_at ho6 rfl ?_);refine ad (listUpdate_at ho6 rfl ?_ (Nat.zero_le _) (by rw[jO,<- bf,hp.length_eq,bf,pz];exact Nat.le_succ_of_le hz))
  rw[hf];simp only[bne_self_eq_false,aL,if_false];exact af (h _ (cI.mpr hp) hs)
theorem treeK {κ:KeyKind} (hO:κ.OneLt) {a:Addr} {vs:List ae} {n:Nat} {P:hZ->ai->Prop} (ho:s.heap.get? a=some (cz "list" vs.toArray n))
  (h0:KeysOf κ (gM vs)) (hkk:∀ v₁ v₂ rest,vs=v₁::v₂::rest->keyKind' (v₁::v₂::rest).toArray=pure oneType') (hz:vs.length<=sizeLine)
  (h:∀ st':cG,(aM st').Perm (gM vs)->SortedToK κ (aM st') (gM vs).size->P (.done (.ret .none)) { s with heap:=iC s.heap a vs ((aM st').map (·.2)) }) :
  aE (aF prog w) A (b6.«list.sort» ⟨[.ref a],[]⟩) P E s:=by
 have key:∀ v∈vs,∃ x,κ.keyOf v=some x:=fun v hv=>h0 (v,v) (by
  rw[iD];obtain⟨i,hi,e⟩:=bn hv;exact gR.mpr ⟨i,by simpa using hi,by simp[e]⟩)
 refine sort_any (fun u v=>κ.blt ((κ.keyOf u).getD κ.dflt) ((κ.keyOf v).getD κ.dflt)) hz ho (fun h2 kp h2l Q hq=>?_) fun xs hp hs=>h (iz oneType' xs #[] 7 none) hp fun i j hij hj=>?_
 ·obtain⟨v₁,v₂,rest,rfl⟩:∃ v₁ v₂ rest,vs=v₁::v₂::rest:=by
   match vs,h2l with
   | v₁::v₂::rest,_=>exact⟨v₁,v₂,rest,rfl⟩
  rw[hkk _ _ _ rfl];refine af (hq _ ⟨fun x y Q hx hy q=>?_,fun x y _ _ e=>KeyOrd.klt_asymm e,fun x y z _ _ _ e1 e2=>KeyOrd.kle_trans e1 e2⟩);obtain⟨p,hp⟩:=key _ hx;obtain⟨p',hp'⟩:=key _ hy;rw[keyLt'_oneType];refine hO _ _ _ _ _ _ _ p p' hp hp' ?_;rw[hp,hp'] at q;exact q
 ·show κ.kle (KK κ xs i) (KK κ xs j);rcases Nat.eq_or_lt_of_le hij with rfl | hlt
  ·exact KeyOrd.kle_refl _
  ·have sz:=hp.size_eq;have ei:∀ k (hk:k < xs.size),KK κ xs k=(κ.keyOf (xs.toList[k]'(by simpa using hk)).1).getD κ.dflt:=fun k hk=>by
    unfold KK;rw[<- aQ,ag (by simpa using hk)]
   rw[ei i (by lia),ei j (by lia)]
   exact bT.mp hs i j (by simp;lia) (by simp;lia) hlt
def iv:ae->Int
 | .int n _=>n
 | _=>0
theorem treeI {a:Addr} {vs:List ae} {ns:List Int} {n:Nat} {P:hZ->ai->Prop} (ho:s.heap.get? a=some (cz "list" vs.toArray n)) (hI:gZ vs ns) (hz:vs.length<=sizeLine)
  (h:∀ (out:Array ae) (ns':List Int),gZ out.toList ns'->ns'.Perm ns->ns'.Pairwise (·<=·)->P (.done (.ret .none)) { s with heap:=iC s.heap a vs out }) :
  aE (aF prog w) A (b6.«list.sort» ⟨[.ref a],[]⟩) P E s:=by
 have key:∀ v∈vs,∃ x t,v=.int x t:=fun v hv=>hI.intKeys (v,v) (by
  rw[iD];obtain⟨i,hi,e⟩:=bn hv;exact gR.mpr ⟨i,by simpa using hi,by simp[e]⟩)
 refine sort_any (fun u v=>decide (iv u < iv v)) hz ho (fun h2 kp h2l Q hq=>?_) fun xs hp hs=>?_
 ·obtain⟨v₁,v₂,rest,rfl⟩:∃ v₁ v₂ rest,vs=v₁::v₂::rest:=by
   match vs,h2l with
   | v₁::v₂::rest,_=>exact⟨v₁,v₂,rest,rfl⟩
  rw[keyKind_ints hI];refine af (hq _ ⟨fun x y Q hx hy q=>?_,fun x y _ _ e=>by simp at e ⊢;lia,fun x y z _ _ _ e1 e2=>by simp at e1 e2 ⊢;lia⟩)
  obtain⟨p,t,hp⟩:=key _ hx;obtain⟨p',t',hp'⟩:=key _ hy;rw[keyLt'_oneType];rw[hp,hp'] at q ⊢;exact oneLt_int q
 ·have sz:=hp.size_eq;obtain⟨ns',h1,h2,h3⟩:=sorted_out hI hp (fun i j hij hj=>by
   rcases Nat.eq_or_lt_of_le hij with rfl | hlt
   ·exact Int.le_refl _
   ·have ei:∀ k (hk:k < xs.size),K xs k=iv (xs.toList[k]'(by simpa using hk)).1:=fun k hk=>by
     have hm:xs.toList[k]'(by simpa using hk)∈(gM vs).toList:=(cI.mp hp).mem_iff.mp (d6 _)
     obtain⟨p,t,e⟩:=hI.intKeys _ hm;unfold K;rw[<- aQ,ag (by simpa using hk)]
     generalize xs.toList[k]'(by simpa using hk)=z at e
     obtain⟨z1,z2⟩:=z;cases e
     rfl
    rw[ei i (by lia),ei j (by lia)]
    have:=bT.mp hs i j (by simp;lia) (by simp;lia) hlt
    have:=of_decide_eq_false this
    lia)
  exact h _ ns' h1 h2 h3
end
end SF
set_option maxHeartbeats 1000000
namespace HT
open PySem
theorem ltS_tot {a b:Str} (h:ltS a b=false) (hne:a≠b):ltS b a=true:=by
 unfold ltS at *
 refine decide_eq_true ?_;have h1:=of_decide_eq_false h;refine aK fun h2=>hne ?_;have e:a.cps.toList=b.cps.toList:=List.le_antisymm (List.not_lt.mp h2) (List.not_lt.mp h1);cases a;cases b
 congr 1
 exact Array.toList_inj.mp e
theorem ltS_tr {a b c:Str} (h:ltS a b=true) (h':ltS b c=true):ltS a c=true:=decide_eq_true (List.lt_trans (of_decide_eq_true h) (of_decide_eq_true h'))
theorem ltS_ir (a:Str):ltS a a=false:=decide_eq_false (List.lt_irrefl _)
theorem ltS_as {a b:Str} (h:ltS a b=true):ltS b a=false:=decide_eq_false (List.lt_asymm (of_decide_eq_true h))
theorem lexS_tot:∀ {a b:List Str},lexS a b=false->a≠b->lexS b a=true
 | [],[],_,h=>absurd rfl h
 | [],_::_,h,_=>by cases h
 | _::_,[],_,_=>rfl
 | x::xs,y::ys,h,hne=>by
  rw[lexS_cons] at h ⊢
  by_cases e:x=y
  ·rw[if_pos e] at h;rw[if_pos e.symm];exact lexS_tot h fun z=>hne (by rw[e,z])
  ·rw[if_neg e] at h;rw[if_neg fun z=>e z.symm];exact ltS_tot h e
theorem lexS_as:∀ {a b:List Str},lexS a b=true->lexS b a=false
 | [],[],h=>by cases h
 | [],_::_,_=>rfl
 | _::_,[],h=>by cases h
 | x::xs,y::ys,h=>by
  rw[lexS_cons] at h ⊢
  by_cases e:x=y
  ·rw[if_pos e] at h;rw[if_pos e.symm];exact lexS_as h
  ·rw[if_neg e] at h;rw[if_neg (fun z=>e z.symm)];exact ltS_as h
theorem lexS_tr:∀ {a b c:List Str},lexS a b=true->lexS b c=true->lexS a c=true
 | [],[],_,h,_=>by cases h
 | [],_::_,[],_,h=>by cases h
 | [],_::_,_::_,_,_=>rfl
 | _::_,[],_,h,_=>by cases h
 | _::_,_::_,[],_,h=>by cases h
 | x::xs,y::ys,z::zs,h,h'=>by
  rw[lexS_cons] at h h' ⊢
  by_cases e:x=y
  ·subst e;rw[if_pos rfl] at h
   by_cases e':x=z
   ·rw[if_pos e'] at h' ⊢;exact lexS_tr h h'
   ·rw[if_neg e'] at h' ⊢;exact h'
  ·rw[if_neg e] at h
   by_cases e':y=z
   ·subst e';rw[if_neg e];exact h
   ·rw[if_neg e'] at h';have hxz:=ltS_tr h h'
    have:x≠z:=by rintro rfl;rw[ltS_ir] at hxz;cases hxz
    rw[if_neg this];exact hxz
end HT
namespace KS
open PySem PySem.W PyProof.Rows
theorem paired_idx {α β:Type} {F:α->β->Prop} {l:List α} {m:List β} (p:aZ F l m) (a:α) (b:β):∀ (idx:List Nat),(∀ i∈idx,i < l.length)->aZ F (idx.map fun i=>l.getD i a) (idx.map fun i=>m.getD i b)
 | [],_=>.nil
 | i::idx,h=>by
  refine .cons ?_ (paired_idx p a b idx fun j hj=>h j (ao _ hj));have hi:=h i am;obtain⟨y,hy,hf⟩:=L2.Paired.get' p (ag hi);show F (l.getD i a) (m.getD i b);rw[aj,aj,hy,ag hi];exact hf
theorem TS.keep {h h':be} {v:ae} {d:List Str} (t:TS h v d) (k:∀ b o,h.get? b=some o->o.cls=.type "tuple"->h'.get? b=some o):TS h' v d:=by
 obtain⟨b,items,e,⟨o,ho,hc,r⟩,p⟩:=t;exact⟨b,items,e,⟨o,k b o ho hc,hc,r⟩,p⟩
section
variable {prog:ay} {w:aI} {A:a6} {E:ae->ai->Prop} {s:ai}
theorem TS.uniq {h:be} {v:ae} {d d':List Str} (t:TS h v d) (t':TS h v d'):d=d':=by
 obtain⟨b,items,rfl,⟨o,ho,hc,n,hd⟩,p⟩:=t;obtain⟨b',items',e,⟨o',ho',hc',n',hd'⟩,p'⟩:=t';cases e;rw[ho] at ho';cases ho';rw[hd] at hd';cases hd';clear hd ho hc hc';have go:∀ {l:List ae} {d d':List Str},HT.SAre l d->HT.SAre l d'->d=d':=by
  intro l d d' p
  induction p generalizing d' with
  | nil=>intro q;cases q;rfl
  | cons z _ ih =>
   intro q;cases q with
   | cons z' q' =>
    obtain⟨t,e⟩:=z;obtain⟨t',e'⟩:=z';rw[e] at e';cases e';rw[ih q']
 exact go p p'
open Classical in
noncomputable def dec (h:be) (v:ae):List Str:=if e:∃ d,TS h v d then e.choose else []
theorem dec_eq {h:be} {v:ae} {d:List Str} (t:TS h v d):dec h v=d:=by
 unfold dec;have e:∃ d,TS h v d:=⟨d,t⟩;rw[dif_pos e];exact e.choose_spec.uniq t
theorem lexS_ge {a b c:List Str} (h1:HT.lexS b a=false) (h2:HT.lexS c b=false):HT.lexS c a=false:=by
 cases e:HT.lexS c a with
 | false=>rfl
 | true =>
  by_cases z:b=a
  ·subst z;rw[h2] at e;cases e
  ·have:=HT.lexS_tr e (HT.lexS_tot h1 z)
   rw[h2] at this;cases this
theorem perm_map {α β:Type} {f:α->β} {l:List β} {k:List β} (h:l.Perm k):∀ {m:List α},k=m.map f->∃ m':List α,m'.Perm m/\l=m'.map f:=by
 induction h with
 | nil=>exact fun e=>⟨_,da _,e⟩
 | cons x _ ih =>
  intro m e;cases m with
  | nil=>cases e
  | cons a m =>
   rw[aG] at e;injection e with e1 e2
   obtain⟨m',p,q⟩:=ih e2;exact⟨a::m',p.cons a,by rw[aG,q,e1]⟩
 | swap x y l =>
  intro m e;cases m with
  | nil=>cases e
  | cons a m =>
   cases m with
   | nil=>simp at e
   | cons b m =>
    rw[aG,aG] at e;injection e with e1 e2
    injection e2 with e2 e3
    exact⟨b::a::m,.swap _ _ _,by rw[aG,aG,e1,e2,e3]⟩
 | trans p q ih1 ih2 =>
  intro m e;obtain⟨m1,q1,e1⟩:=ih2 e;obtain⟨m2,q2,e2⟩:=ih1 e1;exact⟨m2,q2.trans q1,e2⟩
theorem idx_map {α:Type} (l:List α) (d:α):((aY l.length).map fun i=>l.getD i d)=l:=by
 apply fC
 ·simp
 ·intro i h1 h2;simp only[fD,iE,aj];rw[ag h2]
  rfl
theorem sort_tupsL {a:Addr} {vs:List ae} {ds:List (List Str)} {n:Nat} {P:hZ->ai->Prop} (hu:A.units < b7) (ho:s.heap.get? a=some (cz "list" vs.toArray n)) (hp:aZ (TS s.heap) vs ds) (hz:vs.length<=sizeLine)
  (h:∀ (idx:List Nat) (h':be) (c:Nat),idx.Perm (aY vs.length)->(idx.map fun i=>ds.getD i []).Pairwise (fun a b=>HT.lexS b a=false)->(idx.map fun i=>ds.getD i []).Perm ds->h'.get? a=some (cz "list" (idx.map fun i=>vs.getD i bQ).toArray c) ->
   (∀ b o,b≠a->s.heap.get? b=some o->h'.get? b=some o)->P (.done (.ret .none)) { s with heap:=h' }) :
  aE (aF prog w) A (b6.«list.sort» ⟨[.ref a],[]⟩) P E s:=by
 have hl:vs.length=ds.length:=bV hp;have at_:∀ i,i < vs.length->TS s.heap (vs.getD i bQ) (ds.getD i []):=fun k hk=>by
  obtain⟨d,hd,t⟩:=L2.Paired.get' hp (ag hk);rw[aj,aj,hd,ag hk];exact t
 have mem_:∀ v∈vs,TS s.heap v (dec s.heap v):=fun v hv=>by
  obtain⟨i,hi,e⟩:=bn hv
  have:=at_ i hi
  rw[aj,ag hi] at this;have e2:TS s.heap v (ds.getD i []):=by rw[<- e];exact this
  rw[dec_eq e2];exact e2
 refine SF.sort_any (fun u v=>HT.lexS (dec s.heap u) (dec s.heap v)) hz ho (fun h2 kp h2l Q hq=>?_) fun xs hx hs=>?_
 ·have kt:∀ b o,s.heap.get? b=some o->o.cls=.type "tuple"->h2.get? b=some o:=fun b o e c=>kp b o (by
   rintro rfl;rw[ho] at e;have e':=aP e;rw[<- e'] at c;have c':cZ "list" = cZ "tuple":=c;injection c' with c''
   exact absurd c'' (by decide)) e
  have hp2:aZ (TS h2) vs ds:=L2.Paired.imp (fun v d t=>t.keep kt) hp;refine kind_go (s:={ s with heap:=h2 }) hp2 (by rintro rfl;simp at h2l) fun κ hκ=>hq κ ⟨fun x y Q hx hy q=>?_,fun x y _ _ e=>HT.lexS_as e,fun x y z _ _ _ e1 e2=>lexS_ge e1 e2⟩
  have t1:=(mem_ _ hx).keep kt;have t2:=(mem_ _ hy).keep kt;rcases hκ with rfl | rfl | rfl
  ·exact lt_tuples (s:={ s with heap:=h2 }) t1 t2 q
  ·exact lt_general (s:={ s with heap:=h2 }) hu t1 t2 q
  ·exact lt_one (s:={ s with heap:=h2 }) hu t1 t2 q
 ·have pl:xs.toList.Perm (gM vs).toList:=cI.mp hx;obtain⟨idx,p1,e1⟩:=perm_map (f:=fun i=>(vs.getD i bQ,vs.getD i bQ)) (m:=aY vs.length) pl (by
   rw[iD]
   conv=>lhs;rw[<- idx_map vs bQ]
   rw[List.zip_map'])
  have hin:∀ i∈idx,i < vs.length:=fun i hi=>bh.mp (p1.mem_iff.mp hi);have eo:xs.map (·.2)=(idx.map fun i=>vs.getD i bQ).toArray:=by
   apply Array.toList_inj.mp;rw[Array.toList_map,e1,bo]
   rfl
  rw[eo];rw[e1,gq] at hs;have s2:=cf (((s.heap.update a (b9 fun _=>(#[]:Array ae))).push (cz "tuple" vs.toArray 0)).push (cz "list" #[] 0)) a (b9 fun _=>(idx.map fun i=>vs.getD i bQ).toArray);obtain⟨e2,ho1⟩:∃ e1,(s.heap.update a (b9 fun _=>(#[]:Array ae))).get? a=some (cz "list" #[] e1):=⟨_,fU ho fun _=>#[]⟩;have sb:=cf s.heap a (b9 fun _=>(#[]:Array ae));refine h idx _ _ p1 ?_ ?_ (fU (ah _ (ah _ ho1)) fun _=>_) fun b o hb e=>(s2.2 b hb).trans (ah _ (ah _ ((sb.2 b hb).trans e)))
  ·rw[gq];refine hs.imp_of_mem fun {i j} hi hj hij=>?_;have a1:=dec_eq (at_ i (hin i hi));have a2:=dec_eq (at_ j (hin j hj));rw[<- a1,<- a2];exact hij
  ·have:=p1.map fun i=>ds.getD i []
   rw[hl,idx_map] at this;exact this
theorem strict_of {l:List (List Str)} (nd:l.Nodup) (h:l.Pairwise fun a b=>HT.lexS b a=false):l.Pairwise fun a b=>HT.lexS a b=true:=jW.imp (fun⟨h1,h2⟩=>HT.lexS_tot h1 fun z=>h2 z.symm) (List.pairwise_and_iff.mpr ⟨h,nd⟩)
theorem sort_tups {a:Addr} {vs:List ae} {ds:List (List Str)} {n:Nat} {P:hZ->ai->Prop} (hu:A.units < b7) (ho:s.heap.get? a=some (cz "list" vs.toArray n)) (hp:aZ (TS s.heap) vs ds) (nd:ds.Nodup) (hz:vs.length<=sizeLine)
  (h:∀ (idx:List Nat) (h':be) (c:Nat),idx.Perm (aY vs.length)->(idx.map fun i=>ds.getD i []).Pairwise (fun a b=>HT.lexS a b=true)->(idx.map fun i=>ds.getD i []).Perm ds->h'.get? a=some (cz "list" (idx.map fun i=>vs.getD i bQ).toArray c) ->
   (∀ b o,b≠a->s.heap.get? b=some o->h'.get? b=some o)->P (.done (.ret .none)) { s with heap:=h' }) :
  aE (aF prog w) A (b6.«list.sort» ⟨[.ref a],[]⟩) P E s:=sort_tupsL hu ho hp hz fun idx h' c i1 i2 i3 g k=>h idx h' c i1 (strict_of (i3.nodup_iff.mpr nd) i2) i3 g k
end
end KS
namespace ST
open PySem PySem.SetTable PySem.Spec PyProof.Rows
def restr {prog:ay} {w:aI} {κ:Type} (D:SetKd prog w κ) (W:κ->ae->Prop):SetKd prog w κ where
 is:=fun h k v=>D.is h k v/\W k v
 I:=fun h a es ep t=>D.I h a es ep t/\∀ e∈es.toList,∃ k,D.is h k e.2/\W k e.2
 inj:=fun a b=>D.inj a.1 b.1
 obj:=fun x=>D.obj x.1
 fits:=fun x=>D.fits x.1
 few:=fun x p nd hp=>D.few x.1 (L2.Paired.mapP p fun _ _ q=>q.1) nd hp
 fresh:=fun h=>⟨D.fresh h,fun e he=>by simp at he⟩
 keepIs:=fun x kp=>⟨D.keepIs x.1 kp,x.2⟩
 keepI:=fun x e kp=>⟨D.keepI x.1 e kp,fun e he=>let ⟨k,h1,h2⟩:=x.2 e he;⟨k,D.keepIs h1 kp,h2⟩⟩
 add:=fun {A E s a es ep t k x Q} hu hI hx hn h=>by
  refine D.add hu hI.1 hx.1 hn fun h' tk es' ep' t' added q1 q2 q3 q4 q5=>?_;have kp:=sameBut_tup (D.obj hI.1) q2;have up:∀ e∈es.toList,∃ k,D.is h' k e.2/\W k e.2:=fun e he=>let ⟨k,h1,h2⟩:=hI.2 e he;⟨k,D.keepIs h1 kp,h2⟩
  rcases q5 with⟨r1,r2,e,he,r3⟩ | ⟨r1,⟨hh,r2⟩,r3⟩
  ·obtain⟨k',z1,z2⟩:=hI.2 e he
   have:=D.inj r3 z1
   subst this;exact h h' tk es' ep' t' added ⟨q1,by rw[r2];exact up⟩ q2 q3 q4 (.inl ⟨r1,r2,e,he,r3,z2⟩)
  ·refine h h' tk es' ep' t' added ⟨q1,fun e he=>?_⟩ q2 q3 q4 (.inr ⟨r1,⟨hh,r2⟩,fun⟨e,he,z⟩=>r3 ⟨e,he,z.1⟩⟩);rcases aB.mp (r2.mem_iff.mp he) with z | z
   ·subst z;exact⟨k,D.keepIs hx.1 kp,hx.2⟩
   ·exact up e z
end ST
namespace L2
open PySem PySem.Spec PyProof.Rows
def stO (p:Addr) (es:Array (Int × ae)) (ep:Nat) (t:aX):HO:=.ext fun h=>h.get? p=some (ST.setOb es ep t)
abbrev PV (K:Fg) (H:Hp):ae->V × List Str->Prop:=fun v p=>RelV p.1 v/\dT K dS H p.1 p.2
def dSt (w:aI) (K:Fg):Dn (List (List Str)):=fun H v ms=>∃ p es ep t ps,v=.ref p/\H p=some (stO p es ep t)/\t.fits es.size=true/\t.led=ST.ledOf w/\(t.plain=true->es.size<=1)/\aZ (PV K H) (es.toList.map (·.2)) ps/\ms=ps.map (·.2)
theorem Inv.drawn {X:Cx} {pins:List (Addr × Obj)} {σ:St} {H:Hp} {s:ai} (I:Inv X pins σ H s) (d:_):Inv X pins σ H { s with drawn:=d } :=
 ⟨I.ok,I.os,I.bare,I.base,I.loc,I.cell,I.free,I.freeC,I.pin,I.hok,I.len⟩
section
variable {X:Cx}
theorem pv_of {K:Fg} {H:Hp} {h:be} {P:ay} {w:aI}:∀ {es:List (Int × ae)} {ms:List (List Str)},aZ (fun(e:Int × ae) k=>ST.TK P w h k e.2/\∃ x,RelV x e.2/\dT K dS H x k) es ms->∃ ps,aZ (PV K H) (es.map (·.2)) ps/\ms=ps.map (·.2)
 | _,_,.nil=>⟨[],.nil,rfl⟩
 | _,_,.cons ⟨_,x,r,d⟩ q=>by
  obtain⟨ps,h1,h2⟩:=pv_of q;exact⟨(x,_)::ps,.cons ⟨r,d⟩ h1,by rw[h2];rfl⟩
theorem keyed' {P:ay} {w:aI} {pins:List (Addr × Obj)} {σ:St} {H:Hp} {s:ai} (I:Inv X pins σ H s):∀ {xs:List V} {us:List ae} {ds:List (List Str)},aZ (dT X.K dS H) xs ds->Vals xs us->aZ (fun v k=>ST.TK P w s.heap k v/\∃ x,RelV x v/\dT X.K dS H x k) us ds
 | _,_,_,.nil,.nil=>.nil
 | _,_,_,.cons p q,.cons r t=>by
  refine .cons ⟨?_,_,r,p⟩ (keyed' I q t);obtain⟨b,ys,rfl,hq,pp⟩:=p;cases r;obtain⟨its,ri,tp,_⟩:=I.tuple hq;exact tk_of (K:=X.K) pp ri tp
def rSetLT (w:aI) (K:Fg):List V->Hp->VK->Prop:=fun xs H Q=>∃ x ds,xs=[x]/\dL K (dT K dS) H x ds/\ds.length + 1<=300/\∀ p ms H',Same H H'->ms.Nodup->(∀ k,k∈ms↔k∈ds)->dSt w K H' (.ref p) ms->Q (.ref p) H'
theorem call_setLT {K:Fg} {w:aI} (hu:X.A.units + 8 < b7) (hK:X.K=K:=by rfl) (hw:X.w=w:=by rfl) (hc:X.calm=true:=by rfl):CallR X (.type "set") (rSetLT w K):=by
 subst hK hw;intro pins s σ H xs us Q I r h;obtain⟨x,ds,rfl,⟨a,ys,rfl,hq,p⟩,hn,q⟩:=h;obtain⟨u,rfl,rx⟩:=vals1 r;cases rx;obtain⟨its,ri,pl,_⟩:=I.list hq;refine ST.call_setK (ST.restr (ST.tupKd X.prog X.w) fun k v=>∃ x,RelV x v/\dT X.K dS H x k) (I.ok.hd hc) hu pl.isList (keyed' I p ri) (by rw[aq,<- ri.length,p.length];exact hn) fun h' tk ms M _ hk=>?_
 obtain⟨es,ep,t,hI,hled,hp⟩:=M.ex;obtain⟨ps,h1,h2⟩:=pv_of hp;have hfr:H s.heap.objs.size=none:=I.hok.fresh (Nat.le_refl _);have sm:Same H (upd H s.heap.objs.size (stO s.heap.objs.size es ep t)):=same_upd hfr;refine⟨.ref s.heap.objs.size,_,I.laid (t':=tk) (o:=stO s.heap.objs.size es ep t) (fun b o e=>hk b o (aC e) e) (Nat.le_refl _) ?_,rfl,q _ _ _ sm M.nd M.mem ⟨_,es,ep,t,ps,rfl,upd_same,(ST.tupKd X.prog X.w).fits hI.1,hled,fun z=>?_,L2.Paired.imp (fun _ _ z=>⟨z.1,Mo.mo sm z.2⟩) h1,h2⟩⟩
 ·refine⟨(ST.tupKd X.prog X.w).obj hI.1,⟨_,(ST.tupKd X.prog X.w).obj hI.1⟩,fun g1 g2 g k=>k _ g⟩
 ·exact(ST.restr (ST.tupKd X.prog X.w) fun k v=>∃ x,RelV x v/\dT X.K dS H x k).few hI hp M.nd z
end
section
variable {X:Cx}
theorem ts_of {K:Fg} {pins:List (Addr × Obj)} {σ:St} {H:Hp} {s:ai} (I:Inv X pins σ H s) (hK:X.K=K) {h':be} (k:∀ b o,s.heap.get? b=some o->h'.get? b=some o):∀ {vs:List ae} {ps:List (V × List Str)},aZ (PV K H) vs ps->aZ (KS.TS h') vs (ps.map (·.2))
 | _,_,.nil=>.nil
 | _,_,.cons ⟨r,d⟩ q=>by
  refine .cons ?_ (ts_of I hK k q);obtain⟨b,xs,e,hq,pp⟩:=d;rw[e] at r;cases r;rw[<- hK] at hq;obtain⟨its,ri,⟨o,ho,z⟩,_⟩:=I.tuple hq;exact⟨b,its.toArray,rfl,⟨o,k b o ho,z⟩,sare_of pp ri⟩
theorem getD_snd:∀ (ps:List (V × List Str)) (i:Nat),(ps.map (·.2)).getD i []=(ps.getD i (V.non,[])).2
 | [],i=>by simp
 | p::ps,0=>by simp
 | p::ps,i + 1=>by simpa using getD_snd ps i
theorem pv_split {K:Fg} {H:Hp}:∀ {vs:List ae} {zs:List (V × List Str)},aZ (PV K H) vs zs->Vals (zs.map (·.1)) vs/\aZ (dT K dS H) (zs.map (·.1)) (zs.map (·.2))
 | _,_,.nil=>⟨.nil,.nil⟩
 | _,_,.cons ⟨r,d⟩ q=>⟨.cons r (pv_split q).1,.cons d (pv_split q).2⟩
theorem strs_of {H:Hp}:∀ {xs:List V} {us:List ae} {ds:List Str},aZ (dS H) xs ds->Vals xs us->StrsAre us ds
 | _,_,_,.nil,.nil=>.nil
 | _,_,_,.cons p q,.cons r t=>by
  cases p;obtain⟨k,rfl⟩:=r;exact .cons _ k (strs_of q t)
theorem of_strs {H:Hp}:∀ {us:List ae} {ds:List Str},StrsAre us ds->Vals (ds.map V.str) us/\aZ (dS H) (ds.map V.str) ds
 | _,_,.nil=>⟨.nil,.nil⟩
 | _,_,.cons y t r=>⟨.cons ⟨t,rfl⟩ (of_strs (H:=H) r).1,.cons rfl (of_strs r).2⟩
end
end L2
set_option maxHeartbeats 4000000
namespace L2
open PySem PySem.Spec PyProof.Rows
def Itel (K:Fg) (a:Addr):It:=⟨fun i H=>∃ xs x,SqL K H a xs/\xs[i]?=some x,fun i H x H'=>∃ p y,H p=none/\x=.ref p/\H'=upd H p (.tup [.int i,y])/\∀ xs,SqL K H a xs->xs[i]?=some y,fun i H=>∃ xs,SqL K H a xs/\xs.length<=i⟩
theorem turn_enl {P:ay} {w:aI} {K:Fg} {elts:List Expr} {x1:Nat} {pos:Pos} (a it e:Addr) (hei:e≠it) (hae:a≠e) (hai:a≠it):Turn P w K (.Tuple elts x1 pos) (Itel K a) [e,it] e (fun i h=>(∃ old,IsEnum h e it i old)/\h.IsListIter it a i) where
 mem:=by simp
 obj:=fun i h st b hb=>by
  obtain⟨⟨old,he⟩,o,ho,hc,hd⟩:=st;rcases aB.mp hb with rfl | hb
  ·exact⟨_,he,fun v z=>by cases z⟩
  ·have:=aN.mp hb
   subst this;exact⟨o,ho,fun v z=>by rw[hd] at z;cases z⟩
 keep:=fun i h h' st k=>by
  obtain⟨⟨old,he⟩,o,ho,r⟩:=st;exact⟨⟨old,k e (by simp) _ he⟩,o,k it (by simp) _ ho,r⟩
 item:=by
  intro X hP hw hK hc i pins s σ H E I hf st hg;subst hP hw hK;obtain⟨xs,x,hq,hx⟩:=hg;obtain⟨its,rv,p,hz⟩:=I.list hq;obtain⟨u,hu,ru⟩:=rv.get hx;obtain⟨⟨old,he⟩,st2⟩:=st;have hi:i < its.toArray.size:=by
   rcases Nat.lt_or_ge i its.toArray.size with z | z
   ·exact z
   ·rw[aq] at z;rw[bP z] at hu;cases hu
  have hh:X.A.in1.handled=none:=by have:=I.ok.hd hc;simp[this]
  have hT:s.heap.IsList a its.toArray:=p.isList;refine wpAny_pyNext_enum_itemD (Draws.list hh it a hai its.toArray) he ⟨st2,hT⟩ hi hei (by simp;exact⟨hei,fun z=>hae z.symm⟩) fun y h' tk hy ho hs' hT' hsz hk=>⟨_,rfl,?_⟩
  have hy':y=u:=by
   have:its[i]?=some y:=by simpa using hy
   rw[hu] at this;exact(aP this).symm
  subst hy';refine wpAny_letOwnedTupleGo_enum ho fun h2 he2 hs2=>?_;have fe:=hf e (by simp)
  have fi:=hf it (by simp)
  have kk:∀ b o,b≠e->b≠it->s.heap.get? b=some o->h2.get? b=some o:=fun b o n1 n2 g=>(hs2.2 b n1).trans (hk b o n1 n2 g);have hel:e < s.heap.objs.size:=aC he;have hfresh:H s.heap.objs.size=none:=I.hok.fresh (Nat.le_refl _);have nT:∀ b o,s.heap.get? b=some o->b≠s.heap.objs.size:=fun b o g=>Nat.ne_of_lt (aC g);have nH:∀ b u,H b=some u->b≠e/\b≠it:=fun b u g=>⟨fun z=>(by rw[z,fe.1] at g;cases g),fun z=>(by rw[z,fi.1] at g;cases g)⟩
  have tupT:h2.get? s.heap.objs.size=some { cls:=.type "tuple",data:=.seq #[.int i tk,y] }:=(hs2.2 _ (Nat.ne_of_gt hel)).trans hT';have hok:HOk X.prog X.w (upd H s.heap.objs.size (.tup [.int i,x])) h2:=fun b ob g=>by
   by_cases hb:b=s.heap.objs.size
   ·subst hb;rw[upd_same] at g;cases g;refine⟨by rw[bF];show 2<=_;decide,[.int i tk,y],.cons ⟨tk,rfl⟩ (.cons ru .nil),⟨_,tupT,rfl,0,rfl⟩,fun o e=>by rw[tupT] at e;cases e;rfl⟩
   ·rw[upd_ne hb] at g;refine(I.hok b ob g).stay (fun c w' hc' q=>?_) (fun c q=>?_) fun c ys q=>?_
    ·rcases hc' with rfl | hc'
     ·exact kk _ _ (nH _ _ g).1 (nH _ _ g).2 q
     ·exact kk _ _ (nH _ _ hc').1 (nH _ _ hc').2 q
    ·rw[upd_ne (ne_of_none q hfresh)];exact q
    ·rw[upd_ne (ne_of_none q hfresh)];exact q
  have un:Un (frs X.stack) [e,it] H (upd H s.heap.objs.size (.tup [.int i,x])) s.heap h2:=by
   have ab:∀ {b:Addr},b∉[e,it]->b≠e/\b≠it:=fun hb=>⟨fun z=>hb (by simp[z]),fun z=>hb (by simp[z])⟩
   exact⟨fun b o g _ _ hb=>kk b o (ab hb).1 (ab hb).2 g,fun b o g _ _ hb=>⟨o.slots,kk b o (ab hb).1 (ab hb).2 g⟩,fun b o g n _=>by rw[upd_ne (nT b o g)];exact n,fun b o g hb=>⟨o,kk b o (ab hb).1 (ab hb).2 g⟩,
    fun b ys g=>by rw[upd_ne (ne_of_none g hfresh)];exact g,fun b o v g=>by rw[upd_ne (ne_of_none g hfresh)];exact g,fun b ps g=>⟨#[],by rw[upd_ne (ne_of_none g hfresh),g];simp⟩⟩
  have I2:Inv X pins σ (upd H s.heap.objs.size (.tup [.int i,x])) { s with heap:=h2,toks:=tk + 1 }:=I.call' (s':={ s with heap:=h2,toks:=tk + 1 }) rfl un hok I.bare fun b hb=>by
   rcases aB.mp hb with rfl | hb
   ·exact⟨fe.2.2.2.1,fe.2.1,fe.2.2.2.2.1,fe.2.2.2.2.2⟩
   ·have:=aN.mp hb
    subst this;exact⟨fi.2.2.2.1,fi.2.1,fi.2.2.2.2.1,fi.2.2.2.2.2⟩
  refine⟨.ref s.heap.objs.size,_,I2,rfl,⟨_,x,hfresh,rfl,rfl,fun ys hy=>by rw[I.list_inj hy hq];exact hx⟩,⟨⟨_,by simpa using he2⟩,?_⟩,fun b hb=>?_⟩
  ·obtain⟨o,g,r⟩:=hs'.1;exact⟨o,(hs2.2 it (cN hei)).trans g,r⟩
  ·have hb':b < s.heap.objs.size:=by
    rcases aB.mp hb with rfl | hb
    ·exact hel
    ·have:=aN.mp hb
     subst this;obtain⟨o,g,_⟩:=st2;exact aC g
   rw[upd_ne (Nat.ne_of_lt hb')];exact(hf b hb).1
 done:=by
  intro X hP hw hK hc i pins s σ H E I hf st hg;subst hP hw hK;obtain⟨xs,hq,hx⟩:=hg;obtain⟨its,rv,p,hz⟩:=I.list hq;obtain⟨⟨old,he⟩,st2⟩:=st;have hl:=rv.length;have hh:X.A.in1.handled=none:=by have:=I.ok.hd hc;simp[this]
  have hT:s.heap.IsList a its.toArray:=p.isList;obtain⟨f0,f1,f2,f3,f4,f5⟩:=hf it (by simp)
  have hT2:s.TypeIs (.ref e) "enumerate":=⟨_,he,rfl⟩;unfold fj;refine ad (fO (bX (name:=cb "__next__") hT2 F.slot_enumerate_next (bM F.slot_enumerate_next hT2 F.entry_enumerate_next ?_ (F.args_enumerate_next_1 _))));refine ad (m:=field (.ref e) 2) (dg he rfl (x:=.ref it) rfl (ad (wpAny_nextOf_list_end hh st2 hT (by simp;lia) fun h' x he' hx'=>?_)))
  obtain⟨o,ho,hc'⟩:=hx';refine ad (fA (T := "StopIteration") (b:=true) ⟨o,ho,hc'⟩ isSubtype_stop ?_);exact af ⟨rfl,I.turned (t':=s.toks) (fun b o hb g=>he' b o hb g) f0 f1 f3 f4 f5⟩
 self:=fun A i s Q E st h=>by
  obtain⟨⟨old,he⟩,_⟩:=st;exact gw he h
section
variable {X:Cx}
def iEnL (K:Fg) (ta:TA):TI:=fun σ H R=>ta σ H fun vs H1=>∃ a,vs=[.ref a]/\(∃ xs,SqL K H1 a xs)/\R (Itel K a) H1
theorem pi_enL {e:Expr} {ta:TA} {p pos:Pos} {elts:List Expr} {x1:Nat} {tpos:Pos} (hg:Gl X "enumerate") (hm:X.mg "enumerate" = none) (ha:PA X [e] ta) (hs:ax [e] X.env=[(false,eval e X.env)]:=by rfl) :
  PI X (.Tuple elts x1 tpos) (.Call (.Name "enumerate" p) [e] [] pos) (iEnL X.K ta):=by
 intro pins s σ H R I h;refine Call_ (ld_blt I hg hm g6 (cY (thn (ha pos pins s σ H _ I h) fun us s1 ⟨vs,H1,I1,r1,q1⟩=>?_) hs rfl));obtain⟨a,rfl,⟨xs,hq⟩,q⟩:=q1;obtain⟨u,rfl,rx⟩:=vals1 r1;cases rx;obtain⟨its,rv,pl,hz⟩:=I1.list hq;have hal:a < s1.heap.objs.size:=by obtain⟨o,e,_⟩:=id pl.isList;exact aC e
 refine call_enumerate_list pl.isList fun h' he hi _ hk=>gw he ?_;refine⟨s1.heap.objs.size + 1,[s1.heap.objs.size + 1,s1.heap.objs.size],_,_,H1,rfl,I1.kept (t':=s1.toks) hk,turn_enl a s1.heap.objs.size (s1.heap.objs.size + 1) (Nat.succ_ne_self _) (Nat.ne_of_lt (Nat.lt_succ_of_lt hal)) (Nat.ne_of_lt hal),⟨⟨_,he⟩,hi⟩,fun b hb=>?_,q⟩;rcases aB.mp hb with rfl | hb
 ·exact I1.fpOk (Nat.le_succ _) (I1.hok.fresh (Nat.le_succ _))
 ·have:=aN.mp hb
  subst this;exact I1.fpOk (Nat.le_refl _) (I1.hok.fresh (Nat.le_refl _))
theorem pi_enLK {K:Fg} {e:Expr} {ta:TA} {p pos:Pos} {elts:List Expr} {x1:Nat} {tpos:Pos} (hg:Gl X "enumerate") (hm:X.mg "enumerate" = none) (ha:PA X [e] ta) (hs:ax [e] X.env=[(false,eval e X.env)]:=by rfl) (hK:X.K=K:=by rfl) :
  PI X (.Tuple elts x1 tpos) (.Call (.Name "enumerate" p) [e] [] pos) (iEnL K ta):=by subst hK;exact pi_enL hg hm ha hs
end
def cutS (z:Str) (lo hi:Option Int):Str:=if ((cD lo hi 1 z.length).length == z.length)=true then z else ⟨((cD lo hi 1 z.length).filterMap (z.cps[·]?)).toArray⟩
def rSlS:V->Option Int->Option Int->Hp->VK->Prop:=fun x lo hi H Q=>∃ z,x=.str z/\z.length<=1000000/\Q (.str (cutS z lo hi)) H
theorem sl_str {X:Cx}:SlR X rSlS:=by
 intro pins s σ H x v vl vu lo hi sl Q I rx hs pl pu h;obtain⟨z,rfl,hz,q⟩:=h;obtain⟨t,rfl⟩:=rx;refine⟨"str",_,PySem.F.slot_str_getitem.lookup,typeIs_str _ _ _,?_⟩;have go:∀ (l u:Option (Int × Tok)),l.map (·.1)=lo->u.map (·.1)=hi->s.heap.IsSlice sl l u none->aE (aF X.prog X.w) X.A (jt (.str z t) (.ref sl)) (EP X pins σ Q) X.xe s:=fun l u hl hu hS=>by
  refine wpAny_getItem_str_slice hS rfl ?_;unfold sliceMade slicePicked;simp only[Option.map_none,i7,beq_self_eq_true,eV,hl,hu];unfold cutS at q
  by_cases c:((cD lo hi 1 z.length).length == z.length)=true
  ·rw[if_pos c] at q ⊢;exact⟨.str z,H,I,⟨t,rfl⟩,q⟩
  ·rw[if_neg c] at q ⊢;refine⟨?_,.str _,H,I.tok _,⟨_,rfl⟩,q⟩;have h1:=PyProof.Rows.indices_len_le lo hi z.length;have h2:((cD lo hi 1 z.length).filterMap (z.cps[·]?)).length<=(cD lo hi 1 z.length).length:=List.length_filterMap_le _ _;show((cD lo hi 1 z.length).filterMap (z.cps[·]?)).toArray.size<=_;rw[aq,bF];lia
 obtain⟨o,ho,hc,hd⟩:=hs;cases pl with
 | none =>
  cases pu with
  | none=>exact go none none rfl rfl ⟨o,ho,hc,hd⟩
  | int j tj=>exact go none (some (j,tj)) rfl rfl ⟨o,ho,hc,hd⟩
 | int i ti =>
  cases pu with
  | none=>exact go (some (i,ti)) none rfl rfl ⟨o,ho,hc,hd⟩
  | int j tj=>exact go (some (i,ti)) (some (j,tj)) rfl rfl ⟨o,ho,hc,hd⟩
end L2
set_option maxHeartbeats 1000000
namespace L2
open PySem PySem.Spec PyProof.Rows
inductive D where
 | non | bl (b:Bool) | int (i:Int) | str (x:Str) | ty (n:String) | ref (a:Addr) | tup (xs:List D) | lst (xs:List D)
abbrev Am:=Addr->Prop
structure Keep (M:Am) (H:Hp) (M':Am) (H':Hp):Prop where
 st:∀ a o,¬ M a->H a=some o->H' a=some o
 nm:∀ a,¬ M a->H a≠none->¬ M' a
def Xo:HO->Prop
 | .ext _=>True
 | .ins _ _ _=>True
 | _=>False
inductive DO where
 | lst (xs:List D) | dk (kvs:List (Key × D)) | dt (kvs:List (List Key × D))
 | tb (pos:Pos) (qual:Str)
 | ex (f:Am->Hp->Addr->Prop) (hk:∀ M M' H H' a,Keep M H M' H'->H' a=H a->f M H a->f M' H' a) (hl:∀ M H a,f M H a->∃ g,H a=some g/\Xo g)
abbrev Sto:=Addr->Option DO
abbrev Gm:=List (Option D)
def supd (S:Sto) (a:Addr) (o:DO):Sto:=fun b=>if b=a then some o else S b
theorem supd_same {S:Sto} {a:Addr} {o:DO}:supd S a o a=some o:=by unfold supd;rw[if_pos rfl]
theorem supd_ne {S:Sto} {a b:Addr} {o:DO} (h:b≠a):supd S a o b=S b:=by unfold supd;rw[if_neg h]
def TupAt (K:Fg) (M:Am) (H:Hp) (a:Addr) (xs:List V):Prop:=(¬ M a/\Rd H a (.tup xs))\/SqT K (fun _=>none) a xs
theorem TupAt.sq {K:Fg} {M:Am} {H:Hp} {a:Addr} {xs:List V} (h:TupAt K M H a xs):SqT K H a xs:=by
 rcases h with h | (h | ⟨o,h⟩) | h
 ·exact .inl h.2
 ·cases h
 ·cases h
 ·exact .inr h
def LstAt (K:Fg) (M:Am) (H:Hp) (a:Addr) (xs:List V):Prop:=(¬ M a/\Rd H a (.lst xs))\/SqL K (fun _=>none) a xs
theorem LstAt.sq {K:Fg} {M:Am} {H:Hp} {a:Addr} {xs:List V} (h:LstAt K M H a xs):SqL K H a xs:=by
 rcases h with h | (h | ⟨o,h⟩) | h
 ·exact .inl h.2
 ·cases h
 ·cases h
 ·exact .inr h
mutual
def RepV (K:Fg) (M:Am) (H:Hp):D->V->Prop
 | .non,v=>v=.non
 | .bl b,v=>v=.bl b
 | .int i,v=>v=.int i
 | .str x,v=>v=.str x
 | .ty n,v=>v=.ty n
 | .ref a,v=>v=.ref a
 | .tup ds,v=>∃ a xs,v=.ref a/\TupAt K M H a xs/\RepL K M H ds xs
 | .lst ds,v=>∃ a xs,v=.ref a/\LstAt K M H a xs/\RepL K M H ds xs
def RepL (K:Fg) (M:Am) (H:Hp):List D->List V->Prop
 | [],xs=>xs=[]
 | d::ds,xs=>∃ v vs,xs=v::vs/\RepV K M H d v/\RepL K M H ds vs
end
theorem Rd.live {H:Hp} {a:Addr} {u:HO} (r:Rd H a u):H a≠none:=by
 rcases r with r | ⟨o,r⟩ <;> rw[r] <;> exact fun z=>by cases z
theorem Keep.rd {M M':Am} {H H':Hp} (k:Keep M H M' H') {a:Addr} {u:HO} (hm:¬ M a) (r:Rd H a u):Rd H' a u:=by
 rcases r with r | ⟨o,r⟩
 ·exact .inl (k.st a _ hm r)
 ·exact .inr ⟨o,k.st a _ hm r⟩
theorem TupAt.keep {K:Fg} {M M':Am} {H H':Hp} {p:Addr} {us:List V} (t:TupAt K M H p us) (x:Keep M H M' H'):TupAt K M' H' p us:=by
 rcases t with⟨hm,r⟩ | t
 ·exact .inl ⟨x.nm p hm r.live,x.rd hm r⟩
 ·exact .inr t
theorem LstAt.keep {K:Fg} {M M':Am} {H H':Hp} {p:Addr} {us:List V} (t:LstAt K M H p us) (x:Keep M H M' H'):LstAt K M' H' p us:=by
 rcases t with⟨hm,r⟩ | t
 ·exact .inl ⟨x.nm p hm r.live,x.rd hm r⟩
 ·exact .inr t
mutual
theorem RepV.keep {K:Fg} {M M':Am} {H H':Hp} (k:Keep M H M' H'):∀ {d:D} {v:V},RepV K M H d v->RepV K M' H' d v
 | .non,_,h=>h
 | .bl _,_,h=>h
 | .int _,_,h=>h
 | .str _,_,h=>h
 | .ty _,_,h=>h
 | .ref _,_,h=>h
 | .tup ds,v,h=>by
  unfold RepV at h ⊢;obtain⟨a,xs,e,t,l⟩:=h;exact⟨a,xs,e,t.keep k,RepL.keep k l⟩
 | .lst ds,v,h=>by
  unfold RepV at h ⊢;obtain⟨a,xs,e,t,l⟩:=h;exact⟨a,xs,e,t.keep k,RepL.keep k l⟩
theorem RepL.keep {K:Fg} {M M':Am} {H H':Hp} (k:Keep M H M' H'):∀ {ds:List D} {xs:List V},RepL K M H ds xs->RepL K M' H' ds xs
 | [],_,h=>h
 | d::ds,xs,h=>by
  unfold RepL at h ⊢;obtain⟨v,vs,e,r,l⟩:=h;exact⟨v,vs,e,RepV.keep k r,RepL.keep k l⟩
end
section
variable {K:Fg} {M:Am} {H:Hp}
theorem RepL.length:∀ {ds:List D} {xs:List V},RepL K M H ds xs->xs.length=ds.length
 | [],_,h=>by unfold RepL at h;rw[h];rfl
 | d::ds,xs,h=>by
  unfold RepL at h;obtain⟨v,vs,rfl,_,l⟩:=h;simp[RepL.length l]
theorem RepL.nil:RepL K M H [] []:=by unfold RepL;rfl
theorem RepL.cons {d:D} {ds:List D} {v:V} {vs:List V} (r:RepV K M H d v) (l:RepL K M H ds vs):RepL K M H (d::ds) (v::vs):=by unfold RepL;exact⟨v,vs,rfl,r,l⟩
theorem RepL.app:∀ {ds es:List D} {xs ys:List V},RepL K M H ds xs->RepL K M H es ys->RepL K M H (ds++es) (xs++ys)
 | [],es,xs,ys,h,h'=>by unfold RepL at h;rw[h];exact h'
 | d::ds,es,xs,ys,h,h'=>by
  unfold RepL at h;obtain⟨v,vs,rfl,r,l⟩:=h;exact RepL.cons r (RepL.app l h')
theorem RepL.get:∀ {ds:List D} {xs:List V} {i:Nat} {d:D},RepL K M H ds xs->ds[i]?=some d->∃ v,xs[i]?=some v/\RepV K M H d v
 | [],_,_,_,_,e=>by simp at e
 | d::ds,xs,0,e,h,he=>by
  unfold RepL at h;obtain⟨v,vs,rfl,r,l⟩:=h;simp at he;subst he;exact⟨v,rfl,r⟩
 | d::ds,xs,i + 1,e,h,he=>by
  unfold RepL at h;obtain⟨v,vs,rfl,r,l⟩:=h;obtain⟨w,h1,h2⟩:=RepL.get (i:=i) l (by simpa using he)
  exact⟨w,by simpa using h1,h2⟩
theorem RepL.get' {ds:List D} {xs:List V} {i:Nat} {v:V} (h:RepL K M H ds xs) (e:xs[i]?=some v):∃ d,ds[i]?=some d/\RepV K M H d v:=by
 have hl:=h.length;have hi:i < xs.length:=by
  rcases Nat.lt_or_ge i xs.length with z | z
  ·exact z
  ·rw[bP z] at e;cases e
 have e':ds[i]?=some ds[i]:=ag (by omega)
 obtain⟨w,h1,h2⟩:=h.get e';rw[e] at h1;cases h1;exact⟨_,e',h2⟩
theorem RepL.take:∀ {ds:List D} {xs:List V} (n:Nat),RepL K M H ds xs->RepL K M H (ds.take n) (xs.take n)
 | _,_,0,_=>by simpa using RepL.nil
 | [],_,n + 1,h=>by unfold RepL at h;subst h;simpa using RepL.nil
 | d::ds,xs,n + 1,h=>by
  unfold RepL at h;obtain⟨v,vs,rfl,r,l⟩:=h;simpa using RepL.cons r (RepL.take n l)
theorem RepL.drop:∀ {ds:List D} {xs:List V} (n:Nat),RepL K M H ds xs->RepL K M H (ds.drop n) (xs.drop n)
 | _,_,0,h=>by simpa using h
 | [],_,n + 1,h=>by unfold RepL at h;subst h;simpa using RepL.nil
 | d::ds,xs,n + 1,h=>by
  unfold RepL at h;obtain⟨v,vs,rfl,r,l⟩:=h;simpa using RepL.drop n l
theorem RepL.erase:∀ {ds:List D} {xs:List V} (i:Nat),RepL K M H ds xs->RepL K M H (ds.eraseIdx i) (xs.eraseIdx i)
 | [],_,i,h=>by unfold RepL at h;subst h;simpa using RepL.nil
 | e::ds,xs,0,h=>by
  unfold RepL at h;obtain⟨w,vs,rfl,_,l⟩:=h;simpa using l
 | e::ds,xs,i + 1,h=>by
  unfold RepL at h;obtain⟨w,vs,rfl,q,l⟩:=h;simpa using RepL.cons q (RepL.erase i l)
theorem RepL.one {d:D} {xs:List V} (h:RepL K M H [d] xs):∃ v,xs=[v]/\RepV K M H d v:=by
 unfold RepL at h;obtain⟨v,vs,rfl,r,l⟩:=h;unfold RepL at l;subst l;exact⟨v,rfl,r⟩
theorem RepL.two {d e:D} {xs:List V} (h:RepL K M H [d,e] xs):∃ v w,xs=[v,w]/\RepV K M H d v/\RepV K M H e w:=by
 unfold RepL at h;obtain⟨v,vs,rfl,r,l⟩:=h;obtain⟨w,rfl,r'⟩:=l.one;exact⟨v,w,rfl,r,r'⟩
end
def mt (S:Sto) (F:Am):Am:=fun a=>S a≠none\/F a
abbrev cdO (c:Addr) (oc:Obj):HO:=.ext fun h=>h.get? c=some oc
def TbOk (M:Am) (H:Hp) (pos:Pos) (qual:Str) (ps:Array ae):Prop:=TriplesOk ps.toList/\(codeAmong pos ps.toList=none \/
 ∃ c oc,codeAmong pos ps.toList=some (.ref c)/\¬ M c/\H c=some (cdO c oc)/\∃ vs t,oc.data=.fields vs/\vs[1]?=some (.str qual t))
theorem TbOk.keep {M M':Am} {H H':Hp} (k:Keep M H M' H') {pos:Pos} {qual:Str} {ps:Array ae} (h:TbOk M H pos qual ps):TbOk M' H' pos qual ps:=by
 obtain⟨h1,h2⟩:=h;refine⟨h1,h2.imp id fun⟨c,oc,e1,m,e2,r⟩=>⟨c,oc,e1,k.nm c m (by rw[e2];exact fun z=>by cases z),k.st c _ m e2,r⟩⟩
def RepO (K:Fg) (M:Am) (H:Hp) (a:Addr):DO->Prop
 | .lst ds=>∃ xs,H a=some (.lst xs)/\RepL K M H ds xs
 | .dk kvs=>∃ ks,H a=some (.dK ks)/\aZ (fun(p:Key × V) (q:Key × D)=>p.1=q.1/\RepV K M H q.2 p.2) ks kvs
 | .dt kvs=>∃ ks,H a=some (.dT ks)/\aZ (fun(p:List Key × V) (q:List Key × D)=>p.1=q.1/\RepV K M H q.2 p.2) ks kvs
 | .tb pos qual=>∃ ps,H a=some (.tbl ps)/\TbOk M H pos qual ps
 | .ex f _ _=>f M H a
theorem RepO.live {K:Fg} {M:Am} {H:Hp} {a:Addr} {o:DO} (h:RepO K M H a o):H a≠none:=by
 cases o with
 | ex f hk hl=>obtain⟨g,e,_⟩:=hl _ _ _ h;rw[e];exact fun z=>by cases z
 | _=>obtain⟨xs,e,_⟩:=h;rw[e];exact fun z=>by cases z
theorem RepO.keep {K:Fg} {M M':Am} {H H':Hp} (k:Keep M H M' H') {a:Addr} {o:DO} (e:H' a=H a) (h:RepO K M H a o):RepO K M' H' a o:=by
 cases o with
 | lst ds=>obtain⟨xs,e1,l⟩:=h;exact⟨xs,e.trans e1,l.keep k⟩
 | dk kvs=>obtain⟨xs,e1,l⟩:=h;exact⟨xs,e.trans e1,Paired.imp (fun _ _ z=>⟨z.1,z.2.keep k⟩) l⟩
 | dt kvs=>obtain⟨xs,e1,l⟩:=h;exact⟨xs,e.trans e1,Paired.imp (fun _ _ z=>⟨z.1,z.2.keep k⟩) l⟩
 | tb pos qual=>obtain⟨xs,e1,l⟩:=h;exact⟨xs,e.trans e1,l.keep k⟩
 | ex f hk hl=>exact hk _ _ _ _ _ k e h
def Clt:HO->Prop
 | .lst _=>True
 | .ext _=>True
 | _=>False
structure Rp (K:Fg) (F:Am) (S:Sto) (H:Hp):Prop where
 obj:∀ a o,S a=some o->RepO K (mt S F) H a o
 frm:∀ a,F a->(∃ u,H a=some u/\Clt u)/\S a=none
structure Ext (S:Sto) (H:Hp) (S':Sto) (H':Hp):Prop where
 keep:∀ a o,S a=none->H a=some o->H' a=some o
 live:∀ a,H a≠none->H' a≠none
 new:∀ a,S' a≠none->S a≠none\/H a=none
theorem Ext.refl (S:Sto) (H:Hp):Ext S H S H:=⟨fun _ _ _ h=>h,fun _ h=>h,fun _ h=>.inl h⟩
theorem Ext.sn {S S':Sto} {H H':Hp} (x:Ext S H S' H') {a:Addr} (h:S a=none) (h':H a≠none):S' a=none:=by
 cases e:S' a with
 | none=>rfl
 | some o =>
  rcases x.new a (by rw[e];exact fun z=>by cases z) with z | z
  ·exact absurd h z
  ·exact absurd z h'
theorem Ext.trans {S S1 S2:Sto} {H H1 H2:Hp} (x:Ext S H S1 H1) (y:Ext S1 H1 S2 H2):Ext S H S2 H2 :=
 ⟨fun a o h h'=>y.keep a o (x.sn h (by rw[h'];exact fun z=>by cases z)) (x.keep a o h h'),fun a h=>y.live a (x.live a h),fun a h=>by
  rcases y.new a h with z | z
  ·exact x.new a z
  ·refine .inr (aK fun n=>x.live a n z)⟩
theorem Ext.same {S:Sto} {H H':Hp} (s:Same H H'):Ext S H S H' where
 keep:=fun a o _ h=>s a o h
 live:=fun a h=>by
  cases e:H a with
  | none=>exact absurd e h
  | some o =>
   rw[s a o e];exact fun z=>by cases z
 new:=fun _ h=>.inl h
theorem Ext.kp {F:Am} {S S':Sto} {H H':Hp} (x:Ext S H S' H'):Keep (mt S F) H (mt S' F) H':=⟨fun a o h e=>x.keep a o (aK fun n=>h (.inl n)) e,fun a h e=>fun z=>by
 rcases z with z | z
 ·rcases x.new a z with y | y
  ·exact h (.inl y)
  ·exact e y
 ·exact h (.inr z)⟩
section
variable {K:Fg} {F:Am} {S S':Sto} {H H':Hp}
theorem RepV.ext {d:D} {v:V} (h:RepV K (mt S F) H d v) (x:Ext S H S' H'):RepV K (mt S' F) H' d v:=h.keep x.kp
theorem RepL.ext {ds:List D} {vs:List V} (h:RepL K (mt S F) H ds vs) (x:Ext S H S' H'):RepL K (mt S' F) H' ds vs:=h.keep x.kp
theorem Rp.same (r:Rp K F S H) (s:Same H H'):Rp K F S H' where
 obj:=fun a o h=>by
  have q:=r.obj a o h;have e:H' a=H a:=by
   cases z:H a with
   | none=>exact absurd z q.live
   | some u=>exact s a u z
  exact q.keep (Ext.same s).kp e
 frm:=fun a h=>by
  obtain⟨⟨zs,e,ct⟩,h2⟩:=r.frm a h;exact⟨⟨zs,s a _ e,ct⟩,h2⟩
theorem Ext.write {a:Addr} {o:DO} {u:HO} (h:S a≠none):Ext S H (supd S a o) (upd H a u) where
 keep:=fun b ob h1 h2=>by
  have ne:b≠a:=by rintro rfl;exact h h1
  rw[upd_ne ne];exact h2
 live:=fun b hb=>by
  by_cases e:b=a
  ·subst e;rw[upd_same];exact fun z=>by cases z
  ·rw[upd_ne e];exact hb
 new:=fun b hb=>by
  by_cases e:b=a
  ·subst e;exact .inl h
  ·rw[supd_ne e] at hb;exact .inl hb
theorem Rp.write {a:Addr} {o:DO} {u:HO} (r:Rp K F S H) (h:S a≠none) (q:RepO K (mt (supd S a o) F) (upd H a u) a o):Rp K F (supd S a o) (upd H a u) where
 obj:=fun b ob hb=>by
  by_cases e:b=a
  ·subst e;rw[supd_same] at hb;cases hb;exact q
  ·rw[supd_ne e] at hb;exact(r.obj b ob hb).keep (Ext.write h).kp (upd_ne e)
 frm:=fun b hb=>by
  have e:b≠a:=by rintro rfl;exact h (r.frm b hb).2
  rw[upd_ne e,supd_ne e];exact r.frm b hb
theorem Rp.sn (r:Rp K F S H) {a:Addr} (h:H a=none):S a=none:=by
 cases e:S a with
 | none=>rfl
 | some o=>exact absurd h (r.obj a o e).live
theorem Ext.mk' {a:Addr} {o:DO} {u:HO} (h:H a=none):Ext S H (supd S a o) (upd H a u) where
 keep:=fun b ob h1 h2=>by
  have ne:b≠a:=by rintro rfl;rw[h] at h2;cases h2
  rw[upd_ne ne];exact h2
 live:=fun b hb=>by
  have ne:b≠a:=by rintro rfl;exact hb h
  rw[upd_ne ne];exact hb
 new:=fun b hb=>by
  by_cases e:b=a
  ·subst e;exact .inr h
  ·rw[supd_ne e] at hb;exact .inl hb
theorem Rp.mk' {a:Addr} {o:DO} {u:HO} (r:Rp K F S H) (h:H a=none) (q:RepO K (mt (supd S a o) F) (upd H a u) a o):Rp K F (supd S a o) (upd H a u) where
 obj:=fun b ob hb=>by
  by_cases e:b=a
  ·subst e;rw[supd_same] at hb;cases hb;exact q
  ·rw[supd_ne e] at hb;exact(r.obj b ob hb).keep (Ext.mk' h).kp (upd_ne e)
 frm:=fun b hb=>by
  have e:b≠a:=by
   rintro rfl;obtain⟨⟨zs,e,_⟩,_⟩:=r.frm b hb;rw[h] at e;cases e
  rw[upd_ne e,supd_ne e];exact r.frm b hb
theorem Ext.less {S':Sto} (h:∀ a o,S' a=some o->S a=some o):Ext S H S' H:=⟨fun _ _ _ e=>e,fun _ e=>e,fun a e=>.inl fun z=>by
 cases q:S' a with
 | none=>exact e q
 | some o=>rw[h a o q] at z;cases z⟩
theorem Rp.less {S':Sto} (r:Rp K F S H) (h:∀ a o,S' a=some o->S a=some o):Rp K F S' H where
 obj:=fun a o e=>(r.obj a o (h a o e)).keep (Ext.less h).kp rfl
 frm:=fun a e=>⟨(r.frm a e).1,by
  cases q:S' a with
  | none=>rfl
  | some o=>have:=h a o q;rw[(r.frm a e).2] at this;cases this⟩
end
def look (g:Gm) (i:Nat) (k:D->Prop):Prop:=match i with
 | 0=>match g with
  | some d::_=>k d
  | _=>False
 | n + 1=>match g with
  | _::g=>look g n k
  | []=>False
def RepG (K:Fg) (M:Am) (H:Hp):Gm->St->Prop
 | [],σ=>σ=[]
 | none::g,σ=>∃ v τ,σ=v::τ/\RepG K M H g τ
 | some d::g,σ=>∃ v τ,σ=some v::τ/\RepV K M H d v/\RepG K M H g τ
theorem RepG.keep {K:Fg} {M M':Am} {H H':Hp} (k:Keep M H M' H'):∀ {g:Gm} {σ:St},RepG K M H g σ->RepG K M' H' g σ
 | [],_,h=>h
 | none::g,_,⟨v,τ,e,r⟩=>⟨v,τ,e,RepG.keep k r⟩
 | some d::g,_,⟨v,τ,e,q,r⟩=>⟨v,τ,e,q.keep k,RepG.keep k r⟩
theorem RepG.ext {K:Fg} {F:Am} {S S':Sto} {H H':Hp} {g:Gm} {σ:St} (h:RepG K (mt S F) H g σ) (x:Ext S H S' H'):RepG K (mt S' F) H' g σ:=h.keep x.kp
theorem RepG.look {K:Fg} {M:Am} {H:Hp} {k:D->Prop}:∀ {g:Gm} {σ:St} {i:Nat},RepG K M H g σ->look g i k->∃ v d,σ[i]?=some (some v)/\RepV K M H d v/\k d
 | [],_,0,_,h=>dQ h
 | [],_,_ + 1,_,h=>dQ h
 | none::_,_,0,_,h=>dQ h
 | some d::g,_,0,⟨v,τ,e,q,r⟩,h=>⟨v,d,by rw[e];rfl,q,h⟩
 | some d::g,_,i + 1,⟨v,τ,e,q,r⟩,h=>by
  obtain⟨u,d',e1,h1⟩:=RepG.look (i:=i) r h;exact⟨u,d',by rw[e];simpa using e1,h1⟩
 | none::g,_,i + 1,⟨v,τ,e,r⟩,h=>by
  obtain⟨u,d',e1,h1⟩:=RepG.look (i:=i) r h;exact⟨u,d',by rw[e];simpa using e1,h1⟩
theorem RepG.set {K:Fg} {M:Am} {H:Hp} {d:D} {v:V} (q:RepV K M H d v):∀ {g:Gm} {σ:St} (i:Nat),RepG K M H g σ->RepG K M H (g.set i (some d)) (σ.set i (some v))
 | [],_,_,h=>by cases h;rfl
 | none::g,_,0,⟨w,τ,e,r⟩=>by subst e;exact⟨v,τ,rfl,q,r⟩
 | some _::g,_,0,⟨w,τ,e,_,r⟩=>by subst e;exact⟨v,τ,rfl,q,r⟩
 | none::g,_,i + 1,⟨w,τ,e,r⟩=>by subst e;exact⟨w,_,rfl,RepG.set q i r⟩
 | some _::g,_,i + 1,⟨w,τ,e,z,r⟩=>by subst e;exact⟨w,_,rfl,z,RepG.set q i r⟩
abbrev DK:=D->Sto->Prop
abbrev ED:=Gm->Sto->DK->Prop
abbrev TD:=Gm->Sto->(Bool->Sto->Prop)->Prop
abbrev AD:=Gm->Sto->(List D->Sto->Prop)->Prop
structure EndsD where
 nx:Gm->Sto->Prop
 rt:DK
 bk:Gm->Sto->Prop:=fun _ _=>False
 ct:Gm->Sto->Prop:=fun _ _=>False
abbrev SD:=EndsD->Gm->Sto->Prop
def upE (K:Fg) (t:ED):TE:=fun σ H Q=>∃ F S Γ QD,Rp K F S H/\RepG K (mt S F) H Γ σ/\t Γ S QD/\∀ v d H' S',Ext S H S' H'->Rp K F S' H'->RepV K (mt S' F) H' d v->QD d S'->Q v H'
theorem upE.el {K:Fg} {t:ED} {σ:St} {H:Hp} {Q:VK} {p:Prop} (h:upE K t σ H Q) (k:∀ F S Γ QD,Rp K F S H->RepG K (mt S F) H Γ σ->t Γ S QD->(∀ v d H' S',Ext S H S' H'->Rp K F S' H'->RepV K (mt S' F) H' d v->QD d S'->Q v H')->p):p:=by
 obtain⟨F,S,Γ,QD,h0,h1,h2,h3⟩:=h;exact k F S Γ QD h0 h1 h2 h3
def upT (K:Fg) (t:TD):TT:=fun σ H Q=>∃ F S Γ QD,Rp K F S H/\RepG K (mt S F) H Γ σ/\t Γ S QD/\∀ b H' S',Ext S H S' H'->Rp K F S' H'->QD b S'->Q b H'
theorem upT.el {K:Fg} {t:TD} {σ:St} {H:Hp} {Q:Bool->Hp->Prop} {p:Prop} (h:upT K t σ H Q) (k:∀ F S Γ QD,Rp K F S H->RepG K (mt S F) H Γ σ->t Γ S QD->(∀ b H' S',Ext S H S' H'->Rp K F S' H'->QD b S'->Q b H')->p):p:=by
 obtain⟨F,S,Γ,QD,h0,h1,h2,h3⟩:=h;exact k F S Γ QD h0 h1 h2 h3
def upA (K:Fg) (t:AD):TA:=fun σ H Q=>∃ F S Γ QD,Rp K F S H/\RepG K (mt S F) H Γ σ/\t Γ S QD/\∀ vs ds H' S',Ext S H S' H'->Rp K F S' H'->RepL K (mt S' F) H' ds vs->QD ds S'->Q vs H'
theorem upA.el {K:Fg} {t:AD} {σ:St} {H:Hp} {Q:List V->Hp->Prop} {p:Prop} (h:upA K t σ H Q) (k:∀ F S Γ QD,Rp K F S H->RepG K (mt S F) H Γ σ->t Γ S QD->(∀ vs ds H' S',Ext S H S' H'->Rp K F S' H'->RepL K (mt S' F) H' ds vs->QD ds S'->Q vs H')->p):p:=by
 obtain⟨F,S,Γ,QD,h0,h1,h2,h3⟩:=h;exact k F S Γ QD h0 h1 h2 h3
structure CnS (K:Fg) (F:Am) (S:Sto) (H:Hp) (E:EndsD) (D':Ends):Prop where
 nx:∀ Γ' S' σ' H',Ext S H S' H'->Rp K F S' H'->RepG K (mt S' F) H' Γ' σ'->E.nx Γ' S'->D'.nx σ' H'
 rt:∀ v d H' S',Ext S H S' H'->Rp K F S' H'->RepV K (mt S' F) H' d v->E.rt d S'->D'.rt v H'
 bk:∀ Γ' S' σ' H',Ext S H S' H'->Rp K F S' H'->RepG K (mt S' F) H' Γ' σ'->E.bk Γ' S'->D'.bk σ' H'
 ct:∀ Γ' S' σ' H',Ext S H S' H'->Rp K F S' H'->RepG K (mt S' F) H' Γ' σ'->E.ct Γ' S'->D'.ct σ' H'
theorem CnS.ext {K:Fg} {F:Am} {S S1:Sto} {H H1:Hp} {E:EndsD} {D':Ends} (c:CnS K F S H E D') (x:Ext S H S1 H1):CnS K F S1 H1 E D' :=
 ⟨fun Γ' S' σ' H' y=>c.nx Γ' S' σ' H' (x.trans y),fun v d H' S' y=>c.rt v d H' S' (x.trans y),fun Γ' S' σ' H' y=>c.bk Γ' S' σ' H' (x.trans y),fun Γ' S' σ' H' y=>c.ct Γ' S' σ' H' (x.trans y)⟩
def upS (K:Fg) (t:SD):TS:=fun D' σ H=>∃ F S Γ E,Rp K F S H/\RepG K (mt S F) H Γ σ/\t E Γ S/\CnS K F S H E D'
theorem upS.el {K:Fg} {t:SD} {D':Ends} {σ:St} {H:Hp} {p:Prop} (h:upS K t D' σ H) (k:∀ F S Γ E,Rp K F S H->RepG K (mt S F) H Γ σ->t E Γ S->CnS K F S H E D'->p):p:=by
 obtain⟨F,S,Γ,E,h0,h1,h2,h3⟩:=h;exact k F S Γ E h0 h1 h2 h3
structure PD (K:Fg) (X:Cx) (e:Expr) (t:ED):Prop where
 o:PE X e (upE K t)
structure PTD (K:Fg) (X:Cx) (e:Expr) (t:TD):Prop where
 o:PT X e (upT K t)
structure PAD (K:Fg) (X:Cx) (es:List Expr) (t:AD):Prop where
 o:PA X es (upA K t)
structure PSD (K:Fg) (X:Cx) (st:Stmt) (t:SD):Prop where
 o:PS X st (upS K t)
structure PSsD (K:Fg) (X:Cx) (st:List Stmt) (t:SD):Prop where
 o:PSs X st (upS K t)
section
variable {X:Cx} {K:Fg}
theorem PD.of {e:Expr} {te:TE} {t:ED} (h:PE X e te) (i:∀ σ H Q,upE K t σ H Q->te σ H Q):PD K X e t:=⟨fun pins s σ H Q I q=>h pins s σ H Q I (i σ H Q q)⟩
theorem PTD.of {e:Expr} {te:TT} {t:TD} (h:PT X e te) (i:∀ σ H Q,upT K t σ H Q->te σ H Q):PTD K X e t:=⟨fun pins s σ H Q I q=>h pins s σ H Q I (i σ H Q q)⟩
theorem PAD.of {e:List Expr} {te:TA} {t:AD} (h:PA X e te) (i:∀ σ H Q,upA K t σ H Q->te σ H Q):PAD K X e t:=⟨fun pos pins s σ H Q I q=>h pos pins s σ H Q I (i σ H Q q)⟩
theorem PSD.of {e:Stmt} {te:TS} {t:SD} (h:PS X e te) (i:∀ D' σ H,upS K t D' σ H->te D' σ H):PSD K X e t:=⟨fun pins s σ H D' I q=>h pins s σ H D' I (i D' σ H q)⟩
theorem PSsD.of {e:List Stmt} {te:TS} {t:SD} (h:PSs X e te) (i:∀ D' σ H,upS K t D' σ H->te D' σ H):PSsD K X e t:=⟨fun pins s σ H D' I q=>h pins s σ H D' I (i D' σ H q)⟩
def dVar (i:Nat):ED:=fun Γ S Q=>look Γ i fun d=>Q d S
def dC (d:D):ED:=fun _ S Q=>Q d S
theorem dv (i:Nat) {x:Str} {pos:Pos} (hN:X.N[i]?=some x:=by rfl) (hv:Vis X.env.scope x:=by first | exact aW rfl | exact Or.inr (aW rfl) | exact Or.inr (Or.inr rfl)) (hd:(x == ("__debug__" : Str))=false:=by decide)
  (hcd:(x == ("__classdict__" : Str))=false:=by decide):PD K X (.Name x pos) (dVar i):=.of (pe_var hN hv hd hcd) fun σ H Q z0=>z0.el fun F S Γ QD r g h c=>by
 obtain⟨v,d,e,q,z⟩:=g.look h;exact⟨v,e,c v d H S (Ext.refl _ _) r q z⟩
theorem up_c {d:D} {v:V} (h:∀ M H,RepV K M H d v):∀ σ H Q,upE K (dC d) σ H Q->tC v σ H Q:=fun σ H Q z0=>z0.el fun F S Γ QD r g q c=>c v d H S (Ext.refl _ _) r (h _ _) q
theorem e_int {i j pos}:PD K X (.Constant (.int i) j pos) (dC (.int i)):=.of pe_int (up_c fun _ _=>by unfold RepV;rfl)
theorem e_bl {b j pos}:PD K X (.Constant (.bool b) j pos) (dC (.bl b)):=.of pe_bl (up_c fun _ _=>by unfold RepV;rfl)
theorem e_non {j pos}:PD K X (.Constant .none j pos) (dC .non):=.of pe_non (up_c fun _ _=>by unfold RepV;rfl)
theorem e_str {x j pos}:PD K X (.Constant (.str x) j pos) (dC (.str x)):=.of pe_str (up_c fun _ _=>by unfold RepV;rfl)
theorem e_ty {x:Str} {n:String} {pos:Pos} (hg:Gl X x) (hm:X.mg x=none) (hv:bC x=some (.type n)) (hn:x ≠ "__name__":=by decide) (hd:(x == ("__debug__" : Str))=false:=by decide):PD K X (.Name x pos) (dC (.ty n)) :=
 .of (pe_ty hg hm hv hn hd) (up_c fun _ _=>by unfold RepV;rfl)
def Cn (K:Fg) (F:Am) (S:Sto) (H:Hp) (QD:DK) (Q:VK):Prop:=∀ v d H' S',Ext S H S' H'->Rp K F S' H'->RepV K (mt S' F) H' d v->QD d S'->Q v H'
abbrev R2D:=D->D->Sto->DK->Prop
def OpD (K:Fg) (r:R2) (rd:R2D):Prop:=∀ F S H d e x y Q QD,Rp K F S H->RepV K (mt S F) H d x->RepV K (mt S F) H e y->rd d e S QD->Cn K F S H QD Q->r x y H Q
def dOp (rd:R2D) (ta tb:ED):ED:=fun Γ S Q=>ta Γ S fun x S1=>tb Γ S1 fun y S2=>rd x y S2 Q
theorem up_op {r:R2} {rd:R2D} {ta tb:ED} (h:OpD K r rd):∀ σ H Q,upE K (dOp rd ta tb) σ H Q->tOp r (upE K ta) (upE K tb) σ H Q:=fun σ H Q z0=>z0.el fun F S Γ QD r g q c =>
 ⟨F,S,Γ,_,r,g,q,fun x d H1 S1 x1 r1 v1 q1=>⟨F,S1,Γ,_,r1,g.ext x1,q1,fun y e H2 S2 x2 r2 v2 q2=>h F S2 H2 d e x y Q QD r2 (v1.ext x2) v2 q2 fun v z H3 S3 x3=>c v z H3 S3 (x1.trans (x2.trans x3))⟩⟩
theorem e_op {op:Operator} {r:R2} {rd:R2D} {a b:Expr} {ta tb:ED} {pos:Pos} (ho:OpR X (dW op) r) (h:OpD K r rd) (ha:PD K X a ta) (hb:PD K X b tb):PD K X (.BinOp a op b pos) (dOp rd ta tb):=.of (pe_op ho ha.o hb.o) (up_op h)
theorem e_cmp {op:CmpOp} {r:R2} {rd:R2D} {a b:Expr} {ta tb:ED} {pos:Pos} (ho:OpR X (bW op) r) (h:OpD K r rd) (ha:PD K X a ta) (hb:PD K X b tb) (hm:d0 op b=false):PD K X (.Compare a [op] [b] pos) (dOp rd ta tb):=.of (pe_cmpR ho ha.o hb.o hm) (up_op h)
def dTest (t:ED):TD:=fun Γ S Q=>t Γ S fun d S1=>∃ b,d=.bl b/\Q b S1
theorem up_opT {r:R2} {rd:R2D} {ta tb:ED} (h:OpD K r rd):∀ σ H Q,upT K (dTest (dOp rd ta tb)) σ H Q->tTest (tOp r (upE K ta) (upE K tb)) σ H Q:=fun σ H Q q=>up_op (rd:=rd) h σ H _ (by
 obtain⟨F,S,Γ,QD,r,g,q,c⟩:=q;refine⟨F,S,Γ,_,r,g,q,fun v d H1 S1 x1 r1 v1 ⟨b,e,q1⟩=>?_⟩;subst e;unfold RepV at v1;exact⟨b,v1,c b H1 S1 x1 r1 q1⟩)
theorem dt_cmp {op:CmpOp} {r:R2} {rd:R2D} {a b:Expr} {ta tb:ED} {pos:Pos} (ho:OpR X (bW op) r) (h:OpD K r rd) (ha:PD K X a ta) (hb:PD K X b tb) (hm:d0 op b=false):PTD K X (.Compare a [op] [b] pos) (dTest (dOp rd ta tb)):=.of (pt_cmpR ho ha.o hb.o hm) (up_opT h)
end
end L2
set_option maxHeartbeats 4000000
namespace L2
open PySem PySem.Spec PyProof.Rows
section
variable {K:Fg} {F:Am} {S:Sto} {H:Hp} {QD:DK} {Q:VK}
theorem Cn.here (c:Cn K F S H QD Q) (r:Rp K F S H) {d:D} {v:V} (h:RepV K (mt S F) H d v) (q:QD d S):Q v H:=c v d H S (Ext.refl _ _) r h q
theorem Cn.int (c:Cn K F S H QD Q) (r:Rp K F S H) {i:Int} (q:QD (.int i) S):Q (.int i) H:=c.here r (by unfold RepV;rfl) q
theorem Cn.str (c:Cn K F S H QD Q) (r:Rp K F S H) {i:Str} (q:QD (.str i) S):Q (.str i) H:=c.here r (by unfold RepV;rfl) q
theorem Cn.bl (c:Cn K F S H QD Q) (r:Rp K F S H) {i:Bool} (q:QD (.bl i) S):Q (.bl i) H:=c.here r (by unfold RepV;rfl) q
theorem Rp.nmt (r:Rp K F S H) {a:Addr} (h:H a=none):¬ mt S F a:=fun z=>by
 rcases z with z | z
 ·exact z (r.sn h)
 ·obtain⟨⟨zs,e,_⟩,_⟩:=r.frm a z;rw[h] at e;cases e
theorem Cn.tup (c:Cn K F S H QD Q) (r:Rp K F S H) {l:Addr} (h:H l=none) {ds:List D} {xs:List V} (rl:RepL K (mt S F) H ds xs) (q:QD (.tup ds) S):Q (.ref l) (upd H l (.tup xs)):=by
 have x:Ext S H S (upd H l (.tup xs)):=Ext.same (same_upd h);refine c _ _ _ S x (r.same (same_upd h)) ?_ q;unfold RepV;exact⟨l,xs,rfl,.inl ⟨r.nmt h,.inl upd_same⟩,rl.ext x⟩
theorem Cn.lst (c:Cn K F S H QD Q) (r:Rp K F S H) {l:Addr} (h:H l=none) {ds:List D} {xs:List V} (rl:RepL K (mt S F) H ds xs) (q:QD (.lst ds) S):Q (.ref l) (upd H l (.lst xs)):=by
 have x:Ext S H S (upd H l (.lst xs)):=Ext.same (same_upd h);refine c _ _ _ S x (r.same (same_upd h)) ?_ q;unfold RepV;exact⟨l,xs,rfl,.inl ⟨r.nmt h,.inl upd_same⟩,rl.ext x⟩
theorem Cn.lstR (c:Cn K F S H QD Q) (r:Rp K F S H) {l:Addr} (h:H l=none) {ds:List D} {xs:List V} (rl:RepL K (mt S F) H ds xs) (q:QD (.ref l) (supd S l (.lst ds))):Q (.ref l) (upd H l (.lst xs)):=by
 have x:Ext S H (supd S l (.lst ds)) (upd H l (.lst xs)):=Ext.mk' h;exact c _ _ _ _ x (r.mk' h ⟨xs,upd_same,rl.ext x⟩) (by unfold RepV;rfl) q
def newL (b:Bool) (ds:List D) (S:Sto) (Q:DK):Prop:=match b with
 | false=>Q (.lst ds) S
 | true=>∀ p,S p=none->Q (.ref p) (supd S p (.lst ds))
theorem Cn.new (c:Cn K F S H QD Q) (r:Rp K F S H) {b:Bool} {l:Addr} (h:H l=none) {ds:List D} {xs:List V} (rl:RepL K (mt S F) H ds xs) (q:newL b ds S QD):Q (.ref l) (upd H l (.lst xs)):=by
 cases b with
 | false=>exact c.lst r h rl q
 | true=>exact c.lstR r h rl (q l (r.sn h))
def lsIs (S:Sto):D->List D->Prop
 | .lst ys,xs=>ys=xs
 | .ref a,xs=>S a=some (.lst xs)
 | _,_=>False
def sqIs (S:Sto):D->List D->Prop
 | .tup ys,xs=>ys=xs
 | .lst ys,xs=>ys=xs
 | .ref a,xs=>S a=some (.lst xs)
 | _,_=>False
theorem lsIs.sl (r:Rp K F S H) {d:D} {v:V} {ds:List D} (h:RepV K (mt S F) H d v) (l:lsIs S d ds):∃ a xs,v=.ref a/\SqL K H a xs/\RepL K (mt S F) H ds xs:=by
 cases d with
 | lst ys =>
  cases l;unfold RepV at h;obtain⟨a,xs,e,q,z⟩:=h;exact⟨a,xs,e,q.sq,z⟩
 | ref a =>
  unfold RepV at h;obtain⟨xs,e,z⟩:=r.obj a _ l;exact⟨a,xs,h,SqL.of e,z⟩
 | _=>exact l.elim
theorem tup.st {ds:List D} {v:V} (h:RepV K (mt S F) H (.tup ds) v):∃ a xs,v=.ref a/\SqT K H a xs/\RepL K (mt S F) H ds xs:=by
 unfold RepV at h;obtain⟨a,xs,e,t,z⟩:=h;exact⟨a,xs,e,t.sq,z⟩
theorem sqIs.sq (r:Rp K F S H) {d:D} {v:V} {ds:List D} (h:RepV K (mt S F) H d v) (l:sqIs S d ds):∃ a xs,v=.ref a/\(SqL K H a xs\/SqT K H a xs)/\RepL K (mt S F) H ds xs:=by
 cases d with
 | tup ys =>
  cases l;obtain⟨a,xs,e,t,z⟩:=tup.st h;exact⟨a,xs,e,.inr t,z⟩
 | lst ys =>
  obtain⟨a,xs,e,t,z⟩:=lsIs.sl r h (show lsIs S (.lst ys) ds from l)
  exact⟨a,xs,e,.inl t,z⟩
 | ref a =>
  obtain⟨a,xs,e,t,z⟩:=lsIs.sl r h (show lsIs S (.ref a) ds from l)
  exact⟨a,xs,e,.inl t,z⟩
 | _=>exact l.elim
theorem rint {i:Int} {v:V} (h:RepV K (mt S F) H (.int i) v):v=.int i:=by unfold RepV at h;exact h
theorem rstr {i:Str} {v:V} (h:RepV K (mt S F) H (.str i) v):v=.str i:=by unfold RepV at h;exact h
theorem rbl {i:Bool} {v:V} (h:RepV K (mt S F) H (.bl i) v):v=.bl i:=by unfold RepV at h;exact h
theorem rref {i:Addr} {v:V} (h:RepV K (mt S F) H (.ref i) v):v=.ref i:=by unfold RepV at h;exact h
theorem rnon {v:V} (h:RepV K (mt S F) H .non v):v=.non:=by unfold RepV at h;exact h
end
section
variable {X:Cx} {K:Fg}
def rCatL (K:Fg):R2:=fun x y H Q=>∃ l b xs zs,x=.ref l/\y=.ref b/\SqL K H l xs/\SqL K H b zs/\xs.length + zs.length<=sizeLine/\∀ p,H p=none->Q (.ref p) (upd H p (.lst (xs++zs)))
theorem op_catL (hK:X.K=K:=by rfl):OpR X (dW .Add) (rCatL K):=by
 subst hK;intro pins s σ H x y v u Q I rx ry h;obtain⟨l,b,xs,zs,rfl,rfl,hH,hB,hz,q⟩:=h;cases rx;cases ry;obtain⟨its,r,⟨⟨cls,dd,data,sl⟩,n,ho,hc,hd,hdt⟩,hz1⟩:=I.list hH;obtain⟨its2,r2,⟨⟨cls2,dd2,data2,sl2⟩,n2,ho2,hc2,hd2,hdt2⟩,hz2⟩:=I.list hB;simp only at hc hd hdt hc2 hd2 hdt2;subst hc hd hdt hc2 hd2 hdt2;have h1:=r.length;have h2:=r2.length;refine js ⟨_,ho,rfl⟩ ⟨_,ho2,rfl⟩ noFill_list_add seq_list_add PySem.F.slot_list_add PySem.F.entry_list_add (PySem.F.args_list_add_2 _ _)
  (list_addW l b its.toArray its2.toArray n n2 none none sl sl2 (by rw[aq,aq];lia)) ⟨ho,ho2,?_⟩
 have ea:its.toArray++its2.toArray=(its++its2).toArray:=by simp
 rw[ea];exact⟨.ref _,_,I.lnew (t':=s.toks) (r.append r2) (by rw[az];lia),rfl,q _ I.fresh⟩
def rCat0 (K:Fg):R2:=fun x y H Q=>∃ a b ys,x=.ref a/\y=.ref b/\SqT K H a []/\SqT K H b ys/\Q (.ref b) H
theorem op_cat0 (hK:X.K=K:=by rfl):OpR X (dW .Add) (rCat0 K):=by
 subst hK;intro pins s σ H x y v u Q I rx ry h;obtain⟨a,b,ys,rfl,rfl,ha,hb,q⟩:=h;cases rx;cases ry;obtain⟨its,r1,p1,_⟩:=I.tuple ha;obtain⟨its2,r2,p2,_⟩:=I.tuple hb;cases r1;obtain⟨⟨cls,dd,data,sl⟩,ho,hc,n,hd⟩:=id p1;obtain⟨⟨cls2,dd2,data2,sl2⟩,ho2,hc2,n2,hd2⟩:=id p2;simp only at hc hd hc2 hd2;subst hc hd hc2 hd2;exact js ⟨_,ho,rfl⟩ ⟨_,ho2,rfl⟩ i6 seq_tuple_add gf f6 (fL _ _)
   (tuple_addW0 a b _ _ n n2 dd dd2 sl sl2 rfl) ⟨ho,ho2,⟨.ref b,H,I,rfl,q⟩⟩
def addD (b:Bool):R2D:=fun d e S Q=>match d,e with
 | .int i,.int j=>Q (.int (i + j)) S
 | .str x,.str y=>x.length + y.length<=sizeLine/\Q (.str (x++y)) S
 | .tup xs,.tup ys=>xs.length + ys.length<=sizeLine/\Q (.tup (xs++ys)) S
 | d,e=>∃ xs ys,lsIs S d xs/\lsIs S e ys/\xs.length + ys.length<=sizeLine/\newL b (xs++ys) S Q
def rAddA (K:Fg):R2:=fun x y H Q=>rI0 (fun i j=>.int (i + j)) x y H Q\/(∃ i j,x=.str i/\y=.str j/\i.length + j.length<=sizeLine/\Q (.str (i++j)) H)\/rCatT K x y H Q\/rCat0 K x y H Q\/rCatL K x y H Q
theorem op_addA (hK:X.K=K:=by rfl):OpR X (dW .Add) (rAddA K):=op_add.or (op_add_str.or ((op_catTK hK).or ((op_cat0 hK).or (op_catL hK))))
theorem od_add {b:Bool}:OpD K (rAddA K) (addD b):=by
 intro F S H d e x y Q QD r hd he h c;have lists:(∃ xs ys,lsIs S d xs/\lsIs S e ys/\xs.length + ys.length<=sizeLine/\newL b (xs++ys) S QD)->rAddA K x y H Q:=by
  rintro⟨xs,ys,l1,l2,hz,q⟩;obtain⟨a,us,rfl,s1,p1⟩:=lsIs.sl r hd l1;obtain⟨a2,us2,rfl,s2,p2⟩:=lsIs.sl r he l2;exact .inr (.inr (.inr (.inr ⟨a,a2,us,us2,rfl,rfl,s1,s2,by rw[p1.length,p2.length];exact hz,fun p hp=>c.new r hp (p1.app p2) q⟩)))
 cases d with
 | int i =>
  cases e with
  | int j=>rw[rint hd,rint he];exact .inl ⟨i,j,rfl,rfl,c.int r h⟩
  | _=>exact lists h
 | str i =>
  cases e with
  | str j=>rw[rstr hd,rstr he];exact .inr (.inl ⟨i,j,rfl,rfl,h.1,c.str r h.2⟩)
  | _=>exact lists h
 | tup xs =>
  cases e with
  | tup ys =>
   obtain⟨a,us,rfl,s1,p1⟩:=tup.st hd;obtain⟨a2,us2,rfl,s2,p2⟩:=tup.st he
   by_cases hx:xs=[]
   ·subst hx;unfold RepL at p1;subst p1;exact .inr (.inr (.inr (.inl ⟨a,a2,us2,rfl,rfl,s1,s2,c.here r he (by simpa using h.2)⟩)))
   ·refine .inr (.inr (.inl ⟨a,a2,us,us2,rfl,rfl,s1,s2,fun z=>hx ?_,by rw[p1.length,p2.length];exact h.1,fun z=>?_,fun _ p hp=>c.tup r hp (p1.app p2) h.2⟩))
    ·have:=p1.length;rw[z] at this;exact cu this.symm
    ·have h0:ys=[]:=by have:=p2.length;rw[z] at this;exact cu this.symm
     subst h0;exact c.here r hd (by simpa using h.2)
  | _=>exact lists h
 | _=>exact lists h
def iiD (C:Int->Int->Prop) (g:Int->Int->D):R2D:=fun d e S Q=>match d,e with
 | .int i,.int j=>C i j/\Q (g i j) S
 | _,_=>False
theorem od_I {C:Int->Int->Prop} {g:Int->Int->Int}:OpD K (rI C fun i j=>.int (g i j)) (iiD C fun i j=>.int (g i j)):=by
 intro F S H d e x y Q QD r hd he h c;cases d with
 | int i =>
  cases e with
  | int j=>rw[rint hd,rint he];exact⟨i,j,rfl,rfl,h.1,c.int r h.2⟩
  | _=>exact h.elim
 | _=>exact h.elim
def iiD0 (g:Int->Int->D):R2D:=fun d e S Q=>match d,e with
 | .int i,.int j=>Q (g i j) S
 | _,_=>False
theorem od_I0 {g:Int->Int->Int}:OpD K (rI0 fun i j=>.int (g i j)) (iiD0 fun i j=>.int (g i j)):=by
 intro F S H d e x y Q QD r hd he h c;cases d with
 | int i =>
  cases e with
  | int j=>rw[rint hd,rint he];exact⟨i,j,rfl,rfl,c.int r h⟩
  | _=>exact h.elim
 | _=>exact h.elim
theorem od_B0 {g:Int->Int->Bool}:OpD K (rI0 fun i j=>.bl (g i j)) (iiD0 fun i j=>.bl (g i j)):=by
 intro F S H d e x y Q QD r hd he h c;cases d with
 | int i =>
  cases e with
  | int j=>rw[rint hd,rint he];exact⟨i,j,rfl,rfl,c.bl r h⟩
  | _=>exact h.elim
 | _=>exact h.elim
section
variable {a b:Expr} {ta tb:ED} {pos:Pos}
theorem e_add {k:Bool} (ha:PD K X a ta) (hb:PD K X b tb) (hK:X.K=K:=by rfl):PD K X (.BinOp a .Add b pos) (dOp (addD k) ta tb):=e_op (op_addA hK) od_add ha hb
theorem e_sub (ha:PD K X a ta) (hb:PD K X b tb):PD K X (.BinOp a .Sub b pos) (dOp (iiD0 fun i j=>.int (i - j)) ta tb):=e_op op_sub od_I0 ha hb
theorem e_mul (ha:PD K X a ta) (hb:PD K X b tb):PD K X (.BinOp a .Mult b pos) (dOp (iiD CMul fun i j=>.int (i * j)) ta tb):=e_op op_mul od_I ha hb
theorem e_mod (ha:PD K X a ta) (hb:PD K X b tb):PD K X (.BinOp a .Mod b pos) (dOp (iiD (fun _ j=>0 < j) fun i j=>.int (i % j)) ta tb):=e_op op_mod od_I ha hb
theorem e_fdiv (ha:PD K X a ta) (hb:PD K X b tb):PD K X (.BinOp a .FloorDiv b pos) (dOp (iiD CDiv fun i j=>.int (i / j)) ta tb):=e_op op_fdiv od_I ha hb
theorem e_pow (ha:PD K X a ta) (hb:PD K X b tb):PD K X (.BinOp a .Pow b pos) (dOp (iiD CPow fun i j=>.int (i ^ j.toNat)) ta tb):=e_op op_pow od_I ha hb
theorem e_shr (ha:PD K X a ta) (hb:PD K X b tb):PD K X (.BinOp a .RShift b pos) (dOp (iiD (fun _ j=>0<=j) fun i j=>.int (i / 2 ^ j.toNat)) ta tb):=e_op op_shr od_I ha hb
theorem e_band (ha:PD K X a ta) (hb:PD K X b tb):PD K X (.BinOp a .BitAnd b pos) (dOp (iiD0 fun i j=>.int (bD i j)) ta tb):=e_op op_and od_I0 ha hb
end
def unD (g:Int->D):D->Sto->DK->Prop:=fun d S Q=>match d with
 | .int i=>Q (g i) S
 | _=>False
def dUn (rd:D->Sto->DK->Prop) (ta:ED):ED:=fun Γ S Q=>ta Γ S fun x S1=>rd x S1 Q
theorem e_neg {a:Expr} {ta:ED} {pos:Pos} (ha:PD K X a ta):PD K X (.UnaryOp .USub a pos) (dUn (unD fun i=>.int (-i)) ta):=.of (pe_un un_neg ha.o) fun σ H Q z0=>z0.el fun F S Γ QD r g q c =>
 ⟨F,S,Γ,_,r,g,q,fun v d H1 S1 x1 r1 v1 q1=>by
  cases d with
  | int i=>rw[rint v1];exact⟨i,rfl,Cn.int (fun v z H3 S3 x3=>c v z H3 S3 (x1.trans x3)) r1 q1⟩
  | _=>exact q1.elim⟩
def dNil:AD:=fun _ S Q=>Q [] S
def dCons (ta:ED) (tr:AD):AD:=fun Γ S Q=>ta Γ S fun x S1=>tr Γ S1 fun xs S2=>Q (x::xs) S2
theorem da_nil:PAD K X [] dNil:=.of pa_nil fun σ H Q z0=>z0.el fun F S Γ QD r g q c=>c [] [] H S (Ext.refl _ _) r RepL.nil q
theorem da_cons {e:Expr} {es:List Expr} {te:ED} {t:AD} (ha:PD K X e te) (hr:PAD K X es t) (hs:ax (e::es) X.env=(false,eval e X.env)::ax es X.env:=by rfl):PAD K X (e::es) (dCons te t) :=
 .of (pa_cons ha.o hr.o hs) fun σ H Q z0=>z0.el fun F S Γ QD r g q c=>⟨F,S,Γ,_,r,g,q,fun v d H1 S1 x1 r1 v1 q1=>⟨F,S1,Γ,_,r1,g.ext x1,q1,fun vs ds H2 S2 x2 r2 v2 q2=>c (v::vs) (d::ds) H2 S2 (x1.trans x2) r2 (RepL.cons (v1.ext x2) v2) q2⟩⟩
def dTup (t:AD):ED:=fun Γ S Q=>t Γ S fun ds S1=>ds.length<=sizeLine/\Q (.tup ds) S1
def dLst (b:Bool) (t:AD):ED:=fun Γ S Q=>t Γ S fun ds S1=>ds.length<=sizeLine/\newL b ds S1 Q
theorem Cn.shift {F:Am} {S S1:Sto} {H H1:Hp} {QD:DK} {Q:VK} (c:∀ v d H' S',Ext S H S' H'->Rp K F S' H'->RepV K (mt S' F) H' d v->QD d S'->Q v H') (x:Ext S H S1 H1):Cn K F S1 H1 QD Q:=fun v z H3 S3 x3=>c v z H3 S3 (x.trans x3)
theorem e_tup {es:List Expr} {t:AD} {x1 pos} (h:PAD K X es t):PD K X (.Tuple es x1 pos) (dTup t):=.of (pe_tup h.o) fun σ H Q z0=>z0.el fun F S Γ QD r g q c =>
 ⟨F,S,Γ,_,r,g,q,fun vs ds H1 S1 x1 r1 v1 q1=>⟨by rw[v1.length];exact q1.1,fun p hp=>(Cn.shift c x1).tup r1 hp v1 q1.2⟩⟩
theorem e_lst {b:Bool} {es:List Expr} {t:AD} {pos} (h:PAD K X es t):PD K X (.List es pos) (dLst b t):=.of (pe_lst h.o) fun σ H Q z0=>z0.el fun F S Γ QD r g q c =>
 ⟨F,S,Γ,_,r,g,q,fun vs ds H1 S1 x1 r1 v1 q1=>⟨by rw[v1.length];exact q1.1,fun p hp=>(Cn.shift c x1).new r1 hp v1 q1.2⟩⟩
abbrev RCD:=List D->Sto->DK->Prop
def CallD (K:Fg) (r:List V->Hp->VK->Prop) (rd:RCD):Prop:=∀ F S H ds vs Q QD,Rp K F S H->RepL K (mt S F) H ds vs->rd ds S QD->Cn K F S H QD Q->r vs H Q
def dCB (rd:RCD) (t:AD):ED:=fun Γ S Q=>t Γ S fun ds S1=>rd ds S1 Q
theorem up_cb {r:List V->Hp->VK->Prop} {rd:RCD} {t:AD} (h:CallD K r rd):∀ σ H Q,upE K (dCB rd t) σ H Q->tCB r (upA K t) σ H Q:=fun σ H Q z0=>z0.el fun F S Γ QD r g q c =>
 ⟨F,S,Γ,_,r,g,q,fun vs ds H1 S1 x1 r1 v1 q1=>h F S1 H1 ds vs Q QD r1 v1 q1 (Cn.shift c x1)⟩
theorem e_callB {id:String} {r:List V->Hp->VK->Prop} {rd:RCD} {x:Str} {p pos:Pos} {e:Expr} {es:List Expr} {t:AD} (hc:CallR X (.builtin id) r) (h:CallD K r rd) (hg:Gl X x) (hm:X.mg x=none) (hv:bC x=some (.builtin id)) (ha:PAD K X (e::es) t) (hn:x ≠ "__name__":=by decide) (hdb:(x == ("__debug__" : Str))=false:=by decide)
  (he:ax (e::es) X.env=(false,eval e X.env)::ax es X.env:=by rfl) (hpl:(cw pos (ax es X.env)).any (·.1)=false:=by rfl):PD K X (.Call (.Name x p) (e::es) [] pos) (dCB rd t):=.of (pe_callB hc hg hm hv ha.o hn hdb he hpl) (up_cb h)
theorem e_callTy {T:String} {r:List V->Hp->VK->Prop} {rd:RCD} {x:Str} {p pos:Pos} {e:Expr} {es:List Expr} {t:AD} (hc:CallR X (.type T) r) (h:CallD K r rd) (hg:Gl X x) (hm:X.mg x=none) (hv:bC x=some (.type T)) (ha:PAD K X (e::es) t) (hn:x ≠ "__name__":=by decide) (hdb:(x == ("__debug__" : Str))=false:=by decide)
  (he:ax (e::es) X.env=(false,eval e X.env)::ax es X.env:=by rfl) (hpl:(cw pos (ax es X.env)).any (·.1)=false:=by rfl):PD K X (.Call (.Name x p) (e::es) [] pos) (dCB rd t):=.of (pe_callTy hc hg hm hv ha.o hn hdb he hpl) (up_cb h)
end
mutual
def beqD:D->D->Bool
 | .non,.non=>true
 | .bl a,.bl b=>a == b
 | .int a,.int b=>decide (a=b)
 | .str a,.str b=>decide (a=b)
 | .ty a,.ty b=>decide (a=b)
 | .ref a,.ref b=>decide (a=b)
 | .tup a,.tup b=>beqDs a b
 | .lst a,.lst b=>beqDs a b
 | _,_=>false
def beqDs:List D->List D->Bool
 | [],[]=>true
 | a::as,b::bs=>beqD a b && beqDs as bs
 | _,_=>false
end
theorem bqE {α:Type} [BEq α] [LawfulBEq α] {c:α->D} (inj:∀ x y,c x=c y->x=y) (x y:α):(x == y)=true↔c x=c y:=⟨fun h=>congrArg c (beq_iff_eq.mp h),fun h=>beq_iff_eq.mpr (inj x y h)⟩
theorem bdE {α:Type} {c:α->D} (inj:∀ x y,c x=c y->x=y) (x y:α) {d:Decidable (x=y)}:@decide (x=y) d=true↔c x=c y:=⟨fun h=>congrArg c (of_decide_eq_true h),fun h=>decide_eq_true (inj x y h)⟩
theorem bnE {p:Prop} (h:¬ p):false=true↔p:=⟨fun z=>absurd z ba,fun z=>absurd z h⟩
mutual
theorem beqD_eq:∀ {a b:D},beqD a b=true↔a=b
 | .non,b=>by
  cases b with
  | non=>exact⟨fun _=>rfl,fun _=>rfl⟩
  | _=>exact bnE (fun h=>by cases h)
 | .bl x,b=>by
  cases b with
  | bl y=>exact bqE (fun _ _ h=>by injection h) x y
  | _=>exact bnE (fun h=>by cases h)
 | .int x,b=>by
  cases b with
  | int y=>exact bdE (fun _ _ h=>by injection h) x y
  | _=>exact bnE (fun h=>by cases h)
 | .str x,b=>by
  cases b with
  | str y=>exact bdE (fun _ _ h=>by injection h) x y
  | _=>exact bnE (fun h=>by cases h)
 | .ty x,b=>by
  cases b with
  | ty y=>exact bdE (fun _ _ h=>by injection h) x y
  | _=>exact bnE (fun h=>by cases h)
 | .ref x,b=>by
  cases b with
  | ref y=>exact bdE (fun _ _ h=>by injection h) x y
  | _=>exact bnE (fun h=>by cases h)
 | .tup as,b=>by
  cases b with
  | tup bs=>exact beqDs_eq.trans ⟨fun h=>congrArg D.tup h,fun h=>by injection h⟩
  | _=>exact bnE (fun h=>by cases h)
 | .lst as,b=>by
  cases b with
  | lst bs=>exact beqDs_eq.trans ⟨fun h=>congrArg D.lst h,fun h=>by injection h⟩
  | _=>exact bnE (fun h=>by cases h)
theorem beqDs_eq:∀ {a b:List D},beqDs a b=true↔a=b
 | [],b=>by cases b <;> simp[beqDs]
 | a::as,[]=>by simp[beqDs]
 | a::as,b::bs=>by
  simp only[beqDs,aV,List.cons.injEq];rw[beqD_eq,beqDs_eq]
end
instance:DecidableEq D:=fun a b=>decidable_of_iff _ (beqD_eq (a:=a) (b:=b))
def okE:Nat->D->D->Bool
 | _,.int _,.int _=>true
 | _,.str _,.str _=>true
 | _,.bl _,.bl _=>true
 | _,.non,.non=>true
 | _,.non,.int _=>true
 | _,.int _,.non=>true
 | _,.non,.str _=>true
 | _,.str _,.non=>true
 | n + 1,.non,.tup _=>true
 | n + 1,.tup _,.non=>true
 | n + 1,.tup xs,.tup ys=>(xs.zip ys).all fun p=>okE n p.1 p.2
 | n + 1,.lst xs,.lst ys=>(xs.zip ys).all fun p=>okE n p.1 p.2
 | _,_,_=>false
abbrev okEs (n:Nat) (xs ys:List D):Bool:=(xs.zip ys).all fun p=>okE n p.1 p.2
section
variable {X:Cx} {pins:List (Addr × Obj)} {σ:St} {H:Hp} {s:ai} {M:Am}
structure Eq3 (A:a6) (s:ai) (u v:ae) (b:Bool):Prop where
 eq:cS A s u v b
 rc:SeqAt.RcAt A s u v b
 ne:cv A s u v (!b)
theorem dec_tup {xs ys:List D}:decide (D.tup xs=D.tup ys)=decide (xs=ys):=by simp
theorem dec_lst {xs ys:List D}:decide (D.lst xs=D.lst ys)=decide (xs=ys):=by simp
theorem zip_get {xs ys:List D} {j:Nat} {a b:D} (h1:xs[j]?=some a) (h2:ys[j]?=some b):(a,b)∈xs.zip ys:=by
 have h1':j < xs.length:=by
  rcases Nat.lt_or_ge j xs.length with z | z
  ·exact z
  ·rw[bP z] at h1;cases h1
 have h2':j < ys.length:=by
  rcases Nat.lt_or_ge j ys.length with z | z
  ·exact z
  ·rw[bP z] at h2;cases h2
 have e1:xs[j]=a:=by rw[ag h1'] at h1;exact aP h1
 have e2:ys[j]=b:=by rw[ag h2'] at h2;exact aP h2
 have hz:j < (xs.zip ys).length:=by rw[List.length_zip];lia
 have:(xs.zip ys)[j]=(a,b):=by rw[List.getElem_zip,e1,e2]
 rw[<- this];exact d6 hz
theorem itemsE {n:Nat} {xs ys:List V} {us vs:List ae} {ds es:List D} {A:a6} (p:RepL X.K M H ds xs) (p':RepL X.K M H es ys) (r:Vals xs us) (r':Vals ys vs) (hz:okEs n ds es=true)
  (ih:∀ {d e:D} {x y:V} {u v:ae},RepV X.K M H d x->RepV X.K M H e y->RelV x u->RelV y v->okE n d e=true->Eq3 A s u v (decide (d=e))) :
  ∀ j (h1:j < us.toArray.size) (h2:j < vs.toArray.size),cS A s us.toArray[j] vs.toArray[j] (decide (ds[j]?=es[j]?)):=by
 intro j h1 h2;simp only[aq] at h1 h2;have hx:j < xs.length:=by have:=r.length;lia
 have hy:j < ys.length:=by have:=r'.length;lia
 obtain⟨d,ed,rd⟩:=p.get' (ag hx);obtain⟨e,ee,re⟩:=p'.get' (ag hy);obtain⟨u,eu,ru⟩:=r.get (ag hx);obtain⟨v,ev,rv⟩:=r'.get (ag hy);have eu':us[j]=u:=by rw[ag h1] at eu;exact aP eu
 have ev':vs[j]=v:=by rw[ag h2] at ev;exact aP ev
 have:decide (ds[j]?=es[j]?)=decide (d=e):=by rw[ed,ee];simp
 rw[this];simp only[List.getElem_toArray];rw[eu',ev'];exact(ih rd re ru rv (a7.mp hz _ (zip_get ed ee))).eq
theorem listsE {n:Nat} {a b:Addr} {xs ys:List V} {ds es:List D} {A:a6} (I:Inv X pins σ H s) (q:SqL X.K H a xs) (q':SqL X.K H b ys) (p:RepL X.K M H ds xs) (p':RepL X.K M H es ys) (hz:okEs n ds es=true) (hu:A.units + (n + 1) < b7)
  (ih:∀ {d e:D} {x y:V} {u v:ae},RepV X.K M H d x->RepV X.K M H e y->RelV x u->RelV y v->okE n d e=true->Eq3 A.in1 s u v (decide (d=e))) :
  SeqAt.RcAt A s (.ref a) (.ref b) (decide (ds=es))/\cv A s (.ref a) (.ref b) (!decide (ds=es)):=by
 obtain⟨us,ru,pl,_⟩:=I.list q;obtain⟨vs,rv,pl',_⟩:=I.list q';have l1:=p.length;have l2:=p'.length;have l3:=ru.length;have l4:=rv.length;have it:=itemsE (A:=A.in1) p p' ru rv hz ih
 by_cases hl:ds.length=es.length
 ·have hs:us.toArray.size=vs.toArray.size:=by rw[aq,aq];lia
  have ans:((aY (us.toArray.size)).all fun j=>decide (ds[j]?=es[j]?))=decide (ds=es):=by
   have:=seq_ans ds es us.toArray.size vs.toArray.size (by rw[aq];lia) (by rw[aq];lia)
   rw[hs,Nat.min_self] at this;rw[hs,<- this];simp
  have h1:=SeqAt.RcAt.lists (e:=fun j=>decide (ds[j]?=es[j]?)) pl.isList pl'.isList hs (show A.units < b7 by lia) fun j h1 h2=>it j h1 h2
  have h2:=cv.lists (e:=fun j=>decide (ds[j]?=es[j]?)) pl.isList pl'.isList hs (show A.units < b7 by lia) fun j h1 h2=>it j h1 h2
  rw[ans] at h1 h2;exact⟨h1,h2⟩
 ·have hs:(us.toArray.size != vs.toArray.size)=true:=by rw[aq,aq];simp;lia
  have hne:ds≠es:=fun e=>hl (by rw[e])
  rw[decide_eq_false hne];exact⟨SeqAt.RcAt.lists_lengths pl.isList pl'.isList hs (by lia),cv.lists_lengths pl.isList pl'.isList hs (by lia)⟩
theorem uniqL {n:Nat} (ih:∀ {d e:D} {v:V},RepV X.K M H d v->RepV X.K M H e v->okE n d e=true->d=e):∀ {ds es:List D} {xs:List V},RepL X.K M H ds xs->RepL X.K M H es xs->okEs n ds es=true->ds=es
 | [],[],_,_,_,_=>rfl
 | [],e::es,xs,p,p',_=>by have h1:=p.length;have h2:=p'.length;rw[h1] at h2;simp at h2
 | d::ds,[],xs,p,p',_=>by have h1:=p.length;have h2:=p'.length;rw[h1] at h2;simp at h2
 | d::ds,e::es,xs,p,p',h=>by
  unfold RepL at p p';obtain⟨v,vs,rfl,r,l⟩:=p;obtain⟨v',vs',e1,r',l'⟩:=p';cases e1;simp only[okEs,dF,fP,aV] at h;rw[ih r r' h.1,uniqL ih l l' h.2]
theorem uniq (I:Inv X pins σ H s):∀ (n:Nat) {d e:D} {v:V},RepV X.K M H d v->RepV X.K M H e v->okE n d e=true->d=e:=by
 intro n
 induction n with
 | zero =>
  intro d e v h h' o;cases d <;> cases e <;> first | rfl | (cases o;done) | (unfold RepV at h h';rw[h] at h';cases h';done) | (unfold RepV at h h';rw[h] at h';cases h';rfl)
 | succ n ih =>
  intro d e v h h' o;cases d <;> cases e <;> first | rfl | (cases o;done) | (unfold RepV at h h';rw[h] at h';cases h';done) | (unfold RepV at h h';rw[h] at h';cases h';rfl) | skip
  ·unfold RepV at h h';obtain⟨a,xs,e1,_⟩:=h';rw[h] at e1;cases e1
  ·unfold RepV at h h';obtain⟨a,xs,e1,_⟩:=h;rw[h'] at e1;cases e1
  ·unfold RepV at h h';obtain⟨a,xs,rfl,t,l⟩:=h;obtain⟨b,ys,e1,t',l'⟩:=h';cases e1
   have:=I.tuple_inj t.sq t'.sq
   subst this;rw[uniqL ih l l' o]
  ·unfold RepV at h h';obtain⟨a,xs,rfl,t,l⟩:=h;obtain⟨b,ys,e1,t',l'⟩:=h';cases e1
   have:=I.list_inj t.sq t'.sq
   subst this;rw[uniqL ih l l' o]
theorem eq3 (I:Inv X pins σ H s):∀ (n:Nat) {A:a6} {d e:D} {x y:V} {u v:ae},A.units + n < b7->RepV X.K M H d x->RepV X.K M H e y->RelV x u->RelV y v->okE n d e=true->Eq3 A s u v (decide (d=e)):=by
 intro n
 induction n with
 | zero =>
  intro A d e x y u v hu h h' r r' o;cases d <;> cases e <;> first | (cases o;done) | skip
  all_goals unfold RepV at h h';subst h;subst h'
  ·cases r;cases r';exact⟨jG _,SeqAt.RcAt.none_none,cv.none_none⟩
  ·cases r;obtain⟨t,rfl⟩:=r';exact⟨cS.none_int _ _,SeqAt.RcAt.none_int _ _,cv.none_int _ _⟩
  ·cases r;obtain⟨t,rfl⟩:=r';exact⟨cS.none_str _ _,SeqAt.RcAt.none_str _ _,cv.none_str _ _⟩
  ·cases r;cases r';rw[show ∀ a b:Bool,decide (D.bl a=D.bl b)=(a == b) from by intro a b;cases a <;> cases b <;> rfl];exact⟨cS.bool_bool _ _,SeqAt.RcAt.bool_bool _ _,cv.bool_bool _ _⟩
  ·obtain⟨t,rfl⟩:=r;cases r';exact⟨cS.int_none _ _,SeqAt.RcAt.int_none _ _,cv.int_none _ _⟩
  ·obtain⟨t,rfl⟩:=r;obtain⟨t',rfl⟩:=r';rw[show ∀ a b:Int,decide (D.int a=D.int b)=(a == b) from by intro a b;rw[beq_dec];simp];exact⟨cS.int_int _ _ _ _,SeqAt.RcAt.int_int _ _ _ _,cv.int_int _ _ _ _⟩
  ·obtain⟨t,rfl⟩:=r;cases r';exact⟨cS.str_none _ _,SeqAt.RcAt.str_none _ _,cv.str_none _ _⟩
  ·obtain⟨t,rfl⟩:=r;obtain⟨t',rfl⟩:=r';rw[show ∀ a b:Str,decide (D.str a=D.str b)=(a == b) from by intro a b;rw[beq_dec];simp];exact⟨ix _ _ _ _,SeqAt.RcAt.str_str _ _ _ _,cv.str_str _ _ _ _⟩
 | succ n ih =>
  intro A d e x y u v hu h h' r r' o;cases d <;> cases e <;> first | (cases o;done) | skip
  ·exact ih (by lia) h h' r r' (by cases n <;> rfl)
  ·exact ih (by lia) h h' r r' (by cases n <;> rfl)
  ·exact ih (by lia) h h' r r' (by cases n <;> rfl)
  ·unfold RepV at h;subst h;cases r;obtain⟨a,xs,rfl,t,l⟩:=(show RepV X.K M H (.tup _) y from h')
   cases r';obtain⟨us,ru,pl,_⟩:=I.tuple t.sq;exact⟨cS.none_tuple pl (by lia),SeqAt.RcAt.none_tuple pl (by lia),cv.none_tuple pl (by lia)⟩
  ·exact ih (by lia) h h' r r' (by cases n <;> rfl)
  ·exact ih (by lia) h h' r r' (by cases n <;> rfl)
  ·exact ih (by lia) h h' r r' (by cases n <;> rfl)
  ·exact ih (by lia) h h' r r' (by cases n <;> rfl)
  ·exact ih (by lia) h h' r r' (by cases n <;> rfl)
  ·unfold RepV at h';subst h';cases r';obtain⟨a,xs,rfl,t,l⟩:=(show RepV X.K M H (.tup _) x from h)
   cases r;obtain⟨us,ru,pl,_⟩:=I.tuple t.sq;exact⟨cS.tuple_none pl (by lia),SeqAt.RcAt.tuple_none pl (by lia),cv.tuple_none pl (by lia)⟩
  ·rename_i ds es;have un:=fun {e:D}=>uniq (e:=e) I (n + 1) h;have h0:=h;have h0':=h';unfold RepV at h h';obtain⟨a,xs,rfl,t,l⟩:=h;obtain⟨b,ys,rfl,t',l'⟩:=h';cases r;cases r';obtain⟨us,ru,pl,_⟩:=I.tuple t.sq;obtain⟨vs,rv,pl',_⟩:=I.tuple t'.sq;have l1:=l.length;have l2:=l'.length;have l3:=ru.length;have l4:=rv.length;have it:=itemsE (A:=A.in1) l l' ru rv o fun q q' z z' o=>ih (show A.units + 1 + n < b7 by lia) q q' z z' o
   have ans:=seq_ans ds es us.toArray.size vs.toArray.size (by rw[aq];lia) (by rw[aq];lia)
   have h1:=SeqAt.RcAt.tuples pl pl' (show A.units < b7 by lia) it
   have h2:=cv.tuples pl pl' (show A.units < b7 by lia) it
   rw[ans] at h1 h2;rw[dec_tup];refine⟨?_,h1,h2⟩
   by_cases hab:a=b
   ·subst hab;have e1:=un h0' o;cases e1;rw[decide_eq_true rfl];exact jG _
   ·exact jY hab h1
  ·have un:=fun {e:D}=>uniq (e:=e) I (n + 1) h;have h0':=h';unfold RepV at h h';obtain⟨a,xs,rfl,t,l⟩:=h;obtain⟨b,ys,rfl,t',l'⟩:=h';cases r;cases r';obtain⟨h1,h2⟩:=listsE (A:=A) (n:=n) I t.sq t'.sq l l' o hu fun q q' z z' o=>ih (show A.units + 1 + n < b7 by lia) q q' z z' o
   rw[dec_lst];refine⟨?_,h1,h2⟩
   by_cases hab:a=b
   ·subst hab;have e1:=un h0' o;cases e1;rw[decide_eq_true rfl];exact jG _
   ·exact jY hab h1
def eqD (neg:Bool):R2D:=fun d e S Q=>match d,e with
 | .ref a,e=>∃ xs ys,S a=some (.lst xs)/\lsIs S e ys/\okEs 8 xs ys=true/\Q (.bl (if neg then !decide (xs=ys) else decide (xs=ys))) S
 | .lst xs,.ref a=>∃ ys,S a=some (.lst ys)/\okEs 8 xs ys=true/\Q (.bl (if neg then !decide (xs=ys) else decide (xs=ys))) S
 | d,e=>okE 9 d e=true/\Q (.bl (if neg then !decide (d=e) else decide (d=e))) S
def rEqA (K:Fg) (neg:Bool):R2:=fun x y H Q=>∃ b,(∀ {X:Cx} {pins:List (Addr × Obj)} {σ:St} {s:ai},Inv X pins σ H s->X.K=K->∀ {u v:ae},RelV x u->RelV y v->∀ A:a6,A.units + 9 < b7->SeqAt.RcAt A s u v b/\cv A s u v (!b))/\Q (.bl (if neg then !b else b)) H
theorem op_eqA {K:Fg} (hu:X.A.units + 9 < b7) (hK:X.K=K:=by rfl):OpR X (bW .Eq) (rEqA K false):=by
 intro pins s σ H x y v u Q I rx ry ⟨b,h,q⟩;exact(h I hK rx ry X.A hu).1 _ _ _ _ ⟨.bl b,H,I,rfl,q⟩
theorem op_neA {K:Fg} (hu:X.A.units + 9 < b7) (hK:X.K=K:=by rfl):OpR X (bW .NotEq) (rEqA K true):=by
 intro pins s σ H x y v u Q I rx ry ⟨b,h,q⟩;exact(h I hK rx ry X.A hu).2 _ _ _ _ ⟨.bl (!b),H,I,rfl,q⟩
theorem od_eq {K:Fg} {neg:Bool}:OpD K (rEqA K neg) (eqD neg):=by
 intro F S H d e x y Q QD r hd he h c;have lists:∀ {xs ys:List D},lsIs S d xs->lsIs S e ys->okEs 8 xs ys=true->QD (.bl (if neg then !decide (xs=ys) else decide (xs=ys))) S->rEqA K neg x y H Q:=by
  intro xs ys l1 l2 o q;obtain⟨a,us,rfl,s1,p1⟩:=lsIs.sl r hd l1;obtain⟨a2,us2,rfl,s2,p2⟩:=lsIs.sl r he l2;refine⟨_,fun {X pins σ s} I hK u v ru rv A hA=>?_,c.bl r q⟩;subst hK;cases ru;cases rv;exact listsE I s1 s2 p1 p2 o hA fun q q' z z' o=>eq3 I 8 (show A.units + 1 + 8 < b7 by lia) q q' z z' o
 have plain:okE 9 d e=true->QD (.bl (if neg then !decide (d=e) else decide (d=e))) S->rEqA K neg x y H Q:=by
  intro o q;refine⟨_,fun {X pins σ s} I hK u v ru rv A hA=>?_,c.bl r q⟩;subst hK
  have:=eq3 I 9 hA hd he ru rv o
  exact⟨this.rc,this.ne⟩
 cases d with
 | ref a=>obtain⟨xs,ys,h1,h2,h3,h4⟩:=h;exact lists h1 h2 h3 h4
 | lst xs =>
  cases e with
  | ref a=>obtain⟨ys,h2,h3,h4⟩:=h;exact lists rfl h2 h3 h4
  | _=>exact plain h.1 h.2
 | _=>exact plain h.1 h.2
mutual
def plain:D->Bool
 | .non=>true
 | .bl _=>true
 | .int _=>true
 | .str _=>true
 | .tup xs=>plains xs
 | _=>false
def plains:List D->Bool
 | []=>true
 | x::xs=>plain x && plains xs
end
mutual
theorem plain_fn (I:Inv X pins σ H s):∀ {d e:D} {v:V},plain d=true->plain e=true->RepV X.K M H d v->RepV X.K M H e v->d=e
 | .tup ds,e,v,p,p',h,h'=>by
  cases e with
  | tup es =>
   unfold RepV at h h';obtain⟨a,xs,rfl,t,l⟩:=h;obtain⟨b,ys,e1,t',l'⟩:=h';cases e1
   have:=I.tuple_inj t.sq t'.sq
   subst this;unfold plain at p p';rw[plains_fn I p p' l l']
  | lst _=>cases p'
  | ref _=>cases p'
  | ty _=>cases p'
  | _ =>
   unfold RepV at h h';obtain⟨a,xs,e1,_⟩:=h;rw[h'] at e1;cases e1
 | .non,e,v,p,p',h,h'=>by
  cases e <;> first | rfl | (cases p';done) | (unfold RepV at h h';rw[h] at h';cases h';done) | (unfold RepV at h h';obtain⟨a,xs,e1,_⟩:=h';rw[h] at e1;cases e1)
 | .bl _,e,v,p,p',h,h'=>by
  cases e <;> first | (cases p';done) | (unfold RepV at h h';rw[h] at h';cases h';done) | (unfold RepV at h h';rw[h] at h';cases h';rfl) | (unfold RepV at h h';obtain⟨a,xs,e1,_⟩:=h';rw[h] at e1;cases e1)
 | .int _,e,v,p,p',h,h'=>by
  cases e <;> first | (cases p';done) | (unfold RepV at h h';rw[h] at h';cases h';done) | (unfold RepV at h h';rw[h] at h';cases h';rfl) | (unfold RepV at h h';obtain⟨a,xs,e1,_⟩:=h';rw[h] at e1;cases e1)
 | .str _,e,v,p,p',h,h'=>by
  cases e <;> first | (cases p';done) | (unfold RepV at h h';rw[h] at h';cases h';done) | (unfold RepV at h h';rw[h] at h';cases h';rfl) | (unfold RepV at h h';obtain⟨a,xs,e1,_⟩:=h';rw[h] at e1;cases e1)
 | .ty _,e,v,p,p',h,h'=>by cases p
 | .ref _,e,v,p,p',h,h'=>by cases p
 | .lst _,e,v,p,p',h,h'=>by cases p
theorem plains_fn (I:Inv X pins σ H s):∀ {ds es:List D} {vs:List V},plains ds=true->plains es=true->RepL X.K M H ds vs->RepL X.K M H es vs->ds=es
 | [],es,vs,p,p',l,l'=>by
  have h1:=l.length;have h2:=l'.length;rw[h1] at h2;exact(cu h2.symm).symm
 | d::ds,[],vs,p,p',l,l'=>by have h1:=l.length;have h2:=l'.length;rw[h1] at h2;simp at h2
 | d::ds,e::es,vs,p,p',l,l'=>by
  unfold RepL at l l';obtain⟨v,vs,rfl,r,l⟩:=l;obtain⟨v',vs',e1,r',l'⟩:=l';cases e1;simp only[plains,aV] at p p';rw[plain_fn I p.1 p'.1 r r',plains_fn I p.2 p'.2 l l']
end
theorem plains_mem:∀ {ds:List D},plains ds=true->∀ d∈ds,plain d=true
 | [],_,d,h=>by cases h
 | x::ds,p,d,h=>by
  simp only[plains,aV] at p;rcases aB.mp h with rfl | h
  ·exact p.1
  ·exact plains_mem p.2 d h
def rInA (K:Fg) (neg:Bool):R2:=fun x y H Q=>∃ p xs b,y=.ref p/\(SqL K H p xs\/SqT K H p xs) /\
 (∀ {X:Cx} {pins:List (Addr × Obj)} {σ:St} {s:ai},Inv X pins σ H s->X.K=K->∀ {v:ae} {us:List ae},RelV x v->Vals xs us->∀ A:a6,A.units + 9 < b7->∃ f:ae->Bool,(∀ u∈us,cS A s u v (f u))/\us.any f=b)/\Q (.bl (if neg then !b else b)) H
theorem op_inA {K:Fg} (hu:X.A.units + 10 < b7) (hK:X.K=K:=by rfl):OpR X (bW .In) (rInA K false):=by
 intro pins s σ H x y v u Q I rx ry h;obtain⟨p,xs,b,rfl,hq,hf,q⟩:=h;cases ry;rw[<- hK] at hq;rcases hq with hq | hq
 ·obtain⟨its,r,pl,hz⟩:=I.list hq;obtain⟨f,f1,f2⟩:=hf I hK rx r X.A.in1 (show X.A.units + 1 + 9 < b7 by lia)
  refine SeqAt.in_listAt f pl.isList (fun w hw=>f1 w (by simpa using hw)) ⟨.bl _,H,I,rfl,?_⟩
  rw[show its.toArray.any f=its.any f by simp,f2]
  exact q
 ·obtain⟨its,r,pl,hz⟩:=I.tuple hq;obtain⟨f,f1,f2⟩:=hf I hK rx r X.A.in1 (show X.A.units + 1 + 9 < b7 by lia)
  refine SeqAt.in_tupleAt f pl (fun w hw=>f1 w (by simpa using hw)) ⟨.bl _,H,I,rfl,?_⟩
  rw[show its.toArray.any f=its.any f by simp,f2]
  exact q
theorem op_ninA {K:Fg} (hu:X.A.units + 10 < b7) (hK:X.K=K:=by rfl):OpR X (bW .NotIn) (rInA K true):=by
 intro pins s σ H x y v u Q I rx ry h;obtain⟨p,xs,b,rfl,hq,hf,q⟩:=h;cases ry;rw[<- hK] at hq;rcases hq with hq | hq
 ·obtain⟨its,r,pl,hz⟩:=I.list hq;obtain⟨f,f1,f2⟩:=hf I hK rx r X.A.in1 (show X.A.units + 1 + 9 < b7 by lia)
  refine SeqAt.notIn_listAt f pl.isList (fun w hw=>f1 w (by simpa using hw)) ⟨.bl _,H,I,rfl,?_⟩
  rw[show its.toArray.any f=its.any f by simp,f2]
  exact q
 ·obtain⟨its,r,pl,hz⟩:=I.tuple hq;obtain⟨f,f1,f2⟩:=hf I hK rx r X.A.in1 (show X.A.units + 1 + 9 < b7 by lia)
  refine SeqAt.notIn_tupleAt f pl (fun w hw=>f1 w (by simpa using hw)) ⟨.bl _,H,I,rfl,?_⟩
  rw[show its.toArray.any f=its.any f by simp,f2]
  exact q
def inD (neg:Bool):R2D:=fun d e S Q=>∃ xs,sqIs S e xs/\plains xs=true/\(xs.all fun y=>okE 8 y d)=true/\Q (.bl (if neg then !decide (d∈xs) else decide (d∈xs))) S
theorem any_in (I:Inv X pins σ H s) {d:D} {x:V} {v:ae} (rx:RelV x v) (hd:RepV X.K M H d x) {A:a6} (hA:A.units + 9 < b7):∀ {xs:List V} {us:List ae} {ds:List D},RepL X.K M H ds xs->Vals xs us->plains ds=true->(ds.all fun y=>okE 8 y d)=true ->
  ∃ f:ae->Bool,(∀ u∈us,cS A s u v (f u))/\us.any f=decide (d∈ds):=by
 classical
 intro xs us ds l r p o;have key:∀ {y:V} {u:ae} {e:D},e∈ds->RepV X.K M H e y->RelV y u->decide (∃ y e,e∈ds/\RepV X.K M H e y/\RelV y u/\e=d)=decide (e=d):=by
  intro y u e hm he ru
  congr 1
  refine propext ⟨fun⟨y',e',m',h1,h2,h3⟩=>?_,fun h=>⟨y,e,hm,he,ru,h⟩⟩
  have:=h2.inj ru
  subst this;rw[<- h3];exact plain_fn I (plains_mem p e hm) (plains_mem p e' m') he h1
 refine⟨fun u=>decide (∃ y e,e∈ds/\RepV X.K M H e y/\RelV y u/\e=d),?_,?_⟩
 ·intro u hu;obtain⟨i,hi,rfl⟩:=bn hu;have h1:=r.length;have h2:=l.length;obtain⟨e,ee,re⟩:=l.get' (ag (show i < xs.length by lia))
  obtain⟨u',eu,ru⟩:=r.get (ag (show i < xs.length by lia))
  rw[ag hi] at eu;cases eu;have hm:e∈ds:=ak ee;show cS A s us[i] v (decide (∃ y e,e∈ds/\RepV X.K M H e y/\RelV y us[i]/\e=d));rw[key hm re ru];exact(eq3 I 8 (by lia) re hd ru rx (a7.mp o e hm)).eq
 ·have gen:∀ {zs:List V} {ws:List ae} {es:List D},RepL X.K M H es zs->Vals zs ws->(∀ e∈es,e∈ds)->ws.any (fun u=>decide (∃ y e,e∈ds/\RepV X.K M H e y/\RelV y u/\e=d))=decide (d∈es):=by
   intro zs ws es
   induction es generalizing zs ws with
   | nil =>
    intro l r _;unfold RepL at l;subst l;cases r;simp
   | cons e es ih =>
    intro l r hm;unfold RepL at l;obtain⟨z,zs,rfl,r1,l1⟩:=l;cases r with
    | cons q t =>
     rw[iY,key (hm e am) r1 q,ih l1 t fun e he=>hm e (ao _ he)]
     by_cases h:e=d
     ·simp[h]
     ·have h':¬ d=e:=fun z=>h z.symm;simp[h,h']
  exact gen l r fun _ h=>h
theorem od_in {K:Fg} {neg:Bool}:OpD K (rInA K neg) (inD neg):=by
 intro F S H d e x y Q QD r hd he ⟨ds,hs,p,o,q⟩ c;obtain⟨a,xs,rfl,sq,l⟩:=hs.sq r he;refine⟨a,xs,decide (d∈ds),rfl,sq,fun {X pins σ s} I hK {v us} rx rv A hA=>?_,c.bl r q⟩;subst hK;exact any_in I rx hd hA l rv p o
variable {K:Fg} {a b:Expr} {ta tb:ED} {pos:Pos} {k:Nat}
theorem lt10 {n:Nat} {A:a6} (r:Room k A) (h:n<=64:=by decide):A.units + n < b7:=by have:=r.units;lia
theorem e_eq (hr:Room k X.A) (ha:PD K X a ta) (hb:PD K X b tb) (hK:X.K=K:=by rfl):PD K X (.Compare a [.Eq] [b] pos) (dOp (eqD false) ta tb):=e_cmp (op_eqA (lt10 hr) hK) od_eq ha hb (nomark _)
theorem dt_eq (hr:Room k X.A) (ha:PD K X a ta) (hb:PD K X b tb) (hK:X.K=K:=by rfl):PTD K X (.Compare a [.Eq] [b] pos) (dTest (dOp (eqD false) ta tb)):=dt_cmp (op_eqA (lt10 hr) hK) od_eq ha hb (nomark _)
theorem dt_ne (hr:Room k X.A) (ha:PD K X a ta) (hb:PD K X b tb) (hK:X.K=K:=by rfl):PTD K X (.Compare a [.NotEq] [b] pos) (dTest (dOp (eqD true) ta tb)):=dt_cmp (op_neA (lt10 hr) hK) od_eq ha hb (nomark _)
theorem e_in (hr:Room k X.A) (ha:PD K X a ta) (hb:PD K X b tb) (hm:d0 .In b=false:=by rfl) (hK:X.K=K:=by rfl):PD K X (.Compare a [.In] [b] pos) (dOp (inD false) ta tb):=e_cmp (op_inA (lt10 hr) hK) od_in ha hb hm
theorem dt_in (hr:Room k X.A) (ha:PD K X a ta) (hb:PD K X b tb) (hm:d0 .In b=false:=by rfl) (hK:X.K=K:=by rfl):PTD K X (.Compare a [.In] [b] pos) (dTest (dOp (inD false) ta tb)):=dt_cmp (op_inA (lt10 hr) hK) od_in ha hb hm
theorem dt_nin (hr:Room k X.A) (ha:PD K X a ta) (hb:PD K X b tb) (hm:d0 .NotIn b=false:=by rfl) (hK:X.K=K:=by rfl):PTD K X (.Compare a [.NotIn] [b] pos) (dTest (dOp (inD true) ta tb)):=dt_cmp (op_ninA (lt10 hr) hK) od_in ha hb hm
end
end L2
namespace HT
open PySem PySem.Spec PyProof.Rows
section
variable {prog:ay} {w:aI} {A:a6} {E:ae->ai->Prop} {s:ai}
theorem tup_slice {t sl : Addr} {items : Array ae} {Q : ae -> ai -> Prop} (ht : iK s.heap t items) (hTs : s.TypeIs (.ref sl) "slice")
    (h : ∀ A, aE (aF prog w) A (fm (.ref sl) (pure (items.size : Int))) (fun r s' => s' = s /\
      ((r.1 = 0 /\ r.2.1 = 1 /\ r.2.2 = items.size /\ Q (.ref t) s) \/
       (¬ (r.1 == 0 && r.2.1 == 1 && r.2.2 == items.size) = true /\ sizeOk (.seq ((aY r.2.2).filterMap fun(k : Nat) => items[(r.1 + (k : Int) * r.2.1).toNat]?).toArray) /\ Q (.ref s.heap.objs.size) { s with heap := s.heap.push { cls := .type "tuple", data := .seq ((aY r.2.2).filterMap fun(k : Nat) => items[(r.1 + (k : Int) * r.2.1).toNat]?).toArray } }))) E s) :
    aE (aF prog w) A (jt (.ref t) (.ref sl)) Q E s := by
  unfold jt
  try with_reducible refine cO ?_
  first | refine ad (af ?_) | skip
  refine ad (wpAny_sequenceKey ht.typeIs (by decide) ?_)
  refine ad (bX (name := cb "__getitem__") ht.typeIs ca
    (bM ca ht.typeIs entry_tuple_getitem ?_ (args_tuple_getitem _ _)))
  show aE _ _ (fo (.ref t) >>= _) _ _ s;refine ad (tupleItemsOf_ ht (ad (gg hTs ?_)));rw [if_pos (by decide)]
  refine ad (d7 (h _) (fun r s' ⟨e, q⟩ => ?_) fun _ _ x => x);subst e;obtain⟨lo, st, n⟩ := r;show aE _ _ (if (lo == 0 && st == 1 && n == items.size) = true then _ else _) _ _ _
  rcases q with⟨h1, h2, h3, q⟩ | ⟨hno, hz, q⟩
  · have e1 : lo = 0 := h1
    have e2 : st = 1 := h2;have e3 : n = items.size := h3;rw [if_pos (by rw [e1, e2, e3]; simp)]
    unfold b6.Tuple.tupleIsExact;refine ad (ad (gg ht.typeIs (af ?_)));rw [if_pos (by decide)]
    refine ad (d9 ?_)
    first
      | exact af ⟨_, rfl, af q⟩
      | exact ad (af ⟨_, rfl, af q⟩)
      | exact ad (af (af ⟨_, rfl, af q⟩))
  · rw [if_neg hno]
    first
      | exact ad (m := b8 _) (bm (af ⟨_, rfl, af q⟩) hz)
      | exact ad (m := b8 _) (bm (ad (af (af ⟨_, rfl, af q⟩))) hz)
      | exact ad (ad (m := b8 _) (bm (af (af ⟨_, rfl, af q⟩)) hz))
      | exact ad (ad (m := b8 _) (bm (af ⟨_, rfl, af q⟩) hz))
end
end HT
namespace L2
open PySem PySem.Spec PyProof.Rows
section
variable {X:Cx} {K:Fg}
def rSlW (K:Fg):V->Option Int->Option Int->Hp->VK->Prop:=fun x lo hi H Q=>∃ a xs,x=.ref a/\SqT K H a xs/\HT.sIx xs.length 0 lo=0/\HT.sIx xs.length xs.length hi=xs.length/\Q (.ref a) H
theorem sl_tupW (hK:X.K=K:=by rfl):SlR X (rSlW K):=by
 subst hK;intro pins s σ H x v vl vu lo hi sl Q I rx hs pl pu h;obtain⟨a,xs,rfl,hx,h0,hn,q⟩:=h;cases rx;obtain⟨its,r,ht,hz⟩:=I.tuple hx;have hlen:its.toArray.size=xs.length:=by rw[aq];exact r.length.symm
 obtain⟨os,hos,hcs,hds⟩:=id hs;refine⟨"tuple",_,ca.lookup,ht.typeIs,HT.tup_slice ht ⟨os,hos,hcs⟩ fun A=>HT.sliceApplied_gen hs pl pu ⟨rfl,.inl ⟨?_,rfl,?_,.ref a,H,I,rfl,q⟩⟩⟩
 ·show((HT.sIx its.toArray.size 0 lo:Nat):Int)=0;rw[hlen,h0];rfl
 ·show HT.sIx its.toArray.size its.toArray.size hi - HT.sIx its.toArray.size 0 lo=its.toArray.size;rw[hlen,h0,hn];rfl
end
end L2
set_option maxHeartbeats 1000000
namespace L2
open PySem PySem.Spec PyProof.Rows
section
variable {X:Cx} {K:Fg} {a b:Expr} {ta tb:ED} {pos:Pos} {k:Nat}
def ltD:R2D:=fun d e S Q=>match d,e with
 | .int i,.int j=>Q (.bl (decide (i < j))) S
 | .str x,.str y=>Q (.bl (HT.ltS x y)) S
 | .tup xs,.tup ys=>∃ as bs,xs=as.map D.str/\ys=bs.map D.str/\Q (.bl (HT.lexS as bs)) S
 | _,_=>False
def rLtA (K:Fg):R2:=fun x y H Q=>rI0 (fun i j=>.bl (decide (i < j))) x y H Q\/(∃ i j,x=.str i/\y=.str j/\Q (.bl (decide (i.cps.toList < j.cps.toList))) H)\/rLtS K x y H Q
theorem op_ltA (hu:X.A.units < b7) (hK:X.K=K:=by rfl):OpR X (bW .Lt) (rLtA K):=op_lt.or (op_lt_str.or (op_ltSK hu hK))
theorem repStrs {M:Am} {H:Hp}:∀ {as:List Str} {xs:List V},RepL K M H (as.map D.str) xs->aZ (dS H) xs as
 | [],xs,h=>by rw[eQ] at h;unfold RepL at h;subst h;exact .nil
 | a::as,xs,h=>by
  rw[aG] at h;unfold RepL at h;obtain⟨v,vs,rfl,r,l⟩:=h;unfold RepV at r;exact .cons r (repStrs l)
theorem strsRep {M:Am} {H:Hp}:∀ {as:List Str} {xs:List V},aZ (dS H) xs as->RepL K M H (as.map D.str) xs
 | _,_,.nil=>RepL.nil
 | _,_,.cons r l=>RepL.cons (by unfold RepV;exact r) (strsRep l)
theorem repTupS {S:Sto} {F:Am} {H:Hp} {as:List Str} {v:V} (h:RepV K (mt S F) H (.tup (as.map D.str)) v):dT K dS H v as:=by
 obtain⟨a,xs,rfl,t,l⟩:=tup.st h;exact⟨a,xs,rfl,t,repStrs l⟩
theorem od_lt:OpD K (rLtA K) ltD:=by
 intro F S H d e x y Q QD r hd he h c;cases d with
 | int i =>
  cases e with
  | int j=>rw[rint hd,rint he];exact .inl ⟨i,j,rfl,rfl,c.bl r h⟩
  | _=>exact h.elim
 | str i =>
  cases e with
  | str j=>rw[rstr hd,rstr he];exact .inr (.inl ⟨i,j,rfl,rfl,c.bl r h⟩)
  | _=>exact h.elim
 | tup xs =>
  cases e with
  | tup ys =>
   obtain⟨as,bs,rfl,rfl,q⟩:=h;exact .inr (.inr ⟨as,bs,repTupS hd,repTupS he,c.bl r q⟩)
  | _=>exact h.elim
 | _=>exact h.elim
theorem dt_lt (hr:Room k X.A) (ha:PD K X a ta) (hb:PD K X b tb) (hK:X.K=K:=by rfl):PTD K X (.Compare a [.Lt] [b] pos) (dTest (dOp ltD ta tb)):=dt_cmp (op_ltA hr.units0 hK) od_lt ha hb (nomark _)
abbrev leD:R2D:=iiD0 fun i j=>.bl (decide (i<=j))
abbrev gtD:R2D:=iiD0 fun i j=>.bl (decide (j < i))
abbrev geD:R2D:=iiD0 fun i j=>.bl (decide (j<=i))
theorem e_le (hr:Room k X.A) (ha:PD K X a ta) (hb:PD K X b tb):PD K X (.Compare a [.LtE] [b] pos) (dOp leD ta tb):=e_cmp op_le od_B0 ha hb (nomark _)
theorem e_gt (hr:Room k X.A) (ha:PD K X a ta) (hb:PD K X b tb):PD K X (.Compare a [.Gt] [b] pos) (dOp gtD ta tb):=e_cmp op_gt od_B0 ha hb (nomark _)
theorem dt_gt (hr:Room k X.A) (ha:PD K X a ta) (hb:PD K X b tb):PTD K X (.Compare a [.Gt] [b] pos) (dTest (dOp gtD ta tb)):=dt_cmp op_gt od_B0 ha hb (nomark _)
theorem dt_ge (hr:Room k X.A) (ha:PD K X a ta) (hb:PD K X b tb):PTD K X (.Compare a [.GtE] [b] pos) (dTest (dOp geD ta tb)):=dt_cmp op_ge od_B0 ha hb (nomark _)
def isNon:D->Bool
 | .non=>true
 | _=>false
def isD (neg:Bool):R2D:=fun d e S Q=>match d,e with
 | .bl x,.bl y=>Q (.bl (if neg then x != y else x == y)) S
 | d,.non=>Q (.bl (if neg then !isNon d else isNon d)) S
 | _,_=>False
def rIsA (neg:Bool):R2:=fun x y H Q=>(∃ i j,x=.bl i/\y=.bl j/\Q (.bl (if neg then i != j else i == j)) H)\/(y=.non/\Q (.bl (if neg then !decide (x=.non) else decide (x=.non))) H)
theorem op_isntA:OpR X (bW .IsNot) (rIsA true):=OpR.or (by
 intro pins s σ H x y v u Q I rx ry h;obtain⟨i,j,rfl,rfl,q⟩:=h;cases rx;cases ry;exact isnot_bool ⟨.bl _,H,I,rfl,q⟩) op_notN
theorem isNon_of {M:Am} {H:Hp} {d:D} {x:V} (h:RepV K M H d x):decide (x=.non)=isNon d:=by
 cases d <;> unfold RepV at h <;> first | (rw[h];rfl) | (obtain⟨a,xs,rfl,_⟩:=h;rfl) | skip
theorem od_is {neg:Bool}:OpD K (rIsA neg) (isD neg):=by
 intro F S H d e x y Q QD r hd he h c;have non:e=.non->QD (.bl (if neg then !isNon d else isNon d)) S->rIsA neg x y H Q:=by
  rintro rfl q;rw[rnon he];refine .inr ⟨rfl,?_⟩;rw[isNon_of hd];exact c.bl r q
 cases e with
 | non=>exact non rfl (by cases d <;> exact h)
 | bl j =>
  cases d with
  | bl i=>rw[rbl hd,rbl he];exact .inl ⟨i,j,rfl,rfl,c.bl r h⟩
  | _=>exact h.elim
 | _=>cases d <;> exact h.elim
theorem dt_isnt (hr:Room k X.A) (ha:PD K X a ta) (hb:PD K X b tb):PTD K X (.Compare a [.IsNot] [b] pos) (dTest (dOp (isD true) ta tb)):=dt_cmp op_isntA od_is ha hb (nomark _)
def dAndV (ta tb:ED):ED:=fun Γ S Q=>ta Γ S fun x S1=>∃ c,x=.bl c/\if c=true then tb Γ S1 Q else Q (.bl false) S1
def dOrV (ta tb:ED):ED:=fun Γ S Q=>ta Γ S fun x S1=>∃ c,x=.bl c/\if c=true then Q (.bl true) S1 else tb Γ S1 Q
def dNotV (ta:ED):ED:=fun Γ S Q=>ta Γ S fun x S1=>∃ c,x=.bl c/\Q (.bl (!c)) S1
theorem e_one {op} (h:PD K X a ta):PD K X (.BoolOp op [a] pos) ta:=⟨pe_one h.o⟩
theorem e_and {rest:List Expr} (ha:PD K X a ta) (hb:PD K X (.BoolOp .And (b::rest) pos) tb):PD K X (.BoolOp .And (a::b::rest) pos) (dAndV ta tb):=.of (pe_and ha.o hb.o) fun σ H Q z0=>z0.el fun F S Γ QD r g q c =>
 ⟨F,S,Γ,_,r,g,q,fun v d H1 S1 x1 r1 v1 z1=>by
  obtain⟨z,e,q1⟩:=z1;subst e;refine⟨z,rbl v1,?_⟩;cases z with
  | true=>exact⟨F,S1,Γ,QD,r1,g.ext x1,q1,fun v z H3 S3 x3=>c v z H3 S3 (x1.trans x3)⟩
  | false=>exact(Cn.shift c x1).bl r1 q1⟩
theorem e_or {rest:List Expr} (ha:PD K X a ta) (hb:PD K X (.BoolOp .Or (b::rest) pos) tb):PD K X (.BoolOp .Or (a::b::rest) pos) (dOrV ta tb):=.of (pe_or ha.o hb.o) fun σ H Q z0=>z0.el fun F S Γ QD r g q c =>
 ⟨F,S,Γ,_,r,g,q,fun v d H1 S1 x1 r1 v1 z1=>by
  obtain⟨z,e,q1⟩:=z1;subst e;refine⟨z,rbl v1,?_⟩;cases z with
  | false=>exact⟨F,S1,Γ,QD,r1,g.ext x1,q1,fun v z H3 S3 x3=>c v z H3 S3 (x1.trans x3)⟩
  | true=>exact(Cn.shift c x1).bl r1 q1⟩
theorem e_not (ha:PD K X a ta):PD K X (.UnaryOp .Not a pos) (dNotV ta):=.of (pe_not ha.o) fun σ H Q z0=>z0.el fun F S Γ QD r g q c =>
 ⟨F,S,Γ,_,r,g,q,fun v d H1 S1 x1 r1 v1 z1=>by
  obtain⟨z,e,q1⟩:=z1;subst e;exact⟨z,rbl v1,(Cn.shift c x1).bl r1 q1⟩⟩
structure PWD (K:Fg) (X:Cx) (e:Expr) (t:TD):Prop where
 o:PW X e (upT K t)
def dAnd (t u:TD):TD:=fun Γ S Q=>t Γ S fun c S1=>if c=true then u Γ S1 Q else Q false S1
def dOr (t u:TD):TD:=fun Γ S Q=>t Γ S fun c S1=>if c=true then Q true S1 else u Γ S1 Q
def dNot (t:TD):TD:=fun Γ S Q=>t Γ S fun c S1=>Q (!c) S1
section
variable {tA tB':TD} {rest:List Expr}
theorem PWD.pt {e:Expr} {t:TD} (h:PWD K X e t):PTD K X e t:=⟨PW.pt h.o⟩
theorem PWD.of {e:Expr} {te:TT} {t:TD} (h:PW X e te) (i:∀ σ H Q,upT K t σ H Q->te σ H Q):PWD K X e t:=⟨fun wh pins s σ H Q I q=>h wh pins s σ H Q I (i σ H Q q)⟩
theorem dw_and1 (ha:PTD K X a tA):PWD K X (.BoolOp .And [a] pos) tA:=⟨pw_and1 ha.o⟩
theorem dw_or1 (ha:PTD K X a tA):PWD K X (.BoolOp .Or [a] pos) tA:=⟨pw_or1 ha.o⟩
theorem dw_and (ha:PTD K X a tA) (hb:PWD K X (.BoolOp .And (b::rest) pos) tB'):PWD K X (.BoolOp .And (a::b::rest) pos) (dAnd tA tB'):=.of (pw_and ha.o hb.o) fun σ H Q z0=>z0.el fun F S Γ QD r g q c =>
 ⟨F,S,Γ,_,r,g,q,fun z H1 S1 x1 r1 q1=>by
  cases z with
  | true=>exact⟨F,S1,Γ,QD,r1,g.ext x1,q1,fun z H3 S3 x3=>c z H3 S3 (x1.trans x3)⟩
  | false=>exact c _ _ _ x1 r1 q1⟩
theorem dw_or (ha:PTD K X a tA) (hb:PWD K X (.BoolOp .Or (b::rest) pos) tB'):PWD K X (.BoolOp .Or (a::b::rest) pos) (dOr tA tB'):=.of (pw_or ha.o hb.o) fun σ H Q z0=>z0.el fun F S Γ QD r g q c =>
 ⟨F,S,Γ,_,r,g,q,fun z H1 S1 x1 r1 q1=>by
  cases z with
  | false=>exact⟨F,S1,Γ,QD,r1,g.ext x1,q1,fun z H3 S3 x3=>c z H3 S3 (x1.trans x3)⟩
  | true=>exact c _ _ _ x1 r1 q1⟩
theorem dt_not (ha:PTD K X a tA):PTD K X (.UnaryOp .Not a pos) (dNot tA):=.of (pt_not ha.o) fun σ H Q z0=>z0.el fun F S Γ QD r g q c=>⟨F,S,Γ,_,r,g,q,fun z H1 S1 x1 r1 q1=>c _ _ _ x1 r1 q1⟩
def dIf (t:TD) (ta tb:ED):ED:=fun Γ S Q=>t Γ S fun c S1=>if c=true then ta Γ S1 Q else tb Γ S1 Q
theorem e_ifExp {c:Expr} (hc:PTD K X c tA) (ha:PD K X a ta) (hb:PD K X b tb):PD K X (.IfExp c a b pos) (dIf tA ta tb):=.of (pe_ifExp hc.o ha.o hb.o) fun σ H Q z0=>z0.el fun F S Γ QD r g q c =>
 ⟨F,S,Γ,_,r,g,q,fun z H1 S1 x1 r1 q1=>by
  cases z with
  | true=>exact⟨F,S1,Γ,QD,r1,g.ext x1,q1,fun v z H3 S3 x3=>c v z H3 S3 (x1.trans x3)⟩
  | false=>exact⟨F,S1,Γ,QD,r1,g.ext x1,q1,fun v z H3 S3 x3=>c v z H3 S3 (x1.trans x3)⟩⟩
end
def truD (S:Sto) (d:D) (k:Bool->Prop):Prop:=match d with
 | .non=>k false
 | .bl b=>k b
 | .int i=>k (i != 0)
 | .str x=>x.length<=sizeLine/\k ((x.length:Int) != 0)
 | .tup xs=>k (!xs.isEmpty)
 | .lst xs=>k (!xs.isEmpty)
 | .ref a=>∃ xs,S a=some (.lst xs)/\k (!xs.isEmpty)
 | .ty _=>False
def dTru (ta:ED):TD:=fun Γ S Q=>ta Γ S fun d S1=>truD S1 d fun b=>Q b S1
theorem emp_of {M:Am} {H:Hp} {ds:List D} {xs:List V} (l:RepL K M H ds xs):(!xs.isEmpty)=!ds.isEmpty:=by
 have:=l.length
 cases ds <;> cases xs <;> first | rfl | simp at this
theorem dt_tru (ha:PD K X a ta) (he:∀ whole,isTrue a X.env whole=(do let v <- whole;jq a.pos;holding [v] (truthy v)):=by intro _;rfl) (hK:X.K=K:=by rfl):PTD K X a (dTru ta):=.of (pt_truthK (K:=K) ha.o he hK) fun σ H Q z0=>z0.el fun F S Γ QD r g q c =>
 ⟨F,S,Γ,_,r,g,q,fun v d H1 S1 x1 r1 v1 q1=>by
  cases d with
  | non=>rw[rnon v1];exact⟨false,rfl,c _ _ _ x1 r1 q1⟩
  | bl b=>rw[rbl v1];exact⟨b,rfl,c _ _ _ x1 r1 q1⟩
  | int b=>rw[rint v1];exact⟨_,rfl,c _ _ _ x1 r1 q1⟩
  | str b=>rw[rstr v1];exact⟨_,⟨q1.1,rfl⟩,c _ _ _ x1 r1 q1.2⟩
  | ty b=>exact q1.elim
  | tup xs =>
   obtain⟨p,us,rfl,t,l⟩:=tup.st v1;exact⟨_,.inr (.inl ⟨us,t,rfl⟩),c _ _ _ x1 r1 (by rw[emp_of l];exact q1)⟩
  | lst xs =>
   obtain⟨p,us,rfl,t,l⟩:=lsIs.sl r1 v1 (show lsIs S1 (.lst xs) xs from rfl)
   exact⟨_,.inl ⟨us,t,rfl⟩,c _ _ _ x1 r1 (by rw[emp_of l];exact q1)⟩
  | ref p =>
   obtain⟨xs,e,q1⟩:=q1;obtain⟨p,us,rfl,t,l⟩:=lsIs.sl r1 v1 (show lsIs S1 (.ref p) xs from e)
   exact⟨_,.inl ⟨us,t,rfl⟩,c _ _ _ x1 r1 (by rw[emp_of l];exact q1)⟩⟩
section
variable {e:Expr} {t:AD} {p:Pos}
def lenD:RCD:=fun ds S Q=>match ds with
 | [.str x]=>x.length<=sizeLine/\Q (.int x.length) S
 | [d]=>∃ xs,sqIs S d xs/\Q (.int xs.length) S
 | _=>False
theorem call_lenA (hK:X.K=K:=by rfl):CallR X (.builtin "len") (fun xs H Q=>∃ x n,xs=[x]/\LenV K x H n/\Q (.int n) H):=hK ▸ call_len
theorem cd_len:CallD K (fun xs H Q=>∃ x n,xs=[x]/\LenV K x H n/\Q (.int n) H) lenD:=by
 intro F S H ds vs Q QD r l h c
 match ds,h with
 | [d],h =>
  obtain⟨v,rfl,rv⟩:=l.one;have seq:(∃ xs,sqIs S d xs/\QD (.int xs.length) S)->∃ x n,[v]=[x]/\LenV K x H n/\Q (.int n) H:=by
   rintro⟨xs,h1,q⟩;obtain⟨a,us,rfl,sq,l⟩:=h1.sq r rv;refine⟨_,xs.length,rfl,?_,c.int r q⟩;rcases sq with sq | sq
   ·exact .inl ⟨us,sq,l.length.symm⟩
   ·exact .inr ⟨us,sq,l.length.symm⟩
  cases d with
  | str x=>rw[rstr rv];exact⟨_,x.length,rfl,⟨h.1,rfl⟩,c.int r h.2⟩
  | _=>exact seq h
 | [],h=>exact h.elim
 | d::_::_,h=>cases d <;> exact h.elim
theorem e_len (hg:Gl X "len") (hm:X.mg "len" = none) (ha:PAD K X [e] t) (hK:X.K=K:=by rfl) (he:ax [e] X.env=(false,eval e X.env)::ax [] X.env:=by rfl) (hpl:(cw pos (ax [] X.env)).any (·.1)=false:=by rfl):PD K X (.Call (.Name "len" p) [e] [] pos) (dCB lenD t):=e_callB (call_lenA hK) cd_len hg hm bt_len ha (by decide) (by decide) he hpl
def tupD:RCD:=fun ds S Q=>match ds with
 | [d]=>∃ xs,sqIs S d xs/\Q (.tup xs) S
 | _=>False
theorem cd_tup:CallD K (fun xs H Q=>∃ p ys,xs=[.ref p]/\((SqL K H p ys/\∀ l,H l=none->Q (.ref l) (upd H l (.tup ys)))\/(SqT K H p ys/\Q (.ref p) H))) tupD:=by
 intro F S H ds vs Q QD r l h c
 match ds,h with
 | [d],⟨xs,h1,q⟩ =>
  obtain⟨v,rfl,rv⟩:=l.one;cases d with
  | tup ys =>
   cases h1;obtain⟨a,us,rfl,sq,l⟩:=tup.st rv;exact⟨a,us,rfl,.inr ⟨sq,c.here r rv q⟩⟩
  | lst ys =>
   obtain⟨a,us,rfl,sq,l⟩:=lsIs.sl r rv (show lsIs S (.lst ys) xs from h1)
   exact⟨a,us,rfl,.inl ⟨sq,fun p hp=>c.tup r hp l q⟩⟩
  | ref y =>
   obtain⟨a,us,rfl,sq,l⟩:=lsIs.sl r rv (show lsIs S (.ref y) xs from h1)
   exact⟨a,us,rfl,.inl ⟨sq,fun p hp=>c.tup r hp l q⟩⟩
  | _=>exact h1.elim
theorem e_tuple (hg:Gl X "tuple") (hm:X.mg "tuple" = none) (ha:PAD K X [e] t) (hK:X.K=K:=by rfl) (he:ax [e] X.env=(false,eval e X.env)::ax [] X.env:=by rfl) (hpl:(cw pos (ax [] X.env)).any (·.1)=false:=by rfl):PD K X (.Call (.Name "tuple" p) [e] [] pos) (dCB tupD t):=e_callTy (call_tupleK hK) cd_tup hg hm bt_tuple ha (by decide) (by decide) he hpl
def lstD (b:Bool):RCD:=fun ds S Q=>match ds with
 | [d]=>∃ xs,sqIs S d xs/\newL b xs S Q
 | _=>False
theorem cd_lst {b:Bool}:CallD K (fun xs H Q=>∃ p ys,xs=[.ref p]/\(SqL K H p ys\/SqT K H p ys)/\∀ l,H l=none->Q (.ref l) (upd H l (.lst ys))) (lstD b):=by
 intro F S H ds vs Q QD r l h c
 match ds,h with
 | [d],⟨xs,h1,q⟩ =>
  obtain⟨v,rfl,rv⟩:=l.one;obtain⟨a,us,rfl,sq,l⟩:=h1.sq r rv;exact⟨a,us,rfl,sq,fun p hp=>c.new r hp l q⟩
theorem e_list {b:Bool} (hg:Gl X "list") (hm:X.mg "list" = none) (ha:PAD K X [e] t) (hK:X.K=K:=by rfl) (he:ax [e] X.env=(false,eval e X.env)::ax [] X.env:=by rfl) (hpl:(cw pos (ax [] X.env)).any (·.1)=false:=by rfl):PD K X (.Call (.Name "list" p) [e] [] pos) (dCB (lstD b) t):=e_callTy (call_listK hK) cd_lst hg hm bt_list ha (by decide) (by decide) he hpl
def i2D (g:Int->Int->Int):RCD:=fun ds S Q=>match ds with
 | [.int i,.int j]=>Q (.int (g i j)) S
 | _=>False
theorem cd_i2 {g:Int->Int->Int}:CallD K (fun xs H Q=>∃ i j,xs=[.int i,.int j]/\Q (.int (g i j)) H) (i2D g):=by
 intro F S H ds vs Q QD r l h c
 match ds,h with
 | [.int i,.int j],h =>
  obtain⟨v,w,rfl,rv,rw'⟩:=l.two;rw[rint rv,rint rw'];exact⟨i,j,rfl,c.int r h⟩
theorem e_min {e2:Expr} (hg:Gl X "min") (hm:X.mg "min" = none) (ha:PAD K X [e,e2] t) (hc:X.calm=true:=by rfl) (he:ax [e,e2] X.env=(false,eval e X.env)::ax [e2] X.env:=by rfl) (hpl:(cw pos (ax [e2] X.env)).any (·.1)=false:=by rfl):PD K X (.Call (.Name "min" p) [e,e2] [] pos) (dCB (i2D fun i j=>if j < i then j else i) t):=e_callB (call_min2 hc) cd_i2 hg hm bt_min ha (by decide) (by decide) he hpl
theorem e_max {e2:Expr} (hg:Gl X "max") (hm:X.mg "max" = none) (ha:PAD K X [e,e2] t) (hc:X.calm=true:=by rfl) (he:ax [e,e2] X.env=(false,eval e X.env)::ax [e2] X.env:=by rfl) (hpl:(cw pos (ax [e2] X.env)).any (·.1)=false:=by rfl):PD K X (.Call (.Name "max" p) [e,e2] [] pos) (dCB (i2D fun i j=>if j > i then j else i) t):=e_callB (call_max2 hc) cd_i2 hg hm bt_max ha (by decide) (by decide) he hpl
def intD:RCD:=fun ds S Q=>match ds with
 | [.int i]=>Q (.int i) S
 | [.bl k]=>Q (.int (if k then 1 else 0)) S
 | _=>False
theorem e_int1 (hg:Gl X "int") (hm:X.mg "int" = none) (ha:PAD K X [e] t) (he:ax [e] X.env=(false,eval e X.env)::ax [] X.env:=by rfl) (hpl:(cw pos (ax [] X.env)).any (·.1)=false:=by rfl):PD K X (.Call (.Name "int" p) [e] [] pos) (dCB intD t):=e_callTy call_int1 (by
 intro F S H ds vs Q QD r l h c
 match ds,h with
 | [.int i],h=>obtain⟨v,rfl,rv⟩:=l.one;rw[rint rv];exact .inl ⟨i,rfl,c.int r h⟩
 | [.bl i],h=>obtain⟨v,rfl,rv⟩:=l.one;rw[rbl rv];exact .inr ⟨i,rfl,c.int r h⟩) hg hm bt_int ha (by decide) (by decide) he hpl
theorem bools_of {M:Am} {H:Hp}:∀ {bs:List Bool} {xs:List V},RepL K M H (bs.map D.bl) xs->aZ (dB H) xs bs
 | [],xs,h=>by rw[eQ] at h;unfold RepL at h;subst h;exact .nil
 | a::as,xs,h=>by
  rw[aG] at h;unfold RepL at h;obtain⟨v,vs,rfl,r,l⟩:=h;unfold RepV at r;exact .cons r (bools_of l)
def quD (g:List Bool->Bool):RCD:=fun ds S Q=>match ds with
 | [d]=>∃ bs,lsIs S d (bs.map D.bl)/\Q (.bl (g bs)) S
 | _=>False
theorem cd_qu {g:List Bool->Bool}:CallD K (fun xs H Q=>∃ x bs,xs=[x]/\dL K dB H x bs/\Q (.bl (g bs)) H) (quD g):=by
 intro F S H ds vs Q QD r l h c
 match ds,h with
 | [d],⟨bs,h1,q⟩ =>
  obtain⟨v,rfl,rv⟩:=l.one;obtain⟨a,us,rfl,sq,l⟩:=lsIs.sl r rv h1;exact⟨_,bs,rfl,⟨a,us,rfl,sq,bools_of l⟩,c.bl r q⟩
theorem e_all (hg:Gl X "all") (hm:X.mg "all" = none) (ha:PAD K X [e] t) (hK:X.K=K:=by rfl) (hc:X.calm=true:=by rfl) (he:ax [e] X.env=(false,eval e X.env)::ax [] X.env:=by rfl) (hpl:(cw pos (ax [] X.env)).any (·.1)=false:=by rfl):PD K X (.Call (.Name "all" p) [e] [] pos) (dCB (quD fun bs=>bs.all id) t):=e_callB (call_allK hK hc) cd_qu hg hm bt_all ha (by decide) (by decide) he hpl
theorem e_any (hg:Gl X "any") (hm:X.mg "any" = none) (ha:PAD K X [e] t) (hK:X.K=K:=by rfl) (hc:X.calm=true:=by rfl) (he:ax [e] X.env=(false,eval e X.env)::ax [] X.env:=by rfl) (hpl:(cw pos (ax [] X.env)).any (·.1)=false:=by rfl):PD K X (.Call (.Name "any" p) [e] [] pos) (dCB (quD fun bs=>bs.any id) t):=e_callB (call_anyK hK hc) cd_qu hg hm bt_any ha (by decide) (by decide) he hpl
def tyD:D->Option String
 | .non=>some "NoneType"
 | .bl _=>some "bool"
 | .int _=>some "int"
 | .str _=>some "str"
 | .tup _=>some "tuple"
 | .lst _=>some "list"
 | _=>none
def isiD:RCD:=fun ds S Q=>match ds with
 | [d,.ty T]=>∃ t b,tyD d=some t/\subT t T=some b/\Q (.bl b) S
 | _=>False
def rIsiA (K:Fg):List V->Hp->VK->Prop:=fun xs H Q=>(∃ x T t b,xs=[x,.ty T]/\TyOf K H x (.type t)/\subT t T=some b/\Q (.bl b) H)\/(∃ a T b ys,xs=[.ref a,.ty T]/\SqT K H a ys/\subT "tuple" T=some b/\Q (.bl b) H)\/∃ a T b ys,xs=[.ref a,.ty T]/\SqL K H a ys/\subT "list" T=some b/\Q (.bl b) H
theorem call_isiA (hK:X.K=K:=by rfl):CallR X (.builtin "isinstance") (rIsiA K):=by
 subst hK;refine call_isi.or (CallR.or ?_ ?_)
 ·intro pins s σ H xs us Q I rv h;obtain⟨a,T,b,ys,rfl,sq,e,q⟩:=h;obtain⟨u,c,rfl,ru,rc⟩:=rv.two;cases rc;cases ru;obtain⟨its,r,p,_⟩:=I.tuple sq;obtain⟨o,h1,h2,_⟩:=p;exact cg PySem.W.kitx_tuple I.kIn ⟨o,h1,h2⟩ (kit_of e) (fun z=>nomatch z) fun tk=>⟨.bl b,H,I.tok tk,rfl,q⟩
 ·intro pins s σ H xs us Q I rv h;obtain⟨a,T,b,ys,rfl,sq,e,q⟩:=h;obtain⟨u,c,rfl,ru,rc⟩:=rv.two;cases rc;cases ru;obtain⟨its,r,p,_⟩:=I.list sq;obtain⟨o,n,h1,h2,_⟩:=p;exact cg iN I.kIn ⟨o,h1,h2⟩ (kit_of e) (fun z=>nomatch z) fun tk=>⟨.bl b,H,I.tok tk,rfl,q⟩
theorem cd_isi:CallD K (rIsiA K) isiD:=by
 intro F S H ds vs Q QD r l h c
 match ds,h with
 | [d,.ty T],⟨t,b,h1,h2,q⟩ =>
  obtain⟨v,w,rfl,rv,rw'⟩:=l.two;unfold RepV at rw';subst rw';cases d with
  | non=>cases h1;rw[rnon rv];exact .inl ⟨_,T,_,b,rfl,.non,h2,c.bl r q⟩
  | bl i=>cases h1;rw[rbl rv];exact .inl ⟨_,T,_,b,rfl,.bl _,h2,c.bl r q⟩
  | int i=>cases h1;rw[rint rv];exact .inl ⟨_,T,_,b,rfl,.int _,h2,c.bl r q⟩
  | str i=>cases h1;rw[rstr rv];exact .inl ⟨_,T,_,b,rfl,.str _,h2,c.bl r q⟩
  | tup xs =>
   cases h1;obtain⟨a,us,rfl,sq,l⟩:=tup.st rv;exact .inr (.inl ⟨a,T,b,us,rfl,sq,h2,c.bl r q⟩)
  | lst xs =>
   cases h1;obtain⟨a,us,rfl,sq,l⟩:=lsIs.sl r rv (show lsIs S (.lst xs) xs from rfl)
   exact .inr (.inr ⟨a,T,b,us,rfl,sq,h2,c.bl r q⟩)
  | _=>cases h1
theorem e_isi {e2:Expr} (hg:Gl X "isinstance") (hm:X.mg "isinstance" = none) (ha:PAD K X [e,e2] t) (hK:X.K=K:=by rfl) (he:ax [e,e2] X.env=(false,eval e X.env)::ax [e2] X.env:=by rfl) (hpl:(cw pos (ax [e2] X.env)).any (·.1)=false:=by rfl):PD K X (.Call (.Name "isinstance" p) [e,e2] [] pos) (dCB isiD t):=e_callB (call_isiA hK) cd_isi hg hm bt_isinstance ha (by decide) (by decide) he hpl
end
def ixD:R2D:=fun d e S Q=>match d,e with
 | .str z,.int i=>z.length<=sizeLine/\∃ c,atI z.cps.toList i=some c/\Q (.str ⟨#[c]⟩) S
 | d,.int i=>∃ xs v,sqIs S d xs/\atI xs i=some v/\Q v S
 | _,_=>False
theorem repAt {M:Am} {H:Hp} {ds:List D} {xs:List V} (l:RepL K M H ds xs) {i:Int} {d:D} (h:atI ds i=some d):∃ v,atI xs i=some v/\RepV K M H d v:=by
 unfold atI at h ⊢;rw[l.length];cases hi:ixN ds.length i with
 | none=>rw[hi] at h;cases h
 | some j=>rw[hi] at h;exact l.get h
theorem od_ix:OpD K (rIx K) ixD:=by
 intro F S H d e x y Q QD r hd he h c;have seq:∀ i,e=.int i->(∃ xs v,sqIs S d xs/\atI xs i=some v/\QD v S)->rIx K x y H Q:=by
  rintro i rfl ⟨xs,v,h1,h2,q⟩;obtain⟨a,us,rfl,sq,l⟩:=h1.sq r hd;obtain⟨u,e1,ru⟩:=repAt l h2;rw[rint he];rcases sq with sq | sq
  ·exact .inl ⟨a,us,i,u,rfl,rfl,sq,e1,c.here r ru q⟩
  ·exact .inr (.inl ⟨a,us,i,u,rfl,rfl,sq,e1,c.here r ru q⟩)
 cases e with
 | int i =>
  cases d with
  | str z =>
   obtain⟨h1,w,h2,q⟩:=h;rw[rstr hd,rint he];exact .inr (.inr ⟨z,i,w,rfl,rfl,h1,h2,c.str r q⟩)
  | _=>exact seq i rfl h
 | _=>cases d <;> exact h.elim
theorem ix_seqK (hK:X.K=K:=by rfl):IxR X (rIx K):=hK ▸ ix_seq
theorem e_ix (ha:PD K X a ta) (hb:PD K X b tb) (hs:PlainIx b:=by exact fun _ _=>rfl) (hK:X.K=K:=by rfl):PD K X (.Subscript a b pos) (dOp ixD ta tb):=.of (pe_ix (ix_seqK hK) ha.o hb.o hs) (up_op od_ix)
abbrev OD:=Gm->Sto->(Option Int->Sto->Prop)->Prop
def upO (K:Fg) (t:OD):TO:=fun σ H Q=>∃ F S Γ QD,Rp K F S H/\RepG K (mt S F) H Γ σ/\t Γ S QD/\∀ o H' S',Ext S H S' H'->Rp K F S' H'->QD o S'->Q o H'
theorem upO.el {K:Fg} {t:OD} {σ:St} {H:Hp} {Q:Option Int->Hp->Prop} {p:Prop} (h:upO K t σ H Q) (k:∀ F S Γ QD,Rp K F S H->RepG K (mt S F) H Γ σ->t Γ S QD->(∀ o H' S',Ext S H S' H'->Rp K F S' H'->QD o S'->Q o H')->p):p:=by
 obtain⟨F,S,Γ,QD,h0,h1,h2,h3⟩:=h;exact k F S Γ QD h0 h1 h2 h3
structure POD (K:Fg) (X:Cx) (e:Option Expr) (t:OD):Prop where
 o:PO X e (upO K t)
def dNoPart:OD:=fun _ S Q=>Q none S
def dPart (t:ED):OD:=fun Γ S Q=>t Γ S fun d S1=>∃ i,d=.int i/\Q (some i) S1
theorem do_none:POD K X none dNoPart:=⟨fun pins s σ H Q I z0=>z0.el fun F S Γ QD r g q c=>po_none pins s σ H Q I (c none H S (Ext.refl _ _) r q)⟩
theorem do_some (h:PD K X a ta):POD K X (some a) (dPart ta):=⟨fun pins s σ H Q I z0=>z0.el fun F S Γ QD r g q c=>po_some h.o pins s σ H Q I ⟨F,S,Γ,_,r,g,q,fun v d H1 S1 x1 r1 v1 z1=>by
 obtain⟨i,e,q1⟩:=z1;subst e;exact⟨i,rint v1,c _ _ _ x1 r1 q1⟩⟩⟩
def cutD (xs:List D) (lo hi:Option Int):List D:=(xs.drop (HT.sIx xs.length 0 lo)).take (HT.sIx xs.length xs.length hi - HT.sIx xs.length 0 lo)
def slD (b:Bool) (d:D) (lo hi:Option Int) (S:Sto) (Q:DK):Prop:=match d with
 | .str z=>z.length<=1000000/\Q (.str (cutS z lo hi)) S
 | .tup xs=>Q (.tup (cutD xs lo hi)) S
 | d=>∃ xs,lsIs S d xs/\newL b (cutD xs lo hi) S Q
def rSlA (K:Fg):V->Option Int->Option Int->Hp->VK->Prop:=fun x lo hi H Q=>rSlS x lo hi H Q\/rSlT K x lo hi H Q\/rSlW K x lo hi H Q\/rSlL K x lo hi H Q
theorem sl_A (hK:X.K=K:=by rfl):SlR X (rSlA K):=sl_str.or ((sl_tupK hK).or ((sl_tupW hK).or (sl_listK hK)))
theorem cutD_all (xs:List D) {lo hi:Option Int} (h0:HT.sIx xs.length 0 lo=0) (h1:HT.sIx xs.length xs.length hi=xs.length):cutD xs lo hi=xs:=by unfold cutD;rw[h0,h1];simp
theorem repCut {M:Am} {H:Hp} {ds:List D} {xs:List V} (l:RepL K M H ds xs) (lo hi:Option Int):RepL K M H (cutD ds lo hi) (cutV xs lo hi):=by
 unfold cutD cutV;rw[l.length];exact(l.drop _).take _
theorem sd_A {b:Bool}:∀ F S H d x lo hi Q QD,Rp K F S H->RepV K (mt S F) H d x->slD b d lo hi S QD->Cn K F S H QD Q->rSlA K x lo hi H Q:=by
 intro F S H d x lo hi Q QD r hd h c;have lists:(∃ xs,lsIs S d xs/\newL b (cutD xs lo hi) S QD)->rSlA K x lo hi H Q:=by
  rintro⟨xs,l1,q⟩;obtain⟨a,us,rfl,s1,p1⟩:=lsIs.sl r hd l1;exact .inr (.inr (.inr ⟨a,us,rfl,s1,fun p hp=>c.new r hp (repCut p1 lo hi) q⟩))
 cases d with
 | str z=>rw[rstr hd];exact .inl ⟨z,rfl,h.1,c.str r h.2⟩
 | tup xs =>
  obtain⟨a,us,rfl,s1,p1⟩:=tup.st hd
  by_cases hw:HT.sIx us.length 0 lo=0/\HT.sIx us.length us.length hi=us.length
  ·refine .inr (.inr (.inl ⟨a,us,rfl,s1,hw.1,hw.2,c.here r hd ?_⟩));rw[p1.length] at hw;have h':QD (.tup (cutD xs lo hi)) S:=h;rwa [cutD_all xs hw.1 hw.2] at h'
  ·exact .inr (.inl ⟨a,us,rfl,s1,hw,fun p hp=>c.tup r hp (repCut p1 lo hi) h⟩)
 | _=>exact lists h
def dSl (b:Bool) (te:ED) (tl th:OD):ED:=fun Γ S Q=>te Γ S fun d S1=>tl Γ S1 fun lo S2=>th Γ S2 fun hi S3=>slD b d lo hi S3 Q
theorem e_sl {b:Bool} {e:Expr} {te:ED} {lo hi:Option Expr} {tl th:OD} {p2 pos:Pos} (he:PD K X e te) (hl:POD K X lo tl) (hu:POD K X hi th) (hK:X.K=K:=by rfl):PD K X (.Subscript e (.Slice lo hi none p2) pos) (dSl b te tl th):=.of (pe_slice (sl_A hK) he.o hl.o hu.o) fun σ H Q z0=>z0.el fun F S Γ QD r g q c =>
 ⟨F,S,Γ,_,r,g,q,fun v d H1 S1 x1 r1 v1 q1=>⟨F,S1,Γ,_,r1,g.ext x1,q1,fun l H2 S2 x2 r2 q2=>⟨F,S2,Γ,_,r2,g.ext (x1.trans x2),q2,fun u H3 S3 x3 r3 q3=>sd_A F S3 H3 d v l u Q QD r3 (v1.ext (x2.trans x3)) q3 (Cn.shift c (x1.trans (x2.trans x3)))⟩⟩⟩
end
end L2
set_option maxHeartbeats 4000000
namespace L2
open PySem PySem.Spec PyProof.Rows
section
variable {X:Cx} {K:Fg} {a b:Expr} {ta tb:ED} {pos:Pos} {k:Nat}
abbrev GD:=D->Gm->Sto->(Gm->Sto->Prop)->Prop
abbrev GsD:=List D->Gm->Sto->(Gm->Sto->Prop)->Prop
def upG (K:Fg) (t:GD):TG:=fun v σ H Q=>∃ F S Γ d QD,Rp K F S H/\RepG K (mt S F) H Γ σ/\RepV K (mt S F) H d v/\t d Γ S QD/\∀ Γ' S' σ' H',Ext S H S' H'->Rp K F S' H'->RepG K (mt S' F) H' Γ' σ'->QD Γ' S'->Q σ' H'
theorem upG.el {K:Fg} {t:GD} {v:V} {σ:St} {H:Hp} {Q:St->Hp->Prop} {p:Prop} (h:upG K t v σ H Q) (k:∀ F S Γ d QD,Rp K F S H->RepG K (mt S F) H Γ σ->RepV K (mt S F) H d v->t d Γ S QD->(∀ Γ' S' σ' H',Ext S H S' H'->Rp K F S' H'->RepG K (mt S' F) H' Γ' σ'->QD Γ' S'->Q σ' H')->p):p:=by
 obtain⟨F,S,Γ,d,QD,h0,h1,h2,h3,h4⟩:=h;exact k F S Γ d QD h0 h1 h2 h3 h4
def upGs (K:Fg) (t:GsD):TGs:=fun vs σ H Q=>∃ F S Γ ds QD,Rp K F S H/\RepG K (mt S F) H Γ σ/\RepL K (mt S F) H ds vs/\t ds Γ S QD/\∀ Γ' S' σ' H',Ext S H S' H'->Rp K F S' H'->RepG K (mt S' F) H' Γ' σ'->QD Γ' S'->Q σ' H'
theorem upGs.el {K:Fg} {t:GsD} {vs:List V} {σ:St} {H:Hp} {Q:St->Hp->Prop} {p:Prop} (h:upGs K t vs σ H Q) (k:∀ F S Γ ds QD,Rp K F S H->RepG K (mt S F) H Γ σ->RepL K (mt S F) H ds vs->t ds Γ S QD->(∀ Γ' S' σ' H',Ext S H S' H'->Rp K F S' H'->RepG K (mt S' F) H' Γ' σ'->QD Γ' S'->Q σ' H')->p):p:=by
 obtain⟨F,S,Γ,ds,QD,h0,h1,h2,h3,h4⟩:=h;exact k F S Γ ds QD h0 h1 h2 h3 h4
structure PGD (K:Fg) (X:Cx) (e:Expr) (t:GD):Prop where
 o:PG X e (upG K t)
structure PGsD (K:Fg) (X:Cx) (es:List Expr) (t:GsD):Prop where
 o:PGs X es (upGs K t)
theorem PGD.of {e:Expr} {te:TG} {t:GD} (h:PG X e te) (i:∀ v σ H Q,upG K t v σ H Q->te v σ H Q):PGD K X e t:=⟨fun pins s σ H v u Q I r q=>h pins s σ H v u Q I r (i v σ H Q q)⟩
theorem PGsD.of {e:List Expr} {te:TGs} {t:GsD} (h:PGs X e te) (i:∀ v σ H Q,upGs K t v σ H Q->te v σ H Q):PGsD K X e t:=⟨fun pins s σ H v u Q I r q=>h pins s σ H v u Q I r (i v σ H Q q)⟩
def gdName (i:Nat):GD:=fun d Γ S Q=>Q (Γ.set i (some d)) S
theorem dg_name {i:Nat} {x:Str} (hN:X.N.Nodup) (hi:X.N[i]?=some x) (hx:Loc X.env.scope x) (hf:X.fn x=true\/X.env.scope.names.lookup x=some .local:=by first | exact .inl rfl | exact .inr rfl | assumption):PGD K X (.Name x pos) (gdName i) :=
 .of (pg_name hN hi hx hf) fun v σ H Q z0=>z0.el fun F S Γ d QD r g rv q c=>c _ S _ H (Ext.refl _ _) r (g.set rv i) q
def gdNil:GsD:=fun ds Γ S Q=>ds=[]/\Q Γ S
def gdCons (t:GD) (u:GsD):GsD:=fun ds Γ S Q=>match ds with
 | []=>False
 | d::r=>t d Γ S fun Γ' S'=>u r Γ' S' Q
def gdTup (n:Nat) (t:GsD):GD:=fun d Γ S Q=>match d with
 | .tup ds=>ds.length=n/\t ds Γ S Q
 | _=>False
theorem dgs_nil:PGsD K X [] gdNil:=.of pgs_nil fun v σ H Q z1=>by
 obtain⟨F,S,Γ,ds,QD,r,g,l,⟨e,q⟩,c⟩:=z1;subst e;unfold RepL at l;exact⟨l,c _ S _ H (Ext.refl _ _) r g q⟩
theorem dgs_cons {e:Expr} {es:List Expr} {t:GD} {u:GsD} (h1:PGD K X e t) (h2:PGsD K X es u) (ha:(fh (e::es) X.env).map (·.2)=assign e X.env::(fh es X.env).map (·.2):=by rfl):PGsD K X (e::es) (gdCons t u) :=
 .of (pgs_cons h1.o h2.o ha) fun vs σ H Q z0=>z0.el fun F S Γ ds QD r g l q c=>by
  cases ds with
  | nil=>exact q.elim
  | cons d ds =>
   unfold RepL at l;obtain⟨v,vs,rfl,rv,l⟩:=l;exact⟨v,vs,rfl,F,S,Γ,d,_,r,g,rv,q,fun Γ1 S1 σ1 H1 x1 r1 g1 q1=>⟨F,S1,Γ1,ds,_,r1,g1,l.ext x1,q1,fun Γ2 S2 σ2 H2 x2=>c Γ2 S2 σ2 H2 (x1.trans x2)⟩⟩
theorem dg_tup {es:List Expr} {kk:Nat} {t:GsD} {n:Nat} (hc:X.calm=true) (h:PGsD K X es t) (hK:X.K=K:=by rfl)
  (hn:(fh es X.env).length=n:=by rfl) (hst:(fh es X.env).findIdx? (·.1)=none:=by rfl):PGD K X (.Tuple es kk pos) (gdTup n t) :=
 .of (pg_tup hc h.o hn hst) fun v σ H Q z0=>z0.el fun F S Γ d QD r g rv q c=>by
  cases d with
  | tup ds =>
   obtain⟨p,us,rfl,sq,l⟩:=tup.st rv;exact⟨p,us,rfl,by rw[hK];exact sq,by rw[l.length];exact q.1,F,S,Γ,ds,_,r,g,l,q.2,c⟩
  | _=>exact q.elim
def dNext:SD:=fun E Γ S=>E.nx Γ S
def dSeq (t u:SD):SD:=fun E Γ S=>t { E with nx:=u E } Γ S
def dAsg (te:ED) (g:GD):SD:=fun E Γ S=>te Γ S fun d S1=>g d Γ S1 E.nx
def dDrop (te:ED):SD:=fun E Γ S=>te Γ S fun _ S1=>E.nx Γ S1
def dRet (te:ED):SD:=fun E Γ S=>te Γ S E.rt
def dIfS (c:TD) (t u:SD):SD:=fun E Γ S=>c Γ S fun b S1=>if b=true then t E Γ S1 else u E Γ S1
section
variable {st:Stmt} {rest:List Stmt} {t u:SD}
theorem dss_nil:PSsD K X [] dNext:=.of pss_nil fun D' σ H z0=>z0.el fun F S Γ E r g q c=>c.nx Γ S σ H (Ext.refl _ _) r g q
theorem dss_cons (h1:PSD K X st t) (h2:PSsD K X rest u):PSsD K X (st::rest) (dSeq t u):=.of (pss_cons h1.o h2.o) fun D' σ H z0=>z0.el fun F S Γ E r g q c =>
 ⟨F,S,Γ,{ E with nx:=u E },r,g,q,fun Γ1 S1 σ1 H1 x1 r1 g1 q1=>⟨F,S1,Γ1,E,r1,g1,q1,c.ext x1⟩,c.rt,c.bk,c.ct⟩
theorem dss_one (h1:PSD K X st t):PSsD K X [st] t:=⟨pss_one h1.o⟩
theorem up_set {te:ED} {i:Nat}:∀ D' σ H,upS K (dAsg te (gdName i)) D' σ H->tAsg (upE K te) (gName i) D' σ H:=fun D' σ H z0=>z0.el fun F S Γ E r g q c =>
 ⟨F,S,Γ,_,r,g,q,fun v d H1 S1 x1 r1 v1 q1=>c.nx _ S1 _ H1 x1 r1 ((g.ext x1).set v1 i) q1⟩
theorem ds_set {i:Nat} {x:Str} {e:Expr} {te:ED} {pos':Pos} (hN:X.N.Nodup) (hi:X.N[i]?=some x) (hx:Loc X.env.scope x) (he:PD K X e te) (hs:gE e (some (.Name x pos')) pos.line X.env=pure false:=by rfl) (hf:X.fn x=true\/X.env.scope.names.lookup x=some .local:=by first | exact .inl rfl | exact .inr rfl | assumption) :
  PSD K X (.Assign [.Name x pos'] e pos) (dAsg te (gdName i)):=.of (ps_set hN hi hx he.o hs hf) up_set
theorem ds_expr {e:Expr} {te:ED} (he:PD K X e te) (hs:gE e none pos.line X.env=pure false:=by rfl):PSD K X (.Expr e pos) (dDrop te):=.of (ps_expr he.o hs) fun D' σ H z0=>z0.el fun F S Γ E r g q c =>
 ⟨F,S,Γ,_,r,g,q,fun v d H1 S1 x1 r1 v1 q1=>c.nx Γ S1 σ H1 x1 r1 (g.ext x1) q1⟩
theorem ds_ret {e:Expr} {te:ED} (he:PD K X e te):PSD K X (.Return (some e) pos) (dRet te):=.of (ps_ret he.o) fun D' σ H z0=>z0.el fun F S Γ E r g q c =>
 ⟨F,S,Γ,_,r,g,q,fun v d H1 S1 x1 r1 v1 q1=>c.rt v d H1 S1 x1 r1 v1 q1⟩
theorem ds_if {c:Expr} {sa sb:List Stmt} {tc:TD} (hc:PTD K X c tc) (ha:PSsD K X sa t) (hb:PSsD K X sb u):PSD K X (.If c sa sb pos) (dIfS tc t u):=.of (ps_if hc.o ha.o hb.o) fun D' σ H z0=>z0.el fun F S Γ E r g q c =>
 ⟨F,S,Γ,_,r,g,q,fun z H1 S1 x1 r1 q1=>by
  cases z with
  | true=>exact⟨F,S1,Γ,E,r1,g.ext x1,q1,c.ext x1⟩
  | false=>exact⟨F,S1,Γ,E,r1,g.ext x1,q1,c.ext x1⟩⟩
end
def FE (F:Am) (H:Hp) (F2:Am):Prop:=∀ a,F2 a->F a\/H a=none
theorem FE.refl (F:Am) (H:Hp):FE F H F:=fun _ h=>.inl h
structure ExtW (F:Am) (S:Sto) (H:Hp) (S':Sto) (H':Hp):Prop where
 keep:∀ a o,¬ mt S F a->H a=some o->H' a=some o
 new:∀ a,S' a≠none->S a≠none\/H a=none
theorem Ext.w {F:Am} {S S':Sto} {H H':Hp} (x:Ext S H S' H'):ExtW F S H S' H':=⟨fun a o h e=>x.keep a o (aK fun n=>h (.inl n)) e,x.new⟩
theorem ExtW.kpF {F F2:Am} {S S':Sto} {H H':Hp} (x:ExtW F S H S' H') (f:FE F H F2):Keep (mt S F) H (mt S' F2) H':=⟨x.keep,fun a h e=>fun z=>by
 rcases z with z | z
 ·rcases x.new a z with y | y
  ·exact h (.inl y)
  ·exact e y
 ·rcases f a z with y | y
  ·exact h (.inr y)
  ·exact e y⟩
structure ItOk (K:Fg) (F:Am) (S:Sto) (H:Hp) (J:It) (xs:List D) (G:Sto->Prop):Prop where
 go:∀ F2,FE F H F2->∀ S2 H2,ExtW F S H S2 H2->Rp K F2 S2 H2->G S2->∀ i d,xs[i]?=some d->J.go i H2/\∀ x H3,J.yld i H2 x H3->Ext S2 H2 S2 H3/\Rp K F2 S2 H3/\RepV K (mt S2 F2) H3 d x
 stop:∀ F2,FE F H F2->∀ S2 H2,ExtW F S H S2 H2->Rp K F2 S2 H2->G S2->J.stop xs.length H2
abbrev IDk:=List D->(Sto->Prop)->Sto->Prop
abbrev ID:=Gm->Sto->IDk->Prop
def upI (K:Fg) (t:ID):TI:=fun σ H R=>∃ F S Γ QD,Rp K F S H/\RepG K (mt S F) H Γ σ/\t Γ S QD/\∀ J xs G H' S',Ext S H S' H'->Rp K F S' H'->ItOk K F S' H' J xs G->QD xs G S'->R J H'
theorem upI.el {K:Fg} {t:ID} {σ:St} {H:Hp} {R:It->Hp->Prop} {p:Prop} (h:upI K t σ H R) (k:∀ F S Γ QD,Rp K F S H->RepG K (mt S F) H Γ σ->t Γ S QD->(∀ J xs G H' S',Ext S H S' H'->Rp K F S' H'->ItOk K F S' H' J xs G->QD xs G S'->R J H')->p):p:=by
 obtain⟨F,S,Γ,QD,h0,h1,h2,h3⟩:=h;exact k F S Γ QD h0 h1 h2 h3
structure PID (K:Fg) (X:Cx) (tg e:Expr) (t:ID):Prop where
 o:PI X tg e (upI K t)
theorem PID.of {tg e:Expr} {te:TI} {t:ID} (h:PI X tg e te) (i:∀ σ H Q,upI K t σ H Q->te σ H Q):PID K X tg e t:=⟨fun pins s σ H Q I q=>h pins s σ H Q I (i σ H Q q)⟩
def iSq (K:Fg) (tl:TE):TI:=fun σ H R=>tl σ H fun x H1=>(∃ a,x=.ref a/\(∃ xs,SqL K H1 a xs)/\R (Itl K a) H1)\/∃ a,x=.ref a/\(∃ xs,SqT K H1 a xs)/\R (Itt K a) H1
theorem pi_sq {tg l:Expr} {tl:TE} (hl:PE X l tl) (hK:X.K=K:=by rfl):PI X tg l (iSq K tl):=by
 subst hK;intro pins s σ H R I h;refine thn (hl pins s σ H _ I h) fun v s1 ⟨x,H1,I1,r1,q1⟩=>?_;have fp:∀ b∈[s1.heap.objs.size],FpOk X pins H1 b:=fun b hb=>by
  have e:b=s1.heap.objs.size:=by simpa using hb
  subst e;exact I1.fpOk (Nat.le_refl _) (I1.hok.fresh (Nat.le_refl _))
 rcases q1 with⟨a,e,⟨xs,hq⟩,q⟩ | ⟨a,e,⟨xs,hq⟩,q⟩
 ·subst e;cases r1;obtain⟨its,rv,p,hz⟩:=I1.list hq;exact gv p.isList ⟨s1.heap.objs.size,[s1.heap.objs.size],_,_,H1,rfl,I1.kept (t':=s1.toks) fun b o e=>ah _ e,turn_list a _,⟨_,av _ rfl,rfl,rfl⟩,fp,q⟩
 ·subst e;cases r1;obtain⟨its,rv,p,hz⟩:=I1.tuple hq;exact iw (show s1.heap.IsTuple a its.toArray from p) ⟨s1.heap.objs.size,[s1.heap.objs.size],_,_,H1,rfl,I1.kept (t':=s1.toks) fun b o e=>ah _ e,turn_tuple a _,⟨_,av _ rfl,rfl,rfl⟩,fp,q⟩
def guard (d:D) (xs:List D):Sto->Prop:=match d with
 | .ref a=>fun S=>S a=some (.lst xs)
 | _=>fun _=>True
def dSq (te:ED):ID:=fun Γ S Q=>te Γ S fun d S1=>∃ xs,sqIs S1 d xs/\Q xs (guard d xs) S1
theorem itk_tup {F:Am} {S:Sto} {H:Hp} {p:Addr} {xs:List D} {us:List V} {G:Sto->Prop} (t:TupAt K (mt S F) H p us) (l:RepL K (mt S F) H xs us):ItOk K F S H (Itt K p) xs G where
 go:=fun F2 f S2 H2 x r2 _ i d hd=>by
  have t2:=(t.keep (x.kpF f)).sq;obtain⟨v,e1,rv⟩:=l.get hd;refine⟨⟨us,v,t2,e1⟩,fun y H3 ⟨e2,y1⟩=>?_⟩;subst e2
  have:=y1 us t2
  rw[e1] at this;cases this;exact⟨Ext.refl _ _,r2,rv.keep (x.kpF f)⟩
 stop:=fun F2 f S2 H2 x r2 _=>⟨us,(t.keep (x.kpF f)).sq,by rw[l.length];exact Nat.le_refl _⟩
theorem itk_lst {F:Am} {S:Sto} {H:Hp} {p:Addr} {xs:List D} {us:List V} {G:Sto->Prop} (t:LstAt K (mt S F) H p us) (l:RepL K (mt S F) H xs us):ItOk K F S H (Itl K p) xs G where
 go:=fun F2 f S2 H2 x r2 _ i d hd=>by
  obtain⟨v,e1,rv⟩:=l.get hd;have t2:SqL K H2 p us:=(t.keep (x.kpF f)).sq;refine⟨⟨us,v,t2,e1⟩,fun y H3 ⟨e2,y1⟩=>?_⟩;subst e2
  have:=y1 us t2
  rw[e1] at this;cases this;exact⟨Ext.refl _ _,r2,rv.keep (x.kpF f)⟩
 stop:=fun F2 f S2 H2 x r2 _=>⟨us,(t.keep (x.kpF f)).sq,by rw[l.length];exact Nat.le_refl _⟩
theorem itk_ref {F:Am} {S:Sto} {H:Hp} {p:Addr} {xs:List D}:ItOk K F S H (Itl K p) xs (guard (.ref p) xs) where
 go:=fun F2 f S2 H2 x r2 hg i d hd=>by
  obtain⟨us,hu,l⟩:=r2.obj p _ hg;obtain⟨v,e1,rv⟩:=l.get hd;refine⟨⟨us,v,SqL.of hu,e1⟩,fun y H3 ⟨e2,y1⟩=>?_⟩;subst e2
  have:=y1 us (SqL.of hu)
  rw[e1] at this;cases this;exact⟨Ext.refl _ _,r2,rv⟩
 stop:=fun F2 f S2 H2 x r2 hg=>by
  obtain⟨us,hu,l⟩:=r2.obj p _ hg;exact⟨us,SqL.of hu,by rw[l.length];exact Nat.le_refl _⟩
theorem di_sq {tg l:Expr} {tl:ED} (hl:PD K X l tl) (hK:X.K=K:=by rfl):PID K X tg l (dSq tl):=.of (pi_sq hl.o hK) fun σ H Q z0=>z0.el fun F S Γ QD r g q c =>
 ⟨F,S,Γ,_,r,g,q,fun v d H1 S1 x1 r1 v1 z1=>by
  obtain⟨xs,hs,q1⟩:=z1;cases d with
  | tup ys =>
   cases hs;unfold RepV at v1;obtain⟨p,us,rfl,t,l⟩:=v1;exact .inr ⟨p,rfl,⟨us,t.sq⟩,c _ _ _ _ _ x1 r1 (itk_tup t l) q1⟩
  | lst ys =>
   cases hs;unfold RepV at v1;obtain⟨p,us,rfl,t,l⟩:=v1;exact .inl ⟨p,rfl,⟨us,t.sq⟩,c _ _ _ _ _ x1 r1 (itk_lst t l) q1⟩
  | ref p =>
   rw[rref v1];obtain⟨us,hu,l⟩:=r1.obj p _ hs;exact .inl ⟨p,rfl,⟨us,SqL.of hu⟩,c _ _ _ _ _ x1 r1 itk_ref q1⟩
  | _=>exact hs.elim⟩
def rngD (lo:Int):Nat->List D
 | 0=>[]
 | n + 1=>.int lo::rngD (lo + 1) n
theorem rngD_len:∀ (n:Nat) (lo:Int),(rngD lo n).length=n
 | 0,_=>rfl
 | n + 1,lo=>by simp[rngD,rngD_len n]
theorem rngD_get:∀ (n:Nat) (lo:Int) (i:Nat) (d:D),(rngD lo n)[i]?=some d->i < n/\d=.int (lo + i)
 | 0,lo,i,d,h=>by simp[rngD] at h
 | n + 1,lo,0,d,h=>by simp[rngD] at h;exact⟨by lia,by rw[<- h];simp⟩
 | n + 1,lo,i + 1,d,h=>by
  have h':(rngD (lo + 1) n)[i]?=some d:=by simpa [rngD] using h
  obtain⟨h1,h2⟩:=rngD_get n (lo + 1) i d h';refine⟨by lia,?_⟩
  rw[h2]
  congr 1
  rw[gU];lia
theorem itk_rng {F:Am} {S:Sto} {H:Hp} {lo:Int} {n:Nat} {G:Sto->Prop}:ItOk K F S H (Itr lo n) (rngD lo n) G where
 go:=fun F2 f S2 H2 x r2 _ i d hd=>by
  obtain⟨h1,rfl⟩:=rngD_get n lo i d hd;exact⟨h1,fun y H3 ⟨e2,y1⟩=>by subst e2;subst y1;exact⟨Ext.refl _ _,r2,by unfold RepV;rfl⟩⟩
 stop:=fun F2 f S2 H2 x r2 _=>by rw[rngD_len];exact Nat.le_refl n
def dRng1 (ta:AD):ID:=fun Γ S Q=>ta Γ S fun ds S1=>match ds with
 | [.int j]=>(-(2 ^ 62)<=j/\j < 2 ^ 62)/\Q (rngD 0 j.toNat) (fun _=>True) S1
 | _=>False
def dRng2 (ta:AD):ID:=fun Γ S Q=>ta Γ S fun ds S1=>match ds with
 | [.int i,.int j]=>(-(2 ^ 62)<=i/\i < 2 ^ 62/\-(2 ^ 62)<=j/\j < 2 ^ 62)/\Q (rngD i (j - i).toNat) (fun _=>True) S1
 | _=>False
theorem di_range1 {tg:Expr} {p:Pos} {ta:AD} (hg:Gl X "range") (hm:X.mg "range" = none) (ha:PAD K X [a] ta) (hs:ax [a] X.env=[(false,eval a X.env)]:=by rfl):PID K X tg (.Call (.Name "range" p) [a] [] pos) (dRng1 ta):=.of (pi_range1 hg hm ha.o hs) fun σ H Q z0=>z0.el fun F S Γ QD r g q c =>
 ⟨F,S,Γ,_,r,g,q,fun vs ds H1 S1 x1 r1 v1 q1=>by
  match ds,q1 with
  | [.int j],q1 =>
   obtain⟨v,rfl,rv⟩:=v1.one;rw[rint rv];exact⟨j,rfl,q1.1.1,q1.1.2,c _ _ _ _ _ x1 r1 itk_rng q1.2⟩⟩
theorem di_range2 {tg:Expr} {p:Pos} {ta:AD} (hg:Gl X "range") (hm:X.mg "range" = none) (ha:PAD K X [a,b] ta) (hs:ax [a,b] X.env=[(false,eval a X.env),(false,eval b X.env)]:=by rfl) (hs2:ax [b] X.env=[(false,eval b X.env)]:=by rfl):PID K X tg (.Call (.Name "range" p) [a,b] [] pos) (dRng2 ta):=.of (pi_range2 hg hm ha.o hs hs2) fun σ H Q z0=>z0.el fun F S Γ QD r g q c =>
 ⟨F,S,Γ,_,r,g,q,fun vs ds H1 S1 x1 r1 v1 q1=>by
  match ds,q1 with
  | [.int i,.int j],q1 =>
   obtain⟨v,w,rfl,rv,rw'⟩:=v1.two;rw[rint rv,rint rw'];exact⟨i,j,rfl,q1.1,c _ _ _ _ _ x1 r1 itk_rng q1.2⟩⟩
def pairs (lo:Int):List D->List D
 | []=>[]
 | d::ds=>.tup [.int lo,d]::pairs (lo + 1) ds
theorem pairs_len:∀ (ds:List D) (lo:Int),(pairs lo ds).length=ds.length
 | [],_=>rfl
 | d::ds,lo=>by simp[pairs,pairs_len ds]
theorem pairs_get:∀ (ds:List D) (lo:Int) (i:Nat) (d:D),(pairs lo ds)[i]?=some d->∃ e,ds[i]?=some e/\d=.tup [.int (lo + i),e]
 | [],lo,i,d,h=>by simp[pairs] at h
 | e::ds,lo,0,d,h=>by simp[pairs] at h;exact⟨e,rfl,by rw[<- h];simp⟩
 | e::ds,lo,i + 1,d,h=>by
  have h':(pairs (lo + 1) ds)[i]?=some d:=by simpa [pairs] using h
  obtain⟨f,h1,h2⟩:=pairs_get ds (lo + 1) i d h';refine⟨f,by simpa using h1,?_⟩
  rw[h2]
  have:lo + 1 + (i:Int)=lo + ((i + 1:Nat):Int):=by rw[gU];lia
  rw[this]
theorem pairRep {F:Am} {S:Sto} {H:Hp} {p:Addr} {i:Nat} {y:V} {d:D} (r:Rp K F S H) (hp:H p=none) (rv:RepV K (mt S F) H d y):Ext S H S (upd H p (.tup [.int i,y]))/\Rp K F S (upd H p (.tup [.int i,y]))/\RepV K (mt S F) (upd H p (.tup [.int i,y])) (.tup [.int (0 + i),d]) (.ref p):=by
 have x:Ext S H S (upd H p (.tup [.int i,y])):=Ext.same (same_upd hp);refine⟨x,r.same (same_upd hp),?_⟩;unfold RepV;exact⟨p,_,rfl,.inl ⟨r.nmt hp,.inl upd_same⟩,RepL.cons (by unfold RepV;rw[hU]) (RepL.cons (rv.ext x) RepL.nil)⟩
theorem itk_enT {F:Am} {S:Sto} {H:Hp} {p:Addr} {xs:List D} {us:List V} {G:Sto->Prop} (t:TupAt K (mt S F) H p us) (l:RepL K (mt S F) H xs us):ItOk K F S H (Ite K p) (pairs 0 xs) G where
 go:=fun F2 f S2 H2 x r2 _ i d hd=>by
  obtain⟨e,he,rfl⟩:=pairs_get xs 0 i d hd;obtain⟨v,e1,rv⟩:=l.get he;have t2:=(t.keep (x.kpF f)).sq;refine⟨⟨us,v,t2,e1⟩,fun z H3 ⟨q,y,hq,ez,eH,y1⟩=>?_⟩;subst ez;subst eH
  have:=y1 us t2
  rw[e1] at this;cases this;exact pairRep r2 hq (rv.keep (x.kpF f))
 stop:=fun F2 f S2 H2 x r2 _=>⟨us,(t.keep (x.kpF f)).sq,by rw[pairs_len,l.length];exact Nat.le_refl _⟩
theorem itk_enL {F:Am} {S:Sto} {H:Hp} {p:Addr} {xs:List D} {us:List V} {G:Sto->Prop} (t:LstAt K (mt S F) H p us) (l:RepL K (mt S F) H xs us):ItOk K F S H (Itel K p) (pairs 0 xs) G where
 go:=fun F2 f S2 H2 x r2 _ i d hd=>by
  obtain⟨e,he,rfl⟩:=pairs_get xs 0 i d hd;obtain⟨v,e1,rv⟩:=l.get he;have t2:SqL K H2 p us:=(t.keep (x.kpF f)).sq;refine⟨⟨us,v,t2,e1⟩,fun z H3 ⟨q,y,hq,ez,eH,y1⟩=>?_⟩;subst ez;subst eH
  have:=y1 us t2
  rw[e1] at this;cases this;exact pairRep r2 hq (rv.keep (x.kpF f))
 stop:=fun F2 f S2 H2 x r2 _=>⟨us,(t.keep (x.kpF f)).sq,by rw[pairs_len,l.length];exact Nat.le_refl _⟩
def dEnT (ta:AD):ID:=fun Γ S Q=>ta Γ S fun ds S1=>match ds with
 | [.tup xs]=>Q (pairs 0 xs) (fun _=>True) S1
 | _=>False
def dEnL (ta:AD):ID:=fun Γ S Q=>ta Γ S fun ds S1=>match ds with
 | [.lst xs]=>Q (pairs 0 xs) (fun _=>True) S1
 | _=>False
theorem di_enT {e:Expr} {ta:AD} {p:Pos} {elts:List Expr} {x1:Nat} {tpos:Pos} (hg:Gl X "enumerate") (hm:X.mg "enumerate" = none) (ha:PAD K X [e] ta) (hs:ax [e] X.env=[(false,eval e X.env)]:=by rfl) (hK:X.K=K:=by rfl) :
  PID K X (.Tuple elts x1 tpos) (.Call (.Name "enumerate" p) [e] [] pos) (dEnT ta):=.of (pi_enK hg hm ha.o hs hK) fun σ H Q z0=>z0.el fun F S Γ QD r g q c =>
 ⟨F,S,Γ,_,r,g,q,fun vs ds H1 S1 x1 r1 v1 q1=>by
  match ds,q1 with
  | [.tup xs],q1 =>
   obtain⟨v,rfl,rv⟩:=v1.one;unfold RepV at rv;obtain⟨p,us,rfl,t,l⟩:=rv;exact⟨p,rfl,⟨us,t.sq⟩,c _ _ _ _ _ x1 r1 (itk_enT t l) q1⟩⟩
theorem di_enL {e:Expr} {ta:AD} {p:Pos} {elts:List Expr} {x1:Nat} {tpos:Pos} (hg:Gl X "enumerate") (hm:X.mg "enumerate" = none) (ha:PAD K X [e] ta) (hs:ax [e] X.env=[(false,eval e X.env)]:=by rfl) (hK:X.K=K:=by rfl) :
  PID K X (.Tuple elts x1 tpos) (.Call (.Name "enumerate" p) [e] [] pos) (dEnL ta):=.of (pi_enLK hg hm ha.o hs hK) fun σ H Q z0=>z0.el fun F S Γ QD r g q c =>
 ⟨F,S,Γ,_,r,g,q,fun vs ds H1 S1 x1 r1 v1 q1=>by
  match ds,q1 with
  | [.lst xs],q1 =>
   obtain⟨v,rfl,rv⟩:=v1.one;unfold RepV at rv;obtain⟨p,us,rfl,t,l⟩:=rv;exact⟨p,rfl,⟨us,t.sq⟩,c _ _ _ _ _ x1 r1 (itk_enL t l) q1⟩⟩
def forD (g:GD) (tb:SD) (G:Sto->Prop) (E:EndsD):List D->Gm->Sto->Prop
 | [],Γ,S=>G S/\E.nx Γ S
 | x::xs,Γ,S=>G S/\g x Γ S fun Γ2 S2=>tb { E with nx:=forD g tb G E xs,ct:=forD g tb G E xs,bk:=E.nx } Γ2 S2
def dFor (wi:ID) (g:GD) (tb:SD):SD:=fun E Γ S=>wi Γ S fun xs G S1=>forD g tb G E xs Γ S1
theorem drop_cons {α:Type} {xs:List α} {i:Nat} (h:i < xs.length):xs.drop i=xs[i]::xs.drop (i + 1):=cM h
theorem ds_for {tg iter:Expr} {body:List Stmt} {wi:ID} {g:GD} {tb:SD} (hp:PassesOwn (aF X.prog X.w) X.A X.env X.xe) (hc:X.calm=true) (hi:PID K X tg iter wi) (hg:PGD K X tg g) (hb:PSsD K X body tb) (hs:∀ x,cB iter X.env x=pure x:=by intro _;rfl):PSD K X (.For tg iter body [] pos) (dFor wi g tb):=.of (ps_for hp hc hi.o hg.o hb.o hs) fun D' σ H z0=>z0.el fun F S Γ E r gm q c =>
 ⟨F,S,Γ,_,r,gm,q,fun J xs G H1 S1 x1 r1 it q1=>by
  refine⟨fun i m σ' H'=>m=xs.length - i/\i<=xs.length/\∃ S' Γ',Ext S1 H1 S' H'/\Rp K F S' H'/\RepG K (mt S' F) H' Γ' σ'/\forD g tb G E (xs.drop i) Γ' S',⟨xs.length,by simp,Nat.zero_le _,S1,Γ,Ext.refl _ _,r1,gm.ext x1,by simpa using q1⟩,?_⟩
  rintro i m σ' H' ⟨rfl,hi.o,S',Γ',x2,r2,g2,f2⟩
  by_cases hlt:i < xs.length
  ·rw[drop_cons hlt] at f2;obtain⟨hG,f2⟩:=f2;obtain⟨hgo,hy⟩:=it.go F (FE.refl F H1) S' H' x2.w r2 hG i xs[i] (ag hlt);refine .inr ⟨hgo,fun σ'' H''=>∃ S'' Γ'',Ext S1 H1 S'' H''/\Rp K F S'' H''/\RepG K (mt S'' F) H'' Γ'' σ''/\forD g tb G E (xs.drop (i + 1)) Γ'' S'',fun σ'' H'' z=>⟨xs.length - (i + 1),by lia,rfl,hlt,z⟩,fun x H3 y3=>?_⟩
   obtain⟨x3,r3,v3⟩:=hy x H3 y3;refine⟨F,S',Γ',xs[i],_,r3,g2.ext x3,v3,f2,fun Γ4 S4 σ4 H4 x4 r4 g4 q4=>⟨F,S4,Γ4,_,r4,g4,q4,?_⟩⟩;have x04:=x2.trans (x3.trans x4);exact⟨fun Γ5 S5 σ5 H5 x5 r5 g5 q5=>⟨S5,Γ5,x04.trans x5,r5,g5,q5⟩,fun v d H5 S5 x5=>c.rt v d H5 S5 (x1.trans (x04.trans x5)),fun Γ5 S5 σ5 H5 x5=>c.nx Γ5 S5 σ5 H5 (x1.trans (x04.trans x5)),fun Γ5 S5 σ5 H5 x5 r5 g5 q5=>⟨S5,Γ5,x04.trans x5,r5,g5,q5⟩⟩
  ·have e:i=xs.length:=by lia
   subst e;rw[fE] at f2;exact .inl ⟨it.stop F (FE.refl F H1) S' H' x2.w r2 f2.1,c.nx Γ' S' σ' H' (x1.trans x2) r2 g2 f2.2⟩⟩
end
end L2
set_option maxHeartbeats 1000000
namespace L2
open PySem PySem.Spec PyProof.Rows
section
variable {X:Cx} {K:Fg} {pos:Pos} {k:Nat}
structure ExtX (D':Addr) (S:Sto) (H:Hp) (S':Sto) (H':Hp):Prop where
 keep:∀ a o,a≠D'->S a=none->H a=some o->H' a=some o
 live:∀ a,H a≠none->H' a≠none
 new:∀ a,S' a≠none->S a≠none\/H a=none
theorem Ext.x {D':Addr} {S S':Sto} {H H':Hp} (x:Ext S H S' H'):ExtX D' S H S' H':=⟨fun a o _=>x.keep a o,x.live,x.new⟩
theorem ExtX.trans {D' : Addr} {S S1 S2 : Sto} {H H1 H2 : Hp} (x : ExtX D' S H S1 H1) (y : ExtX D' S1 H1 S2 H2) : ExtX D' S H S2 H2 :=
  ⟨fun a o n h h' => y.keep a o n (by
      cases e : S1 a with
      | none => rfl
      | some z => rcases x.new a (by rw [e]; exact fun z => by cases z) with z | z
                  · exact absurd h z
                  · rw [h'] at z; cases z) (x.keep a o n h h'), fun a h => y.live a (x.live a h), fun a h => by
    rcases y.new a h with z | z
    · exact x.new a z
    · exact .inr (aK fun n => x.live a n z)⟩
theorem ExtX.kp {D':Addr} {F:Am} {S S':Sto} {H H':Hp} (x:ExtX D' S H S' H') (hF:F D'):Keep (mt S F) H (mt S' F) H':=⟨fun a o h e=>x.keep a o (by rintro rfl;exact h (.inr hF)) (aK fun n=>h (.inl n)) e,fun a h e=>fun z=>by
 rcases z with z | z
 ·rcases x.new a z with y | y
  ·exact h (.inl y)
  ·exact e y
 ·exact h (.inr z)⟩
def Free (L:List Nat) (σ:St):Prop:=∀ i∈L,σ[i]?=some none
abbrev BD:=Gm->Sto->List D->(List D->Sto->Prop)->Prop
def BodyOk (K:Fg) (L:List Nat) (tv:Addr->TB) (td:BD):Prop:=∀ D' F S H Γ σ acc zs N QD,Free L σ->F D'->Rp K F S H->RepG K (mt S F) H Γ σ->H D'=some (.lst zs)->RepL K (mt S F) H acc zs->td Γ S acc QD ->
 (∀ acc' S' H' zs',ExtX D' S H S' H'->Rp K F S' H'->H' D'=some (.lst zs')->RepL K (mt S' F) H' acc' zs'->QD acc' S'->N H')->tv D' σ H N
def emitD (te:ED):BD:=fun Γ S acc Q=>te Γ S fun y S1=>acc.length < sizeLine/\Q (acc++[y]) S1
theorem bo_emit {L:List Nat} {te:ED}:BodyOk K L (fun D'=>tEmit D' (upE K te)) (emitD te):=by
 intro D' F S H Γ σ acc zs N QD _ hF r g hH l q c;refine⟨F,S,Γ,_,r,g,q,fun v d H1 S1 x1 r1 v1 ⟨hz,q1⟩=>?_⟩;have hS:S D'=none:=(r.frm D' hF).2;have hS1:S1 D'=none:=(r1.frm D' hF).2;have h1:H1 D'=some (.lst zs):=x1.keep _ _ hS hH;have y:ExtX D' S1 H1 S1 (upd H1 D' (.lst (zs++[v]))):=⟨fun a o n _ e=>by rw[upd_ne n];exact e,fun a h=>by
  by_cases e:a=D'
  ·subst e;rw[upd_same];exact fun z=>by cases z
  ·rw[upd_ne e];exact h,fun a h=>.inl h⟩
 refine⟨zs,h1,by rw[l.length];exact hz,c _ S1 _ (zs++[v]) (x1.x.trans y) ?_ upd_same ?_ q1⟩
 ·exact⟨fun a o e=>(r1.obj a o e).keep (y.kp hF) (upd_ne (by rintro rfl;rw[hS1] at e;cases e)),fun a h=>by
   obtain⟨⟨ys,e,ct⟩,h2⟩:=r1.frm a h
   by_cases z:a=D'
   ·subst z;exact⟨⟨_,upd_same,trivial⟩,h2⟩
   ·exact⟨⟨ys,by rw[upd_ne z];exact e,ct⟩,h2⟩⟩
 ·exact RepL.app ((l.ext x1).keep (y.kp hF)) (RepL.cons (v1.keep (y.kp hF)) RepL.nil)
def CG (K:Fg) (L L':List Nat) (g:TG) (gd:GD):Prop:=∀ F S H Γ σ d v Q QD,Free L σ->Rp K F S H->RepG K (mt S F) H Γ σ->RepV K (mt S F) H d v->gd d Γ S QD->(∀ Γ' S' σ' H',Ext S H S' H'->Rp K F S' H'->RepG K (mt S' F) H' Γ' σ'->Wk σ σ'->Free L' σ'->QD Γ' S'->Q σ' H')->g v σ H Q
theorem Free.set {L:List Nat} {σ:St} {i:Nat} {v:V} (h:Free (i::L) σ) (hi:i∉L):Free L (σ.set i (some v)):=fun j hj=>by
 rw[fg (by rintro rfl;exact hi hj)]
 exact h j (ao _ hj)
theorem cg_name {L:List Nat} {i:Nat} (hi:i∉L:=by decide):CG K (i::L) L (gName i) (gdName i):=fun F S H Γ σ d v Q QD f r g rv q c=>c _ S _ H (Ext.refl _ _) r (g.set rv i) (wk_of (f i am)) (f.set hi) q
theorem cg_pair {L:List Nat} {i j:Nat} (hi:i∉j::L:=by decide) (hj:j∉L:=by decide):CG K (i::j::L) L (gTup K 2 (gCons (gName i) (gCons (gName j) gNil))) (gdTup 2 (gdCons (gdName i) (gdCons (gdName j) gdNil))):=fun F S H Γ σ d v Q QD f r g rv q c=>by
 cases d with
 | tup ds =>
  obtain⟨p,us,rfl,sq,l⟩:=tup.st rv;obtain⟨hl,q⟩:=q
  match ds,hl,q with
  | [d1,d2],_,q =>
   obtain⟨v1,v2,rfl,r1,r2⟩:=l.two;have f1:Free (j::L) (σ.set i (some v1)):=f.set hi;exact⟨p,_,rfl,sq,rfl,v1,_,rfl,v2,_,rfl,rfl,c _ S _ H (Ext.refl _ _) r ((g.set r1 i).set r2 j) ((wk_of (f i am)).trans (wk_of (f1 j am))) (f1.set hj) q.2⟩
 | _=>exact q.elim
def loopD (g:GD) (tt:TD) (tb:BD) (G:Sto->Prop) (Γ0:Gm):List D->List D->Sto->(List D->Sto->Prop)->Prop
 | [],acc,S,Q=>G S/\Q acc S
 | x::xs,acc,S,Q=>G S/\g x Γ0 S fun Γ2 S2=>tt Γ2 S2 fun b S3=>if b=true then tb Γ2 S3 acc fun acc' S4=>loopD g tt tb G Γ0 xs acc' S4 Q else loopD g tt tb G Γ0 xs acc S3 Q
theorem loop_ok {L L':List Nat} {g:TG} {gd:GD} {tt:TD} {tv:Addr->TB} {tb:BD} (hg:CG K L L' g gd) (hb:BodyOk K L' tv tb) {D':Addr} {F:Am} {S:Sto} {H:Hp} {Γ:Gm} {σ:St} {acc:List D} {zs:List V} {N:Hp->Prop} {QD:List D->Sto->Prop} {J:It} {xs:List D} {G:Sto->Prop}
  (f:Free L σ) (hF:F D') (r:Rp K F S H) (gm:RepG K (mt S F) H Γ σ) (hH:H D'=some (.lst zs)) (l:RepL K (mt S F) H acc zs) (it:∀ S2 H2,ExtX D' S H S2 H2->Rp K F S2 H2->G S2->(∀ i d,xs[i]?=some d->J.go i H2/\∀ x H3,J.yld i H2 x H3->Ext S2 H2 S2 H3/\Rp K F S2 H3/\RepV K (mt S2 F) H3 d x)/\J.stop xs.length H2)
  (q:loopD gd tt tb G Γ xs acc S QD) (c:∀ acc' S' H' zs',ExtX D' S H S' H'->Rp K F S' H'->H' D'=some (.lst zs')->RepL K (mt S' F) H' acc' zs'->QD acc' S'->N H'):LoopW J σ g (upT K tt) (tv D') N H:=by
 refine⟨fun i m H'=>m=xs.length - i/\i<=xs.length/\∃ S' acc' zs',ExtX D' S H S' H'/\Rp K F S' H'/\H' D'=some (.lst zs')/\RepL K (mt S' F) H' acc' zs'/\loopD gd tt tb G Γ (xs.drop i) acc' S' QD,⟨xs.length,by simp,Nat.zero_le _,S,acc,zs,(Ext.refl _ _).x,r,hH,l,by simpa using q⟩,?_⟩
 rintro i m H' ⟨rfl,hi,S',acc',zs',x2,r2,h2,l2,f2⟩;have g2:=gm.keep (x2.kp hF)
 by_cases hlt:i < xs.length
 ·rw[drop_cons hlt] at f2;obtain⟨hG,f2⟩:=f2;obtain⟨hgo,hy⟩:=(it S' H' x2 r2 hG).1 i xs[i] (ag hlt);refine .inr ⟨hgo,fun H''=>∃ S'' acc'' zs'',ExtX D' S H S'' H''/\Rp K F S'' H''/\H'' D'=some (.lst zs'')/\RepL K (mt S'' F) H'' acc'' zs''/\loopD gd tt tb G Γ (xs.drop (i + 1)) acc'' S'' QD,fun H'' z=>⟨xs.length - (i + 1),by omega,rfl,hlt,z⟩,fun x H3 y3=>?_⟩
  obtain⟨x3,r3,v3⟩:=hy x H3 y3;refine hg F S' H3 Γ σ xs[i] x _ _ f r3 (g2.ext x3) v3 f2 fun Γ4 S4 σ4 H4 x4 r4 g4 wk fr4 q4=>⟨wk,F,S4,Γ4,_,r4,g4,q4,fun z H5 S5 x5 r5 q5=>?_⟩;have x35:=x3.trans (x4.trans x5);have h5:H5 D'=some (.lst zs'):=x35.keep _ _ (r2.frm D' hF).2 h2;have l5:=l2.ext x35;have x05:ExtX D' S H S5 H5:=x2.trans x35.x;cases z with
  | false=>exact⟨S5,acc',zs',x05,r5,h5,l5,q5⟩
  | true=>exact hb D' F S5 H5 Γ4 σ4 acc' zs' _ _ fr4 hF r5 (g4.ext x5) h5 l5 q5 fun acc6 S6 H6 zs6 x6 r6 h6 l6 q6=>⟨S6,acc6,zs6,x05.trans x6,r6,h6,l6,q6⟩
 ·have e:i=xs.length:=by omega
  subst e;rw[fE] at f2;exact .inl ⟨(it S' H' x2 r2 f2.1).2,c acc' S' H' zs' x2 r2 h2 l2 f2.2⟩
def captD (is:List (Option Nat)) (Γ:Gm):Gm:=is.map fun o=>o.bind fun i=>(Γ[i]?).join
theorem RepG.at {M:Am} {H:Hp}:∀ {g:Gm} {σ:St} {i:Nat} {d:D},RepG K M H g σ->g[i]?=some (some d)->∃ v,σ[i]?=some (some v)/\RepV K M H d v
 | [],_,_,_,_,e=>by simp at e
 | none::g,_,0,_,_,e=>by simp at e
 | some d::g,_,0,e,⟨v,τ,rfl,q,r⟩,h=>by simp at h;subst h;exact⟨v,rfl,q⟩
 | none::g,_,i + 1,d,⟨v,τ,rfl,r⟩,h=>by
  obtain⟨u,e1,h1⟩:=RepG.at (i:=i) r (by simpa using h)
  exact⟨u,by simpa using e1,h1⟩
 | some _::g,_,i + 1,d,⟨v,τ,rfl,q,r⟩,h=>by
  obtain⟨u,e1,h1⟩:=RepG.at (i:=i) r (by simpa using h)
  exact⟨u,by simpa using e1,h1⟩
theorem RepG.capt {M:Am} {H:Hp} {g:Gm} {σ:St} (h:RepG K M H g σ):∀ is:List (Option Nat),RepG K M H (captD is g) (capt is σ)
 | []=>rfl
 | o::is=>by
  have ih:=RepG.capt h is;cases o with
  | none=>exact⟨_,_,rfl,ih⟩
  | some i =>
   show RepG K M H ((g[i]?).join::captD is g) ((σ[i]?).join::L2.capt is σ);cases e:g[i]? with
   | none=>exact⟨_,_,rfl,ih⟩
   | some z =>
    cases z with
    | none=>exact⟨_,_,rfl,ih⟩
    | some d =>
     obtain⟨v,e1,r⟩:=h.at e;rw[e1];exact⟨v,_,rfl,r,ih⟩
def compD (b:Bool) (is:List (Option Nat)) (wi:ID) (g:GD) (tt:TD) (tb:BD):ED:=fun Γ S Q=>wi Γ S fun xs G S1=>loopD g tt tb G (captD is Γ) xs [] S1 fun acc S2=>newL b acc S2 Q
theorem up_comp {b:Bool} {L L':List Nat} {is:List (Option Nat)} {wi:ID} {g:TG} {gd:GD} {tt:TD} {tv:Addr->TB} {tb:BD} (hL:∀ σ,Free L (capt is σ)) (hg:CG K L L' g gd) (hb:BodyOk K L' tv tb):∀ σ H Q,upE K (compD b is wi gd tt tb) σ H Q->tComp2 is (upI K wi) g (upT K tt) tv σ H Q:=fun σ H Q z0=>z0.el fun F S Γ QD r gm q c =>
 ⟨F,S,Γ,_,r,gm,q,fun J xs G H1 S1 x1 r1 it q1 D' hD=>by
  have hS1:S1 D'=none:=r1.sn hD;have fe:FE F H1 (fun a=>F a\/a=D'):=fun a h=>h.elim .inl fun e=>.inr (by rw[e];exact hD)
  have nF:¬ F D':=fun h=>by
   obtain⟨⟨ys,e,_⟩,_⟩:=r1.frm D' h;rw[hD] at e;cases e
  have xe:Ext S1 H1 S1 (upd H1 D' (.lst [])):=Ext.same (same_upd hD);have kp:Keep (mt S1 F) H1 (mt S1 fun a=>F a\/a=D') (upd H1 D' (.lst [])):=xe.w.kpF fe;have r2:Rp K (fun a=>F a\/a=D') S1 (upd H1 D' (.lst [])):=⟨fun a o e=>(r1.obj a o e).keep kp (upd_ne (by rintro rfl;rw[hS1] at e;cases e)),fun a h=>by
   rcases h with h | h
   ·obtain⟨⟨ys,e,ct⟩,h2⟩:=r1.frm a h;exact⟨⟨ys,by rw[upd_ne (by rintro rfl;rw[hD] at e;cases e)];exact e,ct⟩,h2⟩
   ·subst h;exact⟨⟨_,upd_same,trivial⟩,hS1⟩⟩
  have old:∀ {S2 H2},ExtX D' S1 (upd H1 D' (.lst [])) S2 H2->Ext S1 H1 S2 H2:=fun {S2 H2} y=>⟨fun a o h e=>y.keep a o (by rintro rfl;rw[hD] at e;cases e) h (by rw[upd_ne (by rintro rfl;rw[hD] at e;cases e)];exact e),fun a h=>y.live a (xe.live a h),fun a h=>by
   rcases y.new a h with z | z
   ·exact .inl z
   ·by_cases e:a=D'
    ·subst e;exact .inr hD
    ·rw[upd_ne e] at z;exact .inr z⟩
  refine loop_ok hg hb (hL σ) (F:=fun a=>F a\/a=D') (.inr rfl) r2 ((gm.ext x1).keep kp |>.capt is) upd_same RepL.nil (fun S2 H2 y r2 hG=>⟨it.go _ fe S2 H2 (old y).w r2 hG,it.stop _ fe S2 H2 (old y).w r2 hG⟩) q1 fun acc' S' H' zs' y r3 h3 l3 q3=>?_
  have less:Keep (mt S' fun a=>F a\/a=D') H' (mt S' F) H':=⟨fun _ _ _ e=>e,fun a h _=>fun z=>h (z.elim .inl fun w=>.inr (.inl w))⟩;have x3:=old y;have hS':S' D'=none:=(r3.frm D' (.inr rfl)).2;have r4:Rp K F S' H':=⟨fun a o e=>(r3.obj a o e).keep less rfl,fun a h=>r3.frm a (.inl h)⟩;have nm:¬ mt S' F D':=fun z=>z.elim (fun w=>w hS') nF;cases b with
  | false =>
   refine c (.ref D') (.lst acc') H' S' (x1.trans x3) r4 ?_ q3;unfold RepV;exact⟨D',zs',rfl,.inl ⟨nm,.inl h3⟩,l3.keep less⟩
  | true =>
   have x5:Ext S1 H1 (supd S' D' (.lst acc')) H':=⟨x3.keep,x3.live,fun a h=>by
    by_cases e:a=D'
    ·subst e;exact .inr hD
    ·rw[supd_ne e] at h;exact x3.new a h⟩
   have k6:Keep (mt S' fun a=>F a\/a=D') H' (mt (supd S' D' (.lst acc')) F) H':=⟨fun _ _ _ e=>e,fun a h _=>fun z=>by
    rcases z with z | z
    ·by_cases e:a=D'
     ·exact h (.inr (.inr e))
     ·rw[supd_ne e] at z;exact h (.inl z)
    ·exact h (.inr (.inl z))⟩
   refine c (.ref D') (.ref D') H' (supd S' D' (.lst acc')) (x1.trans x5) ⟨fun a o e=>?_,fun a h=>⟨(r4.frm a h).1,?_⟩⟩ (by unfold RepV;rfl) (q3 D' hS')
   ·by_cases e1:a=D'
    ·subst e1;rw[supd_same] at e;cases e;exact⟨zs',h3,l3.keep k6⟩
    ·rw[supd_ne e1] at e;exact(r3.obj a o e).keep k6 rfl
   ·rw[supd_ne (by rintro rfl;exact nF h)];exact(r4.frm a h).2⟩
def dYes:TD:=fun _ S Q=>Q true S
theorem dts_nil:PTs X [] (upT K dYes):=fun pins s σ H Q I z0=>z0.el fun F S Γ QD r g q c=>pts_nil pins s σ H Q I (c true H S (Ext.refl _ _) r q)
theorem free_of {L:List Nat} {is:List (Option Nat)} (h:(L.all fun i=>decide (is[i]?=some none))=true):∀ σ,Free L (capt is σ):=fun σ i hi=>by
 have:=of_decide_eq_true (a7.mp h i hi)
 unfold capt;rw[aJ,this]
 rfl
theorem dts_one {c:Expr} {t:TD} (h:PTD K X c t):PTs X [c] (upT K t):=pts_one h.o
end
end L2
set_option maxHeartbeats 4000000
namespace L2
open PySem PySem.Spec PyProof.Rows
section
variable {prog:ay} {w:aI} {s:ai}
def Col (prog:ay) (w:aI) (s:ai) (v:ae) (Pv:List ae->Prop):Prop:=∀ (A:a6) (E:ae->ai->Prop) (R:List ae->ai->Prop),A.handled=none ->
 (∀ vals h' d tk,Pv vals->(∀ b o,s.heap.get? b=some o->h'.get? b=some o)->R vals { s with heap:=h',drawn:=d,toks:=tk })->aE (aF prog w) A (collect v) R E s
theorem col_seq {a:Addr} {T:String} {o:Obj} {its:List ae} {n:Nat} (hT:T = "list"\/T = "tuple") (ho:s.heap.get? a=some o) (hc:o.cls=.type T) (hd:o.data=.seq its.toArray n) (hz:its.length<=sizeLine):Col prog w s (.ref a) (· = its):=fun A E R _ h =>
 wpAny_collect_seq a hT ho hc hd (fun h' k=>by
  have:=h its h' s.drawn s.toks rfl k
  simpa using this) (by simpa using hz)
theorem col_dict {a:Addr} {vs:List (Key × ae)} (lo:(a == eG)=false) (hd:s.heap.DictOf (mixKind prog w) a vs) (hz:vs.length<=sizeLine):Col prog w s (.ref a) (fun vals=>vals.length=vs.length/\∀ (j:Nat) (v:ae),vals[j]?=some v->∃ (k:Key) (x:ae),vs[j]?=some (k,x)/\keyIs k v=true):=fun A E R hh h=>by
 obtain⟨ep,hat⟩:=hd.dictAt;refine PySem.W.kdu_collect (PySem.W.kdl_dict (knd:=mixKind prog w) (kvs:=vs) (ep:=ep) lo) hh hat hz fun h' tk acc hk hacc=>?_;exact h acc.toList h' s.drawn tk ⟨by rw[bf];exact hacc.1,fun j v e=>hacc.2 j v (by rw[<- aQ];exact e)⟩ hk
theorem sorted_gen {A:a6} {E:ae->ai->Prop} {v:ae} {Pv:List ae->Prop} {Q:ae->ai->Prop} (hh:A.handled=none) (col:Col prog w s v Pv) (hz:∀ vals,Pv vals->vals.length<=sizeLine)
  (srt:∀ (vals:List ae) (h1:be) (d:Drawn) (tk:Nat),Pv vals->(∀ b o,s.heap.get? b=some o->h1.get? b=some o)->aE (aF prog w) A.in1.in1 (b6.«list.sort» ⟨[.ref h1.objs.size],[]⟩) (fun fin s'=>fin=.done (.ret .none)/\Q (.ref h1.objs.size) s') E { s with heap:=h1.push (cz "list" vals.toArray 0),drawn:=d,toks:=tk }) :
  aE (aF prog w) A (call (.builtin "sorted") [v]) Q E s:=by
 refine iJ kind_sorted plain_sorted entry_sorted (args_sorted1 _) ?_;unfold b6.«sorted»;refine ad (m:=checkCount "sorted" 1 1 _) (af ?_);refine ad (col A.in1 _ _ (by simp[hh]) fun vals h1 d tk pv kp=>?_)
 refine ad (wpAny_newList ?_ (hz vals pv));have hoL:(h1.push (cz "list" vals.toArray 0)).get? h1.objs.size=some (cz "list" vals.toArray 0):=av _ rfl;refine ad (cO (bM slot_list_sort ⟨_,hoL,rfl⟩ entry_list_sort ?body (args_list_sort _)))
 case body =>
  refine d7 (srt vals h1 d tk pv kp) (fun fin s' ⟨e,q⟩=>?_) fun _ _ e=>e;subst e;exact⟨_,rfl,af ⟨_,rfl,q⟩⟩
theorem sorted_keep {h:be} {a:Addr} {vs:List ae} {n:Nat} {out:Array ae} (ho:h.get? a=some (cz "list" vs.toArray n)):(∃ c,(iC h a vs out).get? a=some (cz "list" out c))/\∀ b o,b≠a->h.get? b=some o->(iC h a vs out).get? b=some o:=by
 unfold iC;obtain⟨e1,ho1⟩:∃ e1,(h.update a (b9 fun _=>(#[]:Array ae))).get? a=some (cz "list" #[] e1):=⟨_,fU ho fun _=>#[]⟩;have sb:=cf h a (b9 fun _=>(#[]:Array ae));have k2:∀ b o,(h.update a (b9 fun _=>(#[]:Array ae))).get? b=some o->(((h.update a (b9 fun _=>(#[]:Array ae))).push (cz "tuple" vs.toArray 0)).push (cz "list" #[] 0)).get? b=some o:=fun b o e=>ah _ (ah _ e);refine⟨⟨_,fU (k2 _ _ ho1) fun _=>out⟩,fun b o hb e=>?_⟩;have s2:=cf (((h.update a (b9 fun _=>(#[]:Array ae))).push (cz "tuple" vs.toArray 0)).push (cz "list" #[] 0)) a (b9 fun _=>out);exact(s2.2 b hb).trans (k2 b o ((sb.2 b hb).trans e))
theorem sort_strs {A:a6} {E:ae->ai->Prop} {a:Addr} {vs:List ae} {ss:List Str} {n:Nat} {P:hZ->ai->Prop} (ho:s.heap.get? a=some (cz "list" vs.toArray n)) (hS:StrsAre vs ss) (h64:vs.length<=sizeLine)
  (h:∀ (out:List ae) (ss':List Str) (h':be) (c:Nat),StrsAre out ss'->ss'.Perm ss->sortedS ss'=true->h'.get? a=some (cz "list" out.toArray c)->(∀ b o,b≠a->s.heap.get? b=some o->h'.get? b=some o)->P (.done (.ret .none)) { s with heap:=h' }) :
  aE (aF prog w) A (b6.«list.sort» ⟨[.ref a],[]⟩) P E s:=by
 refine SF.treeK strKind_oneLt ho hS.keysOf (fun v₁ v₂ rest e=>keyKind_strs (by rw[<- e];exact hS)) h64 fun st' hp hs=>?_
 obtain⟨ss',h1,h2,h3⟩:=sorted_out_str hS hp hs;obtain⟨⟨c,hc⟩,hk⟩:=sorted_keep (out:=(aM st').map (·.2)) ho;exact h _ ss' _ c h1 h2 h3 (by rw[hc]) hk
theorem sort_ints {A:a6} {E:ae->ai->Prop} {a:Addr} {vs:List ae} {ns:List Int} {n:Nat} {P:hZ->ai->Prop} (ho:s.heap.get? a=some (cz "list" vs.toArray n)) (hI:gZ vs ns) (h64:vs.length<=sizeLine)
  (h:∀ (out:List ae) (ns':List Int) (h':be) (c:Nat),gZ out ns'->ns'.Perm ns->ns'.Pairwise (·<=·)->h'.get? a=some (cz "list" out.toArray c)->(∀ b o,b≠a->s.heap.get? b=some o->h'.get? b=some o)->P (.done (.ret .none)) { s with heap:=h' }) :
  aE (aF prog w) A (b6.«list.sort» ⟨[.ref a],[]⟩) P E s:=by
 refine SF.treeI ho hI h64 fun out ns' h1 h2 h3=>?_;obtain⟨⟨c,hc⟩,hk⟩:=sorted_keep (out:=out) ho;exact h _ ns' _ c h1 h2 h3 (by rw[hc]) hk
end
section
variable {X:Cx} {K:Fg}
def Src (K:Fg) (H:Hp) (x:V) (us:List V):Prop:=∃ a,x=.ref a/\(SqL K H a us\/SqT K H a us\/∃ kvs:List (Key × V),H a=some (.dK kvs)/\us=kvs.map fun p=>kV p.1)
theorem keys_vals:∀ {kvs:List (Key × V)} {vs:List (Key × ae)} {vals:List ae},KV kvs vs->vals.length=vs.length->(∀ (j:Nat) (v:ae),vals[j]?=some v->∃ (k:Key) (x:ae),vs[j]?=some (k,x)/\keyIs k v=true)->Vals (kvs.map fun p=>kV p.1) vals
 | [],_,vals,.nil,hl,_=>by cases vals with
  | nil=>exact .nil
  | cons _ _=>simp at hl
 | p::kvs,_,vals,.cons (b:=q) hp hr,hl,h=>by
  cases vals with
  | nil=>simp at hl
  | cons v vals =>
   refine .cons ?_ (keys_vals hr (by simpa using hl) fun j v e=>by simpa using h (j + 1) v (by simpa using e))
   obtain⟨k,x,e,hk⟩:=h 0 v rfl;have e':q=(k,x):=by simpa using e
   have hk':p.1=k:=by rw[hp.1,e']
   show RelV (kV p.1) v;rw[hk'];rcases keyIs_shape hk with⟨i,t,rfl,rfl⟩ | ⟨y,t,rfl,rfl⟩
   ·exact⟨t,rfl⟩
   ·exact⟨t,rfl⟩
theorem Inv.toks {pins:List (Addr × Obj)} {σ:St} {H:Hp} {s:ai} (I:Inv X pins σ H s) {h':be} (k:∀ b o,s.heap.get? b=some o->h'.get? b=some o) (d:Drawn) (tk:Nat):Inv X pins σ H { s with heap:=h',drawn:=d,toks:=tk }:=(I.kept (t':=tk) k).drawn d
theorem Inv.src {pins:List (Addr × Obj)} {σ:St} {H:Hp} {s:ai} (I:Inv X pins σ H s) (hK:X.K=K) {x:V} {u:ae} {us:List V} (h:Src K H x us) (r:RelV x u):Col X.prog X.w s u (fun vals=>Vals us vals)/\us.length<=sizeLine:=by
 subst hK;obtain⟨a,rfl,h⟩:=h;cases r;rcases h with h | h | ⟨kvs,h,rfl⟩
 ·obtain⟨its,rv,⟨o,n,ho,hc,_,hd⟩,hz⟩:=I.list h;have hl:=rv.length;exact⟨fun A E R hh q=>col_seq (.inl rfl) ho hc hd (by lia) A E R hh fun vals h' d tk e k=>q vals h' d tk (by rw[e];exact rv) k,hz⟩
 ·obtain⟨its,rv,⟨o,ho,hc,n,hd⟩,hz⟩:=I.tuple h;have hl:=rv.length;exact⟨fun A E R hh q=>col_seq (.inr rfl) ho hc hd (by lia) A E R hh fun vals h' d tk e k=>q vals h' d tk (by rw[e];exact rv) k,hz⟩
 ·obtain⟨hz,lo,vs,hv,hd⟩:=I.hok a _ h;have hl:kvs.length=vs.length:=bV hv;exact⟨fun A E R hh q=>col_dict lo hd (by lia) A E R hh fun vals h' d tk e k=>q vals h' d tk (keys_vals hv e.1 e.2) k,by rw[ap];exact hz⟩
def rSrtS (K:Fg):List V->Hp->VK->Prop:=fun xs H Q=>∃ (x:V) (ss:List Str),xs=[x]/\Src K H x (ss.map V.str)/\∀ (p:Addr) (out:List Str),H p=none->out.Perm ss->out.Pairwise (fun a b=>HT.ltS b a=false)->Q (.ref p) (upd H p (.lst (out.map V.str)))
theorem sortedS_pw:∀ {l:List Str},sortedS l=true->l.Pairwise fun a b=>HT.ltS b a=false
 | [],_=>.nil
 | [x],_=>bt _ _
 | x::y::l,h=>by
  have h':(!ltCps y.cps.toList x.cps.toList && risingS y l)=true:=h;rw[aV] at h';have ih:=sortedS_pw (l:=y::l) h'.2;have hxy:HT.ltS y x=false:=by
   have:=h'.1
   rw[dP,ltCps_eq] at this;exact this
  refine bd.mpr ⟨fun z hz=>?_,ih⟩;rcases aB.mp hz with rfl | hz
  ·exact hxy
  ·have hzy:=(bd.mp ih).1 z hz;cases e:HT.ltS z x with
   | false=>rfl
   | true =>
    by_cases hyx:y=x
    ·subst hyx;rw[hzy] at e;cases e
    ·have:=HT.ltS_tot hxy hyx
     have:=HT.ltS_tr e this
     rw[hzy] at this;cases this
theorem call_srtS (hK:X.K=K:=by rfl) (hc:X.calm=true:=by rfl):CallR X (.builtin "sorted") (rSrtS K):=by
 intro pins s σ H xs us Q I r h;obtain⟨x,ss,rfl,hs,q⟩:=h;obtain⟨u,rfl,rx⟩:=vals1 r;obtain⟨col,hz⟩:=I.src hK hs rx;have len:∀ {vals:List ae},Vals (ss.map V.str) vals->vals.length=ss.length:=fun v=>by have:=v.length;simpa using this.symm
 refine sorted_gen (I.ok.hd hc) col (fun vals v=>by rw[len v];simpa using hz) fun vals h1 d tk pv kp=>?_
 have hfr:H h1.objs.size=none:=(I.toks kp d tk).hok.fresh (Nat.le_refl _);refine sort_strs (s:={ s with heap:=h1.push (cz "list" vals.toArray 0),drawn:=d,toks:=tk }) (av _ rfl) (strs_of (H:=H) (ds:=ss) (xs:=ss.map V.str) (by
  clear hz q hs col rx pv len
  induction ss with
  | nil=>exact .nil
  | cons a ss ih=>exact .cons rfl ih) pv) (by rw[len pv];simpa using hz) fun out ss' h' c a1 a2 a3 a4 a5=>⟨rfl,?_⟩
 have I1:=I.toks kp d tk;obtain⟨v1,v2⟩:=of_strs (H:=H) a1;refine⟨.ref h1.objs.size,_,I1.laid (a:=h1.objs.size) (o:=.lst (ss'.map V.str)) (t':=tk) (fun b o e=>a5 b o (Nat.ne_of_lt (aC e)) (ah _ e)) (Nat.le_refl _) ⟨?_,out,c,v1,a4⟩,rfl,q _ _ hfr a2 (sortedS_pw a3)⟩
 have:=a2.length_eq
 rw[ap,this];simpa using hz
def rSrtI (K:Fg):List V->Hp->VK->Prop:=fun xs H Q=>∃ (x:V) (ns:List Int),xs=[x]/\Src K H x (ns.map V.int)/\∀ (p:Addr) (out:List Int),H p=none->out.Perm ns->out.Pairwise (·<=·)->Q (.ref p) (upd H p (.lst (out.map V.int)))
theorem call_srtI (hK:X.K=K:=by rfl) (hc:X.calm=true:=by rfl):CallR X (.builtin "sorted") (rSrtI K):=by
 intro pins s σ H xs us Q I r h;obtain⟨x,ss,rfl,hs,q⟩:=h;obtain⟨u,rfl,rx⟩:=vals1 r;obtain⟨col,hz⟩:=I.src hK hs rx;have len:∀ {vals:List ae},Vals (ss.map V.int) vals->vals.length=ss.length:=fun v=>by have:=v.length;simpa using this.symm
 refine sorted_gen (I.ok.hd hc) col (fun vals v=>by rw[len v];simpa using hz) fun vals h1 d tk pv kp=>?_
 have hfr:H h1.objs.size=none:=(I.toks kp d tk).hok.fresh (Nat.le_refl _);refine sort_ints (s:={ s with heap:=h1.push (cz "list" vals.toArray 0),drawn:=d,toks:=tk }) (av _ rfl) (intsAre_of pv) (by rw[len pv];simpa using hz) fun out ss' h' c a1 a2 a3 a4 a5=>⟨rfl,?_⟩
 have I1:=I.toks kp d tk;refine⟨.ref h1.objs.size,_,I1.laid (a:=h1.objs.size) (o:=.lst (ss'.map V.int)) (t':=tk) (fun b o e=>a5 b o (Nat.ne_of_lt (aC e)) (ah _ e)) (Nat.le_refl _) ⟨?_,out,c,vals_ints a1,a4⟩,rfl,q _ _ hfr a2 a3⟩
 have:=a2.length_eq
 rw[ap,this];simpa using hz
def rSrtT (K:Fg):List V->Hp->VK->Prop:=fun xs H Q=>∃ (x:V) (us:List V) (ds:List (List Str)),xs=[x]/\Src K H x us/\aZ (dT K dS H) us ds/\∀ (p:Addr) (idx:List Nat),H p=none->idx.Perm (aY us.length)->(idx.map fun i=>ds.getD i []).Pairwise (fun a b=>HT.lexS b a=false)->(idx.map fun i=>ds.getD i []).Perm ds->Q (.ref p) (upd H p (.lst (idx.map fun i=>us.getD i V.non)))
theorem tsOf {pins:List (Addr × Obj)} {σ:St} {H:Hp} {s:ai} (I:Inv X pins σ H s) (hK:X.K=K) {h':be} (k:∀ b o,s.heap.get? b=some o->h'.get? b=some o):∀ {us:List V} {vs:List ae} {ds:List (List Str)},Vals us vs->aZ (dT K dS H) us ds->aZ (KS.TS h') vs ds
 | _,_,_,.nil,.nil=>.nil
 | _,_,_,.cons r q,.cons d p=>by
  refine .cons ?_ (tsOf I hK k q p);obtain⟨b,xs,e,hq,pp⟩:=d;rw[e] at r;cases r;rw[<- hK] at hq;obtain⟨its,ri,⟨o,ho,z⟩,_⟩:=I.tuple hq;exact⟨b,its.toArray,rfl,⟨o,k b o ho,z⟩,sare_of pp ri⟩
theorem vals_idx {us:List V} {vs:List ae} (p:Vals us vs):∀ (idx:List Nat),(∀ i∈idx,i < us.length)->Vals (idx.map fun i=>us.getD i V.non) (idx.map fun i=>vs.getD i bQ)
 | [],_=>.nil
 | i::idx,h=>by
  refine .cons ?_ (vals_idx p idx fun j hj=>h j (ao _ hj));have hi:=h i am;obtain⟨u,e,r⟩:=p.get (ag hi);show RelV (us.getD i V.non) (vs.getD i bQ);rw[aj,aj,e,ag hi];exact r
theorem call_srtT (hu:X.A.units + 8 < b7) (hK:X.K=K:=by rfl) (hc:X.calm=true:=by rfl):CallR X (.builtin "sorted") (rSrtT K):=by
 intro pins s σ H xs us Q I r h;obtain⟨x,ys,ds,rfl,hs,hp,q⟩:=h;obtain⟨u,rfl,rx⟩:=vals1 r;obtain⟨col,hz⟩:=I.src hK hs rx;have hl:ys.length=ds.length:=bV hp;refine sorted_gen (I.ok.hd hc) col (fun vals v=>by rw[<- v.length];exact hz) fun vals h1 d tk pv kp=>?_
 have hvl:=pv.length;have I1:=I.toks kp d tk;have hfr:H h1.objs.size=none:=I1.hok.fresh (Nat.le_refl _);refine KS.sort_tupsL (s:={ s with heap:=h1.push (cz "list" vals.toArray 0),drawn:=d,toks:=tk }) (ds:=ds) (by show X.A.units + 1 + 1 < _;lia) (av _ rfl) (tsOf I1 hK (fun b o e=>ah _ e) pv hp) (by lia) fun idx h' c i1 i2 i3 g kk=>⟨rfl,?_⟩
 have hin:∀ i∈idx,i < ys.length:=fun i hi=>by have:=bh.mp (i1.mem_iff.mp hi);lia
 have il:idx.length=vals.length:=by have:=i1.length_eq;simpa using this
 refine⟨.ref h1.objs.size,_,I1.laid (a:=h1.objs.size) (o:=.lst (idx.map fun i=>ys.getD i V.non)) (t':=tk) (fun b o e=>kk b o (Nat.ne_of_lt (aC e)) (ah _ e)) (Nat.le_refl _) ⟨?_,_,c,vals_idx pv idx hin,g⟩,rfl,q _ idx hfr (by rw[hvl];exact i1) i2 i3⟩
 rw[ap];lia
end
section
variable {κ:Type} [DecidableEq κ]
def valV (kvs:List (κ × V)) (k:κ):Option V:=(kvs.find? fun kv=>decide (kv.1=k)).map (·.2)
def putK (kvs:List (κ × V)) (k:κ) (v:V):List (κ × V) :=
 if (kvs.any fun kv=>decide (kv.1=k))=true then kvs.map (fun kv=>if kv.1=k then (kv.1,v) else kv) else kvs++[(k,v)]
theorem valV_pos {p:κ × V} {r:List (κ × V)} {k:κ} (e:p.1=k):valV (p::r) k=some p.2:=by simp[valV,cR,e]
theorem valV_neg {p:κ × V} {r:List (κ × V)} {k:κ} (e:¬ p.1=k):valV (p::r) k=valV r k:=by simp[valV,cR,e]
theorem valV_any (k:κ):∀ kvs:List (κ × V),(kvs.any fun kv=>decide (kv.1=k))=(valV kvs k).isSome
 | []=>rfl
 | p::r=>by
  rw[iY]
  by_cases e:p.1=k
  ·simp only[valV_pos e,decide_eq_true e,Bool.true_or,Option.isSome_some]
  ·rw[valV_neg e,decide_eq_false e,Bool.false_or];exact valV_any k r
theorem length_putK (kvs:List (κ × V)) (k:κ) (v:V):(putK kvs k v).length<=kvs.length + 1:=by
 unfold putK
 split
 ·rw[ap];omega
 ·rw[az,aO,b4];omega
theorem RelO.isSome_eq {o:Option V} {u:Option ae} (r:RelO o u):o.isSome=u.isSome:=by
 cases o with
 | none=>cases u with
  | none=>rfl
  | some _=>exact(show False from r).elim
 | some _=>cases u with
  | none=>exact(show False from r).elim
  | some _=>rfl
theorem RelO.getD {o:Option V} {u:Option ae} {d:V} {d':ae} (r:RelO o u) (rd:RelV d d'):RelV (o.getD d) (u.getD d'):=by
 cases o with
 | none=>cases u with
  | none=>exact rd
  | some _=>exact(show False from r).elim
 | some _=>cases u with
  | none=>exact(show False from r).elim
  | some _=>exact r
end
section
variable {X:Cx} {pins:List (Addr × Obj)} {σ:St} {H:Hp} {s:ai} {a:Addr} {y v:V} {u r:ae} {o:Option V} {A:a6} {E:ae->ai->Prop}
theorem Inv.big (I:Inv X pins σ H s):eG < s.heap.objs.size:=by
 have h:a8 < s.heap.objs.size:=(I.mod.glob.keeps I.bk).lt;exact Nat.lt_trans (by decide) h
theorem d_write {h':be} {t':Nat} {ob:HO} (I:Inv X pins σ H s) (mu:Mut (H a)) (hs:cQ a s.heap h') (he:∃ q,h'.get? a=some q) (new:ObjOk X.prog X.w (upd H a ob) h' a ob) :
  Inv X pins σ (upd H a ob) { s with heap:=h',toks:=t' } :=
 I.write (x:=a) (e:=a) mu (.inl rfl) (fun b q hb z=>(hs.2 b hb).trans z) he new
end
structure M2 (X:Cx) (o:Expr) (m:Str) (apos:Pos) (e f:Expr) (cpos:Pos):Prop where
 base:d3 o m X.env (eval o X.env)=eval o X.env
 few:((cw cpos (ax [e,f] X.env)).all (fun x=>!x.1) && (i8 cpos (f8 [] X.env)).all (fun x=>x.1.isSome)
  && decide (([e,f]:List Expr).length + ([]:List fx).length + (if ([]:List fx).isEmpty then 0 else 1) < 30))=true
 line:(apos.endLine == cpos.line)=true
 trees:cw cpos (ax [e,f] X.env)=[(false,eval e X.env),(false,eval f X.env)]
section
variable {X:Cx} {K:Fg} {pos:Pos} {k:Nat}
section
variable {elt target iter:Expr} {ifs:List Expr} {gs:List eI} {scope:Scope} {N':List Str} {is:List (Option Nat)} {wi:ID} {g:TG} {gd:GD} {tt:TD} {tv:Addr->TB} {tb:BD} {oc:Option Str} {m:ae->Env->Sem Unit} {b:Bool}
theorem e_comp (L L':List Nat) (hcalm:X.calm=true) (hN:X.N.Nodup)
  (hturn:∀ it acc env,fq (.ListComp elt (⟨target,iter,ifs,0⟩::gs) scope pos) 0 it acc env=turnOf target ifs iter.pos (m acc env) (.compLoop (.ListComp elt (⟨target,iter,ifs,0⟩::gs) scope pos) 0 it acc env) it env)
  (cp:Cap X.N scope N' is) (hL:∀ σ,Free L (capt is σ)) (hi:PID K X target iter wi) (hgd:CG K L L' g gd)
  (hg:∀ cl C fp s H,PG (cxComp2 X N' scope cl C fp s H oc) target g) (ht:∀ cl C fp s H,PTs (cxComp2 X N' scope cl C fp s H oc) ifs (upT K tt)) (hbd:BodyOk K L' tv tb) (hb:∀ cl C fp s H D,PB (cxComp2 X N' scope cl C fp s H oc) (m (.ref D) (gO scope cl C X.env)) (tv D))
  (hcf:∀ n acc,eK n scope.names acc=ocl oc n acc:=by intro _ _;rfl) (hpc:∀ h,f9 h scope.names=ohp oc h:=by intro _;rfl)
  (hkind:scope.kind=.function:=by rfl) (hcell:∀ y∈scope.names,y.2=.cell->oc=some y.1:=by decide +kernel)
  (hu:∀ y∈scope.names,scope.names.lookup y.1=some y.2:=by decide +kernel) (hoc:∀ x,oc=some x->scope.names.lookup x=some .cell:=by intro x h;cases h <;> rfl)
  (hVb:okV scope.names X.env.scope.names=true:=by first | rfl | kernel_rfl)
  (hs:∀ x,cB iter X.env x=pure x:=by intro _;rfl) :
  PD K X (.ListComp elt (⟨target,iter,ifs,0⟩::gs) scope pos) (compD b is wi gd tt tb):=.of (pe_compG hcalm hN hturn cp hi.o hg ht hb hcf hpc hkind hcell hu hoc hVb hs) (up_comp hL hgd hbd)
theorem ds_setC {x:Str} {i:Nat} {pos' spos:Pos} (hix:X.N[i]?=some x) (hx:Loc X.env.scope x) (L L':List Nat) (hcalm:X.calm=true) (hN:X.N.Nodup)
  (hturn:∀ it acc env,fq (.ListComp elt (⟨target,iter,ifs,0⟩::gs) scope pos) 0 it acc env=turnOf target ifs iter.pos (m acc env) (.compLoop (.ListComp elt (⟨target,iter,ifs,0⟩::gs) scope pos) 0 it acc env) it env)
  (cp:Cap X.N scope N' is) (hL:∀ σ,Free L (capt is σ)) (hi:PID K X target iter wi) (hgd:CG K L L' g gd)
  (hg:∀ cl C fp s H,PG (cxComp2 X N' scope cl C fp s H oc) target g) (ht:∀ cl C fp s H,PTs (cxComp2 X N' scope cl C fp s H oc) ifs (upT K tt)) (hbd:BodyOk K L' tv tb) (hb:∀ cl C fp s H D,PB (cxComp2 X N' scope cl C fp s H oc) (m (.ref D) (gO scope cl C X.env)) (tv D))
  (hcf:∀ n acc,eK n scope.names acc=ocl oc n acc:=by intro _ _;rfl) (hpc:∀ h,f9 h scope.names=ohp oc h:=by intro _;rfl)
  (hkind:scope.kind=.function:=by rfl) (hcell:∀ y∈scope.names,y.2=.cell->oc=some y.1:=by decide +kernel)
  (hu:∀ y∈scope.names,scope.names.lookup y.1=some y.2:=by decide +kernel) (hoc:∀ x,oc=some x->scope.names.lookup x=some .cell:=by intro x h;cases h <;> rfl)
  (hVb:okV scope.names X.env.scope.names=true:=by first | rfl | kernel_rfl)
  (hs:∀ x,cB iter X.env x=pure x:=by intro _;rfl)
  (hsw:gE (.ListComp elt (⟨target,iter,ifs,0⟩::gs) scope pos) (some (.Name x pos')) spos.line X.env=pure true:=by first | rfl | kernel_rfl) (hf:X.fn x=true\/X.env.scope.names.lookup x=some .local:=by first | exact .inl rfl | exact .inr rfl | assumption) :
  PSD K X (.Assign [.Name x pos'] (.ListComp elt (⟨target,iter,ifs,0⟩::gs) scope pos) spos) (dAsg (compD b is wi gd tt tb) (gdName i)):=.of (ps_setC hix hx hcalm hN hturn cp hi.o hg ht hb hcf hpc hkind hcell hu hoc hVb hs hsw hf) fun D' σ H z0=>z0.el fun F S Γ E r gm q c=>by
 refine up_comp (tt:=tt) (b:=b) hL hgd hbd σ H _ ⟨F,S,Γ,_,r,gm,q,fun v d H1 S1 x1 r1 v1 q1=>?_⟩;exact c.nx _ S1 _ H1 x1 r1 ((gm.ext x1).set v1 i) q1
end
def dCut (t u:SD):SD:=fun E Γ S=>∃ M:Gm->Sto->Prop,t { E with nx:=M } Γ S/\∀ Γ' S',M Γ' S'->u E Γ' S'
theorem dss_cut {st:Stmt} {rest:List Stmt} {t u:SD} (h1:PSD K X st t) (h2:PSsD K X rest u):PSsD K X (st::rest) (dCut t u):=.of (pss_cons h1.o h2.o) fun D' σ H ⟨F,S,Γ,E,r,g,⟨M,q,hM⟩,c⟩ =>
 ⟨F,S,Γ,{ E with nx:=M },r,g,q,fun Γ1 S1 σ1 H1 x1 r1 g1 q1=>⟨F,S1,Γ1,E,r1,g1,hM Γ1 S1 q1,c.ext x1⟩,c.rt,c.bk,c.ct⟩
abbrev SpD:=List D->Sto->DK->Prop
def spU (K:Fg) (sp:SpD):Sp:=fun vs H Q _=>∃ F S ds QD,Rp K F S H/\RepL K (mt S F) H ds vs/\sp ds S QD/\Cn K F S H QD Q
theorem e_callD {x:Str} {ps:List Str} {sp:SpD} {p:Pos} {e:Expr} {es:List Expr} {t:AD} (Df':Df X.prog X.w X.K X.mg X.base k x ps (spU K sp)) (hr:Room k X.A) (hg:Gl X x) (ha:PAD K X (e::es) t)
  (hdb:(x == ("__debug__" : Str))=false:=by decide) (he:ax (e::es) X.env=(false,eval e X.env)::ax es X.env:=by rfl) (hpl:(cw pos (ax es X.env)).any (·.1)=false:=by rfl) :
  PD K X (.Call (.Name x p) (e::es) [] pos) (dCB sp t):=.of (pe_callD Df' hr hg ha.o hdb he hpl) fun σ H Q z0=>z0.el fun F S Γ QD r g q c =>
 ⟨F,S,Γ,_,r,g,q,fun vs ds H1 S1 x1 r1 v1 q1=>by
  show spU K sp (vs++[]) H1 Q E0;rw[bR];exact⟨F,S1,ds,QD,r1,v1,q1,Cn.shift c x1⟩⟩
inductive Frz (S S':Sto):D->D->Prop where
 | same (d:D):Frz S S' d d
 | ref {a:Addr} {xs ys:List D} (h:S a=some (.lst xs)) (h':S' a=none) (l:Frz S S' (.tup xs) (.tup ys)):Frz S S' (.ref a) (.lst ys)
 | nil:Frz S S' (.tup []) (.tup [])
 | cons {d e:D} {ds es:List D} (h:Frz S S' d e) (l:Frz S S' (.tup ds) (.tup es)):Frz S S' (.tup (d::ds)) (.tup (e::es))
theorem frz_ok {F:Am} {S S':Sto} {H:Hp} (r:Rp K F S H) (hs:∀ a o,S' a=some o->S a=some o):∀ {d e:D},Frz S S' d e->(∀ v,RepV K (mt S F) H d v->RepV K (mt S' F) H e v)/\(∀ ds es,d=.tup ds->e=.tup es->∀ vs,RepL K (mt S F) H ds vs->RepL K (mt S' F) H es vs):=by
 intro d e h;have kp:Keep (mt S F) H (mt S' F) H:=(Ext.less (H:=H) hs).kp
 induction h with
 | same d=>exact⟨fun v h=>h.keep kp,fun ds es e1 e2 vs l=>by cases e1;cases e2;exact l.keep kp⟩
 | @ref a xs ys h h' l ih =>
  refine⟨fun v hv=>?_,fun ds es e1=>by cases e1⟩
  rw[rref hv];obtain⟨us,hu,lu⟩:=r.obj a _ h;unfold RepV;refine⟨a,us,rfl,.inl ⟨fun z=>?_,.inl hu⟩,ih.2 xs ys rfl rfl us lu⟩;rcases z with z | z
  ·exact z h'
  ·rw[(r.frm a z).2] at h;cases h
 | nil=>exact⟨fun v h=>h.keep kp,fun ds es e1 e2 vs l=>by cases e1;cases e2;exact l.keep kp⟩
 | @cons d e ds es h l ih1 ih2 =>
  have ls:∀ vs,RepL K (mt S F) H (d::ds) vs->RepL K (mt S' F) H (e::es) vs:=fun vs l=>by
   unfold RepL at l ⊢;obtain⟨v,vs,rfl,r1,l1⟩:=l;exact⟨v,vs,rfl,ih1.1 v r1,ih2.2 ds es rfl rfl vs l1⟩
  refine⟨fun v hv=>?_,fun ds' es' e1 e2 vs l=>by cases e1;cases e2;exact ls vs l⟩
  unfold RepV at hv ⊢;obtain⟨a,us,rfl,t,l⟩:=hv;exact⟨a,us,rfl,t.keep kp,ls us l⟩
def rtD (Q:DK):DK:=fun d S=>∃ d' S',(∀ a o,S' a=some o->S a=some o)/\Frz S S' d d'/\Q d' S'
theorem rt_same {Q:DK} {d:D} {S:Sto} (h:Q d S):rtD Q d S:=⟨d,S,fun _ _ e=>e,.same d,h⟩
theorem rt_drop {Q:DK} {d:D} {S S':Sto} (hs:∀ a o,S' a=some o->S a=some o) (h:Q d S'):rtD Q d S:=⟨d,S',hs,.same d,h⟩
theorem rt_frz {Q:DK} {a:Addr} {xs:List D} {S S':Sto} (h:S a=some (.lst xs)) (hs:∀ a o,S' a=some o->S a=some o) (h':S' a=none) (q:Q (.lst xs) S'):rtD Q (.ref a) S:=⟨.lst xs,S',hs,.ref h h' (.same _),q⟩
def endsD (Q:DK):EndsD:={ nx:=fun _ S=>rtD Q .non S,rt:=rtD Q }
def startD (N:List Str) (ds:List D):Gm:=ds.map some++ik (N.length - ds.length) none
theorem repStart {M:Am} {H:Hp} {N:List Str} {ds:List D} {vs:List V} (l:RepL K M H ds vs):RepG K M H (startD N ds) (start N vs):=by
 have reps:∀ n,RepG K M H (ik n none) (ik n none):=fun n=>by
  induction n with
  | zero=>exact rfl
  | succ n ih=>exact⟨none,_,rfl,ih⟩
 have gen:∀ {ds:List D} {vs:List V} {g:Gm} {σ:St},RepL K M H ds vs->RepG K M H g σ->RepG K M H (ds.map some++g) (vs.map some++σ):=by
  intro ds
  induction ds with
  | nil=>intro vs g σ l h;unfold RepL at l;subst l;exact h
  | cons d ds ih =>
   intro vs g σ l h;unfold RepL at l;obtain⟨v,vs,rfl,r,l⟩:=l;exact⟨v,_,rfl,r,ih l h⟩
 unfold startD start;rw[l.length];exact gen l (reps _)
theorem e_def {P:ay} {w:aI} {mg:Str->Option ae} {base:be} {x:Str} {st:Stmt} {N ps:List Str} {sp:SpD} (T:Tx K mg x st) (S:FnScope N ps (defScope st))
  (b:∀ {f:Addr} {fd:dq},Fun K x x st f fd->Binds K fd ps []) (len:∀ ds S Q,sp ds S Q->ds.length=ps.length)
  (h:∀ (f:Addr) (cdv:ae) (A:a6) (outer:List Env) (s:ai) (H:Hp) (E:XK),Room k (A.deeper (iS x (defScope st) s.heap.objs.size f cdv)) ->
   ∃ t,PSsD K (cxOf CX0 P w K mg base N x (defScope st) f cdv A outer s H E).nox (defBody st) t/\∀ ds S Q,sp ds S Q->t (endsD Q) (startD N ds) S):Df P w K mg base (k + 1) x ps (spU K sp):=by
 refine T.df b fun {f fd} Fn=>Fn.ok S (fun vs H Q E z1=>by obtain⟨F,S,ds,QD,r,l,hsp,c⟩:=z1;rw[l.length];exact len ds S QD hsp) (fun cdv A outer s H vs Q E' hr z1=>?_)
 obtain⟨F,S,ds,QD,r,l,hsp,c⟩:=z1;obtain⟨t,h1,h2⟩:=h f cdv A outer s H E' hr;have fin:∀ v d H' S',Ext S H S' H'->Rp K F S' H'->RepV K (mt S' F) H' d v->rtD QD d S'->Q v H':=fun v d H' S' x1 r1 v1 z2=>by
  obtain⟨d',S2,hs,fz,q⟩:=z2;exact c v d' H' S2 (x1.trans (Ext.less hs)) (r1.less hs) ((frz_ok r1 hs fz).1 v v1) q
 exact⟨_,h1.o,F,S,startD N ds,endsD QD,r,repStart l,h2 ds S QD hsp,fun Γ' S' σ' H' x1 r1 g1 q=>fin .non .non H' S' x1 r1 (by unfold RepV;rfl) q,fin,fun _ _ _ _ _ _ _ q=>q.elim,fun _ _ _ _ _ _ _ q=>q.elim⟩
def spLawD (n:Nat):SpD:=fun ds S Q=>∃ ns:List Int,ds=[.lst (ns.map D.int)]/\ns.length<=n/\(∀ a,S a=none)/\∀ S',Q (.bl true) S'
theorem intsD {M:Am} {H:Hp}:∀ {as:List Int},RepL K M H (as.map D.int) (as.map V.int)
 | []=>RepL.nil
 | a::as=>RepL.cons (by unfold RepV;rfl) intsD
theorem law_sp {n:Nat} {H:Hp} {a:Addr} {ns:List Int} (hl:ns.length<=n) (hS:SqL K H a (ns.map V.int)):spU K (spLawD n) [.ref a] H (fun v _=>v=.bl true) fun _ _ _=>False:=by
 refine⟨fun _=>False,fun _=>none,[.lst (ns.map D.int)],fun d _=>d=.bl true,⟨fun a o e=>(by cases e),fun _ (h:False)=>h.elim⟩,RepL.cons ?_ RepL.nil,⟨ns,rfl,hl,fun _=>rfl,fun _=>rfl⟩,fun v d H' S' _ _ h e=>by subst e;exact rbl h⟩
 unfold RepV;refine⟨a,_,rfl,?_,intsD⟩;rcases hS with r | z
 ·exact .inl ⟨fun z=>z.elim (fun w=>w rfl) id,r⟩
 ·exact .inr (.inr z)
def dMt (rd:D->List D->Sto->DK->Prop) (ck:D->Sto->Prop) (to:ED) (t:AD):ED:=fun Γ S Q=>to Γ S fun o S1=>ck o S1/\t Γ S1 fun ds S2=>rd o ds S2 Q
def MtD (K:Fg) (T:String) (r:V->List V->Hp->VK->Prop) (rd:D->List D->Sto->DK->Prop) (ck:D->Sto->Prop):Prop :=
 (∀ F S H d x,Rp K F S H->RepV K (mt S F) H d x->ck d S->tyV K T x H)/\∀ F S H d ds x vs Q QD,Rp K F S H->RepV K (mt S F) H d x->RepL K (mt S F) H ds vs->rd d ds S QD->Cn K F S H QD Q->r x vs H Q
theorem e_bm {T id:String} {name:Str} {r:V->List V->Hp->VK->Prop} {rd:D->List D->Sto->DK->Prop} {ck:D->Sto->Prop} {o e:Expr} {es:List Expr} {to:ED} {t:AD} {apos cpos:Pos} (M:MtD K T r rd ck)
  (pa:PlainAttrs T) (slot:Slot T name id) (hty:typeOf (.builtin id)=pure (.type "method_descriptor")) (hm:MtR X id r) (ho:PD K X o to) (ha:PAD K X (e::es) t) (hK:X.K=K:=by rfl)
  (hbase:d3 o name X.env (eval o X.env)=eval o X.env:=by rfl)
  (hfew:((cw cpos (ax (e::es) X.env)).all (fun x=>!x.1) && (i8 cpos (f8 [] X.env)).all (fun x=>x.1.isSome)
   && decide ((e::es).length + ([]:List fx).length + (if ([]:List fx).isEmpty then 0 else 1) < 30))=true:=by rfl)
  (hline:(apos.endLine == cpos.line)=true:=by rfl) (hs:ax (e::es) X.env=(false,eval e X.env)::ax es X.env:=by rfl) (hplain:(cw cpos (ax es X.env)).any (·.1)=false:=by rfl) :
  PD K X (.Call (.Attribute o name apos) (e::es) [] cpos) (dMt rd ck to t):=by
 subst hK;exact .of (pe_bm pa slot hty hm ho.o ha.o hbase hfew hline hs hplain) fun σ H Q z0=>z0.el fun F S Γ QD r g q c =>
  ⟨F,S,Γ,_,r,g,q,fun v d H1 S1 x1 r1 v1 ⟨k1,q1⟩=>⟨M.1 F S1 H1 d v r1 v1 k1,F,S1,Γ,_,r1,g.ext x1,q1,fun vs ds H2 S2 x2 r2 v2 q2=>M.2 F S2 H2 d ds v vs Q QD r2 (v1.ext x2) v2 q2 (Cn.shift c (x1.trans x2))⟩⟩
def ckL (d:D) (S:Sto):Prop:=match d with
 | .ref a=>∃ xs,S a=some (.lst xs)
 | _=>False
theorem ty_L {F:Am} {S:Sto} {H:Hp} {d:D} {x:V} (r:Rp K F S H) (h:RepV K (mt S F) H d x) (c:ckL d S):tyV K "list" x H:=by
 cases d with
 | ref a =>
  obtain⟨xs,hx⟩:=c;rw[rref h];obtain⟨us,hu,_⟩:=r.obj a _ hx;exact .inl ⟨rfl,us,SqL.of hu⟩
 | _=>exact c.elim
theorem Cn.write {F:Am} {S:Sto} {H:Hp} {QD:DK} {Q:VK} (c:Cn K F S H QD Q) (r:Rp K F S H) {a:Addr} {xs ys:List D} {us ws:List V} (hS:S a=some (.lst xs)) (l:RepL K (mt S F) H ys ws) {d:D} {v:V} (hv:RepV K (mt S F) H d v) (q:QD d (supd S a (.lst ys))):Q v (upd H a (.lst ws)):=by
 have hS':S a≠none:=by rw[hS];exact fun z=>by cases z
 have x:Ext S H (supd S a (.lst ys)) (upd H a (.lst ws)):=Ext.write hS';exact c v d _ _ x (r.write hS' ⟨ws,upd_same,l.ext x⟩) (hv.ext x) q
def appD:D->List D->Sto->DK->Prop:=fun o ds S Q=>match o,ds with
 | .ref a,[y]=>∃ xs,S a=some (.lst xs)/\xs.length < sizeLine/\Q .non (supd S a (.lst (xs++[y])))
 | _,_=>False
theorem md_app:MtD K "list" rAppend appD ckL:=⟨fun F S H d x r h c=>ty_L r h c,fun F S H d ds x vs Q QD r h l q c=>by
 match d,ds,q with
 | .ref a,[y],⟨xs,hS,hz,q⟩ =>
  obtain⟨v,rfl,rv⟩:=l.one;obtain⟨us,hu,lu⟩:=r.obj a _ hS;rw[rref h];exact⟨a,us,v,rfl,rfl,hu,by rw[lu.length];exact hz,c.write r (us:=us) hS (lu.app (RepL.cons rv RepL.nil)) (by unfold RepV;rfl) q⟩⟩
def popAtD:D->List D->Sto->DK->Prop:=fun o ds S Q=>match o,ds with
 | .ref a,[.int i]=>∃ xs j y,S a=some (.lst xs)/\i=(j:Nat)/\(j:Nat) < 2 ^ 63/\xs[(j:Nat)]?=some y/\Q y (supd S a (.lst (xs.eraseIdx j)))
 | _,_=>False
theorem md_popAt:MtD K "list" rPopAt popAtD ckL:=⟨fun F S H d x r h c=>ty_L r h c,fun F S H d ds x vs Q QD r h l q c=>by
 match d,ds,q with
 | .ref a,[.int i],⟨xs,j,y,hS,hi,hj,hy,q⟩ =>
  obtain⟨v,rfl,rv⟩:=l.one;obtain⟨us,hu,lu⟩:=r.obj a _ hS;obtain⟨z,e1,rz⟩:=lu.get hy;rw[rref h,rint rv];have hjl:j < us.length:=by
   rcases Nat.lt_or_ge j us.length with z | z
   ·exact z
   ·rw[bP z] at e1;cases e1
  have e2:seqIndex? i us.length=some j:=by
   subst hi
   have:ixN us.length (j:Int)=some j:=by unfold ixN;rw[if_pos (by lia),if_pos (by lia),bG]
   exact(ixN_seq this).1
  exact⟨a,us,i,j,z,rfl,rfl,hu,by lia,by subst hi;exact_mod_cast hj,e2,e1,c.write r (us:=us) hS (lu.erase j) rz q⟩⟩
theorem e_append {o e:Expr} {to:ED} {t:AD} {apos cpos:Pos} (ho:PD K X o to) (ha:PAD K X [e] t) (hK:X.K=K:=by rfl)
  (hbase:d3 o "append" X.env (eval o X.env)=eval o X.env:=by rfl)
  (hfew:((cw cpos (ax [e] X.env)).all (fun x=>!x.1) && (i8 cpos (f8 [] X.env)).all (fun x=>x.1.isSome)
   && decide (([e]:List Expr).length + ([]:List fx).length + (if ([]:List fx).isEmpty then 0 else 1) < 30))=true:=by rfl)
  (hline:(apos.endLine == cpos.line)=true:=by rfl) (hs:ax [e] X.env=(false,eval e X.env)::ax [] X.env:=by rfl) (hplain:(cw cpos (ax [] X.env)).any (·.1)=false:=by rfl) :
  PD K X (.Call (.Attribute o "append" apos) [e] [] cpos) (dMt appD ckL to t):=e_bm md_app eN PySem.F.slot_list_append PySem.F.type_list_append mt_append ho ha hK hbase hfew hline hs hplain
theorem e_popAt {o e:Expr} {to:ED} {t:AD} {apos cpos:Pos} (ho:PD K X o to) (ha:PAD K X [e] t) (hK:X.K=K:=by rfl)
  (hbase:d3 o "pop" X.env (eval o X.env)=eval o X.env:=by rfl)
  (hfew:((cw cpos (ax [e] X.env)).all (fun x=>!x.1) && (i8 cpos (f8 [] X.env)).all (fun x=>x.1.isSome)
   && decide (([e]:List Expr).length + ([]:List fx).length + (if ([]:List fx).isEmpty then 0 else 1) < 30))=true:=by rfl)
  (hline:(apos.endLine == cpos.line)=true:=by rfl) (hs:ax [e] X.env=(false,eval e X.env)::ax [] X.env:=by rfl) (hplain:(cw cpos (ax [] X.env)).any (·.1)=false:=by rfl) :
  PD K X (.Call (.Attribute o "pop" apos) [e] [] cpos) (dMt popAtD ckL to t):=e_bm md_popAt eN PySem.F.slot_list_pop PySem.F.type_list_pop mt_popAt ho ha hK hbase hfew hline hs hplain
end
end L2
set_option maxHeartbeats 1000000
namespace L2
open PySem PySem.Spec PyProof.Rows
def leS (a b:Str):Bool:=!HT.ltS b a
def leT (a b:List Str):Bool:=!HT.lexS b a
theorem lexS_irr:∀ a:List Str,HT.lexS a a=false
 | []=>rfl
 | x::xs=>by rw[HT.lexS_cons,if_pos rfl,lexS_irr xs]
theorem leS_tr (a b c:Str) (h:leS a b=true) (h':leS b c=true):leS a c=true:=by
 unfold leS at *
 rw[dP] at *
 cases e:HT.ltS c a with
 | false=>rfl
 | true =>
  by_cases hab:b=a
  ·subst hab;rw[h'] at e;cases e
  ·have:=HT.ltS_tr e (HT.ltS_tot h hab)
   rw[h'] at this;cases this
theorem leS_tot (a b:Str):(leS a b || leS b a)=true:=by
 unfold leS;cases e:HT.ltS b a with
 | false=>rfl
 | true=>rw[HT.ltS_as e];rfl
theorem leS_anti {a b:Str} (h:leS a b=true) (h':leS b a=true):a=b:=by
 unfold leS at *
 rw[dP] at *
 exact aK fun n=>by
  have:=HT.ltS_tot h (fun z=>n z.symm)
  rw[h'] at this;cases this
theorem leT_tr (a b c:List Str) (h:leT a b=true) (h':leT b c=true):leT a c=true:=by
 unfold leT at *
 rw[dP] at *
 cases e:HT.lexS c a with
 | false=>rfl
 | true =>
  by_cases hab:b=a
  ·subst hab;rw[h'] at e;cases e
  ·have:=HT.lexS_tr e (HT.lexS_tot h hab)
   rw[h'] at this;cases this
theorem leT_tot (a b:List Str):(leT a b || leT b a)=true:=by
 unfold leT;cases e:HT.lexS b a with
 | false=>rfl
 | true=>rw[HT.lexS_as e];rfl
theorem leT_anti {a b:List Str} (h:leT a b=true) (h':leT b a=true):a=b:=by
 unfold leT at *
 rw[dP] at *
 exact aK fun n=>by
  have:=HT.lexS_tot h (fun z=>n z.symm)
  rw[h'] at this;cases this
def srS (l:List Str):List Str:=l.mergeSort leS
def srT (l:List (List Str)):List (List Str):=l.mergeSort leT
def srI (l:List Int):List Int:=l.mergeSort fun a b=>decide (a<=b)
theorem srS_perm (l:List Str):(srS l).Perm l:=gW _ _
theorem srT_perm (l:List (List Str)):(srT l).Perm l:=gW _ _
theorem srI_perm (l:List Int):(srI l).Perm l:=gW _ _
theorem srS_pw (l:List Str):(srS l).Pairwise fun a b=>leS a b=true:=gb leS_tr leS_tot l
theorem srT_pw (l:List (List Str)):(srT l).Pairwise fun a b=>leT a b=true:=gb leT_tr leT_tot l
theorem srI_pw (l:List Int):(srI l).Pairwise fun a b=>decide (a<=b)=true:=gb (le:=fun a b=>decide (a<=b)) (fun a b c h h'=>decide_eq_true (Int.le_trans (of_decide_eq_true h) (of_decide_eq_true h'))) (fun a b=>by
 rcases Int.le_total a b with h | h
 ·rw[decide_eq_true h];rfl
 ·rw[decide_eq_true h,Bool.or_true]) l
theorem srS_eq {l out:List Str} (p:out.Perm l) (h:out.Pairwise fun a b=>HT.ltS b a=false):out=srS l :=
 (p.trans (srS_perm l).symm).eq_of_pairwise (fun _ _ _ _ h h'=>leS_anti h h') (h.imp fun h=>by unfold leS;rw[h];rfl) (srS_pw l)
theorem srT_eqL {l out:List (List Str)} (p:out.Perm l) (h:out.Pairwise fun a b=>HT.lexS b a=false):out=srT l :=
 (p.trans (srT_perm l).symm).eq_of_pairwise (fun _ _ _ _ h h'=>leT_anti h h') (h.imp fun h=>by unfold leT;rw[h];rfl) (srT_pw l)
theorem srI_eq {l out:List Int} (p:out.Perm l) (h:out.Pairwise (·<=·)):out=srI l :=
 (p.trans (srI_perm l).symm).eq_of_pairwise (fun _ _ _ _ h h'=>Int.le_antisymm (of_decide_eq_true h) (of_decide_eq_true h')) (h.imp fun h=>decide_eq_true h) (srI_pw l)
section
variable {X:Cx} {K:Fg} {pos:Pos} {k:Nat} {e:Expr} {t:AD} {p:Pos}
def rSum (K:Fg):List V->Hp->VK->Prop:=fun xs H Q=>∃ (x:V) (ns:List Int),xs=[x]/\(∃ a,x=.ref a/\SqL K H a (ns.map V.int))/\Q (.int ns.sum) H
theorem call_sum (hK:X.K=K:=by rfl) (hc:X.calm=true:=by rfl):CallR X (.builtin "sum") (rSum K):=by
 subst hK;intro pins s σ H xs us Q I r h;obtain⟨x,ns,rfl,⟨a,rfl,sq⟩,q⟩:=h;obtain⟨u,rfl,rx⟩:=vals1 r;cases rx;obtain⟨its,rv,pl,hz⟩:=I.list sq;have hi:=intsAre_of rv;obtain⟨xs,hx⟩:=hi.allInts.items;have hl:=pl.isList;rw[hx] at hl;refine sum_intListG (I.ok.hd hc) hl fun h' tk t' hk=>?_;have e:preSum (numAt xs) xs.size=ns.sum:=by
  have h1:numsOf (intItems xs).toList=ns:=by rw[<- hx];exact hi.numsOf
  rw[nums_intItems] at h1;rw[preSum_eq,bq (by simp),h1]
 rw[e];exact⟨.int ns.sum,H,I.kept (t':=tk) hk,⟨t',rfl⟩,q⟩
theorem repInts {M:Am} {H:Hp}:∀ {as:List Int} {xs:List V},RepL K M H (as.map D.int) xs->xs=as.map V.int
 | [],xs,h=>by rw[eQ] at h;unfold RepL at h;exact h
 | a::as,xs,h=>by
  rw[aG] at h;unfold RepL at h;obtain⟨v,vs,rfl,r,l⟩:=h;unfold RepV at r;rw[r,repInts l];rfl
theorem intsRep {M:Am} {H:Hp}:∀ {as:List Int},RepL K M H (as.map D.int) (as.map V.int)
 | []=>RepL.nil
 | a::as=>RepL.cons (by unfold RepV;rfl) intsRep
theorem repStr' {M:Am} {H:Hp}:∀ {as:List Str} {xs:List V},RepL K M H (as.map D.str) xs->xs=as.map V.str
 | [],xs,h=>by rw[eQ] at h;unfold RepL at h;exact h
 | a::as,xs,h=>by
  rw[aG] at h;unfold RepL at h;obtain⟨v,vs,rfl,r,l⟩:=h;unfold RepV at r;rw[r,repStr' l];rfl
theorem strRep' {M:Am} {H:Hp}:∀ {as:List Str},RepL K M H (as.map D.str) (as.map V.str)
 | []=>RepL.nil
 | a::as=>RepL.cons (by unfold RepV;rfl) strRep'
def sumD:RCD:=fun ds S Q=>match ds with
 | [d]=>∃ ns:List Int,lsIs S d (ns.map D.int)/\Q (.int ns.sum) S
 | _=>False
theorem e_sum (hg:Gl X "sum") (hm:X.mg "sum" = none) (ha:PAD K X [e] t) (hK:X.K=K:=by rfl) (hc:X.calm=true:=by rfl) (he:ax [e] X.env=(false,eval e X.env)::ax [] X.env:=by rfl) (hpl:(cw pos (ax [] X.env)).any (·.1)=false:=by rfl):PD K X (.Call (.Name "sum" p) [e] [] pos) (dCB sumD t):=e_callB (call_sum hK hc) (by
 intro F S H ds vs Q QD r l h c
 match ds,h with
 | [d],⟨ns,h1,q⟩ =>
  obtain⟨v,rfl,rv⟩:=l.one;obtain⟨a,us,rfl,sq,lu⟩:=lsIs.sl r rv h1;rw[repInts lu] at sq;exact⟨_,ns,rfl,⟨a,rfl,sq⟩,c.int r q⟩) hg hm bt_sum ha (by decide) (by decide) he hpl
def keyD:Key->D
 | .inl i=>.int i
 | .inr x=>.str x
def srcIs (S:Sto) (d:D) (xs:List D):Prop:=match d with
 | .tup ys=>xs=ys
 | .lst ys=>xs=ys
 | .ref a=>S a=some (.lst xs)\/∃ kvs,S a=some (.dk kvs)/\xs=kvs.map fun p=>keyD p.1
 | _=>False
theorem keysRep {M:Am} {H:Hp}:∀ {ks:List (Key × V)} {kvs:List (Key × D)},aZ (fun(p:Key × V) (q:Key × D)=>p.1=q.1/\RepV K M H q.2 p.2) ks kvs->RepL K M H (kvs.map fun p=>keyD p.1) (ks.map fun p=>kV p.1)
 | _,_,.nil=>RepL.nil
 | _,_,.cons (a:=a) (b:=b) h l=>by
  refine RepL.cons ?_ (keysRep l);show RepV K M H (keyD b.1) (kV a.1);rw[h.1];cases b.1 <;> (unfold keyD kV RepV;rfl)
theorem srcIs.src {F:Am} {S:Sto} {H:Hp} (r:Rp K F S H) {d:D} {v:V} {xs:List D} (h:RepV K (mt S F) H d v) (l:srcIs S d xs):∃ us,Src K H v us/\RepL K (mt S F) H xs us:=by
 cases d with
 | tup ys=>cases l;obtain⟨a,us,rfl,sq,l⟩:=tup.st h;exact⟨us,⟨a,rfl,.inr (.inl sq)⟩,l⟩
 | lst ys=>cases l;obtain⟨a,us,rfl,sq,l⟩:=lsIs.sl r h (show lsIs S (.lst xs) xs from rfl);exact⟨us,⟨a,rfl,.inl sq⟩,l⟩
 | ref a =>
  rw[rref h];rcases l with l | ⟨kvs,l,rfl⟩
  ·obtain⟨us,hu,lu⟩:=r.obj a _ l;exact⟨us,⟨a,rfl,.inl (SqL.of hu)⟩,lu⟩
  ·obtain⟨ks,hu,lu⟩:=r.obj a _ l;exact⟨_,⟨a,rfl,.inr (.inr ⟨ks,hu,rfl⟩)⟩,keysRep lu⟩
 | _=>exact l.elim
def tupS (t:List Str):D:=.tup (t.map D.str)
def srtD (b:Bool):RCD:=fun ds S Q=>match ds with
 | [d]=>(∃ ss:List Str,srcIs S d (ss.map D.str)/\newL b ((srS ss).map D.str) S Q)\/(∃ ns:List Int,srcIs S d (ns.map D.int)/\newL b ((srI ns).map D.int) S Q) \/
  ∃ ts:List (List Str),srcIs S d (ts.map tupS)/\newL b ((srT ts).map tupS) S Q
 | _=>False
def rSrtA (K:Fg):List V->Hp->VK->Prop:=fun xs H Q=>rSrtS K xs H Q\/rSrtI K xs H Q\/rSrtT K xs H Q
theorem repTups {S:Sto} {F:Am} {H:Hp}:∀ {ts:List (List Str)} {us:List V},RepL K (mt S F) H (ts.map tupS) us->aZ (dT K dS H) us ts
 | [],us,h=>by rw[eQ] at h;unfold RepL at h;subst h;exact .nil
 | a::as,xs,h=>by
  rw[aG] at h;unfold RepL at h;obtain⟨v,vs,rfl,r,l⟩:=h;exact .cons (repTupS r) (repTups l)
theorem repIdx {M:Am} {H:Hp} {ds:List D} {us:List V} (l:RepL K M H ds us):∀ (idx:List Nat),(∀ i∈idx,i < us.length)->RepL K M H (idx.map fun i=>ds.getD i .non) (idx.map fun i=>us.getD i .non)
 | [],_=>RepL.nil
 | i::idx,h=>by
  have hi:=h i am;refine RepL.cons ?_ (repIdx l idx fun j hj=>h j (ao _ hj));obtain⟨d,ed,rd⟩:=l.get' (ag hi);show RepV K M H (ds.getD i .non) (us.getD i .non);rw[aj,aj,ed,ag hi];exact rd
theorem cd_srt {b:Bool}:CallD K (rSrtA K) (srtD b):=by
 intro F S H ds vs Q QD r l h c
 match ds,h with
 | [d],h =>
  obtain⟨v,rfl,rv⟩:=l.one;rcases h with⟨ss,h1,q⟩ | ⟨ss,h1,q⟩ | ⟨ts,h1,q⟩
  ·obtain⟨us,hs,lu⟩:=h1.src r rv;rw[repStr' lu] at hs;exact .inl ⟨v,ss,rfl,hs,fun p out hp o1 o2=>by
    rw[srS_eq o1 o2];exact c.new r hp strRep' q⟩
  ·obtain⟨us,hs,lu⟩:=h1.src r rv;rw[repInts lu] at hs;exact .inr (.inl ⟨v,ss,rfl,hs,fun p out hp o1 o2=>by
    rw[srI_eq o1 o2];exact c.new r hp intsRep q⟩)
  ·obtain⟨us,hs,lu⟩:=h1.src r rv;refine .inr (.inr ⟨v,us,ts,rfl,hs,repTups lu,fun p idx hp i1 i2 i3=>c.new r hp ?_ q⟩);have hl:=lu.length;rw[ap] at hl;have hin:∀ i∈idx,i < us.length:=fun i hi=>bh.mp (i1.mem_iff.mp hi)
   have:=repIdx lu idx hin
   rw[<- srT_eqL i3 i2,bo];have e:(idx.map fun i=>(ts.map tupS).getD i .non)=idx.map (tupS ∘ fun i=>ts.getD i []):=de fun i hi=>by
    have hi':i < ts.length:=by have:=hin i hi;omega
    show(ts.map tupS).getD i .non=tupS (ts.getD i []);rw[aj,aj,aJ,ag hi']
    rfl
   rw[<- e];exact this
theorem e_sorted {b:Bool} (hr:Room k X.A) (hg:Gl X "sorted") (hm:X.mg "sorted" = none) (ha:PAD K X [e] t) (hK:X.K=K:=by rfl) (hc:X.calm=true:=by rfl) (he:ax [e] X.env=(false,eval e X.env)::ax [] X.env:=by rfl) (hpl:(cw pos (ax [] X.env)).any (·.1)=false:=by rfl):PD K X (.Call (.Name "sorted" p) [e] [] pos) (dCB (srtD b) t):=e_callB ((call_srtS hK hc).or ((call_srtI hK hc).or (call_srtT (lt10 hr) hK hc))) cd_srt hg hm bt_sorted ha (by decide) (by decide) he hpl
end
end L2
set_option maxHeartbeats 4000000
namespace L2
open PySem PySem.Spec PyProof.Rows
theorem md {a b:Int} (h:0 < b):0<=a % b/\a % b < b:=⟨jC _ (by lia),io _ h⟩
theorem loop_ind {g:GD} {tt:TD} {tb:BD} {G:Sto->Prop} {Γ0:Gm} {xs acc:List D} {S:Sto} {Q:List D->Sto->Prop} (I:Nat->List D->Sto->Prop) (h0:I 0 acc S)
  (hs:∀ i x acc S (N:List D->Sto->Prop),xs[i]?=some x->I i acc S->(∀ acc' S',I (i + 1) acc' S'->N acc' S')->G S/\g x Γ0 S fun Γ2 S2=>tt Γ2 S2 fun b S3=>if b=true then tb Γ2 S3 acc N else N acc S3)
  (hd:∀ acc S,I xs.length acc S->G S/\Q acc S):loopD g tt tb G Γ0 xs acc S Q:=by
 have gen:∀ n i acc S,i + n=xs.length->I i acc S->loopD g tt tb G Γ0 (xs.drop i) acc S Q:=by
  intro n
  induction n with
  | zero =>
   intro i acc S hi h;have e:i=xs.length:=by lia
   subst e;rw[fE];exact hd acc S h
  | succ n ih =>
   intro i acc S hi h;have hlt:i < xs.length:=by lia
   rw[drop_cons hlt];exact hs i xs[i] acc S (fun acc' S4=>loopD g tt tb G Γ0 (xs.drop (i + 1)) acc' S4 Q) (ag hlt) h fun acc' S' h'=>ih (i + 1) acc' S' (by lia) h'
 simpa using gen xs.length 0 acc S (by lia) h0
theorem for_ind {g:GD} {tb:SD} {G:Sto->Prop} {E:EndsD} {xs:List D} {Γ:Gm} {S:Sto} (I:Nat->Gm->Sto->Prop) (h0:I 0 Γ S)
  (hs:∀ i x Γ S (N:Gm->Sto->Prop),xs[i]?=some x->I i Γ S->(∀ Γ' S',I (i + 1) Γ' S'->N Γ' S')->G S/\g x Γ S fun Γ2 S2=>tb { E with nx:=N,ct:=N,bk:=E.nx } Γ2 S2)
  (hd:∀ Γ S,I xs.length Γ S->G S/\E.nx Γ S):forD g tb G E xs Γ S:=by
 have gen:∀ n i Γ S,i + n=xs.length->I i Γ S->forD g tb G E (xs.drop i) Γ S:=by
  intro n
  induction n with
  | zero =>
   intro i Γ S hi h;have e:i=xs.length:=by lia
   subst e;rw[fE];exact hd Γ S h
  | succ n ih =>
   intro i Γ S hi h;have hlt:i < xs.length:=by lia
   rw[drop_cons hlt];exact hs i xs[i] Γ S (forD g tb G E (xs.drop (i + 1))) (ag hlt) h fun Γ' S' h'=>ih (i + 1) Γ' S' (by lia) h'
 simpa using gen xs.length 0 Γ S (by lia) h0
theorem loop_map {α:Type} {i:Nat} {te:ED} {Γ0:Gm} {S:Sto} {Q:List D->Sto->Prop} {enc:α->D} {f:α->D} {xs:List α} {acc:List D} (h:∀ x∈xs,∀ Q:DK,Q (f x) S->te (Γ0.set i (some (enc x))) S Q) (hn:acc.length + xs.length<=sizeLine)
  (q:Q (acc++xs.map f) S):loopD (gdName i) dYes (emitD te) (fun _=>True) Γ0 (xs.map enc) acc S Q:=by
 induction xs generalizing acc with
 | nil=>exact⟨trivial,by simpa using q⟩
 | cons x xs ih =>
  refine⟨trivial,?_⟩;show emitD te (Γ0.set i (some (enc x))) S acc (fun acc' S4=>loopD (gdName i) dYes (emitD te) (fun _=>True) Γ0 (xs.map enc) acc' S4 Q);refine h x am _ ⟨by simp at hn;lia,ih (fun y hy=>h y (ao _ hy)) (by simp at hn ⊢;lia) (by simpa using q)⟩
theorem loop_filt {α:Type} {i:Nat} {tt:TD} {te:ED} {Γ0:Gm} {S:Sto} {Q:List D->Sto->Prop} {enc:α->D} {p:α->Bool} {f:α->D} {xs:List α} {acc:List D} (ht:∀ x∈xs,∀ Q:Bool->Sto->Prop,Q (p x) S->tt (Γ0.set i (some (enc x))) S Q) (h:∀ x∈xs,p x=true->∀ Q:DK,Q (f x) S->te (Γ0.set i (some (enc x))) S Q) (hn:acc.length + xs.length<=sizeLine)
  (q:Q (acc++(xs.filter p).map f) S):loopD (gdName i) tt (emitD te) (fun _=>True) Γ0 (xs.map enc) acc S Q:=by
 induction xs generalizing acc with
 | nil=>exact⟨trivial,by simpa using q⟩
 | cons x xs ih =>
  refine⟨trivial,?_⟩;show tt (Γ0.set i (some (enc x))) S _;refine ht x am _ ?_;cases hp:p x with
  | true =>
   rw[if_pos rfl];refine h x am hp _ ⟨by simp at hn;lia,ih (fun y hy=>ht y (ao _ hy)) (fun y hy=>h y (ao _ hy)) (by simp at hn ⊢;lia) ?_⟩
   rw[bJ,hp] at q;simpa using q
  | false =>
   rw[if_neg (by simp)]
   refine ih (fun y hy=>ht y (ao _ hy)) (fun y hy=>h y (ao _ hy)) (by simp at hn ⊢;lia) ?_
   rw[bJ,hp] at q;simpa using q
theorem cutD_map {α:Type} (f:α->D) (xs:List α) (lo hi:Option Int):cutD (xs.map f) lo hi=((xs.drop (HT.sIx xs.length 0 lo)).take (HT.sIx xs.length xs.length hi - HT.sIx xs.length 0 lo)).map f:=by
 unfold cutD;rw[ap,iZ,List.map_drop]
theorem atI_map {α β:Type} (f:α->β) (xs:List α) (i:Int):atI (xs.map f) i=(atI xs i).map f:=by
 unfold atI;rw[ap];cases ixN xs.length i with
 | none=>rfl
 | some j=>simp
theorem atI_in {α:Type} {xs:List α} {i:Int} (h0:0<=i) (h1:i < xs.length):∃ (h:i.toNat < xs.length),atI xs i=some xs[i.toNat]:=by
 have h:i.toNat < xs.length:=by lia
 refine⟨h,?_⟩
 have:=atI_nat (ag h)
 rwa [show((i.toNat:Nat):Int)=i by lia] at this
theorem rng_at {n i:Nat} {x:D} (h:(rngD 0 n)[i]?=some x):i < n/\x=.int (i:Nat):=by
 obtain⟨h1,h2⟩:=rngD_get n 0 i x h;exact⟨h1,by rw[h2,hU]⟩
section
variable {X:Cx} {K:Fg} {pos:Pos}
theorem pairRep2 {F:Am} {S:Sto} {H:Hp} {p:Addr} {x y:V} {d e:D} (r:Rp K F S H) (hp:H p=none) (rx:RepV K (mt S F) H d x) (ry:RepV K (mt S F) H e y):Ext S H S (upd H p (.tup [x,y]))/\Rp K F S (upd H p (.tup [x,y]))/\RepV K (mt S F) (upd H p (.tup [x,y])) (.tup [d,e]) (.ref p):=by
 have z:Ext S H S (upd H p (.tup [x,y])):=Ext.same (same_upd hp);refine⟨z,r.same (same_upd hp),?_⟩;unfold RepV;exact⟨p,_,rfl,.inl ⟨r.nmt hp,.inl upd_same⟩,RepL.cons (rx.ext z) (RepL.cons (ry.ext z) RepL.nil)⟩
end
end L2
set_option maxHeartbeats 1000000
namespace L2
open PySem PySem.Spec PyProof.Rows
section
variable {X:Cx} {K:Fg} {pos:Pos} {k:Nat}
def exrD:D->List D->Sto->DK->Prop:=fun o ds S Q=>match o,ds with
 | .ref a,[.ref b]=>∃ xs ys,S a=some (.lst xs)/\S b=some (.lst ys)/\xs.length + ys.length<=sizeLine/\Q .non (supd S a (.lst (xs++ys)))
 | _,_=>False
theorem md_exr:MtD K "list" rExtend exrD ckL:=⟨fun F S H d x r h c=>ty_L r h c,fun F S H d ds x vs Q QD r h l q c=>by
 match d,ds,q with
 | .ref a,[.ref b],⟨xs,ys,hS,hS2,hz,q⟩ =>
  obtain⟨v,rfl,rv⟩:=l.one;obtain⟨us,hu,lu⟩:=r.obj a _ hS;obtain⟨ws,hw,lw⟩:=r.obj b _ hS2;rw[rref h,rref rv];exact⟨a,b,us,ws,rfl,rfl,hu,hw,by rw[lu.length,lw.length];exact hz,c.write r (us:=us) hS (lu.app lw) (by unfold RepV;rfl) q⟩⟩
theorem e_extend {o e:Expr} {to:ED} {t:AD} {apos cpos:Pos} (ho:PD K X o to) (ha:PAD K X [e] t) (hK:X.K=K:=by rfl)
  (hbase:d3 o "extend" X.env (eval o X.env)=eval o X.env:=by rfl)
  (hfew:((cw cpos (ax [e] X.env)).all (fun x=>!x.1) && (i8 cpos (f8 [] X.env)).all (fun x=>x.1.isSome)
   && decide (([e]:List Expr).length + ([]:List fx).length + (if ([]:List fx).isEmpty then 0 else 1) < 30))=true:=by rfl)
  (hline:(apos.endLine == cpos.line)=true:=by rfl) (hs:ax [e] X.env=(false,eval e X.env)::ax [] X.env:=by rfl) (hplain:(cw cpos (ax [] X.env)).any (·.1)=false:=by rfl) :
  PD K X (.Call (.Attribute o "extend" apos) [e] [] cpos) (dMt exrD ckL to t):=e_bm md_exr eN PySem.F.slot_list_extend PySem.F.type_list_extend mt_extend ho ha hK hbase hfew hline hs hplain
def dChain (r r':R2D) (ta tb tc:ED):ED:=fun Γ S Q=>ta Γ S fun x S1=>tb Γ S1 fun y S2=>r x y S2 fun z S3=>∃ k,z=.bl k/\(if k=true then tc Γ S3 fun w S4=>r' y w S4 Q else Q (.bl false) S3)
theorem up_chain {r r':R2} {rd rd':R2D} {ta tb tc:ED} (h:OpD K r rd) (h':OpD K r' rd'):∀ σ H Q,upE K (dChain rd rd' ta tb tc) σ H Q->tChain r r' (upE K ta) (upE K tb) (upE K tc) σ H Q:=fun σ H Q z0=>z0.el fun F S Γ QD r g q c =>
 ⟨F,S,Γ,_,r,g,q,fun x d H1 S1 x1 r1 v1 q1=>⟨F,S1,Γ,_,r1,g.ext x1,q1,fun y e H2 S2 x2 r2 v2 q2=>h F S2 H2 d e x y _ _ r2 (v1.ext x2) v2 q2 fun v z H3 S3 x3 r3 v3 z1=>by
  obtain⟨kk,e3,q3⟩:=z1;subst e3;refine⟨kk,rbl v3,?_⟩;cases kk with
  | true=>exact⟨F,S3,Γ,_,r3,g.ext (x1.trans (x2.trans x3)),q3,fun w f H4 S4 x4 r4 v4 q4=>h' F S4 H4 e f y w Q QD r4 (v2.ext (x3.trans x4)) v4 q4 fun v z H5 S5 x5=>c v z H5 S5 (x1.trans (x2.trans (x3.trans (x4.trans x5))))⟩
  | false=>exact c _ _ _ S3 (x1.trans (x2.trans x3)) r3 (rbl v3 ▸ v3) q3⟩⟩
theorem dt_chain {op op':CmpOp} {r r':R2} {rd rd':R2D} {a b c:Expr} {ta tb tc:ED} (ho:OpR X (bW op) r) (ho':OpR X (bW op') r') (h:OpD K r rd) (h':OpD K r' rd') (ha:PD K X a ta) (hb:PD K X b tb) (hc:PD K X c tc)
  (hm:lastMarks [op,op'] [b,c]=false:=by with_unfolding_all rfl):PTD K X (.Compare a [op,op'] [b,c] pos) (dTest (dChain rd rd' ta tb tc)):=.of (pt_chain ho ho' ha.o hb.o hc.o hm) fun σ H Q q=>up_chain h h' σ H _ (by
 obtain⟨F,S,Γ,QD,r,g,q,c⟩:=q;refine⟨F,S,Γ,_,r,g,q,fun v d H1 S1 x1 r1 v1 ⟨b,e,q1⟩=>?_⟩;subst e;exact⟨b,rbl v1,c b H1 S1 x1 r1 q1⟩)
theorem dt_ltle {a b c:Expr} {ta tb tc:ED} (ha:PD K X a ta) (hb:PD K X b tb) (hc:PD K X c tc) (hm:lastMarks [.Lt,.LtE] [b,c]=false:=by with_unfolding_all rfl) :
  PTD K X (.Compare a [.Lt,.LtE] [b,c] pos) (dTest (dChain (iiD0 fun i j=>.bl (decide (i < j))) (iiD0 fun i j=>.bl (decide (i<=j))) ta tb tc)):=dt_chain op_lt op_le od_B0 od_B0 ha hb hc hm
end
end L2
set_option maxHeartbeats 4000000
namespace L2
open PySem PySem.Spec PyProof.Rows
end L2
set_option maxHeartbeats 1000000
namespace L2
open PySem PySem.Spec PyProof.Rows
end L2
set_option maxHeartbeats 4000000
namespace L2
open PySem PySem.Spec PyProof.Rows
section
variable {X:Cx}
def rSortStN (w:aI) (K:Fg):List V->Hp->VK->Prop:=fun xs H Q=>∃ x ms,xs=[x]/\dSt w K H x ms/\ms.Nodup/\ms.length < 300/\∀ l ys out,H l=none->out.Perm ms->out.Pairwise (fun a b=>HT.lexS a b=true)->aZ (dT K dS H) ys out->Q (.ref l) (upd H l (.lst ys))
theorem call_sortedStN {K:Fg} {w:aI} (hu:X.A.units + 8 < b7) (hK:X.K=K:=by rfl) (hw:X.w=w:=by rfl) (hc:X.calm=true:=by rfl):CallR X (.builtin "sorted") (rSortStN w K):=by
 subst hw;intro pins s σ H xs us Q I r h;obtain⟨x,ms,rfl,⟨p,es,ep,t,ps,rfl,hH,hf,hled,hpl,pp,rfl⟩,nd,h64,q⟩:=h;obtain⟨u,rfl,rx⟩:=vals1 r;cases rx;obtain⟨hg,_⟩:=I.hok p _ hH;have hl:es.size=ps.length:=by have:=bV pp;simpa using this
 have hpl':ps.length < 300:=by simpa using h64
 have hh:=I.ok.hd hc;refine iJ kind_sorted plain_sorted entry_sorted (args_sorted1 _) ?_;unfold b6.«sorted»;refine ad (m:=checkCount "sorted" 1 1 _) (af ?_);refine ad (ST.collectT (by simp[hh]) hg hf hled hpl (by lia) fun vals h1 d hperm kp=>?_)
 obtain⟨ps',hps',pv'⟩:=ST.paired_perm hperm pp;have hvl:vals.length=ps'.length:=bV pv';have hpl2:ps'.length=ps.length:=hps'.length_eq;have I1:Inv X pins σ H { s with heap:=h1,drawn:=d }:=(I.kept (t':=s.toks) kp).drawn d
 refine ad (wpAny_newList ?_ (by rw[bF];lia))
 have hoL:(h1.push (cz "list" vals.toArray 0)).get? h1.objs.size=some (cz "list" vals.toArray 0):=av _ rfl;refine ad (cO (bM slot_list_sort ⟨_,hoL,rfl⟩ entry_list_sort ?body (args_list_sort _)))
 case body =>
  refine KS.sort_tups (s:={ s with heap:=h1.push (cz "list" vals.toArray 0),drawn:=d }) (ds:=ps'.map (·.2)) (by show X.A.units + 1 + 1 < _;lia) hoL (ts_of I1 hK (fun b o e=>ah _ e) pv') ((hps'.map (·.2)).nodup_iff.mpr nd) (by rw[bF];lia) fun idx h' c i1 i2 i3 g kk=>⟨_,rfl,af ⟨_,rfl,?_⟩⟩
  have hin:∀ i∈idx,i < vals.length:=fun i hi=>bh.mp (i1.mem_iff.mp hi);have zv:=KS.paired_idx pv' bQ (V.non,[]) idx hin;obtain⟨z1,z2⟩:=pv_split zv;have eo:(idx.map fun i=>(ps'.map (·.2)).getD i [])=(idx.map fun i=>ps'.getD i (V.non,[])).map (·.2):=by
   rw[bo];exact de fun i _=>getD_snd ps' i
  rw[eo] at i2 i3;have hfr:H h1.objs.size=none:=I1.hok.fresh (Nat.le_refl _);have sm:Same H (upd H h1.objs.size (.lst ((idx.map fun i=>ps'.getD i (V.non,[])).map (·.1)))):=same_upd hfr;have il:idx.length=vals.length:=by have:=i1.length_eq;simpa using this
  have I2:Inv X pins σ (upd H h1.objs.size (.lst ((idx.map fun i=>ps'.getD i (V.non,[])).map (·.1)))) { s with heap:=h',drawn:=d }:=I1.laid (t':=s.toks) (fun b o e=>kk b o (Nat.ne_of_lt (aC e)) (ah _ e)) (Nat.le_refl _)
   ⟨by simp only[ap];rw[bF];lia,_,c,z1,g⟩
  exact⟨.ref h1.objs.size,_,I2,rfl,q _ _ _ hfr (i3.trans (hps'.map (·.2))) i2 z2⟩
end
section
variable {X:Cx} {K:Fg} {pos:Pos} {k:Nat} {F:Am} {S:Sto} {H:Hp}
theorem Rp.ntup (r:Rp K F S H) {a:Addr} {xs:List V} (h:Rd H a (.tup xs)):¬ mt S F a:=fun z=>by
 have no:∀ u,H a=some u->(∀ ys,u≠.tup ys)->(∀ o ys,u≠.frz o (.tup ys))->False:=fun u e n1 n2=>by
  rcases h with h | ⟨o,h⟩
  ·rw[e] at h;exact n1 _ (aP h)
  ·rw[e] at h;exact n2 _ _ (aP h)
 rcases z with z | z
 ·cases e:S a with
  | none=>exact z e
  | some o =>
   have q:=r.obj a o e;cases o with
   | lst ds=>obtain⟨us,hu,_⟩:=q;exact no _ hu (fun _ z=>by cases z) fun _ _ z=>by cases z
   | dk kvs=>obtain⟨us,hu,_⟩:=q;exact no _ hu (fun _ z=>by cases z) fun _ _ z=>by cases z
   | dt kvs=>obtain⟨us,hu,_⟩:=q;exact no _ hu (fun _ z=>by cases z) fun _ _ z=>by cases z
   | tb ps ql=>obtain⟨us,hu,_⟩:=q;exact no _ hu (fun _ z=>by cases z) fun _ _ z=>by cases z
   | ex f hk hl=>obtain⟨us,hu,xo⟩:=hl _ _ _ q;exact no _ hu (fun _ z=>by subst z;exact xo) fun _ _ z=>by subst z;exact xo
 ·obtain⟨⟨zs,e,ct⟩,_⟩:=r.frm a z;exact no _ e (fun _ z=>by subst z;exact ct) fun _ _ z=>by subst z;exact ct
theorem tups_rep (r:Rp K F S H):∀ {xs:List V} {ts:List (List Str)},aZ (dT K dS H) xs ts->RepL K (mt S F) H (ts.map tupS) xs
 | _,_,.nil=>RepL.nil
 | _,_,.cons ⟨a,us,e,sq,p⟩ q=>by
  refine RepL.cons ?_ (tups_rep r q);subst e;unfold tupS RepV;refine⟨a,us,rfl,?_,strsRep p⟩;rcases sq with h | h
  ·exact .inl ⟨r.ntup h,h⟩
  ·exact .inr (.inr h)
def dSrtSet (b:Bool) (te:ED):ED:=fun Γ S Q=>te Γ S fun d S1=>∃ ts:List (List Str),lsIs S1 d (ts.map tupS)/\ts.length < 300/\∀ out:List (List Str),out.Nodup->(∀ t,t∈out↔t∈ts)->out.Pairwise (fun a b=>HT.lexS a b=true)->newL b (out.map tupS) S1 Q
theorem e_sortedSet {b:Bool} {e:Expr} {te:ED} {p p' pos':Pos} (hr:Room k X.A) (hg:Gl X "sorted") (hm:X.mg "sorted" = none) (hg':Gl X "set") (hm':X.mg "set" = none) (he:PD K X e te) (hK:X.K=K:=by rfl) (hc:X.calm=true:=by rfl)
  (h1:ax [e] X.env=(false,eval e X.env)::ax [] X.env:=by rfl) (h2:ax [Expr.Call (.Name "set" p') [e] [] pos'] X.env=(false,eval (Expr.Call (.Name "set" p') [e] [] pos') X.env)::ax [] X.env:=by rfl) (h3:(cw pos (ax [] X.env)).any (·.1)=false:=by rfl) (h4:(cw pos' (ax [] X.env)).any (·.1)=false:=by rfl) :
  PD K X (.Call (.Name "sorted" p) [.Call (.Name "set" p') [e] [] pos'] [] pos) (dSrtSet b te) :=
 .of (pe_callB (call_sortedStN (lt64 hr) hK rfl hc) hg hm bt_sorted (pa_cons (pe_callTy (call_setLT (lt64 hr) hK rfl hc) hg' hm' bt_set (pa_cons he.o pa_nil h1) (by decide) (by decide) h1 h4) pa_nil h2) (by decide) (by decide) h2 h3) fun σ H Q z0=>z0.el fun F S Γ QD r g q c =>
 ⟨F,S,Γ,_,r,g,q,fun v d H1 S1 x1 r1 v1 z1=>by
  obtain⟨ts,hl,h64,q1⟩:=z1;obtain⟨a,us,rfl,sq,lu⟩:=lsIs.sl r1 v1 hl;refine⟨_,ts,rfl,⟨a,us,rfl,sq,repTups lu⟩,by lia,fun p ms H2 s2 nd mem st=>⟨_,ms,rfl,st,nd,?_,fun l ys out hfr pm pw pp=>?_⟩⟩
  ·exact Nat.lt_of_le_of_lt (szOk_of nd mem).1 h64
  ·have r2:Rp K F S1 H2:=r1.same s2;have x2:Ext S1 H1 S1 H2:=Ext.same s2;exact Cn.new (Cn.shift c (x1.trans x2)) r2 hfr (tups_rep r2 pp) (q1 out (pm.nodup_iff.mpr nd) (fun t=>(pm.mem_iff).trans (mem t)) pw)⟩
end
end L2
set_option maxHeartbeats 1000000
namespace L2
open PySem PySem.Spec PyProof.Rows
end L2
set_option maxHeartbeats 4000000
namespace L2
open PySem PySem.Spec PyProof.Rows
end L2
set_option maxHeartbeats 1000000
namespace L2
open PySem PySem.Spec PyProof.Rows
def emitOfS (elt:Expr) (acc:ae) (env:Env):Sem Unit:=eval elt env >>= fun x=>jq elt.pos >>= fun _=>call (.builtin "set.add") [acc,x] >>= fun _=>pure ()
theorem turn_oneS (elt target iter:Expr) (ifs:List Expr) (scope:Scope) (pos:Pos) (it acc:ae) (env:Env) :
  fq (.SetComp elt [⟨target,iter,ifs,0⟩] scope pos) 0 it acc env=turnOf target ifs iter.pos (emitOfS elt acc env) (.compLoop (.SetComp elt [⟨target,iter,ifs,0⟩] scope pos) 0 it acc env) it env:=by
 unfold turnOf testsOf emitOfS;show(jq iter.pos >>= fun _=>fj it >>= fun r=>_)=_;refine bind_congr fun _=>bind_congr fun r=>?_;cases r with
 | none=>rfl
 | some v =>
  show(fR target it v >>= fun _=>assign target env v >>= fun _=>(forIn ifs true _ >>= fun ok=>_))=_;refine bind_congr fun _=>bind_congr fun _=>bind_congr fun ok=>?_;cases ok <;> rfl
def TKp (H H':Hp):Prop:=∀ a xs,Rd H a (.tup xs)->Rd H' a (.tup xs)
abbrev PVk {κ:Type} (rp:Hp->V->κ->Prop) (H:Hp):ae->V × κ->Prop:=fun v p=>RelV p.1 v/\rp H p.1 p.2
structure SKn (P:ay) (w:aI) (K:Fg) (κ:Type) where
 kd:Hp->ST.SetKd P w κ
 rp:Hp->V->κ->Prop
 pI:Array (Int × ae)->aX->List κ->Prop
 toI:∀ {X:Cx} {pins σ H s p es ep t} {ps:List (V × κ)},X.prog=P->X.w=w->X.K=K->Inv X pins σ H s->s.heap.get? p=some (ST.setOb es ep t)->pI es t (ps.map (·.2))->aZ (PVk rp H) (es.toList.map (·.2)) ps ->
  (kd H).I s.heap p es ep t/\aZ (fun(e:Int × ae) k=>(kd H).is s.heap k e.2) es.toList (ps.map (·.2))
 toIs:∀ {X:Cx} {pins σ H s} {x:V} {v:ae} {k:κ},X.prog=P->X.w=w->X.K=K->Inv X pins σ H s->RelV x v->rp H x k->(kd H).is s.heap k v
 ofI:∀ {H:Hp} {h:be} {p es ep t} {ks:List κ},(kd H).I h p es ep t->ks.Nodup->aZ (fun(e:Int × ae) k=>(kd H).is h k e.2) es.toList ks->∃ ps:List (V × κ),aZ (PVk rp H) (es.toList.map (·.2)) ps/\ps.map (·.2)=ks/\pI es t ks
 fr:∀ led,pI #[] (.fresh 0 0 led) []
 mo:∀ {H H':Hp} {v:V} {k:κ},TKp H H'->rp H v k->rp H' v k
def StV {P:ay} {w:aI} {K:Fg} {κ:Type} (kn:SKn P w K κ) (H:Hp) (p:Addr) (acc:List κ):Prop:=∃ es ep t,∃ ps:List (V × κ),H p=some (stO p es ep t)/\t.led=ST.ledOf w/\kn.pI es t (ps.map (·.2))/\aZ (PVk kn.rp H) (es.toList.map (·.2)) ps/\(ps.map (·.2)).Nodup/\∀ k,k∈ps.map (·.2)↔k∈acc
theorem StV.keep {P:ay} {w:aI} {K:Fg} {κ:Type} {kn:SKn P w K κ} {H H':Hp} {p:Addr} {acc:List κ} (h:StV kn H p acc) (e:H' p=H p) (t:TKp H H'):StV kn H' p acc:=by
 obtain⟨es,ep,tb,ps,h1,h2,h3,h4,h5,h6⟩:=h;exact⟨es,ep,tb,ps,e.trans h1,h2,h3,Paired.imp (fun _ _ z=>⟨z.1,kn.mo t z.2⟩) h4,h5,h6⟩
theorem StV.at {P:ay} {w:aI} {K:Fg} {κ:Type} {kn:SKn P w K κ} {H:Hp} {p:Addr} {acc:List κ} (h:StV kn H p acc):∃ φ,H p=some (.ext φ):=by
 obtain⟨es,ep,tb,ps,h1,_⟩:=h;exact⟨_,h1⟩
theorem tkp_ext {H:Hp} {p:Addr} {φ:be->Prop} {o:HO} (h:H p=some (.ext φ)):TKp H (upd H p o):=fun a xs r=>by
 have:a≠p:=by
  rintro rfl;rcases r with r | ⟨o,r⟩ <;> rw[h] at r <;> cases r
 rcases r with r | ⟨o',r⟩
 ·exact .inl (by rw[upd_ne this];exact r)
 ·exact .inr ⟨o',by rw[upd_ne this];exact r⟩
section
variable {X:Cx} {K:Fg} {κ:Type} [DecidableEq κ]
def tEmitS {P:ay} {w:aI} (kn:SKn P w K κ) (p:Addr) (te:TE):TB:=fun σ H N=>te σ H fun y H4=>∃ acc k,StV kn H4 p acc/\kn.rp H4 y k/\acc.length + 1<=300/\∀ φ,StV kn (upd H4 p (.ext φ)) p (acc++[k])->N (upd H4 p (.ext φ))
theorem pb_emitS {P:ay} {w:aI} {kn:SKn P w K κ} {elt:Expr} {te:TE} {p:Addr} (hxe:X.xe=fun _ _=>False) (hu:X.A.units + 1 < b7) (hP:X.prog=P) (hw:X.w=w) (hK:X.K=K) (he:PE X elt te):PB X (emitOfS elt (.ref p) X.env) (tEmitS kn p te):=by
 intro pins s σ H N I h;unfold emitOfS;have h1:=he pins s σ H _ I h;rw[hxe] at h1;refine ad (thn h1 fun y s1 ⟨v,H1,I1,r1,acc,k,st,rk,hn,n⟩=>ad (gK (ad ?_)));obtain⟨es,ep,t,ps,hp,hled,hpi,hpp,hnd,hmem⟩:=id st;subst hP hw;obtain⟨ho,_⟩:=I1.hok p _ hp;obtain⟨i1,i2⟩:=kn.toI rfl rfl hK I1 ho hpi hpp;have isk:=kn.toIs rfl rfl hK I1 r1 rk;have M:ST.Mem (kn.kd H1) s1.heap p acc (ST.ledOf X.w) (ps.map (·.2)):=⟨⟨es,ep,t,i1,hled,i2⟩,hnd,hmem⟩;refine bM F.slot_set_add ⟨_,ho,rfl⟩ F.entry_set_add ?_ (F.args_set_add_2 _ _);unfold b6.«set.add» b6.Frozenset.oneOther;simp only[je,bind_assoc];unfold iW;refine ad (af ?_)
 try dsimp only
 refine ad (af ?_)
 try dsimp only
 refine ad ?_;refine ST.addM (kn.kd H1) (show X.A.units + 1 < b7 by omega) M isk hn fun h' tk ks' M' sb kp tk'=>?_
 show aE _ _ (ret bQ) _ _ _;refine af ⟨_,rfl,af ?_⟩;obtain⟨es',ep',t',i1',hled',i2'⟩:=M'.ex;obtain⟨ps',hpp',hks,hpi'⟩:=kn.ofI i1' M'.nd i2';have ho':=(kn.kd H1).obj i1';have I2:Inv X pins σ (upd H1 p (stO p es' ep' t')) { s1 with heap:=h',toks:=tk }:=I1.write (x:=p) (e:=p) (by rw[hp];exact trivial) (.inl rfl) (fun b u hb hu=>(sb.2 b hb).trans hu) ⟨_,ho'⟩ ⟨ho',⟨_,ho'⟩,fun g1 g2 g k=>k _ g⟩
 have tk1:TKp H1 (upd H1 p (stO p es' ep' t')):=tkp_ext hp;refine⟨σ,_,I2,Wk.refl σ,n _ ⟨es',ep',t',ps',upd_same,hled',by rw[hks];exact hpi',Paired.imp (fun _ _ z=>⟨z.1,kn.mo tk1 z.2⟩) hpp',by rw[hks];exact M'.nd,by rw[hks];exact M'.mem⟩⟩
end
end L2
namespace ST
open PySem PySem.SetTable PySem.Spec PyProof.Rows
end ST
namespace L2
open PySem PySem.Spec PyProof.Rows
theorem dT_tkp {K:Fg} {H H':Hp} {v:V} {k:List Str} (t:TKp H H') (h:dT K dS H v k):dT K dS H' v k:=by
 obtain⟨a,xs,e,sq,p⟩:=h;refine⟨a,xs,e,?_,p⟩;rcases sq with sq | sq
 ·exact .inl (t a xs sq)
 ·exact .inr sq
def tupKn (P:ay) (w:aI) (K:Fg):SKn P w K (List Str) where
 kd:=fun H=>ST.restr (ST.tupKd P w) fun k v=>∃ x,RelV x v/\dT K dS H x k
 rp:=fun H v k=>dT K dS H v k
 pI:=fun es t ks=>ST.SetI es t/\aZ (fun(e:Int × ae) k=>e.1=ST.hashT P w k) es.toList ks/\(t.plain=true->∀ k∈ks,k=[])
 toI:=fun {X pins σ H s p es ep t ps} e1 e2 e3 I ho hpi hp=>by
  subst e1 e2 e3;obtain⟨h1,h2,h3⟩:=hpi;have is:aZ (fun(e:Int × ae) k=>(ST.TK X.prog X.w s.heap k e.2/\∃ x,RelV x e.2/\dT X.K dS H x k)/\e.1=ST.hashT X.prog X.w k) es.toList (ps.map (·.2)):=by
   clear h3 h1 ho;generalize es.toList=l at hp h2
   induction l generalizing ps with
   | nil=>cases hp;exact .nil
   | cons e l ih =>
    cases hp with
    | cons q1 q2 =>
     cases h2 with
     | cons z1 z2 =>
      refine .cons ⟨⟨?_,_,q1.1,q1.2⟩,z1⟩ (ih q2 z2);obtain⟨r,b,ys,e3,hq,pp⟩:=q1;rw[e3] at r;have r:e.2=.ref b:=r;obtain⟨its,ri,tp,_⟩:=I.tuple hq;rw[r];exact tk_of (K:=X.K) pp ri tp
  refine⟨⟨⟨⟨ho,h1⟩,fun e he=>?_,fun hpl e he=>?_⟩,fun e he=>?_⟩,Paired.imp (fun _ _ z=>z.1) is⟩
  ·obtain⟨k,_,q⟩:=ST.paired_mem is e he;exact⟨k,q.1.1,q.2⟩
  ·obtain⟨k,hk,q⟩:=ST.paired_mem is e he;rw[h3 hpl k hk] at q;exact q.1.1
  ·obtain⟨k,_,q⟩:=ST.paired_mem is e he;exact⟨k,q.1⟩
 toIs:=fun {X pins σ H s x v k} e1 e2 e3 I r d=>by
  subst e1 e2 e3;refine⟨?_,x,r,d⟩;obtain⟨b,ys,e3,hq,pp⟩:=d;rw[e3] at r;have r:v=.ref b:=r;obtain⟨its,ri,tp,_⟩:=I.tuple hq;rw[r];exact tk_of (K:=X.K) pp ri tp
 ofI:=fun {H h p es ep t ks} hI nd hp=>by
  obtain⟨ps,a,b⟩:=pv_of (K:=K) (H:=H) hp;refine⟨ps,a,b.symm,hI.1.1.inv,?_,fun hpl k hk=>?_⟩
  ·have hel:=hI.1.2.1;clear a b nd hI;generalize es.toList=l at hp hel
   induction l generalizing ks with
   | nil=>cases hp;exact .nil
   | cons e l ih =>
    cases hp with
    | cons q1 q2 =>
     refine .cons ?_ (ih q2 fun e he=>hel e (ao _ he));obtain⟨k,z1,z2⟩:=hel e am;rw[z2,z1.inj q1.1]
  ·obtain⟨e,he,q⟩:=ST.paired_mem' hp k hk;exact q.1.inj (hI.1.2.2 hpl e he)
 fr:=fun led=>⟨ST.fresh_ok _ _ _,.nil,fun _ k hk=>by cases hk⟩
 mo:=fun t h=>dT_tkp t h
theorem compStart_set {prog:ay} {w:aI} {A:a6} {R:Result->ai->Prop} {s:ai} {elt target iter:Expr} {ifs:List Expr} {rest:List eI} {scope:Scope} {pos:Pos} {it acc:ae} {env:Env}
  (h0:gI (aF prog w) A (.compLoop (.SetComp elt (⟨target,iter,ifs,0⟩::rest) scope pos) 0 it acc env) R s)
  (h:aE (aF prog w) A (pyIter it) (fun it' s'=>gI (aF prog w) A (.compLoop (.SetComp elt (⟨target,iter,ifs,0⟩::rest) scope pos) 0 it' acc env) R s')
   (notedBy (aF prog w) A env fun x s'=>R (.error x) s') s) :
  gI (aF prog w) A (.compStart (.SetComp elt (⟨target,iter,ifs,0⟩::rest) scope pos) 0 it acc env) R s:=by
 refine codeAny_of_tree ?_;show aE _ _ ((compStart (.SetComp elt (⟨target,iter,ifs,0⟩::rest) scope pos) 0 it acc env).onRaise (fun x=>do noteFrame x env;jq theWindowsPlace)) _ _ s
 refine wpAny_notedAt ?_;unfold compStart;show aE _ _ (ask >>= _) _ _ s;refine ad (dE (wpAny_ite ?_))
 split
 ·first
   | exact ad (af (af (And.intro rfl h0)))
   | exact af (And.intro rfl h0)
 ·refine ad (d9 ?_);show aE _ _ (jq iter.pos >>= _) _ _ s;exact ad (gK (ad (d7 h (fun it' s' h'=>af (And.intro rfl h')) fun _ _ x=>x)))
section
variable {X:Cx} {K:Fg} {κ:Type} {pins:List (Addr × Obj)} {σ:St} {H:Hp} {s:ai}
def tComp2S {P:ay} {w:aI} (kn:SKn P w K κ) (is:List (Option Nat)) (wi:TI) (g:TG) (tt:TT) (tb:Addr->TB):TE:=fun σ H Q=>wi σ H fun J H1=>∀ p,H1 p=none->∀ φ,StV kn (upd H1 p (.ext φ)) p []->LoopW J (capt is σ) g tt (tb p) (Q (.ref p)) (upd H1 p (.ext φ))
theorem comp_genS {P:ay} {w:aI} {kn:SKn P w K κ} (hw:X.w=w) {elt target iter:Expr} {ifs:List Expr} {gs:List eI} {scope:Scope} {pos:Pos} {N':List Str} {is:List (Option Nat)} {wi:TI} {g:TG} {tt:TT} {tb:Addr->TB} {oc:Option Str} {m:ae->Env->Sem Unit} (hcalm:X.calm=true) (hN:X.N.Nodup)
  (hturn:∀ it acc env,fq (.SetComp elt (⟨target,iter,ifs,0⟩::gs) scope pos) 0 it acc env=turnOf target ifs iter.pos (m acc env) (.compLoop (.SetComp elt (⟨target,iter,ifs,0⟩::gs) scope pos) 0 it acc env) it env)
  (cp:Cap X.N scope N' is) (hi:PI X target iter wi)
  (hg:∀ cl C fp s H,PG (cxComp2 X N' scope cl C fp s H oc) target g) (ht:∀ cl C fp s H,PTs (cxComp2 X N' scope cl C fp s H oc) ifs tt) (hb:∀ cl C fp s H D,PB (cxComp2 X N' scope cl C fp s H oc) (m (.ref D) (gO scope cl C X.env)) (tb D))
  (hcf:∀ n acc,eK n scope.names acc=ocl oc n acc) (hpc:∀ h,f9 h scope.names=ohp oc h)
  (hkind:scope.kind=.function) (hcell:∀ y∈scope.names,y.2=.cell->oc=some y.1)
  (hu:∀ y∈scope.names,scope.names.lookup y.1=some y.2) (hoc:∀ x,oc=some x->scope.names.lookup x=some .cell)
  (hVb:okV scope.names X.env.scope.names=true)
  (hs:∀ x,cB iter X.env x=pure x)
  {use:Option (ae->Sem Unit)} {Q:VK} {Qv:ae->ai->Prop} (I:Inv X pins σ H s) (h:tComp2S kn is wi g tt tb σ H Q)
  (fin:∀ D C H5 s6,Inv X pins σ H5 s6->(∃ m,s6.heap.Ns C m)->FrC X pins C H5->Q (.ref D) H5->compPost (aF X.prog X.w) X.A X.xe use Qv (.ref D) C (.ok .next) s6) :
  aE (aF X.prog X.w) X.A (comprehension (.SetComp elt (⟨target,iter,ifs,0⟩::gs) scope pos) scope X.env (firstIterPos (⟨target,iter,ifs,0⟩::gs) pos) (newSet (.type "set")) (firstAsync (⟨target,iter,ifs,0⟩::gs)) (firstIter (⟨target,iter,ifs,0⟩::gs) X.env) use) Qv X.xe s:=by
 have hV:=okV_ok hVb;have hV':∀ x,(x,aT)∈scope.names->Vis X.env.scope x/\X.env.scope.names.lookup x≠some .local:=fun x hx=>hV (x,.free) hx rfl;have hu':∀ x,(x,aT)∈scope.names->scope.names.lookup x=some .free:=fun x hx=>hu (x,.free) hx;have hnames:∀ x∈scope.names,x.2=.local->scope.names.lookup x.1=some .local:=fun x hx hl=>by rw[hu x hx,hl]
 obtain⟨cl,hclos,c1,c2,c3⟩:=closureFor_of' (env:=X.env) (scope:=scope) fun x hx=>I.ok.has x (by
  obtain⟨v,n⟩:=hV' x hx;rcases v with v | v | v
  ·exact absurd v n
  ·exact .inl v
  ·exact .inr v)
 have hun:∀ x,oc=some x->cl.lookup x=none:=fun x hx=>by
  cases e:cl.lookup x with
  | none=>rfl
  | some c =>
   have:=hu' x (c3 x c e)
   rw[hoc x hx] at this;cases this
 refine wpAny_comprehension_free (use:=use) rfl hs hclos hkind hnames (thn (hi pins s σ H _ I h) fun v s1 h1=>thn h1 fun itv s2 h2=>?_);obtain⟨it,fp,tn,J,H2,rfl,I2,T,st2,f2,q2⟩:=h2;unfold newSet jx;refine ad (ad (dE (af ?_)));dsimp only;refine bm ?_;have hD:H2 s2.heap.objs.size=none:=I2.hok.fresh (Nat.le_refl _);have fpl:∀ b∈fp,b < s2.heap.objs.size:=fun b hb=>by obtain⟨o,e,_⟩:=T.obj _ _ st2 b hb;exact aC e
 have led:(!(X.w.params.followText "set-order"))=ST.ledOf X.w:=rfl;have I3:Inv X pins σ (upd H2 s2.heap.objs.size (stO s2.heap.objs.size #[] 0 (.fresh 0 0 (ST.ledOf X.w)))) { s2 with heap:=s2.heap.push (ST.setOb #[] 0 (.fresh 0 0 (ST.ledOf X.w))) } :=
  I2.laid (t':=s2.toks) (fun b u e=>ah _ e) (Nat.le_refl _) ⟨av _ rfl,⟨_,av _ rfl⟩,fun g1 g2 g k=>k _ g⟩
 have st3:tn 0 (s2.heap.push (ST.setOb #[] 0 (.fresh 0 0 (ST.ledOf X.w)))):=T.keep _ _ _ st2 fun b hb o e=>ah _ e;have f3:∀ b∈fp,FpOk X pins (upd H2 s2.heap.objs.size (stO s2.heap.objs.size #[] 0 (.fresh 0 0 (ST.ledOf X.w)))) b:=fun b hb=>⟨by rw[upd_ne (Nat.ne_of_lt (fpl b hb))];exact(f2 b hb).1,(f2 b hb).2⟩
 have fpl3:∀ b∈fp,b < (s2.heap.push (ST.setOb #[] 0 (.fresh 0 0 (ST.ledOf X.w)))).objs.size:=fun b hb=>by rw[cP];exact Nat.lt_succ_of_lt (fpl b hb)
 have q3:=q2 _ hD _ (⟨#[],0,_,[],upd_same,by rw[<- hw];rfl,kn.fr _,.nil,d8,fun _=>Iff.rfl⟩:StV kn (upd H2 s2.heap.objs.size (stO s2.heap.objs.size #[] 0 (.fresh 0 0 (ST.ledOf X.w)))) _ [])
 show aE (aF X.prog X.w) X.A _ _ X.xe { s2 with heap:=s2.heap.push (ST.setOb #[] 0 (.fresh 0 0 (ST.ledOf X.w))) }
 change LoopW _ _ _ _ _ _ (upd H2 s2.heap.objs.size (stO s2.heap.objs.size #[] 0 (.fresh 0 0 (ST.ledOf X.w)))) at q3;generalize hob:ST.setOb #[] 0 (.fresh 0 0 (ST.ledOf X.w))=ob at *
 generalize hso:stO s2.heap.objs.size #[] 0 (.fresh 0 0 (ST.ledOf X.w))=so at *
 generalize hDe:s2.heap.objs.size=D at *
 generalize hs3:({ s2 with heap:=s2.heap.push ob }:ai)=s3 at *
 have hsh:s3.heap=s2.heap.push ob:=by rw[<- hs3]
 rw[<- hsh] at st3 fpl3;have ok:=cxComp2_ok (N':=N') (cl:=cl) (oc:=oc) I3 f3 fpl3 hkind c1 c2 hcell hun;have I4:=comp2_start I3 ok hN c1 c2 hu' cp hV' hun;refine env_new ?_;rw[hcf,hpc];have kp:∀ b o,s3.heap.get? b=some o->(ohp oc (s3.heap.push { cls:=.type "dict",data:=.dict #[] })).get? b=some o:=fun b o e=>ohp_keep (ah _ e);have st4:tn 0 (ohp oc (s3.heap.push { cls:=.type "dict",data:=.dict #[] })):=T.keep _ _ _ st3 fun b _ o e=>kp b o e;have f4:∀ b∈fp,FpOk (cxComp2 X N' scope (ocl oc (s3.heap.objs.size + 1) cl) s3.heap.objs.size fp s3 (upd H2 D so) oc) [] (upd H2 D so) b:=fun b hb =>
  ⟨(f3 b hb).1,(ok.exf b hb).1,ok.exfs b hb,.inl hb,(ok.exf b hb).2,fun p hp=>absurd (show p∈([]:List (Addr × Obj)) from hp) (by simp)⟩
 have loop:=loop_run (X:=cxComp2 X N' scope (ocl oc (s3.heap.objs.size + 1) cl) s3.heap.objs.size fp s3 (upd H2 D so) oc) (e:=.SetComp elt (⟨target,iter,ifs,0⟩::gs) scope pos) (d:=0) (acc:=.ref D)
  (R:=compPost (aF X.prog X.w) X.A X.xe use Qv (.ref D) s3.heap.objs.size) hcalm rfl (hturn _ _ _) rfl rfl T (hg _ _ _ _ _) (ht _ _ _ _ _) (hb _ _ _ _ _ D) I4 st4 f4 q3 (by
   intro H5 s6 I6 _ qn;obtain⟨m6,n6,_⟩:=id I6.loc;have un:Un (frs X.stack) fp (upd H2 D so) H5 s3.heap s6.heap:=I6.base;have hok':HOk X.prog X.w H5 s6.heap:=I6.hok;refine fin D s3.heap.objs.size H5 s6 (I3.call' (s':=s6) (ch:=fp) I6.os un hok' I6.bare fun b hb=>⟨(f3 b hb).2.2.2.1,(f3 b hb).2.1,(f3 b hb).2.2.2.2.1,(f3 b hb).2.2.2.2.2⟩) ⟨m6,n6⟩ ⟨I6.free,Nat.ne_of_gt I3.lt,I3.sz,fun x c e z=>?_,fun p hp z=>?_⟩ qn
   ·obtain⟨v,q⟩:=I3.cell x c e;exact absurd q.lt (by rw[z];exact Nat.lt_irrefl _)
   ·exact absurd (aC (I3.pin p hp).1) (by rw[z];exact Nat.lt_irrefl _))
 exact compStart_set loop (T.self _ 0 _ _ _ st4 loop)
theorem pe_compGS {P:ay} {w:aI} {kn:SKn P w K κ} {elt target iter:Expr} {ifs:List Expr} {gs:List eI} {scope:Scope} {pos:Pos} {N':List Str} {is:List (Option Nat)} {wi:TI} {g:TG} {tt:TT} {tb:Addr->TB} {oc:Option Str} {m:ae->Env->Sem Unit} (hw:X.w=w) (hcalm:X.calm=true) (hN:X.N.Nodup)
  (hturn:∀ it acc env,fq (.SetComp elt (⟨target,iter,ifs,0⟩::gs) scope pos) 0 it acc env=turnOf target ifs iter.pos (m acc env) (.compLoop (.SetComp elt (⟨target,iter,ifs,0⟩::gs) scope pos) 0 it acc env) it env)
  (cp:Cap X.N scope N' is) (hi:PI X target iter wi)
  (hg:∀ cl C fp s H,PG (cxComp2 X N' scope cl C fp s H oc) target g) (ht:∀ cl C fp s H,PTs (cxComp2 X N' scope cl C fp s H oc) ifs tt) (hb:∀ cl C fp s H D,PB (cxComp2 X N' scope cl C fp s H oc) (m (.ref D) (gO scope cl C X.env)) (tb D))
  (hcf:∀ n acc,eK n scope.names acc=ocl oc n acc:=by intro _ _;rfl) (hpc:∀ h,f9 h scope.names=ohp oc h:=by intro _;rfl)
  (hkind:scope.kind=.function:=by rfl) (hcell:∀ y∈scope.names,y.2=.cell->oc=some y.1:=by decide +kernel)
  (hu:∀ y∈scope.names,scope.names.lookup y.1=some y.2:=by decide +kernel) (hoc:∀ x,oc=some x->scope.names.lookup x=some .cell:=by intro x h;cases h <;> rfl)
  (hVb:okV scope.names X.env.scope.names=true:=by first | rfl | kernel_rfl)
  (hs:∀ x,cB iter X.env x=pure x:=by intro _;rfl) :
  PE X (.SetComp elt (⟨target,iter,ifs,0⟩::gs) scope pos) (tComp2S kn is wi g tt tb):=by
 intro pins s σ H Q I h;rw[arm_eval_SetComp];refine comp_genS hw hcalm hN hturn cp hi hg ht hb hcf hpc hkind hcell hu hoc hVb hs I h fun D C H5 s6 I6 ⟨m,n⟩ fc qn=>?_;exact⟨m,n,fun h' sb=>⟨.ref D,H5,fc.gone I6 sb,rfl,qn⟩⟩
end
section
variable {X:Cx} {K:Fg} {pos:Pos} {k:Nat} {κ:Type}
theorem tkp_e {F:Am} {S S':Sto} {H H':Hp} (r:Rp K F S H) (x:Ext S H S' H'):TKp H H':=fun a xs h=>by
 have hS:S a=none:=aK fun n=>r.ntup h (.inl n);rcases h with h | ⟨o,h⟩
 ·exact .inl (x.keep _ _ hS h)
 ·exact .inr ⟨o,x.keep _ _ hS h⟩
def BodyOkS {P:ay} {w:aI} (kn:SKn P w K κ) (enc:κ->D) (L:List Nat) (tv:Addr->TB) (td:BD):Prop:=∀ D' F S H Γ σ acc N QD,Free L σ->F D'->Rp K F S H->RepG K (mt S F) H Γ σ->StV kn H D' acc->td Γ S (acc.map enc) QD ->
 (∀ acc' S' H',ExtX D' S H S' H'->Rp K F S' H'->StV kn H' D' acc'->QD (acc'.map enc) S'->N H')->tv D' σ H N
def emitS (enc:κ->D) (te:ED):BD:=fun Γ S acc Q=>te Γ S fun y S1=>∃ k,y=enc k/\acc.length + 1<=300/\Q (acc++[y]) S1
theorem extx_upd {D':Addr} {S:Sto} {H:Hp} {o:HO}:ExtX D' S H S (upd H D' o):=⟨fun a o n _ e=>by rw[upd_ne n];exact e,fun a h=>by
  by_cases e:a=D'
  ·subst e;rw[upd_same];exact fun z=>by cases z
  ·rw[upd_ne e];exact h,fun a h=>.inl h⟩
theorem rp_updF {D':Addr} {F:Am} {S:Sto} {H:Hp} {o:HO} (r:Rp K F S H) (hF:F D') (ho:Clt o):Rp K F S (upd H D' o) :=
 ⟨fun a u e=>(r.obj a u e).keep (extx_upd.kp hF) (upd_ne (by rintro rfl;rw[(r.frm a hF).2] at e;cases e)),fun a h=>by
   obtain⟨⟨ys,e,ct⟩,h2⟩:=r.frm a h
   by_cases z:a=D'
   ·subst z;exact⟨⟨_,upd_same,ho⟩,h2⟩
   ·exact⟨⟨ys,by rw[upd_ne z];exact e,ct⟩,h2⟩⟩
theorem bo_emitS {P:ay} {w:aI} {kn:SKn P w K κ} {enc:κ->D} (hrep:∀ M H k v,RepV K M H (enc k) v->kn.rp H v k) {L:List Nat} {te:ED}:BodyOkS kn enc L (fun D'=>tEmitS kn D' (upE K te)) (emitS enc te):=by
 intro D' F S H Γ σ acc N QD _ hF r g st q c;refine⟨F,S,Γ,_,r,g,q,fun v d H1 S1 x1 r1 v1 ⟨k,e,hz,q1⟩=>?_⟩;have hS:S D'=none:=(r.frm D' hF).2;obtain⟨φ0,h0⟩:=st.at
 have e1:H1 D'=H D':=by rw[h0];exact x1.keep _ _ hS h0
 have st1:StV kn H1 D' acc:=st.keep e1 (tkp_e r x1);subst e;refine⟨acc,k,st1,hrep _ _ _ _ v1,by simpa using hz,fun φ st2=>c (acc++[k]) S1 _ (x1.x.trans extx_upd) (rp_updF r1 hF trivial) st2 (by rw[br];exact q1)⟩
theorem loop_okS {P:ay} {w:aI} {kn:SKn P w K κ} {enc:κ->D} {L L':List Nat} {g:TG} {gd:GD} {tt:TD} {tv:Addr->TB} {tb:BD} (hg:CG K L L' g gd) (hb:BodyOkS kn enc L' tv tb) {D':Addr} {F:Am} {S:Sto} {H:Hp} {Γ:Gm} {σ:St} {acc:List κ} {N:Hp->Prop} {QD:List D->Sto->Prop} {J:It} {xs:List D} {G:Sto->Prop}
  (f:Free L σ) (hF:F D') (r:Rp K F S H) (gm:RepG K (mt S F) H Γ σ) (st:StV kn H D' acc) (it:∀ S2 H2,ExtX D' S H S2 H2->Rp K F S2 H2->G S2->(∀ i d,xs[i]?=some d->J.go i H2/\∀ x H3,J.yld i H2 x H3->Ext S2 H2 S2 H3/\Rp K F S2 H3/\RepV K (mt S2 F) H3 d x)/\J.stop xs.length H2)
  (q:loopD gd tt tb G Γ xs (acc.map enc) S QD) (c:∀ acc' S' H',ExtX D' S H S' H'->Rp K F S' H'->StV kn H' D' acc'->QD (acc'.map enc) S'->N H'):LoopW J σ g (upT K tt) (tv D') N H:=by
 refine⟨fun i m H'=>m=xs.length - i/\i<=xs.length/\∃ S' acc',ExtX D' S H S' H'/\Rp K F S' H'/\StV kn H' D' acc'/\loopD gd tt tb G Γ (xs.drop i) (acc'.map enc) S' QD,⟨xs.length,by simp,Nat.zero_le _,S,acc,(Ext.refl _ _).x,r,st,by simpa using q⟩,?_⟩
 rintro i m H' ⟨rfl,hi,S',acc',x2,r2,st2,f2⟩;have g2:=gm.keep (x2.kp hF)
 by_cases hlt:i < xs.length
 ·rw[drop_cons hlt] at f2;obtain⟨hG,f2⟩:=f2;obtain⟨hgo,hy⟩:=(it S' H' x2 r2 hG).1 i xs[i] (ag hlt);refine .inr ⟨hgo,fun H''=>∃ S'' acc'',ExtX D' S H S'' H''/\Rp K F S'' H''/\StV kn H'' D' acc''/\loopD gd tt tb G Γ (xs.drop (i + 1)) (acc''.map enc) S'' QD,fun H'' z=>⟨xs.length - (i + 1),by omega,rfl,hlt,z⟩,fun x H3 y3=>?_⟩
  obtain⟨x3,r3,v3⟩:=hy x H3 y3;refine hg F S' H3 Γ σ xs[i] x _ _ f r3 (g2.ext x3) v3 f2 fun Γ4 S4 σ4 H4 x4 r4 g4 wk fr4 q4=>⟨wk,F,S4,Γ4,_,r4,g4,q4,fun z H5 S5 x5 r5 q5=>?_⟩;have x35:=x3.trans (x4.trans x5);obtain⟨φ0,h0⟩:=st2.at
  have h5:H5 D'=H' D':=by rw[h0];exact x35.keep _ _ (r2.frm D' hF).2 h0
  have st5:StV kn H5 D' acc':=st2.keep h5 (tkp_e r2 x35);have x05:ExtX D' S H S5 H5:=x2.trans x35.x;cases z with
  | false=>exact⟨S5,acc',x05,r5,st5,q5⟩
  | true=>exact hb D' F S5 H5 Γ4 σ4 acc' _ _ fr4 hF r5 (g4.ext x5) st5 q5 fun acc6 S6 H6 x6 r6 st6 q6=>⟨S6,acc6,x05.trans x6,r6,st6,q6⟩
 ·have e:i=xs.length:=by omega
  subst e;rw[fE] at f2;exact .inl ⟨(it S' H' x2 r2 f2.1).2,c acc' S' H' x2 r2 st2 f2.2⟩
theorem up_compS {P:ay} {w:aI} {kn:SKn P w K κ} {enc:κ->D} {L L':List Nat} {is:List (Option Nat)} {wi:ID} {g:TG} {gd:GD} {tt:TD} {tv:Addr->TB} {tb:BD} (hL:∀ σ,Free L (capt is σ)) (hg:CG K L L' g gd) (hb:BodyOkS kn enc L' tv tb)
  {σ:St} {H:Hp} {Q:VK} {F:Am} {S:Sto} {Γ:Gm} {QD:List D->Sto->Prop} (r:Rp K F S H) (gm:RepG K (mt S F) H Γ σ) (q:wi Γ S fun xs G S1=>loopD gd tt tb G (captD is Γ) xs [] S1 QD)
  (c:∀ p ks H' S',Ext S H S' H'->Rp K F S' H'->StV kn H' p ks->QD (ks.map enc) S'->Q (.ref p) H'):tComp2S kn is (upI K wi) g (upT K tt) tv σ H Q :=
 ⟨F,S,Γ,_,r,gm,q,fun J xs G H1 S1 x1 r1 it q1 D' hD φ st=>by
  have hS1:S1 D'=none:=r1.sn hD;have fe:FE F H1 (fun a=>F a\/a=D'):=fun a h=>h.elim .inl fun e=>.inr (by rw[e];exact hD)
  have nF:¬ F D':=fun h=>by
   obtain⟨⟨ys,e,_⟩,_⟩:=r1.frm D' h;rw[hD] at e;cases e
  have xe:Ext S1 H1 S1 (upd H1 D' (.ext φ)):=Ext.same (same_upd hD);have kp:Keep (mt S1 F) H1 (mt S1 fun a=>F a\/a=D') (upd H1 D' (.ext φ)):=xe.w.kpF fe;have r2:Rp K (fun a=>F a\/a=D') S1 (upd H1 D' (.ext φ)):=⟨fun a o e=>(r1.obj a o e).keep kp (upd_ne (by rintro rfl;rw[hS1] at e;cases e)),fun a h=>by
   rcases h with h | h
   ·obtain⟨⟨ys,e,ct⟩,h2⟩:=r1.frm a h;exact⟨⟨ys,by rw[upd_ne (by rintro rfl;rw[hD] at e;cases e)];exact e,ct⟩,h2⟩
   ·subst h;exact⟨⟨_,upd_same,trivial⟩,hS1⟩⟩
  have old:∀ {S2 H2},ExtX D' S1 (upd H1 D' (.ext φ)) S2 H2->Ext S1 H1 S2 H2:=fun {S2 H2} y=>⟨fun a o h e=>y.keep a o (by rintro rfl;rw[hD] at e;cases e) h (by rw[upd_ne (by rintro rfl;rw[hD] at e;cases e)];exact e),fun a h=>y.live a (xe.live a h),fun a h=>by
   rcases y.new a h with z | z
   ·exact .inl z
   ·by_cases e:a=D'
    ·subst e;exact .inr hD
    ·rw[upd_ne e] at z;exact .inr z⟩
  refine loop_okS hg hb (hL σ) (F:=fun a=>F a\/a=D') (.inr rfl) r2 ((gm.ext x1).keep kp |>.capt is) st (fun S2 H2 y r2 hG=>⟨it.go _ fe S2 H2 (old y).w r2 hG,it.stop _ fe S2 H2 (old y).w r2 hG⟩) q1 fun acc' S' H' y r3 st3 q3=>?_
  have less:Keep (mt S' fun a=>F a\/a=D') H' (mt S' F) H':=⟨fun _ _ _ e=>e,fun a h _=>fun z=>h (z.elim .inl fun w=>.inr (.inl w))⟩;have r4:Rp K F S' H':=⟨fun a o e=>(r3.obj a o e).keep less rfl,fun a h=>r3.frm a (.inl h)⟩;exact c D' acc' H' S' (x1.trans (old y)) r4 st3 q3⟩
def srtC (enc:κ->D) (lt:κ->κ->Bool) (b:Bool) (is:List (Option Nat)) (wi:ID) (g:GD) (tt:TD) (tb:BD):ED:=fun Γ S Q=>wi Γ S fun xs G S1=>loopD g tt tb G (captD is Γ) xs [] S1 fun acc S2=>∃ ks:List κ,acc=ks.map enc/\∀ out:List κ,out.Nodup->(∀ t,t∈out↔t∈ks)->out.length < 300/\(out.Pairwise (fun a b=>lt a b=true)->newL b (out.map enc) S2 Q)
theorem map_inj {α β:Type} {f:α->β} (hf:∀ x y,f x=f y->x=y):∀ {l m:List α},l.map f=m.map f->l=m
 | [],[],_=>rfl
 | [],_::_,h=>by cases h
 | _::_,[],h=>by cases h
 | x::l,y::m,h=>by
  rw[aG,aG] at h;injection h with h1 h2
  rw[hf _ _ h1,map_inj hf h2]
theorem tupS_inj (x y:List Str) (h:tupS x=tupS y):x=y:=by
 unfold tupS at h;injection h with h
 exact map_inj (fun a b e=>by injection e) h
section
variable {elt target iter:Expr} {ifs:List Expr} {gs:List eI} {scope:Scope} {N':List Str} {is:List (Option Nat)} {wi:ID} {g:TG} {gd:GD} {tt:TD} {tv:Addr->TB} {tb:BD} {oc:Option Str} {m:ae->Env->Sem Unit} {b:Bool} {p pos':Pos}
theorem e_srtCT (L L':List Nat) (hr:Room k X.A) (hgl:Gl X "sorted") (hm:X.mg "sorted" = none) (hcalm:X.calm=true) (hN:X.N.Nodup)
  (hturn:∀ it acc env,fq (.SetComp elt (⟨target,iter,ifs,0⟩::gs) scope pos') 0 it acc env=turnOf target ifs iter.pos (m acc env) (.compLoop (.SetComp elt (⟨target,iter,ifs,0⟩::gs) scope pos') 0 it acc env) it env)
  (cp:Cap X.N scope N' is) (hL:∀ σ,Free L (capt is σ)) (hi:PID K X target iter wi) (hgd:CG K L L' g gd)
  (hg:∀ cl C fp s H,PG (cxComp2 X N' scope cl C fp s H oc) target g) (ht:∀ cl C fp s H,PTs (cxComp2 X N' scope cl C fp s H oc) ifs (upT K tt)) (hbd:BodyOkS (tupKn X.prog X.w K) tupS L' tv tb) (hb:∀ cl C fp s H D,PB (cxComp2 X N' scope cl C fp s H oc) (m (.ref D) (gO scope cl C X.env)) (tv D))
  (hcf:∀ n acc,eK n scope.names acc=ocl oc n acc:=by intro _ _;rfl) (hpc:∀ h,f9 h scope.names=ohp oc h:=by intro _;rfl)
  (hkind:scope.kind=.function:=by rfl) (hcell:∀ y∈scope.names,y.2=.cell->oc=some y.1:=by decide +kernel)
  (hu:∀ y∈scope.names,scope.names.lookup y.1=some y.2:=by decide +kernel) (hoc:∀ x,oc=some x->scope.names.lookup x=some .cell:=by intro x h;cases h <;> rfl)
  (hVb:okV scope.names X.env.scope.names=true:=by first | rfl | kernel_rfl)
  (hs:∀ x,cB iter X.env x=pure x:=by intro _;rfl) (hK:X.K=K:=by rfl)
  (h1:ax [Expr.SetComp elt (⟨target,iter,ifs,0⟩::gs) scope pos'] X.env=(false,eval (Expr.SetComp elt (⟨target,iter,ifs,0⟩::gs) scope pos') X.env)::ax [] X.env:=by rfl) (h3:(cw pos (ax [] X.env)).any (·.1)=false:=by rfl) :
  PD K X (.Call (.Name "sorted" p) [.SetComp elt (⟨target,iter,ifs,0⟩::gs) scope pos'] [] pos) (srtC tupS HT.lexS b is wi gd tt tb) :=
 .of (pe_callB (call_sortedStN (lt64 hr) hK rfl hcalm) hgl hm bt_sorted (pa_cons (pe_compGS (kn:=tupKn X.prog X.w K) rfl hcalm hN hturn cp hi.o hg ht hb hcf hpc hkind hcell hu hoc hVb hs) pa_nil h1) (by decide) (by decide) h1 h3) fun σ H Q z0=>z0.el fun F S Γ QD r gm q c =>
  show tComp2S (tupKn X.prog X.w K) is (upI K wi) g (upT K tt) tv σ H (fun v H1=>rSortStN X.w K [v] H1 Q) from up_compS hL hgd hbd r gm q fun p' ks H' S' x1 r1 st z1=>by
   obtain⟨ks',hk,q1⟩:=z1;have hk':ks=ks':=map_inj tupS_inj hk;subst hk';obtain⟨es,ep,t,ps,s1,s2,s3,s4,s5,s6⟩:=st;obtain⟨q2,q3⟩:=q1 (ps.map (·.2)) s5 s6;have few:t.plain=true->es.size<=1:=fun z=>by
    have hl:es.size=ps.length:=by have:=bV s4;simpa using this
    have h0:=s3.2.2 z;rw[hl];cases ps with
    | nil=>exact Nat.zero_le _
    | cons a ps =>
     cases ps with
     | nil=>exact Nat.le_refl _
     | cons b ps =>
      simp only[aG] at s5 h0;rw[h0 a.2 (by simp),h0 b.2 (by simp)] at s5
      exact absurd s5 (by simp)
   refine⟨_,ps.map (·.2),rfl,⟨p',es,ep,t,ps,rfl,s1,s3.1.fits,s2,few,s4,rfl⟩,s5,q2,fun l ys out hfr pm pw pp=>?_⟩;exact Cn.new (Cn.shift c x1) r1 hfr (tups_rep r1 pp) ((q1 out (pm.nodup_iff.mpr s5) fun t=>(pm.mem_iff).trans (s6 t)).2 pw)
end
end
end L2
set_option maxHeartbeats 4000000
namespace HT
open PySem PyProof.Rows
end HT
namespace L2
open PySem PySem.Spec PyProof.Rows
def lexN (lt:D->D->Bool):List D->List D->Bool
 | [],[]=>false
 | [],_::_=>true
 | _::_,[]=>false
 | x::xs,y::ys=>if x=y then lexN lt xs ys else lt x y
def ltN:Nat->D->D->Bool
 | _,.int i,.int j=>decide (i < j)
 | _,.str x,.str y=>HT.ltS x y
 | n + 1,.tup xs,.tup ys=>lexN (ltN n) xs ys
 | n + 1,.lst xs,.lst ys=>lexN (ltN n) xs ys
 | _,_,_=>false
def okLs (ok:D->D->Bool) (n:Nat):List D->List D->Bool
 | x::xs,y::ys=>okE n x y && (if x=y then okLs ok n xs ys else ok x y)
 | _,_=>true
def okL:Nat->D->D->Bool
 | _,.int _,.int _=>true
 | _,.str _,.str _=>true
 | n + 1,.tup xs,.tup ys=>okLs (okL n) n xs ys
 | n + 1,.lst xs,.lst ys=>okLs (okL n) n xs ys
 | _,_,_=>false
end L2
set_option maxHeartbeats 1000000
namespace L2
open PySem PySem.Spec PyProof.Rows
end L2
set_option maxHeartbeats 4000000
namespace L2
open PySem PySem.Spec PyProof.Rows
end L2
set_option maxHeartbeats 1000000
namespace L2
open PySem PySem.Spec PyProof.Rows
section
variable {X:Cx} {K:Fg} {pos:Pos} {k:Nat}
theorem tup_rep (M:Am) (H:Hp) (k:List Str) (v:V) (h:RepV K M H (tupS k) v):dT K dS H v k:=by
 unfold tupS RepV at h;obtain⟨a,xs,e,t,l⟩:=h;exact⟨a,xs,e,t.sq,repStrs l⟩
theorem bo_emT {P:ay} {w:aI} {L:List Nat} {te:ED}:BodyOkS (tupKn P w K) tupS L (fun D'=>tEmitS (tupKn P w K) D' (upE K te)) (emitS tupS te):=bo_emitS tup_rep
end
end L2
namespace L2
open PySem PyProof.Rows
section
variable {K:ar} {k:Nat}
theorem e_fn {P:ay} {w:aI} {mg:Str->Option ae} {base:be} {x:Str} {st:Stmt} {N ps:List Str} {sp:SpD} {f:Addr} {fd:dq} (Fn:Fun K x x st f fd) (S:FnScope N ps (defScope st))
  (len:∀ ds S Q,sp ds S Q->ds.length=ps.length)
  (h:∀ (cdv:ae) (A:a6) (outer:List Env) (s:ai) (H:Hp) (E:XK),Room k (A.deeper (iS x (defScope st) s.heap.objs.size f cdv)) ->
   ∃ t,PSsD K (cxOf CX0 P w K mg base N x (defScope st) f cdv A outer s H E).nox (defBody st) t/\∀ ds S Q,sp ds S Q->t (endsD Q) (startD N ds) S):FnOk P w K mg base CX0 (k + 1) f fd ps (spU K sp):=by
 refine Fn.ok S (fun vs H Q E z1=>by obtain⟨F,S,ds,QD,r,l,hsp,c⟩:=z1;rw[l.length];exact len ds S QD hsp) (fun cdv A outer s H vs Q E' hr z1=>?_)
 obtain⟨F,S,ds,QD,r,l,hsp,c⟩:=z1;obtain⟨t,h1,h2⟩:=h cdv A outer s H E' hr;have fin:∀ v d H' S',Ext S H S' H'->Rp K F S' H'->RepV K (mt S' F) H' d v->rtD QD d S'->Q v H':=fun v d H' S' x1 r1 v1 z2=>by
  obtain⟨d',S2,hs,fz,q⟩:=z2;exact c v d' H' S2 (x1.trans (Ext.less hs)) (r1.less hs) ((frz_ok r1 hs fz).1 v v1) q
 exact⟨_,h1.o,F,S,startD N ds,endsD QD,r,repStart l,h2 ds S QD hsp,fun Γ' S' σ' H' x1 r1 g1 q=>fin .non .non H' S' x1 r1 (by unfold RepV;rfl) q,fin,fun _ _ _ _ _ _ _ q=>q.elim,fun _ _ _ _ _ _ _ q=>q.elim⟩
end
theorem us1 {p:List ae->Prop} (h:∀ a,p [a]) (us:List ae) (ee:us.length=1):p us:=by
 cases us with
 | nil=>cases ee
 | cons a us =>
  cases us with
  | nil=>exact h a
  | cons z us=>exact absurd (Nat.succ.inj ee) (Nat.succ_ne_zero _)
theorem us2 {p:List ae->Prop} (h:∀ a b,p [a,b]) (us:List ae) (ee:us.length=2):p us:=by
 cases us with
 | nil=>cases ee
 | cons a us =>
  cases us with
  | nil=>cases ee
  | cons b us =>
   cases us with
   | nil=>exact h a b
   | cons z us=>exact absurd (Nat.succ.inj (Nat.succ.inj ee)) (Nat.succ_ne_zero _)
theorem us3 {p:List ae->Prop} (h:∀ a b c,p [a,b,c]) (us:List ae) (ee:us.length=3):p us:=by
 cases us with
 | nil=>cases ee
 | cons a us =>
  cases us with
  | nil=>cases ee
  | cons b us =>
   cases us with
   | nil=>cases ee
   | cons c us =>
    cases us with
    | nil=>exact h a b c
    | cons z us=>exact absurd (Nat.succ.inj (Nat.succ.inj (Nat.succ.inj ee))) (Nat.succ_ne_zero _)
theorem fsc {N ps:List Str} {sc:Scope} (a:sc.kind=.function:=by rfl) (b:sc.isCoroutine=false:=by rfl) (c:sc.isGenerator=false:=by rfl) (d:N.Nodup:=by decide +kernel) (e:N.take ps.length=ps:=by rfl) (f:∀ x∈ps,sc.names.lookup x=some .local\/sc.names.lookup x=some .cell:=by decide +kernel) (g:∀ y∈sc.names,y.2≠.free:=by decide +kernel):FnScope N ps sc:=⟨a,b,c,d,e,f,g⟩
theorem walkD {l:jB} {q:ay} {loose:List Str} {XP:(Str->Option ae)->be->Prop} {YP:aI->be->Prop} {d:DefRec} {K:Params->ar} (hn:l.most=some 63) (hdf:d.params.defaults=[])
  (hY:∀ (w:aI) (h:be),YP w h->(K w.params).In h)
  (F:∀ (w:aI) (mg:Str->Option ae) (fa:Addr) (h:be),(K w.params).In h->h.Ns a8 mg->mg d.name=some (.ref fa) ->
   ∃ fd:dq,(∀ (s:ai) (u:ae),BindsTo s fd ⟨[u],[]⟩ [("script",u)])/\∀ base:be,(K w.params).In base->base.Ns a8 mg->FnOk l.prog w (K w.params) mg base CX0 50 fa fd ["script"] (spU (K w.params) (spLawD 63))) :
  PySem.W.WalkO q loose XP YP l.row.toRowW d [] (fun f vs=>PySem.call f vs) :=
 L2.walk_of (n:=63) (k:=50) (x := "script") (CX:=fun _=>CX0) (sp:=fun w=>spU (K w.params) (spLawD 63)) hn (by decide) hdf ⟨rfl,by decide,by decide⟩ hY F (fun _ _ a ns hl _ hS=>law_sp hl hS) fun _ _ _ _ _ z=>z
end L2
namespace Toy
open PySem L2
def top (i:Nat):Stmt:=PySem.Challenge.pw_corepetals_k16_flowers_counted.main.body.getD i (.Pass ⟨0,0,0,0⟩)
end Toy
set_option maxHeartbeats 4000000
namespace L2
open PySem PySem.Spec PyProof.Rows
end L2
set_option maxHeartbeats 1000000
namespace L2
open PySem
def lettersZ:Str:=cb "abcdefghijklmnopqrstuvwxyz"
theorem letter_at {i:Nat} (h:i < 26):atI lettersZ.cps.toList (i:Int)=some (97 + i):=by
 have:∀ j:Fin 26,lettersZ.cps.toList[j.val]?=some (97 + j.val):=by decide +kernel
 exact atI_nat (this ⟨i,h⟩)
end L2
set_option maxHeartbeats 4000000
namespace L2
open PySem
theorem z9999 {n:Nat} (h:n<=9999):n<=sizeLine:=by rw[bF];lia
theorem erase_perm' {α:Type}:∀ (l:List α) (j:Nat) (h:j < l.length),(l[j]::l.eraseIdx j).Perm l
 | a::l,0,_=>.refl _
 | a::l,j + 1,h=>by
  have ih:=erase_perm' l j (by simpa using h)
  show(l[j]'(by simpa using h)::a::l.eraseIdx j).Perm (a::l)
  exact(jQ.swap _ _ _).trans (ih.cons a)
theorem perm_back {α β:Type} {f:α->β} (g:β->α) (hg:∀ x,g (f x)=x) {vs us:List β} {xs:List α} (h:(vs++us).Perm (xs.map f)):∃ as bs:List α,vs=as.map f/\us=bs.map f/\(as++bs).Perm xs:=by
 have mem:∀ y∈vs++us,f (g y)=y:=fun y hy=>by
  obtain⟨x,_,rfl⟩:=cC.mp (h.mem_iff.mp hy);rw[hg]
 have lift:∀ l:List β,(∀ y∈l,f (g y)=y)->l=(l.map g).map f:=fun l hl=>by
  rw[bo];apply fC (by simp)
  intro i h1 h2;rw[fD];exact(hl _ (d6 h1)).symm
 refine⟨vs.map g,us.map g,lift vs fun y hy=>mem y (cF _ hy),lift us fun y hy=>mem y (bj _ hy),?_⟩;have p:=h.map g;rw[br,bo] at p;have e:xs.map (g ∘ f)=xs:=by
  apply fC (by simp)
  intro i h1 h2;rw[fD];exact hg _
 rwa [e] at p
def dStr':D->Str
 | .str s=>s
 | _=>⟨#[]⟩
end L2
namespace Toy
open PySem L2
theorem app_len (a b:Str):(a++b).length=a.length + b.length:=by
 show(a.cps++b.cps).size=_;rw[e9];rfl
end Toy
namespace Toy
variable {α:Type}
def ch:List α->Nat->List (List α)
 | _,0=>[[]]
 | [],_ + 1=>[]
 | x::xs,n + 1=>(ch xs n).map (x::·)++ch xs (n + 1)
theorem ch_zero (xs:List α):ch xs 0=[[]]:=by cases xs <;> rfl
theorem ch_nil (n:Nat):ch ([]:List α) (n + 1)=[]:=rfl
theorem ch_cons (x:α) (xs:List α) (n:Nat):ch (x::xs) (n + 1)=(ch xs n).map (x::·)++ch xs (n + 1):=rfl
theorem ch_big:∀ (xs:List α) (n:Nat),xs.length < n->ch xs n=[]
 | [],0,h=>by simp at h
 | [],n + 1,_=>rfl
 | x::xs,0,h=>by simp at h
 | x::xs,n + 1,h=>by
  simp only[aO] at h;rw[ch_cons,ch_big xs n (by lia),ch_big xs (n + 1) (by lia)]
  rfl
theorem ch_len:∀ (xs:List α) (n:Nat),(ch xs n).length<=2 ^ xs.length
 | [],0=>by simp[ch]
 | [],n + 1=>by simp[ch]
 | x::xs,0=>by
  rw[ch_zero];exact Nat.one_le_two_pow
 | x::xs,n + 1=>by
  rw[ch_cons,az,ap,aO,Nat.pow_succ]
  have:=ch_len xs n
  have:=ch_len xs (n + 1)
  lia
theorem ch_mem:∀ {xs:List α} {n:Nat} {s:List α},s∈ch xs n->s.length=n/\s.Sublist xs
 | [],0,s,h=>by
  have:s=[]:=by simpa [ch] using h
  subst this;exact⟨rfl,.slnil⟩
 | [],n + 1,s,h=>by simp[ch] at h
 | x::xs,0,s,h=>by
  have:s=[]:=by simpa [ch] using h
  subst this;exact⟨rfl,List.nil_sublist _⟩
 | x::xs,n + 1,s,h=>by
  rw[ch_cons,aU,cC] at h;rcases h with⟨r,hr,rfl⟩ | h
  ·obtain⟨a,b⟩:=ch_mem hr;exact⟨by simp[a],b.cons_cons x⟩
  ·obtain⟨a,b⟩:=ch_mem h;exact⟨a,b.cons x⟩
theorem ch_drop (xs:List α) (i n:Nat) (h:i < xs.length):ch (xs.drop i) (n + 1)=(ch (xs.drop (i + 1)) n).map (xs[i]::·)++ch (xs.drop (i + 1)) (n + 1):=by
 rw[cM h]
 rfl
theorem mem_ch:∀ {xs:List α} {s:List α},s.Sublist xs->s∈ch xs s.length
 | [],s,h=>by
  have:s=[]:=List.sublist_nil.mp h
  subst this;simp[ch]
 | x::xs,[],h=>by simp[ch]
 | x::xs,y::s,h=>by
  rw[aO,ch_cons,aU,cC];cases h with
  | cons _ h=>right;exact mem_ch (s:=y::s) h
  | cons_cons _ h=>left;exact⟨s,mem_ch h,rfl⟩
end Toy
namespace Toy
variable {α:Type}
def ext (lt:α->α->Bool) (z:α) (sets:List α) (s:List α):List (List α):=(sets.filter fun o=>lt (s.getLastD z) o).map fun o=>s++[o]
theorem getLastD_mem {z:α}:∀ {s:List α},s≠[]->s.getLastD z∈s
 | [],h=>absurd rfl h
 | [x],_=>by simp
 | x::y::s,_=>by
  have:=getLastD_mem (z:=z) (s:=y::s) (by simp)
  simp only[iF] at this ⊢;exact ao _ this
theorem getLastD_cons' {z x:α}:∀ {s:List α},s≠[]->(x::s).getLastD z=s.getLastD z
 | [],h=>absurd rfl h
 | y::s,_=>by simp[iF]
theorem ch_one:∀ xs:List α,ch xs 1=xs.map fun x=>[x]
 | []=>rfl
 | x::xs=>by rw[ch_cons,ch_zero,ch_one xs];rfl
theorem fm_congr {β:Type} {f g:α->List β}:∀ {l:List α},(∀ a∈l,f a=g a)->l.flatMap f=l.flatMap g
 | [],_=>rfl
 | a::l,h=>by rw[bH,bH,h a am,fm_congr fun b hb=>h b (ao _ hb)]
theorem ch_ext {lt:α->α->Bool} {z:α}:∀ {sets:List α},sets.Pairwise (fun a b=>lt a b=true/\lt b a=false)->(∀ a,lt a a=false)->∀ k,(ch sets (k + 1)).flatMap (ext lt z sets)=ch sets (k + 2)
 | [],_,_,k=>rfl
 | x::xs,hp,irr,k=>by
  obtain⟨hx,hp'⟩:=bd.mp hp;have out:∀ s:List α,s≠[]->(∀ o∈s,o∈xs)->ext lt z (x::xs) s=ext lt z xs s:=fun s hs hm=>by
   unfold ext;rw[bJ,(hx _ (hm _ (getLastD_mem hs))).2]
   rfl
  have tail:(ch xs (k + 1)).flatMap (ext lt z (x::xs))=ch xs (k + 2):=by
   rw[<- ch_ext hp' irr k];refine fm_congr fun s hs=>?_;obtain⟨h1,h2⟩:=ch_mem hs;exact out s (by rintro rfl;simp at h1) fun o ho=>h2.subset ho
  rw[ch_cons,List.flatMap_append,tail,ch_cons (n:=k + 1)]
  congr 1
  cases k with
  | zero =>
   rw[ch_zero,ch_one];simp only[aG,eQ,bH,gH,bR];unfold ext;have e:([x]:List α).getLastD z=x:=rfl;rw[e,bJ,irr x];simp only[aL,if_false];rw[gX.mpr fun o ho=>(hx o ho).1,bo]
   rfl
  | succ k =>
   rw[<- ch_ext hp' irr k,List.flatMap_map,List.map_flatMap];refine fm_congr fun s hs=>?_;obtain⟨h1,h2⟩:=ch_mem hs;have hne:s≠[]:=by rintro rfl;simp at h1
   unfold ext;rw[getLastD_cons' hne,bJ,(hx _ (h2.subset (getLastD_mem hne))).2];simp only[aL,if_false,bo]
   rfl
theorem filter_flatMap {β:Type} {f:α->List β} {q:β->Bool}:∀ l:List α,(l.flatMap f).filter q=l.flatMap fun a=>(f a).filter q
 | []=>rfl
 | a::l=>by rw[bH,bH,fY,filter_flatMap l]
end Toy
namespace Toy
variable {β:Type} [DecidableEq β]
def Sun (s:List (List β)):Prop:=s.Pairwise fun a b=>∀ n,n∈a->n∈b->∀ o∈s,n∈o
def naG (s:List (List β)):List β:=(s.headD []).filter fun n=>s.all fun o=>decide (n∈o)
def lfG (s:List (List β)):List β:=s.flatMap fun o=>o.filter fun d=>!decide (d∈naG s)
def coG (s:List (List β)):Option (List β):=if s.length < 2\/¬ s.Nodup then none else if (lfG s).Nodup then some (naG s) else none
theorem mem_na {s:List (List β)} (hs:s≠[]) {n:β}:n∈naG s↔∀ o∈s,n∈o:=by
 unfold naG;rw[bu,a7];simp only[decide_eq_true_eq];refine⟨fun h=>h.2,fun h=>⟨?_,h⟩⟩;cases s with
 | nil=>exact absurd rfl hs
 | cons a s=>exact h a am
theorem lf_nodup {s:List (List β)} (hs:s≠[]) (hn:∀ o∈s,o.Nodup):(lfG s).Nodup↔Sun s:=by
 unfold lfG Sun List.Nodup;rw[List.pairwise_flatMap];refine⟨fun h=>h.2.imp_of_mem ?_,fun h=>⟨fun o ho=>(hn o ho).filter _,h.imp_of_mem ?_⟩⟩
 ·intro a b ha hb hab n na nb;refine aK fun hc=>?_;have hnn:n∉naG s:=fun z=>hc ((mem_na hs).mp z);exact hab n (bu.mpr ⟨na,by simp[hnn]⟩) n (bu.mpr ⟨nb,by simp[hnn]⟩) rfl
 ·intro a b ha hb hab x hx y hy e;subst e;obtain⟨x1,x2⟩:=bu.mp hx;obtain⟨y1,_⟩:=bu.mp hy
  have:x∉naG s:=by simpa using x2
  exact this ((mem_na hs).mpr (hab x x1 y1))
theorem sorted_eq {lt:β->β->Prop} (irr:∀ a,¬ lt a a) (asy:∀ a b,lt a b->¬ lt b a):∀ {l m:List β},l.Pairwise lt->m.Pairwise lt->(∀ n,n∈l↔n∈m)->l=m
 | [],[],_,_,_=>rfl
 | [],b::m,_,_,h=>by have:=(h b).mpr am;simp at this
 | a::l,[],_,_,h=>by have:=(h a).mp am;simp at this
 | a::l,b::m,hl,hm,h=>by
  obtain⟨la,hl'⟩:=bd.mp hl;obtain⟨mb,hm'⟩:=bd.mp hm;have e:a=b:=by
   rcases aB.mp ((h a).mp am) with z | z
   ·exact z
   ·rcases aB.mp ((h b).mpr am) with y | y
    ·exact y.symm
    ·exact absurd (mb a z) (asy _ _ (la b y))
  subst e
  congr 1
  refine sorted_eq irr asy hl' hm' fun n=>⟨fun hn=>?_,fun hn=>?_⟩
  ·rcases aB.mp ((h n).mp (ao _ hn)) with z | z
   ·subst z;exact absurd (la n hn) (irr n)
   ·exact z
  ·rcases aB.mp ((h n).mpr (ao _ hn)) with z | z
   ·subst z;exact absurd (mb n hn) (irr n)
   ·exact z
def meG (a b:List β):List β:=a.filter fun n=>decide (n∈b)
theorem mem_me {a b:List β} {n:β}:n∈meG a b↔n∈a/\n∈b:=by unfold meG;rw[bu];simp
def laG (s:List (List β)):Option (List β):=match s with
 | a::b::_=>if s.Pairwise fun other one=>meG one other=meG a b then some (meG a b) else none
 | _=>none
theorem la_co {lt:β->β->Prop} (irr:∀ a,¬ lt a a) (asy:∀ a b,lt a b->¬ lt b a) {s:List (List β)} (h2:2<=s.length) (nd:s.Nodup) (hs:∀ o∈s,o.Pairwise lt):laG s=coG s:=by
 classical
 have hne:s≠[]:=by rintro rfl;simp at h2
 have hnd:∀ o∈s,o.Nodup:=fun o ho=>(hs o ho).imp (fun {x y} (h:lt x y) (e:x=y)=>irr y (e ▸ h));obtain⟨a,b,r,rfl⟩:∃ a b r,s=a::b::r:=by
  match s,h2 with
  | a::b::r,_=>exact⟨a,b,r,rfl⟩
 have hs1:∀ x∈a::b::r,∀ y,(meG x y).Pairwise lt:=fun x hx y=>(hs x hx).filter _;have hco:coG (a::b::r)=if Sun (a::b::r) then some (naG (a::b::r)) else none:=by
  unfold coG;have hno:¬ ((a::b::r).length < 2\/¬ (a::b::r).Nodup):=fun z=>z.elim (fun z=>by simp only[aO] at z;lia) fun z=>z nd
  rw[if_neg hno]
  have:=lf_nodup hne hnd
  by_cases h:Sun (a::b::r)
  ·rw[if_pos h,if_pos (this.mpr h)]
  ·rw[if_neg h,if_neg fun z=>h (this.mp z)]
 rw[hco];show(if (a::b::r).Pairwise (fun other one=>meG one other=meG a b) then some (meG a b) else none)=_
 have hab:Sun (a::b::r)->meG a b=naG (a::b::r):=fun h=>by
  refine sorted_eq irr asy (hs1 a am b) ((hs a am).filter _) fun n=>?_;rw[mem_me,mem_na hne];refine⟨fun⟨na,nb⟩=>(bd.mp h).1 b am n na nb,fun z=>⟨z a am,z b (ao _ am)⟩⟩
 have iff:(a::b::r).Pairwise (fun other one=>meG one other=meG a b)↔Sun (a::b::r):=by
  constructor
  ·intro h;refine h.imp_of_mem fun {x y} hx hy hxy n nx ny o ho=>?_;have hn:n∈meG a b:=hxy ▸ mem_me.mpr ⟨ny,nx⟩;have all:∀ u∈a::b::r,∀ v∈a::b::r,u≠v->n∈u/\n∈v:=by
    have sym:∀ {l:List (List β)},l.Pairwise (fun other one=>meG one other=meG a b)->∀ u∈l,∀ v∈l,u≠v->n∈u/\n∈v:=by
     intro l hl
     induction hl with
     | nil=>intro u hu;cases hu
     | @cons p l hp _ ih =>
      intro u hu v hv hne;rcases aB.mp hu with eu | hu' <;> rcases aB.mp hv with ev | hv'
      ·exact absurd (eu.trans ev.symm) hne
      ·have:=mem_me.mp ((hp v hv').symm ▸ hn);rw[eu];exact⟨this.2,this.1⟩
      ·have:=mem_me.mp ((hp u hu').symm ▸ hn);rw[ev];exact this
      ·exact ih u hu' v hv' hne
    exact sym h
   have nab:a≠b:=fun e=>(bZ.mp nd).1 (e ▸ am)
   by_cases hoa:o=a
   ·rw[hoa];exact(mem_me.mp hn).1
   ·exact(all o ho a am hoa).1
  ·intro h;refine h.imp_of_mem fun {x y} hx hy hxy=>?_;refine sorted_eq irr asy (hs1 y hy x) (hs1 a am b) fun n=>?_;rw[mem_me,hab h,mem_na hne];exact⟨fun⟨ny,nx⟩=>hxy n nx ny,fun z=>⟨z y hy,z x hx⟩⟩
 by_cases h:Sun (a::b::r)
 ·rw[if_pos h,if_pos (iff.mpr h),hab h]
 ·rw[if_neg h,if_neg fun z=>h (iff.mp z)]
end Toy
namespace Toy
variable {α β:Type}
theorem ch_map (f:α->β):∀ (l:List α) (k:Nat),ch (l.map f) k=(ch l k).map fun s=>s.map f
 | [],0=>rfl
 | [],k + 1=>rfl
 | x::l,0=>by rw[ch_zero,ch_zero];rfl
 | x::l,k + 1=>by
  rw[aG,ch_cons,ch_cons,ch_map f l k,ch_map f l (k + 1),br,bo,bo]
  rfl
theorem get_range (l:List α) (z:α):(aY l.length).map (fun i=>l.getD i z)=l:=by
 apply fC
 ·simp
 ·intro i h1 h2;simp only[fD,iE,aj];rw[ag h2]
  rfl
def bg (row:List Nat):Nat:=if row=[] then 0 else row.getLastD 0 + 1
def exN (n:Nat) (s:List Nat):List (List Nat):=(d4 (bg s) (n - bg s)).map fun o=>s++[o]
theorem range_filter (n a:Nat):(aY n).filter (fun o=>decide (a < o))=d4 (a + 1) (n - (a + 1)):=by
 induction n with
 | zero=>simp
 | succ n ih =>
  rw[jD,fY,ih]
  by_cases h:a < n
  ·simp only[bJ,h,decide_true,if_true,List.filter_nil];rw[show n + 1 - (a + 1)=(n - (a + 1)) + 1 by lia,List.range'_concat]
   congr 2
   lia
  ·simp only[bJ,h,decide_false,aL,if_false,List.filter_nil,bR];rw[show n - (a + 1)=0 by lia,show n + 1 - (a + 1)=0 by lia]
theorem range_pw (n:Nat):(aY n).Pairwise fun a b=>decide (a < b)=true/\decide (b < a)=false:=by
 refine(gu (n:=n)).imp fun {a b} h=>⟨decide_eq_true h,decide_eq_false (by lia)⟩
theorem ch_exN (n k:Nat):ch (aY n) (k + 1)=(ch (aY n) k).flatMap (exN n):=by
 cases k with
 | zero =>
  rw[ch_zero,ch_one];simp only[bH,gH,bR];unfold exN bg;rw[if_pos rfl,List.range_eq_range']
  rfl
 | succ k =>
  rw[<- ch_ext (lt:=fun a b=>decide (a < b)) (z:=0) (range_pw n) (fun a=>decide_eq_false (Nat.lt_irrefl a)) k];refine fm_congr fun s hs=>?_;have hne:s≠[]:=by rintro rfl;have:=(ch_mem hs).1;simp at this
  unfold ext exN bg;rw[if_neg hne,range_filter]
def rwN (n m:Nat):Nat->List (List Nat)
 | 0=>[[]]
 | k + 1=>(rwN n m k).flatMap fun row=>(d4 (bg row) (n + k + 1 - m - bg row)).map fun o=>row++[o]
def qN (n m k:Nat) (s:List Nat):Bool:=s.all fun o=>decide (o < n + k - m)
theorem range'_filter (a c d:Nat) (h:d<=c):(d4 a (c - a)).filter (fun o=>decide (o < d))=d4 a (d - a):=by
 have key:∀ l a d,(d4 a l).filter (fun o=>decide (o < d))=d4 a (min l (d - a)):=by
  intro l
  induction l with
  | zero=>intro a d;simp
  | succ l ih =>
   intro a d;rw[ji,bJ,ih]
   by_cases hh:a < d
   ·rw[decide_eq_true hh,if_pos rfl,show min (l + 1) (d - a)=min l (d - (a + 1)) + 1 by lia,ji]
   ·rw[decide_eq_false hh,if_neg (by simp),show min (l + 1) (d - a)=0 by lia,show min l (d - (a + 1))=0 by lia];rfl
 rw[key]
 congr 1
 lia
theorem rw_eq (n m:Nat):∀ k,k<=m->rwN n m k=(ch (aY n) k).filter (qN n m k)
 | 0,_=>by
  rw[ch_zero]
  rfl
 | k + 1,hk=>by
  show(rwN n m k).flatMap _=_;rw[rw_eq n m k (by lia),ch_exN,filter_flatMap]
  have key:∀ l:List (List Nat),(∀ s∈l,s∈ch (aY n) k)->(l.filter (qN n m k)).flatMap (fun row=>(d4 (bg row) (n + k + 1 - m - bg row)).map fun o=>row++[o])=l.flatMap fun s=>(exN n s).filter (qN n m (k + 1)):=fun l=>by
   induction l with
   | nil=>intro _;rfl
   | cons s l ih =>
    intro h;have ih:=ih fun t ht=>h t (ao _ ht);rw[bJ,bH];obtain⟨hl,hsub⟩:=ch_mem (h s am);have inc:s.Pairwise (· < ·):=gu.sublist hsub;cases hq:qN n m k s with
    | true =>
     rw[if_pos rfl,bH,ih]
     congr 1
     unfold exN;rw[List.filter_map,<- range'_filter (bg s) n (n + k + 1 - m) (by lia)]
     congr 1
     refine fb fun o ho=>?_;have hq':=a7.mp hq;show _=qN n m (k + 1) (s++[o]);unfold qN;rw[List.all_append]
     have:(s.all fun o=>decide (o < n + (k + 1) - m))=true:=a7.mpr fun x hx=>decide_eq_true (by
      have:=of_decide_eq_true (hq' x hx);lia)
     rw[this,eV,fP,List.all_nil,Bool.and_true]
     congr 1
    | false =>
     rw[if_neg (by simp),ih]
     have:(exN n s).filter (qN n m (k + 1))=[]:=by
      rw[List.filter_eq_nil_iff];intro t ht hk';unfold exN at ht;rw[cC] at ht;obtain⟨o,ho,rfl⟩:=ht;have hex:∃ x∈s,¬ x < n + k - m:=by
       refine aK fun hc=>?_
       have:qN n m k s=true:=a7.mpr fun x hx=>decide_eq_true (aK fun z=>hc ⟨x,hx,z⟩)
       rw[hq] at this;cases this
      obtain⟨x,hx,hxn⟩:=hex;have hne:s≠[]:=by rintro rfl;cases hx
      have hlast:x<=s.getLastD 0:=by
       rcases gR.mp hx with⟨i,hi,rfl⟩;have e:s.getLastD 0=s[s.length - 1]'(by lia):=by
        rw[List.getLastD_eq_getLast?,List.getLast?_eq_some_getLast hne,jb,jd]
       rw[e];rcases Nat.lt_or_ge i (s.length - 1) with z | z
       ·exact Nat.le_of_lt (bT.mp inc i (s.length - 1) hi (by lia) z)
       ·have:i=s.length - 1:=by lia
        subst this;exact Nat.le_refl _
      have ho1:=(List.mem_range'_1.mp ho).1;unfold bg at ho1;rw[if_neg hne] at ho1
      have:=a7.mp hk' o (by simp)
      have:=of_decide_eq_true this
      lia
     rw[this,bS]
  exact key _ fun s hs=>hs
theorem rw_ch (sets:List α) (z:α) (m:Nat):(rwN sets.length m m).map (fun row=>row.map fun i=>sets.getD i z)=ch sets m:=by
 rw[rw_eq _ _ _ (Nat.le_refl _),gX.mpr]
 ·rw[<- ch_map,get_range]
 ·intro s hs;obtain⟨_,hsub⟩:=ch_mem hs;refine a7.mpr fun x hx=>decide_eq_true ?_
  have:=bh.mp (hsub.subset hx)
  lia
end Toy
set_option maxHeartbeats 1000000
namespace L2
open PySem
abbrev Srt (t:List Str):Prop:=t.Pairwise fun a b=>HT.ltS a b=true
abbrev SrtT (ts:List (List Str)):Prop:=ts.Pairwise fun a b=>HT.lexS a b=true
theorem Srt.ext {l m:List Str} (hl:Srt l) (hm:Srt m) (h:∀ n,n∈l↔n∈m):l=m :=
 Toy.sorted_eq (lt:=fun a b=>HT.ltS a b=true) (fun a=>by rw[HT.ltS_ir];simp) (fun a b h=>by rw[HT.ltS_as h];simp) hl hm h
theorem Srt.nodup {t:List Str} (h:Srt t):t.Nodup:=h.imp fun {a b} h e=>by subst e;rw[HT.ltS_ir] at h;cases h
theorem SrtT.nodup {t:List (List Str)} (h:SrtT t):t.Nodup:=h.imp fun {a b} h e=>by subst e;rw[lexS_irr] at h;cases h
theorem srt_of {t:List Str} (nd:t.Nodup) (h:t.Pairwise fun x y=>leS x y=true):Srt t:=by
 induction t with
 | nil=>exact .nil
 | cons a t ih =>
  rw[bd] at h;rw[bZ] at nd;refine bd.mpr ⟨fun b hb=>?_,ih nd.2 h.2⟩
  have:=h.1 b hb
  unfold leS at this;rw[dP] at this;exact HT.ltS_tot this fun e=>nd.1 (by rw[<- e];exact hb)
theorem srtT_of {t:List (List Str)} (nd:t.Nodup) (h:t.Pairwise fun x y=>leT x y=true):SrtT t:=by
 induction t with
 | nil=>exact .nil
 | cons a t ih =>
  rw[bd] at h;rw[bZ] at nd;refine bd.mpr ⟨fun b hb=>?_,ih nd.2 h.2⟩
  have:=h.1 b hb
  unfold leT at this;rw[dP] at this;exact HT.lexS_tot this fun e=>nd.1 (by rw[<- e];exact hb)
theorem srS_srt {l:List Str} (nd:l.Nodup):Srt (srS l):=srt_of ((srS_perm l).nodup_iff.mpr nd) (srS_pw l)
theorem srT_srt {l:List (List Str)} (nd:l.Nodup):SrtT (srT l):=srtT_of ((srT_perm l).nodup_iff.mpr nd) (srT_pw l)
theorem mem_srS {l:List Str} {x:Str}:x∈srS l↔x∈l:=(srS_perm l).mem_iff
theorem mem_srT {l:List (List Str)} {x:List Str}:x∈srT l↔x∈l:=(srT_perm l).mem_iff
def dd {α:Type} [DecidableEq α]:List α->List α
 | []=>[]
 | x::xs=>if x∈xs then dd xs else x::dd xs
theorem mem_dd {α:Type} [DecidableEq α] {x:α}:∀ {l:List α},x∈dd l↔x∈l
 | []=>Iff.rfl
 | y::l=>by
  unfold dd
  split
  ·next h =>
   rw[mem_dd,aB];exact⟨.inr,fun z=>z.elim (fun e=>by rw[e];exact h) id⟩
  ·rw[aB,aB,mem_dd]
theorem nodup_dd {α:Type} [DecidableEq α]:∀ l:List α,(dd l).Nodup
 | []=>d8
 | y::l=>by
  unfold dd
  split
  ·exact nodup_dd l
  ·next h=>exact bZ.mpr ⟨fun z=>h (mem_dd.mp z),nodup_dd l⟩
def nms (ts:List (List Str)):List Str:=srS (dd ts.flatten)
theorem nms_srt (ts:List (List Str)):Srt (nms ts):=srS_srt (nodup_dd _)
theorem mem_nms {ts:List (List Str)} {x:Str}:x∈nms ts↔∃ t∈ts,x∈t:=by
 unfold nms;rw[mem_srS,mem_dd,List.mem_flatten]
def mts {α:Type} [DecidableEq α] (one row:List α):Bool:=row.any fun d=>decide (d∈one)
def has {α:Type} [DecidableEq α] (one row:List α):Bool:=row.all fun d=>decide (d∈one)
theorem mts_iff {α:Type} [DecidableEq α] {one row:List α}:mts one row=true↔∃ x∈row,x∈one:=by unfold mts;simp
theorem has_iff {α:Type} [DecidableEq α] {one row:List α}:has one row=true↔∀ x∈row,x∈one:=by unfold has;simp
def wo {α:Type} [DecidableEq α] (one row:List α):List α:=one.filter fun d=>!decide (d∈row)
theorem mem_wo {α:Type} [DecidableEq α] {one row:List α} {x:α}:x∈wo one row↔x∈one/\x∉row:=by unfold wo;rw[bu];simp
def lnk (ts:List (List Str)) (row:List Str):List (List Str):=srT ((ts.filter fun t=>has t row).map fun t=>wo t row)
end L2
set_option maxHeartbeats 4000000
namespace L2
open PySem
structure Enc (α:Type) where
 e:α->D
 inj:∀ {x y},e x=e y->x=y
 pl:∀ x,plain (e x)=true
 dep:Nat
 ok:∀ n x y,dep<=n->okE n (e x) (e y)=true
 lt:α->α->Bool
 okl:∀ n x y,dep<=n->okL n (e x) (e y)=true
 lte:∀ n x y,dep<=n->ltN n (e x) (e y)=lt x y
def lexG {α:Type} [DecidableEq α] (lt:α->α->Bool):List α->List α->Bool
 | [],[]=>false
 | [],_::_=>true
 | _::_,[]=>false
 | x::xs,y::ys=>if x=y then lexG lt xs ys else lt x y
def strE:Enc Str where
 e:=D.str
 inj:=fun h=>by injection h
 pl:=fun _=>rfl
 dep:=0
 ok:=fun n x y _=>by cases n <;> rfl
 lt:=HT.ltS
 okl:=fun n x y _=>by cases n <;> rfl
 lte:=fun n x y _=>by cases n <;> rfl
def tupE {α:Type} [DecidableEq α] (E:Enc α):Enc (List α) where
 e:=fun l=>.tup (l.map E.e)
 inj:=fun {x y} h=>by
  injection h with h
  exact map_inj (fun a b e=>E.inj e) h
 pl:=fun l=>by
  show plains (l.map E.e)=true
  induction l with
  | nil=>rfl
  | cons x l ih=>show(plain (E.e x) && plains (l.map E.e))=true;rw[E.pl,ih];rfl
 dep:=E.dep + 1
 ok:=fun n x y h=>by
  obtain⟨m,rfl⟩:∃ m,n=m + 1:=⟨n - 1,by lia⟩
  show((x.map E.e).zip (y.map E.e)).all (fun p=>okE m p.1 p.2)=true;rw[List.zip_map,g9,a7];exact fun p _=>E.ok m p.1 p.2 (by lia)
 lt:=lexG E.lt
 okl:=fun n x y h=>by
  obtain⟨m,rfl⟩:∃ m,n=m + 1:=⟨n - 1,by lia⟩
  show okLs (okL m) m (x.map E.e) (y.map E.e)=true
  induction x generalizing y with
  | nil=>cases y <;> rfl
  | cons a x ih =>
   cases y with
   | nil=>rfl
   | cons b y =>
    show(okE m (E.e a) (E.e b) && (if E.e a=E.e b then okLs (okL m) m (x.map E.e) (y.map E.e) else okL m (E.e a) (E.e b)))=true
    rw[E.ok m a b (by lia),eV]
    split
    ·exact ih y
    ·exact E.okl m a b (by lia)
 lte:=fun n x y h=>by
  obtain⟨m,rfl⟩:∃ m,n=m + 1:=⟨n - 1,by lia⟩
  show lexN (ltN m) (x.map E.e) (y.map E.e)=lexG E.lt x y
  induction x generalizing y with
  | nil=>cases y <;> rfl
  | cons a x ih =>
   cases y with
   | nil=>rfl
   | cons b y =>
    show(if E.e a=E.e b then lexN (ltN m) (x.map E.e) (y.map E.e) else ltN m (E.e a) (E.e b))=if a=b then lexG E.lt x y else E.lt a b
    by_cases hab:a=b
    ·subst hab;rw[if_pos rfl,if_pos rfl];exact ih y
    ·rw[if_neg fun z=>hab (E.inj z),if_neg hab];exact E.lte m a b (by lia)
abbrev setE:Enc (List Str):=tupE strE
section
variable {α:Type} [DecidableEq α] {E:Enc α}
theorem plains_e:∀ l:List α,plains (l.map E.e)=true
 | []=>rfl
 | x::l=>by show(plain (E.e x) && plains (l.map E.e))=true;rw[E.pl,plains_e l];rfl
theorem mem_e {x:α} {l:List α}:E.e x∈l.map E.e↔x∈l:=by
 rw[cC];exact⟨fun⟨y,h,e⟩=>by rw[<- E.inj e];exact h,fun h=>⟨x,h,rfl⟩⟩
theorem in_e {neg:Bool} {x:α} {l:List α} [dm:Decidable (x∈l)] {d:D} {S:Sto} {Q:DK} (hE:E.dep<=8) (hd:sqIs S d (l.map E.e)) (q:Q (.bl (if neg then !decide (x∈l) else decide (x∈l))) S):inD neg (E.e x) d S Q:=by
 refine⟨l.map E.e,hd,plains_e l,by rw[g9,a7];exact fun y _=>E.ok 8 y x hE,?_⟩
 rw[decide_eq_decide.mpr (mem_e (E:=E) (x:=x) (l:=l))];exact q
theorem in_t {neg:Bool} {x:α} {l:List α} [dm:Decidable (x∈l)] {d:D} {S:Sto} {Q:Bool->Sto->Prop} (hE:E.dep<=8) (hd:sqIs S d (l.map E.e)) (q:Q (if neg then !decide (x∈l) else decide (x∈l)) S):inD neg (E.e x) d S (fun d S1=>∃ b,d=.bl b/\Q b S1):=in_e hE hd ⟨_,rfl,q⟩
end
def fzIs (d:D) (xs:List D):Prop:=d=.tup xs\/d=.lst xs
theorem fzIs.sq {S:Sto} {d:D} {xs:List D} (h:fzIs d xs):sqIs S d xs:=by rcases h with rfl | rfl <;> rfl
end L2
namespace Toy
open PySem L2
def opD:Option (List Str)->D
 | none=>.non
 | some t=>tupS t
def sp_meets:SpD:=fun ds S Q=>∃ (α:Type) (_:DecidableEq α) (E:Enc α) (one row:List α) (d1 d2:D),ds=[d1,d2]/\E.dep<=4/\fzIs d1 (one.map E.e)/\fzIs d2 (row.map E.e)/\row.length<=9999/\Q (.bl (mts one row)) S
def sp_has_all:SpD:=fun ds S Q=>∃ (α:Type) (_:DecidableEq α) (E:Enc α) (one row:List α) (d1 d2:D),ds=[d1,d2]/\E.dep<=4/\fzIs d1 (one.map E.e)/\fzIs d2 (row.map E.e)/\row.length<=9999/\Q (.bl (has one row)) S
def sp_without_names:SpD:=fun ds S Q=>∃ (α:Type) (_:DecidableEq α) (E:Enc α) (one row:List α) (d1 d2:D),ds=[d1,d2]/\E.dep<=4/\fzIs d1 (one.map E.e)/\fzIs d2 (row.map E.e)/\one.length<=9999/\Q (.tup ((wo one row).map E.e)) S
def sp_meet_of:SpD:=fun ds S Q=>∃ one row:List Str,ds=[tupS one,tupS row]/\one.length<=9999/\Q (tupS (one.filter fun d=>decide (d∈row))) S
end Toy
namespace L2
open PySem
theorem Srt.filter {l:List Str} (h:Srt l) (p:Str->Bool):Srt (l.filter p):=cX p h
def emptyS:Str:=cb ""
theorem at_last {α:Type} {xs:List α} (h:xs≠[]) (z:α):atI xs (-1)=some (xs.getLastD z):=by
 rw[at_m1 xs h];cases xs with
 | nil=>exact absurd rfl h
 | cons x xs=>rw[iF,List.getLast_eq_getLastD]
theorem lt_empty {x:Str} (h:1<=x.length):HT.ltS emptyS x=true:=by
 unfold HT.ltS;refine decide_eq_true ?_;obtain⟨⟨l⟩⟩:=x;cases l with
 | nil=>exact absurd h (by decide)
 | cons c l =>
  show([]:List Nat) < c::l;exact List.nil_lt_cons _ _
end L2
namespace Toy
open PySem L2
structure CollB (most:Nat) (ts:List (List Str)):Prop where
 srt:SrtT ts
 each:∀ t∈ts,Srt t/\t.length<=6
 len:ts.length<=most
 nms:(nms ts).length<=12
 ne:∀ x∈L2.nms ts,HT.ltS emptyS x=true
end Toy
namespace L2
open PySem
end L2
set_option maxHeartbeats 1000000
namespace Toy
open PySem L2
def spa_number:SpD:=fun ds S Q=>∃ (ns:List Int) (k:Int),ds=[.lst (ns.map D.int),.int k]/\ns.length<=63/\0<=k/\k<=9999/\∀ r:Int,0<=r->r < 1000000->Q (.int r) S
theorem bit_one (num i:Nat):bD ((num:Int) / 2 ^ ((i:Nat):Int).toNat) 1=((num / 2 ^ i % 2:Nat):Int):=by
 have e:((num:Int) / 2 ^ ((i:Nat):Int).toNat)=((num / 2 ^ i:Nat):Int):=by
  rw[bG,Int.natCast_ediv,Int.natCast_pow];rfl
 rw[e,jy (ic _) (by decide)]
 show(((num / 2 ^ i) &&& 1:Nat):Int)=_;rw[Nat.and_one_is_mod]
theorem bit_two {a b:Int} (ha:0<=a) (hb:0<=b):0<=bD a b:=by
 rw[jy ha hb];exact ic _
theorem bit_in {x:Int} (hx:0<=x) (i:Nat):bD (x / 2 ^ ((i:Nat):Int).toNat) 1=0\/bD (x / 2 ^ ((i:Nat):Int).toNat) 1=1:=by
 obtain⟨n,rfl⟩:∃ n:Nat,x=n:=⟨x.toNat,by omega⟩
 rw[bit_one]
 have:=Nat.mod_two_eq_zero_or_one (n / 2 ^ i)
 omega
def wordsA:List Str:=["", "", "one", "zz", "b", "tie", "place", "lengthy"]
def menuA:List Str:=["p", "q", "pp", "pq", "qp", "qq", "ppq", "pqp", "qpp", "pqq", "qpq", "qqp", "pqpqpqpq"]
theorem menuA_nd:menuA.Nodup:=by decide +kernel
theorem menuA_len:∀ w∈menuA,1<=w.length/\w.length<=8:=by decide +kernel
def mkA (p:Nat) (w:Str) (c:Nat):Str:=cutS w none (some (p:Int))++(⟨#[c]⟩:Str)++cutS w (some (p:Int)) none
theorem wordsA_cut:∀ p:Nat,p < 8->∀ w∈wordsA,(cutS w none (some (p:Int))).length=min p w.length/\(cutS w (some (p:Int)) none).length=w.length - min p w.length/\w.length<=7:=by decide +kernel
theorem app_cps (a b:Str):(a++b).cps.toList=a.cps.toList++b.cps.toList:=by
 show(a.cps++b.cps).toList=_;simp
theorem mkA_len {p:Nat} (hp:p < 8) {w:Str} (hw:w∈wordsA) (c:Nat):(mkA p w c).length=w.length + 1:=by
 obtain⟨a1,a2,_⟩:=wordsA_cut p hp w hw;unfold mkA;rw[app_len,app_len,a1,a2];show min p w.length + 1 + _=_;omega
theorem mkA_inj {p:Nat} (hp:p < 8) {w w':Str} (hw:w∈wordsA) (hw':w'∈wordsA) {c c':Nat} (h:mkA p w c=mkA p w' c'):c=c':=by
 have hl:w.length=w'.length:=by
  have:=congrArg Str.length h
  rw[mkA_len hp hw,mkA_len hp hw'] at this;omega
 obtain⟨a1,_,_⟩:=wordsA_cut p hp w hw;obtain⟨b1,_,_⟩:=wordsA_cut p hp w' hw';have h':=congrArg (fun s:Str=>s.cps.toList) h;unfold mkA at h';simp only[app_cps] at h';rw[aR,aR] at h';have e1:(cutS w none (some (p:Int))).cps.toList.length=min p w.length:=by rw[<- a1];rfl
 have f1:(cutS w' none (some (p:Int))).cps.toList.length=min p w'.length:=by rw[<- b1];rfl
 have:=(List.append_inj h' (by rw[e1,f1,hl])).2
 have h2:[c]++(cutS w (some (p:Int)) none).cps.toList=[c']++(cutS w' (some (p:Int)) none).cps.toList:=this;injection h2
def spa_names:SpD:=fun ds S Q=>∃ (ns:List Int) (start:Int) (many:Nat),ds=[.lst (ns.map D.int),.int start,.int many]/\ns.length<=63/\0<=start/\start<=999/\many<=12/\∀ names:List Str,names.Nodup->names.length=many->(∀ n∈names,1<=n.length/\n.length<=8)->Q (.lst (names.map D.str)) S
theorem pop_n {lp:Addr} {ns:List Int} {start:Int} (hns:ns.length<=63) (h0:0<=start) (h1:start<=999) {S:Sto} {xs:List D} {m:Nat} (hS:S lp=some (.lst xs)) (hm:m<=xs.length) (hx:xs.length<=999) {Q:List D->Sto->Prop}
  (q:∀ vs us S',(vs++us).Perm xs->vs.length=m->S' lp=some (.lst us)->(∀ b,b≠lp->S' b=S b)->Q vs S') :
  loopD (gdName 0) dYes (emitD (dMt popAtD ckL (dVar 1) (dCons (dOp (iiD (fun _ j=>0 < j) fun i j=>.int (i % j)) (dCB spa_number (dCons (dVar 2) (dCons (dOp (addD false) (dOp (addD false) (dVar 3) (dC (D.int 1))) (dVar 0)) dNil))) (dCB lenD (dCons (dVar 1) dNil))) dNil))) (fun _=>True) [none,some (.ref lp),some (.lst (ns.map D.int)),some (.int start)] (rngD 0 m) [] S Q:=by
 refine loop_ind (fun i acc S'=>∃ us:List D,acc.length=i/\S' lp=some (.lst us)/\(acc++us).Perm xs/\∀ b,b≠lp->S' b=S b) ⟨xs,rfl,hS,.refl _,fun _ _=>rfl⟩ ?_ ?_
 ·rintro i x vs S' N hx' ⟨us,hvl,hl,pm,off'⟩ hN;obtain⟨hi,rfl⟩:=rng_at hx';have hul:us.length + i=xs.length:=by have:=pm.length_eq;rw[az] at this;omega
  refine⟨trivial,⟨_,hl⟩,ns,start + 1 + (i:Int),rfl,hns,by omega,by omega,fun r r0 r1=>⟨_,hl,by show(0:Int) < (us.length:Int);omega,?_⟩⟩
  have hb:=md (a:=r) (b:=(us.length:Int)) (by omega)
  obtain⟨j,hj'⟩:∃ j:Nat,r % (us.length:Int)=j:=⟨(r % (us.length:Int)).toNat,by omega⟩
  have hj:j < us.length:=by omega
  refine⟨_,j,us[j],hl,hj',by omega,ag hj,by rw[bF];omega,hN _ _ ⟨us.eraseIdx j,?_,supd_same,?_,fun b hb=>(supd_ne hb).trans (off' b hb)⟩⟩
  ·rw[az,hvl];rfl
  ·refine jQ.trans ?_ pm;rw[aR];exact(List.perm_append_left_iff vs).mpr (erase_perm' us j hj)
 ·rintro vs S' ⟨us,hvl,hl,pm,off'⟩;rw[rngD_len] at hvl;exact⟨trivial,q vs us S' pm hvl hl off'⟩
def spa_sets:SpD:=fun ds S Q=>∃ (ns:List Int) (start:Int) (most:Nat),ds=[.lst (ns.map D.int),.int start,.int most]/\ns.length<=63/\0<=start/\start<=900/\most<=14/\∀ ts:List (List Str),CollB most ts->Q (.tup (ts.map tupS)) S
abbrev s_law_number:Stmt:=top 14
theorem sc_law_number:FnScope ["script", "k", "cells", "size", "cell", "turn", "rest", "step", "seed"] ["script", "k"] (defScope s_law_number):=fsc
section
variable {P:ay} {w:aI} {K:ar} {mg:Str->Option ae} {base:be} {pt cc:Addr}
theorem ok_law_number (T:Tx K mg "_law_number" s_law_number) (B:Bs mg):Df P w K mg base 1 "_law_number" ["script", "k"] (spU K spa_number):=by
 refine e_def T sc_law_number (fun F=>F.binds fun _ _ _ _ _ _=>us2 fun _ _=>rfl) ?_ fun f cdv A outer s H E hr=>⟨_,(dss_cons (ds_set (i:=2) sc_law_number.nd rfl (aW rfl) (e_add (k:=false) (e_list (b:=false) rfl B.list (da_cons (dv 0) da_nil)) (e_lst (b:=false) (da_cons e_int da_nil))))
  (dss_cut (ds_set (i:=3) sc_law_number.nd rfl (aW rfl) (e_max rfl B.max (da_cons e_int (da_cons (e_len rfl B.len (da_cons (dv 0) da_nil)) da_nil))))
  (dss_cons (ds_set (i:=4) sc_law_number.nd rfl (aW rfl) (e_ix (dv 2) (e_mod (dv 1) (dv 3))))
  (dss_cons (ds_set (i:=5) sc_law_number.nd rfl (aW rfl) (e_fdiv (dv 1) (dv 3)))
  (dss_cons (ds_set (i:=6) sc_law_number.nd rfl (aW rfl) (dv 4))
  (dss_cons (ds_for ci rfl (di_range1 rfl B.range (da_cons (e_min rfl B.min (da_cons (dv 5) (da_cons e_int da_nil))) da_nil)) (dg_name (i:=7) sc_law_number.nd rfl (aW rfl)) (dss_one (ds_set (i:=6) sc_law_number.nd rfl (aW rfl) (e_fdiv (dv 6) e_int))))
  (dss_cut (ds_if (PWD.pt (dw_and (dt_ge hr (dv 4) (e_pow e_int e_int)) (dw_and (dt_lt hr (dv 5) e_int) (dw_and1 (dt_gt hr (dv 6) e_int))))) (dss_one (ds_ret (e_mod (dv 6) e_int))) dss_nil)
  (dss_cons (ds_set (i:=8) sc_law_number.nd rfl (aW rfl) (e_mod (e_mul (e_add (k:=false) (e_add (k:=false) (e_add (k:=false) (e_mod (dv 4) e_int) e_int) (e_mul e_int (dv 5))) (e_mul e_int (dv 1))) e_int) e_int))
  (dss_cons (ds_set (i:=8) sc_law_number.nd rfl (aW rfl) (e_mod (e_add (k:=false) (e_add (k:=false) (e_mul (dv 8) (dv 8)) (e_mul e_int (dv 5))) (e_mul e_int (dv 1))) e_int))
  (dss_one (ds_ret (e_mod (e_fdiv (e_mod (e_mul (dv 8) e_int) e_int) e_int) e_int)))))))))))),?_⟩
 ·rintro ds S Q ⟨ns,k,rfl,_⟩;rfl
 ·rintro ds S Q ⟨ns,k,rfl,h63,k0,k1,q⟩;refine⟨_,rfl,z9999 (by show 1<=9999;decide),_,_,rfl,rfl,z9999 (by rw[ap];show ns.length + 1<=9999;omega),?_⟩
  refine⟨fun Γ' S'=>S'=S/\∃ sz:Int,Γ'=[some (.lst (ns.map D.int)),some (.int k),some (.lst (ns.map D.int++[D.int 0])),some (.int sz),none,none,none,none,none]/\1<=sz/\sz<=63/\sz<=ns.length + 1,⟨_,rfl,rfl,_,rfl,?_⟩,?_⟩
  ·show 1<=(if ((ns.map D.int).length:Int) > 1 then ((ns.map D.int).length:Int) else 1)/\(if ((ns.map D.int).length:Int) > 1 then ((ns.map D.int).length:Int) else 1)<=63/\(if ((ns.map D.int).length:Int) > 1 then ((ns.map D.int).length:Int) else 1)<=ns.length + 1
   rw[ap]
   split
   ·exact⟨by omega,by omega,by omega⟩
   ·exact⟨by omega,by omega,by omega⟩
  rintro Γ' S0 ⟨rfl,sz,rfl,sz1,sz2,sz3⟩;have hb:=md (a:=k) (b:=sz) (by omega)
  have e0:ns.map D.int++[D.int 0]=(ns++[0]).map D.int:=by rw[br];rfl
  obtain⟨hi,hat⟩:=atI_in (xs:=ns++[0]) (i:=k % sz) hb.1 (by rw[az];show _ < ((ns.length + 1:Nat):Int);omega)
  have hat':atI (ns.map D.int++[D.int 0]) (k % sz)=some (.int ((ns++[0])[(k % sz).toNat])):=by rw[e0,atI_map,hat];rfl
  generalize (ns++[0])[(k % sz).toNat]=cell at hat';refine⟨by show(0:Int) < sz;omega,_,_,rfl,hat',⟨by omega,by omega⟩,?_⟩
  have ht:0<=k / sz:=Int.ediv_nonneg k0 (by omega)
  obtain⟨m,hm,m0,m60⟩:∃ m:Int,(fun i j:Int=>if j < i then j else i) (k / sz) 60=m/\0<=m/\m<=60:=by
   show ∃ m:Int,(if (60:Int) < (k / sz) then 60 else (k / sz))=m/\_
   split
   ·exact⟨60,rfl,by decide,by decide⟩
   ·exact⟨(k / sz),rfl,ht,by omega⟩
  refine⟨?_,?_⟩
  ·rw[hm];exact⟨by omega,by omega⟩
  rw[hm];refine for_ind (fun i Γ S'=>∃ (rest:Int) (x7:Option D),Γ=[some (.lst (ns.map D.int)),some (.int k),some (.lst (ns.map D.int++[D.int 0])),some (.int sz),some (.int cell),some (.int (k / sz)),some (.int rest),x7,none]/\S'=S0) ⟨cell,none,rfl,rfl⟩ ?_ ?_
  ·rintro i x Γ S' N hx ⟨rest,x7,rfl,rfl⟩ hN;exact⟨trivial,⟨by decide,by decide⟩,hN _ _ ⟨_,_,rfl,rfl⟩⟩
  rintro Γ S' ⟨rest,x7,rfl,rfl⟩;refine⟨trivial,fun Γ' S2=>Γ'=[some (.lst (ns.map D.int)),some (.int k),some (.lst (ns.map D.int++[D.int 0])),some (.int sz),some (.int cell),some (.int (k / sz)),some (.int rest),x7,none]/\S2=S',?_,?_⟩
  ·refine⟨⟨by decide,by decide,by decide⟩,_,rfl,ite2 (fun _=>⟨_,rfl,ite2 (fun _=>⟨_,rfl,ite2 (fun _=>?_) fun _=>⟨rfl,rfl⟩⟩) fun _=>⟨rfl,rfl⟩⟩) fun _=>⟨rfl,rfl⟩⟩
   exact⟨by show(0:Int) < 1000000;decide,rt_same (q _ (md (by decide)).1 (md (by decide)).2)⟩
  rintro Γ' S2 ⟨rfl,rfl⟩;refine⟨by show(0:Int) < 2147483629;decide,.inl ⟨by decide,by decide⟩,.inl ⟨by decide,by decide⟩,.inr ⟨by decide,by decide⟩,by show(0:Int) < 2147483647;decide,?_⟩
  have h2:=md (a:=(cell % 2147483629 + 977 + 104729 * (k / sz) + 15485863 * k) * 48271) (b:=2147483647) (by decide)
  refine⟨.inl ⟨by omega,by omega⟩,.inl ⟨by decide,by decide⟩,.inl ⟨by decide,by decide⟩,by show(0:Int) < 2147483587;decide,.inr ⟨by decide,by decide⟩,by show(0:Int) < 2147483563;decide,⟨by decide,by decide⟩,by show(0:Int) < 1000000;decide,rt_same (q _ (md (by decide)).1 (md (by decide)).2)⟩
end
abbrev s_law_names:Stmt:=top 15
theorem sc_law_names:FnScope ["script", "start", "many", "letters", "some", "first", "at", "found", "menu", "k", "name"] ["script", "start", "many"] (defScope s_law_names):=fsc
section
variable {P:ay} {w:aI} {K:ar} {mg:Str->Option ae} {base:be} {pt cc:Addr}
theorem ok_law_names (T:Tx K mg "_law_names" s_law_names) (B:Bs mg) (d_law_number:Df P w K mg base 1 "_law_number" ["script", "k"] (spU K spa_number)):Df P w K mg base 2 "_law_names" ["script", "start", "many"] (spU K spa_names):=by
 refine e_def T sc_law_names (fun F=>F.binds fun _ _ _ _ _ _=>us3 fun _ _ _=>rfl) ?_ fun f cdv A outer s H E hr=>⟨_,(dss_cons (ds_set (i:=3) sc_law_names.nd rfl (aW rfl) e_str)
  (dss_cons (ds_set (i:=4) sc_law_names.nd rfl (aW rfl) (e_lst (b:=false) (da_cons e_str (da_cons e_str (da_cons e_str (da_cons e_str (da_cons e_str (da_cons e_str (da_cons e_str (da_cons e_str da_nil))))))))))
  (dss_cons (ds_set (i:=5) sc_law_names.nd rfl (aW rfl) (e_callD d_law_number hr rfl (da_cons (dv 0) (da_cons (dv 1) da_nil))))
  (dss_cons (ds_set (i:=6) sc_law_names.nd rfl (aW rfl) (e_mod (e_fdiv (dv 5) e_int) e_int))
  (dss_cons (ds_set (i:=7) sc_law_names.nd rfl (aW rfl) (e_lst (b:=true) da_nil))
  (dss_cons (ds_set (i:=8) sc_law_names.nd rfl (Or.inr rfl) (e_lst (b:=true) (da_cons e_str (da_cons e_str (da_cons e_str (da_cons e_str (da_cons e_str (da_cons e_str (da_cons e_str (da_cons e_str (da_cons e_str (da_cons e_str (da_cons e_str (da_cons e_str (da_cons e_str da_nil)))))))))))))))
  (dss_cons (ds_if (dt_eq hr (e_mod (e_fdiv (dv 5) e_int) e_int) e_int) (dss_one (ds_ret (e_comp (N':=["k", "menu", "script", "start"]) (oc:=none) (b:=false) [0] [] rfl sc_law_names.nd (fun _ _ _=>turn_one _ _ _ _ _ _ _ _ _) (.own (.cap (i:=8) rfl (by decide +kernel) (.cap (i:=0) rfl (by decide +kernel) (.cap (i:=1) rfl (by decide +kernel) .nil)))) (free_of rfl) (di_range1 rfl B.range (da_cons (dv 2) da_nil)) (cg_name (i:=0)) (fun _ _ _ _ _=>pg_name (i:=0) (nd_ ["k", "menu", "script", "start"]) rfl (aW rfl) (.inr rfl)) (fun _ _ _ _ _=>dts_nil) bo_emit (fun _ _ _ _ _ _=>pb_emit rfl (by exact PD.o (e_popAt (dv 1) (da_cons (e_mod (e_callD d_law_number hr rfl (da_cons (dv 2) (da_cons (e_add (k:=false) (e_add (k:=false) (dv 3) e_int) (dv 0)) da_nil))) (e_len rfl B.len (da_cons (dv 1) da_nil))) da_nil))))))) dss_nil)
  (dss_cons (ds_for ci rfl (di_range1 rfl B.range (da_cons (dv 2) da_nil)) (dg_name (i:=9) sc_law_names.nd rfl (aW rfl)) (dss_cons (ds_set (i:=10) sc_law_names.nd rfl (aW rfl) (e_ix (dv 4) (e_mod (e_callD d_law_number hr rfl (da_cons (dv 0) (da_cons (e_add (k:=false) (e_add (k:=false) (dv 1) e_int) (e_mul (dv 9) (e_mod (e_fdiv (dv 5) e_int) e_int))) da_nil))) e_int)))
  (dss_one (ds_expr (e_append (dv 7) (da_cons (e_add (k:=false) (e_add (k:=false) (e_sl (b:=false) (dv 10) do_none (do_some (dv 6))) (e_ix (dv 3) (e_mod (e_add (k:=false) (dv 5) (e_mul e_int (dv 9))) e_int))) (e_sl (b:=false) (dv 10) (do_some (dv 6)) do_none)) da_nil))))))
  (dss_one (ds_ret (dv 7))))))))))),?_⟩
 ·rintro ds S Q ⟨ns,start,many,rfl,_⟩;rfl
 ·rintro ds S Q ⟨ns,start,many,rfl,h63,s0,s1,m12,q⟩;refine⟨z9999 (by show 8<=9999;decide),ns,start,rfl,h63,s0,by omega,fun first f0 f1=>⟨⟨by decide,by decide⟩,by show(0:Int) < 8;decide,?_⟩⟩
  have ha:=md (a:=first / 26) (b:=8) (by decide)
  obtain⟨p,hp⟩:∃ p:Nat,first / 26 % 8=p:=⟨(first / 26 % 8).toNat,by omega⟩
  have p8:p < 8:=by omega
  show gdName 6 (.int (first / 26 % 8)) _ _ _;rw[hp];refine⟨z9999 (by decide),fun fp hfp=>⟨z9999 (by show 13<=9999;decide),fun mp hmp=>?_⟩⟩
  have hmf:mp≠fp:=by rintro rfl;rw[supd_same] at hmp;cases hmp
  have hS0:S mp=none:=by rw[supd_ne hmf] at hmp;exact hmp
  refine⟨⟨by decide,by decide⟩,by show(0:Int) < 4;decide,rfl,_,rfl,ite2 (fun _=>?_) fun _=>?_⟩
  ·refine⟨⟨by omega,by omega⟩,?_⟩
   rw[bG];refine pop_n h63 s0 s1 (xs:=menuA.map D.str) supd_same (by show many<=13;omega) (by show 13<=999;decide) fun vs us S' pm hvl hl off'=>?_
   obtain⟨as,bs,rfl,rfl,pn⟩:=perm_back (f:=D.str) dStr' (fun _=>rfl) pm;rw[ap] at hvl;refine rt_drop (S':=S) (fun b o e=>?_) (q as (eZ.mp (pn.nodup_iff.mpr menuA_nd)).1 hvl fun n hn=>menuA_len n (pn.mem_iff.mp (cF _ hn)));rw[off' b (by rintro rfl;rw[hS0] at e;cases e),supd_ne (by rintro rfl;rw[hS0] at e;cases e),supd_ne (by rintro rfl;rw[hfp] at e;cases e)];exact e
  ·have hf:supd (supd S fp (.lst [])) mp (.lst (menuA.map D.str)) fp=some (.lst []):=(supd_ne (cN hmf)).trans supd_same;refine⟨⟨by omega,by omega⟩,?_⟩
   rw[bG];refine for_ind (fun i Γ S'=>∃ (x9 x10:Option D) (found:List Str),Γ=[some (.lst (ns.map D.int)),some (.int start),some (.int many),some (.str lettersZ),some (.lst (wordsA.map D.str)),some (.int first),some (.int (p:Nat)),some (.ref fp),some (.ref mp),x9,x10]/\S' fp=some (.lst (found.map D.str))/\found.length=i/\(∀ (j:Nat) z,found[j]?=some z->∃ w∈wordsA,z=mkA p w (97 + ((first + 5 * (j:Int)) % 26).toNat))/\∀ b o,S b=some o->S' b=some o) ⟨none,none,[],rfl,hf,rfl,by simp,fun b o e=>by rw[supd_ne (by rintro rfl;rw[hS0] at e;cases e),supd_ne (by rintro rfl;rw[hfp] at e;cases e)];exact e⟩ ?_ ?_
   ·rintro i x Γ S' N hx ⟨x9,x10,found,rfl,hf,hl,hfw,hs⟩ hN;obtain⟨hi,rfl⟩:=rng_at hx;have h2:=md (a:=first / 208) (b:=2) (by decide)
    have hmul:0<=(i:Int) * (first / 208 % 2)/\(i:Int) * (first / 208 % 2)<=12:=by
     have h:first / 208 % 2=0\/first / 208 % 2=1:=by omega
     rcases h with h | h <;> rw[h] <;> omega
    refine⟨trivial,⟨by decide,by decide⟩,by show(0:Int) < 2;decide,.inl ⟨by omega,by omega⟩,ns,_,rfl,h63,by omega,by omega,fun r r0 r1=>⟨by show(0:Int) < 8;decide,?_⟩⟩
    have h8:=md (a:=r) (b:=8) (by decide)
    obtain⟨hj,hat⟩:=atI_in (xs:=wordsA) (i:=r % 8) h8.1 (by show r % 8 < 8;omega)
    have hw:wordsA[(r % 8).toNat]∈wordsA:=d6 hj;generalize wordsA[(r % 8).toNat]=w at hat hw;have hat':atI (wordsA.map D.str) (r % 8)=some (.str w):=by rw[atI_map,hat];rfl
    obtain⟨c1,c2,c7⟩:=wordsA_cut p p8 w hw;have hb:(first + 5 * (i:Int)) % 26=((((first + 5 * (i:Int)) % 26).toNat:Nat):Int):=by omega
    have hlt:atI lettersZ.cps.toList ((first + 5 * (i:Int)) % 26)=some (97 + ((first + 5 * (i:Int)) % 26).toNat):=by
     rw[hb];exact letter_at (by omega)
    refine⟨_,_,rfl,hat',⟨_,hf⟩,(p:Int),rfl,by omega,.inl ⟨by decide,by decide⟩,by show(0:Int) < 26;decide,by decide,_,hlt,z9999 (by rw[c1];show _ + 1<=9999;omega),(p:Int),rfl,by omega,z9999 (by rw[app_len,c1,c2];show _ + 1 + _<=9999;omega),_,hf,z9999 (by rw[ap];omega),hN _ _ ⟨_,_,found++[mkA p w (97 + ((first + 5 * (i:Int)) % 26).toNat)],rfl,by rw[supd_same,br];rfl,by rw[az,hl];rfl,fun j z hz=>?_,fun b o e=>?_⟩⟩
    ·rcases Nat.lt_or_ge j found.length with h | h
     ·rw[cL h] at hz;exact hfw j z hz
     ·rw[bL h] at hz;have hj0:j - found.length=0:=by
       have:=(aD.mp hz).1
       simp at this;omega
      have:j=i:=by omega
      subst this;rw[hj0] at hz;cases hz;exact⟨w,hw,rfl⟩
    ·rw[supd_ne (by rintro rfl;rw[hfp] at e;cases e)];exact hs b o e
   ·rintro Γ S' ⟨x9,x10,found,rfl,hf,hl,hfw,hs⟩;rw[rngD_len] at hl;refine⟨trivial,rt_frz (S':=S) hf hs hfp (q found ?_ hl fun n hn=>?_)⟩
    ·unfold List.Nodup;rw[bT];intro i j hi hj hij e;obtain⟨w1,hw1,e1⟩:=hfw i _ (ag hi);obtain⟨w2,hw2,e2⟩:=hfw j _ (ag hj);rw[e1,e2] at e
     have:=mkA_inj p8 hw1 hw2 e
     omega
    ·obtain⟨j,hj,e⟩:=bn hn;obtain⟨w1,hw1,e1⟩:=hfw j n (by rw[ag hj,e])
     rw[e1,mkA_len p8 hw1]
     have:=(wordsA_cut p p8 w1 hw1).2.2
     omega
end
abbrev s_law_sets:Stmt:=top 16
theorem sc_law_sets:FnScope ["script", "start", "most", "head", "names", "kind", "core", "parts", "found", "k", "one", "other", "own", "at", "name", "bit", "pair", "petal"] ["script", "start", "most"] (defScope s_law_sets):=fsc
section
variable {P:ay} {w:aI} {K:ar} {mg:Str->Option ae} {base:be} {pt cc:Addr}
theorem ok_law_sets (T:Tx K mg "_law_sets" s_law_sets) (B:Bs mg) (d_law_number:Df P w K mg base 2 "_law_number" ["script", "k"] (spU K spa_number)) (d_law_names:Df P w K mg base 2 "_law_names" ["script", "start", "many"] (spU K spa_names)):Df P w K mg base 3 "_law_sets" ["script", "start", "most"] (spU K spa_sets):=by
 refine e_def T sc_law_sets (fun F=>F.binds fun _ _ _ _ _ _=>us3 fun _ _ _=>rfl) ?_ fun f cdv A outer s H E hr=>⟨_,(dss_cons (ds_set (i:=3) sc_law_sets.nd rfl (aW rfl) (e_callD d_law_number hr rfl (da_cons (dv 0) (da_cons (dv 1) da_nil))))
  (dss_cons (ds_set (i:=4) sc_law_sets.nd rfl (aW rfl) (e_callD d_law_names hr rfl (da_cons (dv 0) (da_cons (e_add (k:=false) (dv 1) e_int) (da_cons (e_add (k:=false) e_int (e_mod (dv 3) e_int)) da_nil)))))
  (dss_cons (ds_set (i:=5) sc_law_sets.nd rfl (aW rfl) (e_mod (e_fdiv (dv 3) e_int) e_int))
  (dss_cons (ds_set (i:=6) sc_law_sets.nd rfl (aW rfl) (e_band (e_mod (e_callD d_law_number hr rfl (da_cons (dv 0) (da_cons (e_add (k:=false) (dv 1) e_int) da_nil))) e_int) (e_callD d_law_number hr rfl (da_cons (dv 0) (da_cons (e_add (k:=false) (dv 1) e_int) da_nil)))))
  (dss_cons (ds_set (i:=7) sc_law_sets.nd rfl (aW rfl) (e_add (k:=false) e_int (e_mod (e_callD d_law_number hr rfl (da_cons (dv 0) (da_cons (e_add (k:=false) (dv 1) e_int) da_nil))) e_int)))
  (dss_cons (ds_set (i:=8) sc_law_sets.nd rfl (aW rfl) (e_lst (b:=true) da_nil))
  (dss_cons (ds_for ci rfl (di_range1 rfl B.range (da_cons (e_mod (e_fdiv (dv 3) e_int) (e_add (k:=false) (dv 2) e_int)) da_nil)) (dg_name (i:=9) sc_law_sets.nd rfl (aW rfl)) (dss_cons (ds_set (i:=10) sc_law_sets.nd rfl (aW rfl) (e_callD d_law_number hr rfl (da_cons (dv 0) (da_cons (e_add (k:=false) (e_add (k:=false) (dv 1) e_int) (dv 9)) da_nil))))
  (dss_cons (ds_set (i:=11) sc_law_sets.nd rfl (aW rfl) (e_callD d_law_number hr rfl (da_cons (dv 0) (da_cons (e_add (k:=false) (e_add (k:=false) (dv 1) e_int) (dv 9)) da_nil))))
  (dss_cons (ds_set (i:=12) sc_law_sets.nd rfl (aW rfl) (e_lst (b:=true) da_nil))
  (dss_cons (ds_for ci rfl (di_enL rfl B.enumerate (da_cons (dv 4) da_nil)) (dg_tup rfl (dgs_cons (dg_name (i:=13) sc_law_sets.nd rfl (aW rfl)) (dgs_cons (dg_name (i:=14) sc_law_sets.nd rfl (aW rfl)) dgs_nil))) (dss_cons (ds_set (i:=15) sc_law_sets.nd rfl (aW rfl) (e_band (e_shr (dv 10) (dv 13)) e_int))
  (dss_cut (ds_set (i:=16) sc_law_sets.nd rfl (aW rfl) (e_int1 rfl B.int (da_cons (e_in hr (dv 13) (e_tup (da_cons (e_mod (dv 10) (e_len rfl B.len (da_cons (dv 4) da_nil))) (da_cons (e_mod (dv 11) (e_len rfl B.len (da_cons (dv 4) da_nil))) da_nil)))) da_nil)))
  (dss_cut (ds_set (i:=17) sc_law_sets.nd rfl (aW rfl) (e_int1 rfl B.int (da_cons (e_or (e_eq hr (e_band (e_shr (dv 6) (dv 13)) e_int) e_int) (e_or (e_eq hr (e_mod (dv 13) (dv 7)) (e_mod (dv 9) (dv 7))) (e_one (e_and (e_eq hr (e_mod (dv 10) e_int) e_int) (e_one (e_eq hr (dv 13) (e_mod (dv 11) (e_len rfl B.len (da_cons (dv 4) da_nil))))))))) da_nil)))
  (dss_one (ds_if (dt_eq hr (e_ix (e_lst (b:=false) (da_cons (dv 15) (da_cons (e_mul (dv 15) (e_band (e_shr (dv 11) (dv 13)) e_int)) (da_cons (dv 16) (da_cons (dv 17) (da_cons (dv 17) (da_cons (e_int1 rfl B.int (da_cons (e_le hr (dv 13) (e_mod (dv 10) e_int)) da_nil)) da_nil))))))) (dv 5)) e_int) (dss_one (ds_expr (e_append (dv 12) (da_cons (dv 14) da_nil)))) dss_nil))))))
  (dss_one (ds_expr (e_append (dv 8) (da_cons (e_tuple rfl B.tuple (da_cons (e_sorted (b:=false) hr rfl B.sorted (da_cons (e_sl (b:=false) (dv 12) do_none (do_some e_int)) da_nil)) da_nil)) da_nil)))))))))
  (dss_one (ds_ret (e_tuple rfl B.tuple (da_cons (e_sortedSet (b:=false) hr rfl B.sorted rfl B.set (dv 8)) da_nil))))))))))),?_⟩
 ·rintro ds S Q ⟨ns,start,most,rfl,_⟩;rfl
 ·rintro ds S Q ⟨ns,start,most,rfl,h63,s0,s1,m14,q⟩;refine⟨ns,start,rfl,h63,s0,by omega,fun head h0 h1=>?_⟩
  have hm12:=md (a:=head) (b:=12) (by decide)
  obtain⟨mn,hmn⟩:∃ mn:Nat,1 + head % 12=mn:=⟨(1 + head % 12).toNat,by omega⟩
  refine⟨by show(0:Int) < 12;decide,ns,start + 1,mn,congrArg (fun z:Int=>[D.lst (ns.map D.int),.int (start + 1),.int z]) hmn,h63,by omega,by omega,by omega,fun names nd nl nle=>?_⟩
  refine⟨⟨by decide,by decide⟩,by show(0:Int) < 6;decide,ns,_,rfl,h63,by omega,by omega,fun c1 c10 c11=>⟨by show(0:Int) < 4096;decide,ns,_,rfl,h63,by omega,by omega,fun c2 c20 c21=>?_⟩⟩
  refine⟨ns,_,rfl,h63,by omega,by omega,fun p1 p10 p11=>⟨by show(0:Int) < 9;decide,z9999 (by decide),fun fp hfp=>⟨⟨by decide,by decide⟩,by show(0:Int) < (most:Int) + 1;omega,?_⟩⟩⟩
  have hkb:=md (a:=head / 72) (b:=(most:Int) + 1) (by omega)
  have hpb:=md (a:=p1) (b:=9) (by decide)
  have hcore:0<=bD (c1 % 4096) c2:=bit_two (md (by decide)).1 c20
  have hlen:((names.map D.str).length:Int)=(mn:Int):=by rw[ap,nl]
  have hlp:(0:Int) < ((names.map D.str).length:Int):=by omega
  refine⟨⟨by omega,by omega⟩,?_⟩
  refine for_ind (fun i Γ S'=>∃ (x9 x10 x11 x12 x13 x14 x15 x16 x17:Option D) (ts:List (List Str)),Γ=[some (.lst (ns.map D.int)),some (.int start),some (.int most),some (.int head),some (.lst (names.map D.str)),some (.int (head / 12 % 6)),some (.int (bD (c1 % 4096) c2)),some (.int (2 + p1 % 9)),some (.ref fp),x9,x10,x11,x12,x13,x14,x15,x16,x17]/\S' fp=some (.lst (ts.map tupS))/\ts.length=i/\(∀ t∈ts,Srt t/\t.length<=6/\∀ x∈t,x∈names)/\∀ b o,S b=some o->S' b=some o) ⟨none,none,none,none,none,none,none,none,none,[],rfl,supd_same,rfl,by simp,fun b o e=>by rw[supd_ne (by rintro rfl;rw[hfp] at e;cases e)];exact e⟩ ?_ ?_
  ·rintro i x Γ S' N hx ⟨x9,x10,x11,x12,x13,x14,x15,x16,x17,ts,rfl,hf,tl,hts,hs⟩ hN;obtain⟨hi,rfl⟩:=rng_at hx;have hi14:i < 15:=by omega
   refine⟨trivial,ns,_,rfl,h63,by omega,by omega,fun one o0 o1=>⟨ns,_,rfl,h63,by omega,by omega,fun other t0 t1=>⟨z9999 (by decide),fun op hop=>?_⟩⟩⟩
   have hfo:fp≠op:=by rintro rfl;rw[hf] at hop;cases hop
   refine for_ind (fun j Γ S2=>∃ (x13 x14 x15 x16 x17:Option D) (own:List Str),Γ=[some (.lst (ns.map D.int)),some (.int start),some (.int most),some (.int head),some (.lst (names.map D.str)),some (.int (head / 12 % 6)),some (.int (bD (c1 % 4096) c2)),some (.int (2 + p1 % 9)),some (.ref fp),some (.int (i:Nat)),some (.int one),some (.int other),some (.ref op),x13,x14,x15,x16,x17]/\S2 op=some (.lst (own.map D.str))/\own.Sublist (names.take j)/\S2 fp=some (.lst (ts.map tupS))/\∀ b o,S b=some o->S2 b=some o) ⟨_,_,_,_,_,[],rfl,supd_same,by simp,(supd_ne hfo).trans hf,fun b o e=>by rw[supd_ne (by rintro rfl;rw[hs _ _ e] at hop;cases hop)];exact hs b o e⟩ ?_ ?_
   ·rintro j x Γ S2 N2 hx2 ⟨x13,x14,x15,x16,x17,own,rfl,ho,hsub,hf2,hs2⟩ hN2;obtain⟨y,hy,rfl⟩:=pairs_get _ _ _ _ hx2;rw[aJ,bz] at hy;obtain⟨nm,hnm,rfl⟩:=hy;rw[hU];have hj:j < names.length:=(aD.mp hnm).1;have hbit:=bit_in o0 j;refine⟨trivial,rfl,rfl,by show(0:Int)<=(j:Int);omega,?_⟩
    refine⟨fun Γ' S3=>∃ pr:Int,Γ'=[some (.lst (ns.map D.int)),some (.int start),some (.int most),some (.int head),some (.lst (names.map D.str)),some (.int (head / 12 % 6)),some (.int (bD (c1 % 4096) c2)),some (.int (2 + p1 % 9)),some (.ref fp),some (.int (i:Nat)),some (.int one),some (.int other),some (.ref op),some (.int (j:Nat)),some (.str nm),some (.int (bD (one / 2 ^ ((j:Nat):Int).toNat) 1)),some (.int pr),x17]/\S3=S2,?_,?_⟩
    ·exact⟨_,rfl,hlp,_,rfl,hlp,z9999 (by show 2<=9999;decide),_,rfl,rfl,rfl,_,rfl,rfl⟩
    rintro Γ' S3 ⟨pr,rfl,rfl⟩;refine⟨fun Γ' S4=>∃ pt:Int,Γ'=[some (.lst (ns.map D.int)),some (.int start),some (.int most),some (.int head),some (.lst (names.map D.str)),some (.int (head / 12 % 6)),some (.int (bD (c1 % 4096) c2)),some (.int (2 + p1 % 9)),some (.ref fp),some (.int (i:Nat)),some (.int one),some (.int other),some (.ref op),some (.int (j:Nat)),some (.str nm),some (.int (bD (one / 2 ^ ((j:Nat):Int).toNat) 1)),some (.int pr),some (.int pt)]/\S4=S3,?_,?_⟩
    ·have hp0:(0:Int) < 2 + p1 % 9:=by omega
     refine⟨by show(0:Int)<=(j:Int);omega,rfl,_,rfl,ite2 (fun _=>⟨_,rfl,rfl⟩) fun _=>⟨hp0,hp0,rfl,_,rfl,ite2 (fun _=>⟨_,rfl,rfl⟩) fun _=>?_⟩⟩
     exact⟨by show(0:Int) < 5;decide,rfl,_,rfl,ite2 (fun _=>⟨_,rfl,hlp,rfl,_,rfl,rfl⟩) fun _=>⟨_,rfl,rfl⟩⟩
    rintro Γ' S4 ⟨pt,rfl,rfl⟩;have hkd:=md (a:=head / 12) (b:=6) (by decide)
    refine⟨by show(0:Int)<=(j:Int);omega,.inl ⟨by omega,by omega⟩,by show(0:Int) < 7;decide,z9999 (by show 6<=9999;decide),?_⟩
    obtain⟨hz,hat⟩:=atI_in (xs:=[bD (one / 2 ^ ((j:Nat):Int).toNat) 1,bD (one / 2 ^ ((j:Nat):Int).toNat) 1 * bD (other / 2 ^ ((j:Nat):Int).toNat) 1,pr,pt,pt,if decide ((j:Int)<=one % 7)=true then 1 else 0]) (i:=head / 12 % 6) hkd.1 (by show head / 12 % 6 < 6;omega)
    have hat':=(atI_map D.int [bD (one / 2 ^ ((j:Nat):Int).toNat) 1,bD (one / 2 ^ ((j:Nat):Int).toNat) 1 * bD (other / 2 ^ ((j:Nat):Int).toNat) 1,pr,pt,pt,if decide ((j:Int)<=one % 7)=true then 1 else 0] (head / 12 % 6)).trans (congrArg (Option.map D.int) hat)
    have ol:own.length<=12:=Nat.le_trans hsub.length_le (by rw[aS];omega)
    have et:names.take (j + 1)=names.take j++[nm]:=by rw[cm,hnm];rfl
    refine⟨_,_,rfl,hat',rfl,_,rfl,ite2 (fun _=>?_) fun _=>hN2 _ _ ⟨_,_,_,_,_,own,rfl,ho,hsub.trans (by rw[et];exact List.sublist_append_left _ _),hf2,hs2⟩⟩
    refine⟨⟨_,ho⟩,_,ho,z9999 (by rw[ap];omega),hN2 _ _ ⟨_,_,_,_,_,own++[nm],rfl,by rw[supd_same,br];rfl,by rw[et];exact hsub.append (j3 _),(supd_ne hfo).trans hf2,fun b o e=>?_⟩⟩
    rw[supd_ne (by rintro rfl;rw[hs _ _ e] at hop;cases hop)];exact hs2 b o e
   ·rintro Γ S2 ⟨x13,x14,x15,x16,x17,own,rfl,ho,hsub,hf2,hs2⟩;have hsub':own.Sublist names:=hsub.trans (c5 _ _);have ecut:cutD (own.map D.str) none (some 6)=(own.take 6).map D.str:=by
     rw[cutD_map]
     have:HT.sIx own.length own.length (some (6:Int))=min 6 own.length:=HT.sIx_nat own.length own.length 6
     rw[this,HT.sIx_none,Nat.sub_zero,gl]
     congr 1
     rcases Nat.le_total 6 own.length with z | z
     ·rw[Nat.min_eq_left z]
     ·rw[Nat.min_eq_right z,b5,bq z]
    have tnd:(own.take 6).Nodup:=nd.sublist ((c5 _ _).trans hsub');refine⟨trivial,⟨_,hf2⟩,6,rfl,_,ho,?_⟩;rw[ecut];refine .inl ⟨own.take 6,rfl,_,rfl,_,hf2,z9999 (by rw[ap];omega),hN _ _ ⟨_,_,_,_,_,_,_,_,_,ts++[srS (own.take 6)],rfl,by rw[supd_same,br];rfl,by rw[az,tl];rfl,fun t ht=>?_,fun b o e=>?_⟩⟩
    ·rcases aU.mp ht with h | h
     ·exact hts t h
     ·rw[aN.mp h];exact⟨srS_srt tnd,by rw[(srS_perm _).length_eq,aS];omega,fun x hx=>hsub'.subset (dJ (mem_srS.mp hx))⟩
    ·rw[supd_ne (by rintro rfl;rw[hfp] at e;cases e)];exact hs2 b o e
  ·rintro Γ S' ⟨x9,x10,x11,x12,x13,x14,x15,x16,x17,ts,rfl,hf,tl,hts,hs⟩;rw[rngD_len] at tl;refine⟨trivial,ts,hf,by omega,fun out ond omem opw=>⟨_,rfl,rt_drop hs (q out ?_)⟩⟩
   have ol:=ond.length_le_of_subset fun t ht=>(omem t).mp ht;have osi:∀ t∈out,Srt t/\t.length<=6/\∀ x∈t,x∈names:=fun t ht=>hts t ((omem t).mp ht);have onm:∀ x∈L2.nms out,x∈names:=fun x hx=>by
    obtain⟨t,ht,hxt⟩:=mem_nms.mp hx;exact(osi t ht).2.2 x hxt
   exact { srt:=opw,each:=fun t ht=>⟨(osi t ht).1,(osi t ht).2.1⟩,len:=by omega,nms:=Nat.le_trans ((nms_srt _).nodup.length_le_of_subset onm) (by omega),ne:=fun x hx=>lt_empty (nle x (onm x hx)).1 }
end
end Toy
set_option maxHeartbeats 4000000
namespace L2
open PySem
theorem cut_from (xs:List D) (i:Nat):cutD xs (some ((i:Int) + 1)) none=xs.drop (i + 1):=by
 rcases Nat.lt_or_ge i xs.length with h | h
 ·have e:cutD xs (some ((i:Int) + 1)) none=cutD (xs.map id) (some (((i + 1:Nat):Int))) none:=by rw[gS];rfl
  rw[e,cutD_map,HT.sIx_none,HT.sIx_nat,Nat.min_eq_left (by lia),bq (by rw[bB];exact Nat.le_refl _),gS]
 ·have e:cutD xs (some ((i:Int) + 1)) none=cutD (xs.map id) (some (((i + 1:Nat):Int))) none:=by rw[gS];rfl
  rw[e,cutD_map,HT.sIx_none,HT.sIx_nat,bA (by lia),bA (by lia),List.take_nil]
  rfl
end L2
namespace Toy
open PySem L2
def cn_of (n:Nat):SpD:=fun ds S Q=>∃ (xs:List D) (m:Nat),ds=[.tup xs,.int m]/\m < n/\xs.length<=20/\Q (.lst ((ch xs m).map D.tup)) S
end Toy
namespace L2
open PySem
open Toy (ch ch_cons ch_zero ch_mem mem_ch coG naG lfG meG laG Sun la_co mem_na mem_me)
def flO (ts:List (List Str)) (m:Nat):List (List (List Str)):=(ch ts m).filter fun s=>(coG s).isSome
end L2
namespace Toy
open PySem L2
end Toy
namespace L2
open PySem
open Toy (ch ch_cons ch_zero ch_mem mem_ch coG naG lfG meG laG Sun la_co mem_na mem_me)
end L2
namespace L2
open PySem
open Toy (ch ch_cons ch_zero ch_mem mem_ch coG naG lfG meG laG Sun la_co mem_na mem_me)
theorem me_comm {a b:List Str} (ha:Srt a) (hb:Srt b):meG a b=meG b a:=Srt.ext (cX _ ha) (cX _ hb) fun n=>by rw[mem_me,mem_me];exact⟨fun h=>⟨h.2,h.1⟩,fun h=>⟨h.2,h.1⟩⟩
def Fm (s:List (List Str)) (c:List Str):Prop:=s.Pairwise fun a b=>meG a b=c
theorem co_Fm {s:List (List Str)} (h2:2<=s.length) (nd:s.Nodup) (hs:∀ o∈s,Srt o) {c:List Str}:coG s=some c↔Fm s c:=by
 rw[<- la_co (lt:=fun a b=>HT.ltS a b=true) (fun a=>by rw[HT.ltS_ir];simp) (fun a b h=>by rw[HT.ltS_as h];simp) h2 nd hs]
 match s,h2,hs with
 | a::b::r,_,hs =>
  have eq:∀ d:List Str,((a::b::r).Pairwise fun other one=>meG one other=d)↔Fm (a::b::r) d:=fun d=>by
   unfold Fm;constructor
   ·intro h;refine dH ?_ h;intro x y hx hy e;rw[me_comm (hs x hx) (hs y hy)];exact e
   ·intro h;refine dH ?_ h;intro x y hx hy e;rw[me_comm (hs y hy) (hs x hx)];exact e
  have hab:∀ d,Fm (a::b::r) d->meG a b=d:=fun d h=>(bd.mp h).1 b am;show(if (a::b::r).Pairwise (fun other one=>meG one other=meG a b) then some (meG a b) else none)=some c↔_
  constructor
  ·intro h
   split at h
   ·next hp=>cases h;exact(eq _).mp hp
   ·cases h
  ·intro h
   have:=hab c h
   subst this;rw[if_pos ((eq _).mpr h)]
end L2
namespace Toy
open PySem L2
end Toy
namespace L2
open PySem
open Toy (ch ch_mem mem_ch ch_len meG opD)
end L2
set_option maxHeartbeats 1000000
namespace Toy
open PySem L2
abbrev s_law_meet:Stmt:=top 17
theorem sc_law_meet:FnScope ["one", "other"] ["one", "other"] (defScope s_law_meet):=fsc
def sp_law_meet:SpD:=fun ds S Q=>∃ a b:List Str,ds=[tupS a,tupS b]/\a.length<=9999/\Q (tupS (meG a b)) S
section
variable {P:ay} {w:aI} {K:ar} {mg:Str->Option ae} {base:be} {pt cc:Addr}
theorem ok_law_meet (T:Tx K mg "_law_meet" s_law_meet) (B:Bs mg):Df P w K mg base 1 "_law_meet" ["one", "other"] (spU K sp_law_meet):=by
 refine e_def T sc_law_meet (fun F=>F.binds fun _ _ _ _ _ _=>us2 fun _ _=>rfl) ?_ fun f cdv A outer s H E hr=>⟨_,(dss_one (ds_ret (e_tuple rfl B.tuple (da_cons (e_comp (N':=["name", "other"]) (oc:=none) (b:=false) [0] [] rfl sc_law_meet.nd (fun _ _ _=>turn_one _ _ _ _ _ _ _ _ _) (.own (.cap (i:=1) rfl (by decide +kernel) .nil)) (free_of rfl) (di_sq (dv 0)) (cg_name (i:=0)) (fun _ _ _ _ _=>pg_name (i:=0) (nd_ ["name", "other"]) rfl (aW rfl) (.inr rfl)) (fun _ _ _ _ _=>dts_one (by exact(dt_in hr (dv 0) (dv 1)))) bo_emit (fun _ _ _ _ _ _=>pb_emit rfl (by exact PD.o (dv 0)))) da_nil)))),?_⟩
 ·rintro ds S Q ⟨one,row,rfl,_⟩;rfl
 ·rintro ds S Q ⟨one,row,rfl,hl,q⟩;exact⟨one.map D.str,rfl,loop_filt (p:=fun n=>decide (n∈row)) (f:=D.str) (fun x hx Q q=>in_t (neg:=false) (E:=strE) (by decide) rfl q) (fun x hx _ Q q=>q) (z9999 (by show 0 + one.length<=_;omega)) ⟨_,rfl,rt_same q⟩⟩
end
end Toy
namespace L2
open PySem
open Toy (ch ch_zero ch_cons ch_mem mem_ch)
section
variable {α:Type} [DecidableEq α]
def FreeB (bs:List (List α)) (r:List α):Prop:=∀ b∈bs,¬ ∀ x∈b,x∈r
def frB (bs:List (List α)) (r:List α):Bool:=bs.all fun b=>!(b.all fun x=>decide (x∈r))
structure MfS (ts:List α) (bs:List (List α)) (over:Int) (r:List α):Prop where
 sub:r.Sublist ts
 free:FreeB bs r
 more:over < r.length
 most:∀ r',r'.Sublist ts->FreeB bs r'->r'.length<=r.length
 fst:((ch ts r.length).filter (frB bs)).head?=some r
end
end L2
set_option maxHeartbeats 4000000
namespace L2
open PySem Toy
end L2
set_option maxHeartbeats 1000000
namespace L2
open PySem Toy
def hav (ts:List (List Str)) (core:List Str):List (List Str):=ts.filter fun t=>has t core
def mt2 (p:List (List Str)):List Str:=(p.getD 0 []).filter fun x=>decide (x∈p.getD 1 [])
def mtg (hs:List (List Str)) (core:List Str):List (List (List Str)):=(ch hs 2).filter fun p=>!decide (mt2 p=core)
theorem ch2_pair {hs:List (List Str)} {p:List (List Str)} (h:p∈ch hs 2):∃ a b,p=[a,b]/\[a,b].Sublist hs:=by
 obtain⟨h1,h2⟩:=ch_mem h
 match p,h1 with
 | [a,b],_=>exact⟨a,b,rfl,h2⟩
theorem meet_comm {a b:List Str} (ha:Srt a) (hb:Srt b):(a.filter fun x=>decide (x∈b))=b.filter fun x=>decide (x∈a) :=
 Srt.ext (cX _ ha) (cX _ hb) fun n=>by simp[and_comm]
theorem free_mtg {hs r:List (List Str)} {core:List Str} (hs':∀ t∈hs,Srt t) (nd:hs.Nodup) (hr:r.Sublist hs):FreeB (mtg hs core) r↔r.Pairwise fun a b=>(a.filter fun x=>decide (x∈b))=core:=by
 constructor
 ·intro h;rw[List.pairwise_iff_forall_sublist];intro a b hab;refine aK fun z=>?_;refine h [a,b] (bu.mpr ⟨mem_ch (hab.trans hr),?_⟩) fun x hx=>hab.subset hx
  have:mt2 [a,b]≠core:=z
  simp[this]
 ·intro h p hp hall;obtain⟨h1,h2⟩:=bu.mp hp;obtain⟨a,b,rfl,hab⟩:=ch2_pair h1;have hne:a≠b:=by
   have:=nd.sublist hab
   simp at this;exact this
  have ha:=hall a (by simp)
  have hb:=hall b (by simp)
  have key:(a.filter fun x=>decide (x∈b))=core:=by
   obtain⟨i,hi,ei⟩:=bn ha;obtain⟨j,hj,ej⟩:=bn hb;have pw:=bT.mp h;rcases Nat.lt_trichotomy i j with z | z | z
   ·have:=pw i j hi hj z
    rwa [ei,ej] at this
   ·subst z;exact absurd (ei.symm.trans ej) hne
   ·have:=pw j i hj hi z
    rw[ei,ej] at this;rw[meet_comm (hs' a (hr.subset ha)) (hs' b (hr.subset hb))];exact this
  have:mt2 [a,b]=core:=key
  simp[this] at h2
abbrev ltn:Nat->Nat->Bool:=fun i j=>decide (i < j)
def natE:Enc Nat where
 e:=fun i=>D.int (i:Nat)
 inj:=fun h=>by injection h with h;omega
 pl:=fun _=>rfl
 dep:=0
 ok:=fun n x y _=>by cases n <;> rfl
 lt:=ltn
 okl:=fun n x y _=>by cases n <;> rfl
 lte:=fun n x y _=>by
  have:ltN n (D.int (x:Nat)) (D.int (y:Nat))=decide ((x:Int) < (y:Int)):=by cases n <;> rfl
  rw[this];exact decide_eq_decide.mpr (by omega)
end L2
set_option maxHeartbeats 4000000
namespace L2
open PySem
open Toy (ch ch_mem mem_ch coG naG lfG meG mem_na mem_me)
end L2
namespace L2
open PySem
open Toy (meG mem_me)
end L2
namespace L2
open PySem
open Toy
theorem tsn_t {P:Prop} [Decidable P] (h:¬ P):D.bl (if true=true then !decide P else decide P)=D.bl true:=by rw[decide_eq_false h];rfl
theorem tsn_f {P:Prop} [Decidable P] (h:P):D.bl (if true=true then !decide P else decide P)=D.bl false:=by rw[decide_eq_true h];rfl
end L2
namespace L2
open PySem
open Toy
theorem cut_upto (ts:List (List Str)) (i:Nat):cutD (ts.map tupS) none (some (i:Int))=(ts.take i).map tupS:=by
 show((ts.map tupS).drop 0).take (HT.sIx (ts.map tupS).length (ts.map tupS).length (some ((i:Nat):Int)) - 0)=_;rw[HT.sIx_nat,gl,Nat.sub_zero,iZ];rcases Nat.le_total i (ts.map tupS).length with h | h
 ·rw[Nat.min_eq_left h]
 ·rw[Nat.min_eq_right h,b5,bq h]
end L2
set_option maxHeartbeats 1000000
namespace Toy
open PySem L2
abbrev s_law_core:Stmt:=top 18
theorem sc_law_core:FnScope ["some", "core", "at", "one", "other"] ["some"] (defScope s_law_core):=fsc
def sp_law_core:SpD:=fun ds S Q=>∃ ts:List (List Str),ds=[.tup (ts.map tupS)]/\2<=ts.length/\ts.length<=99/\(∀ t∈ts,t.length<=99)/\Q (opD (laG ts)) S
section
variable {P:ay} {w:aI} {K:ar} {mg:Str->Option ae} {base:be} {pt cc:Addr}
theorem ok_law_core (T:Tx K mg "_law_core" s_law_core) (B:Bs mg) (d_law_meet:Df P w K mg base 1 "_law_meet" ["one", "other"] (spU K sp_law_meet)):Df P w K mg base 2 "_law_core" ["some"] (spU K sp_law_core):=by
 refine e_def T sc_law_core (fun F=>F.binds fun _ _ _ _ _ _=>us1 fun _=>rfl) ?_ fun f cdv A outer s H E hr=>⟨_,(dss_cons (ds_set (i:=1) sc_law_core.nd rfl (aW rfl) (e_callD d_law_meet hr rfl (da_cons (e_ix (dv 0) e_int) (da_cons (e_ix (dv 0) e_int) da_nil))))
  (dss_cons (ds_for ci rfl (di_enT rfl B.enumerate (da_cons (dv 0) da_nil)) (dg_tup rfl (dgs_cons (dg_name (i:=2) sc_law_core.nd rfl (aW rfl)) (dgs_cons (dg_name (i:=3) sc_law_core.nd rfl (aW rfl)) dgs_nil))) (dss_one (ds_for ci rfl (di_sq (e_sl (b:=false) (dv 0) do_none (do_some (dv 2)))) (dg_name (i:=4) sc_law_core.nd rfl (aW rfl)) (dss_one (ds_if (dt_ne hr (e_callD d_law_meet hr rfl (da_cons (dv 3) (da_cons (dv 4) da_nil))) (dv 1)) (dss_one (ds_ret e_non)) dss_nil)))))
  (dss_one (ds_ret (dv 1))))),?_⟩
 ·rintro ds S Q ⟨ts,rfl,_⟩;rfl
 ·rintro ds S Q ⟨ts,rfl,h2,hl,he,q⟩;obtain⟨a,b,r,rfl⟩:∃ a b r,ts=a::b::r:=by
   match ts,h2 with
   | a::b::r,_=>exact⟨a,b,r,rfl⟩
  have q1:((a::b::r).Pairwise fun other one=>meG one other=meG a b)->Q (tupS (meG a b)) S:=fun h=>by
   have e:laG (a::b::r)=some (meG a b):=by
    show(if _ then _ else _)=_
    exact if_pos h
   rw[e] at q;exact q
  have q2:¬ ((a::b::r).Pairwise fun other one=>meG one other=meG a b)->Q .non S:=fun h=>by
   have e:laG (a::b::r)=none:=by
    show(if _ then _ else _)=_
    exact if_neg h
   rw[e] at q;exact q
  have a99:=he a am;refine⟨_,_,rfl,atI_nat (j:=0) rfl,_,_,rfl,atI_nat (j:=1) rfl,a,b,rfl,by omega,?_⟩
  clear q;generalize meG a b=c at q1 q2;show dSeq _ _ _ [some (.tup ((a::b::r).map tupS)),some (tupS c),none,none,none] _;generalize a::b::r=ts at q1 q2 hl he;refine for_ind (fun i Γ S'=>∃ x2 x3 x4:Option D,Γ=[some (.tup (ts.map tupS)),some (tupS c),x2,x3,x4]/\S'=S/\(ts.take i).Pairwise (fun other one=>meG one other=c)) ⟨none,none,none,rfl,rfl,.nil⟩ ?_ ?_
  ·rintro i x Γ S' N hx ⟨x2,x3,x4,rfl,rfl,hp⟩ hN;obtain⟨y,hy,rfl⟩:=pairs_get _ 0 i x hx;rw[aJ,bz] at hy;obtain⟨t,ht,rfl⟩:=hy;have hi:i < ts.length:=(aD.mp ht).1;have t99:=he t (ak ht);have tk:ts.take (i + 1)=ts.take i++[t]:=by rw[cm,ht];rfl
   have ec:cutD (ts.map tupS) none (some ((0:Int) + (i:Nat)))=(ts.take i).map tupS:=by rw[hU];exact cut_upto ts i
   refine⟨trivial,rfl,rfl,_,rfl,_,rfl,?_⟩;rw[ec];refine for_ind (fun j Γ Sx=>∃ x4:Option D,Γ=[some (.tup (ts.map tupS)),some (tupS c),some (.int ((0:Int) + (i:Nat))),some (tupS t),x4]/\Sx=S'/\∀ o∈(ts.take i).take j,meG t o=c) ⟨x4,rfl,rfl,by simp⟩ ?_ ?_
   ·rintro j y Γ S2 N2 hy ⟨x4,rfl,rfl,hal⟩ hN2;rw[aJ,bz] at hy;obtain⟨o,ho,rfl⟩:=hy;refine⟨trivial,t,o,rfl,by omega,setE.ok 9 (meG t o) c (by decide),_,rfl,ite2 (fun c1=>rt_same (q2 fun h=>?_)) fun c1=>hN2 _ _ ⟨_,rfl,rfl,fun u hu=>?_⟩⟩
    ·have hne:meG t o≠c:=fun e=>by simp[e] at c1
     have h3:(ts.take (i + 1)).Pairwise (fun other one=>meG one other=c):=h.sublist (c5 _ _);rw[tk,a9] at h3;exact hne (h3.2.2 o (ak ho) t (aN.mpr rfl))
    ·rw[cm,ho] at hu;rcases aU.mp hu with z | z
     ·exact hal u z
     ·have:u=o:=by simpa using z
      rw[this];exact aK fun z=>c1 (by
       have:tupS (meG t o)≠tupS c:=fun e=>z (setE.inj e)
       simp[this])
   ·rintro Γ S2 ⟨x4,rfl,rfl,hal⟩;refine⟨trivial,hN _ _ ⟨_,_,_,rfl,rfl,?_⟩⟩;rw[ap,b5] at hal;rw[tk,a9];exact⟨hp,bt _ _,fun u hu v hv=>by rw[aN.mp hv];exact hal u hu⟩
  ·rintro Γ S' ⟨x2,x3,x4,rfl,rfl,hp⟩;rw[pairs_len,ap,b5] at hp;exact⟨trivial,rt_same (q1 hp)⟩
end
end Toy
namespace L2
open PySem Toy
theorem rngD_nat' (lo n:Nat):rngD lo n=(d4 lo n).map natE.e:=by
 induction n generalizing lo with
 | zero=>rfl
 | succ n ih =>
  rw[ji,aG,<- ih]
  rfl
def gN (n m k:Nat) (row:List Nat):List (List Nat):=(d4 (bg row) (n + k + 1 - m - bg row)).map fun o=>row++[o]
theorem rwN_next (n m k:Nat):rwN n m (k + 1)=(rwN n m k).flatMap (gN n m k):=rfl
theorem rwN_len (n m k:Nat) (h:k<=m) (hn:n<=15):(rwN n m k).length<=32768:=by
 rw[rw_eq n m k h];refine Nat.le_trans (dD _ _) (Nat.le_trans (ch_len _ _) ?_);rw[dN];exact Nat.le_trans (Nat.pow_le_pow_right (by decide) hn) (by decide)
theorem rwN_row {n m k:Nat} (h:k<=m) {r:List Nat} (hr:r∈rwN n m k):r.length=k/\∀ i∈r,i < n:=by
 rw[rw_eq n m k h] at hr
 have:=ch_mem (bu.mp hr).1
 exact⟨this.1,fun i hi=>bh.mp (this.2.subset hi)⟩
theorem rwN_all (n m:Nat):rwN n m m=ch (aY n) m:=by
 have h:=rw_ch (aY n) 0 m;rw[dN] at h;rw[<- h]
 have:∀ row∈rwN n m m,(row.map fun i=>(aY n).getD i 0)=row:=fun row hr=>by
  have hi:=(rwN_row (Nat.le_refl _) hr).2;refine(de fun i h=>?_).trans (gS row);rw[aj,List.getElem?_range (hi i h)];rfl
 exact((de this).trans (gS _)).symm
theorem bg_le {r:List Nat} {n:Nat} (h:∀ i∈r,i < n):bg r<=n:=by
 unfold bg
 split
 ·omega
 ·next hne=>have:=h _ (getLastD_mem (z:=0) hne);omega
theorem sub_flat {α β:Type} {f:α->List β} {a b:List α} (h:a.Sublist b):(a.flatMap f).Sublist (b.flatMap f):=by
 induction h with
 | slnil=>exact .slnil
 | cons x _ ih=>rw[bH];exact ih.trans (List.sublist_append_right _ _)
 | cons_cons x _ ih=>rw[bH,bH];exact List.Sublist.append (j3 _) ih
end L2
namespace Toy
open PySem L2
abbrev s_law_choices:Stmt:=top 19
theorem sc_law_choices:FnScope ["sets", "many", "rows", "k", "longer", "row", "begin"] ["sets", "many"] (defScope s_law_choices):=fsc
def lrow (r:List Nat):D:=.lst (r.map natE.e)
def sp_law_choices:SpD:=fun ds S Q=>∃ (ts:List (List Str)) (m:Nat),ds=[.tup (ts.map tupS),.int m]/\ts.length<=15/\m<=6/\Q (.lst ((ch ts m).map fun s=>.tup (s.map tupS))) S
theorem ch_of_range (ts:List (List Str)) (m:Nat):(ch (aY ts.length) m).map (fun r=>r.map fun i=>ts.getD i [])=ch ts m:=by
 rw[<- ch_map]
 congr 1
 refine fC (by rw[ap,dN]) fun i h1 h2=>?_
 rw[fD,iE,aj,ag h2];rfl
section
variable {P:ay} {w:aI} {K:ar} {mg:Str->Option ae} {base:be} {pt cc:Addr}
theorem ok_law_choices (T:Tx K mg "_law_choices" s_law_choices) (B:Bs mg):Df P w K mg base 1 "_law_choices" ["sets", "many"] (spU K sp_law_choices):=by
 refine e_def T sc_law_choices (fun F=>F.binds fun _ _ _ _ _ _=>us2 fun _ _=>rfl) ?_ fun f cdv A outer s H E hr=>⟨_,(dss_cons (ds_set (i:=2) sc_law_choices.nd rfl (aW rfl) (e_lst (b:=true) (da_cons (e_lst (b:=false) da_nil) da_nil)))
  (dss_cons (ds_for ci rfl (di_range1 rfl B.range (da_cons (dv 1) da_nil)) (dg_name (i:=3) sc_law_choices.nd rfl (aW rfl)) (dss_cons (ds_set (i:=4) sc_law_choices.nd rfl (aW rfl) (e_lst (b:=true) da_nil))
  (dss_cons (ds_for ci rfl (di_sq (dv 2)) (dg_name (i:=5) sc_law_choices.nd rfl (Or.inr rfl)) (dss_cons (ds_set (i:=6) sc_law_choices.nd rfl (aW rfl) e_int)
  (dss_cut (ds_if (dt_ne hr (dv 5) (e_lst (b:=false) da_nil)) (dss_one (ds_set (i:=6) sc_law_choices.nd rfl (aW rfl) (e_add (k:=false) (e_ix (dv 5) (e_neg e_int)) e_int))) dss_nil)
  (dss_one (ds_expr (e_extend (dv 4) (da_cons (e_comp (N':=["at", "row"]) (oc:=none) (b:=true) [0] [] rfl sc_law_choices.nd (fun _ _ _=>turn_one _ _ _ _ _ _ _ _ _) (.own (.cap (i:=5) rfl (by decide +kernel) .nil)) (free_of rfl) (di_range2 rfl B.range (da_cons (dv 6) (da_cons (e_add (k:=false) (e_add (k:=false) (e_sub (e_len rfl B.len (da_cons (dv 0) da_nil)) (dv 1)) (dv 3)) e_int) da_nil))) (cg_name (i:=0)) (fun _ _ _ _ _=>pg_name (i:=0) (nd_ ["at", "row"]) rfl (aW rfl) (.inr rfl)) (fun _ _ _ _ _=>dts_nil) bo_emit (fun _ _ _ _ _ _=>pb_emit rfl (by exact PD.o (e_add (k:=false) (dv 1) (e_lst (b:=false) (da_cons (dv 0) da_nil)))))) da_nil)))))))
  (dss_one (ds_set (i:=2) sc_law_choices.nd rfl (aW rfl) (dv 4))))))
  (dss_one (ds_ret (e_comp (N':=["row", "sets"]) (oc:=none) (b:=false) [0] [] rfl sc_law_choices.nd (fun _ _ _=>turn_one _ _ _ _ _ _ _ _ _) (.own (.cap (i:=0) rfl (by decide +kernel) .nil)) (free_of rfl) (di_sq (dv 2)) (cg_name (i:=0)) (fun _ _ _ _ _=>pg_name (i:=0) (nd_ ["row", "sets"]) rfl (aW rfl) (.inr rfl)) (fun _ _ _ _ _=>dts_nil) bo_emit (fun _ _ _ _ _ _=>pb_emit rfl (by exact PD.o (e_tuple rfl B.tuple (da_cons (e_comp (N':=["at", "sets"]) (oc:=none) (b:=false) [0] [] rfl (nd_ ["row", "sets"]) (fun _ _ _=>turn_one _ _ _ _ _ _ _ _ _) (.own (.cap (i:=1) rfl (by decide +kernel) .nil)) (free_of rfl) (di_sq (dv 0)) (cg_name (i:=0)) (fun _ _ _ _ _=>pg_name (i:=0) (nd_ ["at", "sets"]) rfl (aW rfl) (.inr rfl)) (fun _ _ _ _ _=>dts_nil) bo_emit (fun _ _ _ _ _ _=>pb_emit rfl (by exact PD.o (e_ix (dv 1) (dv 0))))) da_nil))))))))),?_⟩
 ·rintro ds S Q ⟨ts,m,rfl,_⟩;rfl
 ·rintro ds S Q ⟨ts,m,rfl,hn,hm,q⟩;rw[<- ch_of_range,bo] at q;obtain⟨n,en⟩:∃ n,n=ts.length:=⟨_,rfl⟩;have el:(ts.map tupS).length=n:=by rw[ap,en]
  rw[<- en] at hn q;refine⟨z9999 (by decide),z9999 (by show 1<=9999;decide),fun r0 hr0=>⟨⟨by omega,by omega⟩,?_⟩⟩
  rw[bG];refine for_ind (fun t Γ S'=>∃ (rp:Addr) (x3 x4 x5 x6:Option D),Γ=[some (.tup (ts.map tupS)),some (.int (m:Nat)),some (.ref rp),x3,x4,x5,x6]/\S rp=none/\S' rp=some (.lst ((rwN n m t).map lrow))/\∀ b o,S b=some o->S' b=some o) ⟨r0,none,none,none,none,rfl,hr0,supd_same,fun b o e=>by rw[supd_ne (by rintro rfl;rw[hr0] at e;cases e)];exact e⟩ ?_ ?_
  ·rintro t x Γ S' N hx ⟨rp,x3,x4,x5,x6,rfl,hrp,hS,hs⟩ hN;obtain⟨ht,rfl⟩:=rng_at hx;refine⟨trivial,z9999 (by decide),fun lp hlp=>?_⟩
   have hne:lp≠rp:=by rintro rfl;rw[hlp] at hS;cases hS
   have hSl:S lp=none:=by
    cases e:S lp with
    | none=>rfl
    | some o=>rw[hs _ _ e] at hlp;cases hlp
   refine⟨_,(supd_ne (cN hne)).trans hS,?_⟩;have hrows:∀ r∈rwN n m t,r.length=t/\∀ i∈r,i < n:=fun r h=>rwN_row (by omega) h
   have hnext:=rwN_next n m t;have hcl:=rwN_len n m (t + 1) (by omega) hn
   generalize rwN n m t=R at hS hrows hnext;refine for_ind (fun i Γ S2=>∃ (y5 y6:Option D),Γ=[some (.tup (ts.map tupS)),some (.int (m:Nat)),some (.ref rp),some (.int (t:Nat)),some (.ref lp),y5,y6]/\S2 rp=some (.lst (R.map lrow))/\S2 lp=some (.lst (((R.take i).flatMap (gN n m t)).map lrow))/\∀ b o,S b=some o->S2 b=some o)
    ⟨x5,x6,rfl,(supd_ne (cN hne)).trans hS,supd_same,fun b o e=>by rw[supd_ne (by rintro rfl;rw[hSl] at e;cases e)];exact hs b o e⟩ ?_ ?_
   ·rintro i x Γ S2 N2 hx ⟨y5,y6,rfl,h1,h2,hs2⟩ hN2;rw[aJ,bz] at hx;obtain⟨r,hr',rfl⟩:=hx;obtain⟨hrl,hri⟩:=hrows r (ak hr');have hbg:=bg_le hri;refine⟨h1,?_⟩;refine⟨fun Γ' S'=>Γ'=[some (.tup (ts.map tupS)),some (.int (m:Nat)),some (.ref rp),some (.int (t:Nat)),some (.ref lp),some (lrow r),some (.int (bg r:Nat))]/\S'=S2,?_,?_⟩
    ·have ok:okE 9 (.lst (r.map natE.e)) (.lst [])=true:=by unfold okE;rw[eR];rfl
     cases r with
     | nil=>exact⟨z9999 (by decide),ok,false,tsn_f rfl,rfl,rfl⟩
     | cons a l =>
      have lt:atI ((a::l).map natE.e) (-1)=some (natE.e ((a::l).getLastD 0)):=by rw[atI_map,at_last (by simp) 0];rfl
      refine⟨z9999 (by decide),ok,true,tsn_t (by intro z;injection z with z;cases z),_,_,rfl,lt,?_,rfl⟩
      have e:bg (a::l)=(a::l).getLastD 0 + 1:=if_neg (by simp)
      rw[e];rfl
    ·rintro Γ' S3 ⟨rfl,rfl⟩;have e2:(((ts.map tupS).length:Int) - (m:Nat) + (t:Nat) + 1 - (bg r:Nat)).toNat=n + t + 1 - m - bg r:=by rw[el];omega
     have he:gN n m t r=(d4 (bg r) (n + t + 1 - m - bg r)).map fun o=>r++[o]:=rfl;have hel:(gN n m t r).length=n + t + 1 - m - bg r:=by rw[he,ap,iG]
     have et:(R.take (i + 1)).flatMap (gN n m t)=(R.take i).flatMap (gN n m t)++gN n m t r:=by
      rw[cm,hr',List.flatMap_append];show _++([r].flatMap _)=_;simp
     have hz:((R.take i).flatMap (gN n m t)).length + (gN n m t r).length<=32768:=by
      have h3:=(sub_flat (f:=gN n m t) (c5 (i + 1) R)).length_le;rw[et,az,<- hnext] at h3;omega
     refine⟨⟨_,h2⟩,_,rfl,⟨by omega,by omega,by rw[el];omega,by rw[el];omega⟩,?_⟩
     rw[e2,rngD_nat'];refine loop_map (enc:=natE.e) (f:=fun o=>lrow (r++[o])) (fun o ho Q q=>⟨z9999 (by show 1<=9999;decide),_,_,rfl,rfl,z9999 (by show(r.map natE.e).length + 1<=9999;rw[ap];omega),?_⟩) (z9999 (by rw[iG];show 0 + _<=_;omega)) ?_
     ·have e:lrow (r++[o])=.lst (r.map natE.e++[natE.e o]):=by unfold lrow;rw[br];rfl
      rw[e] at q;exact q
     ·intro p2 hp2;have n1:p2≠lp:=by rintro rfl;rw[hp2] at h2;cases h2
      have n2:p2≠rp:=by rintro rfl;rw[hp2] at h1;cases h1
      have hSp:S p2=none:=by
       cases e:S p2 with
       | none=>rfl
       | some o=>rw[hs2 _ _ e] at hp2;cases hp2
      refine⟨_,_,(supd_ne (cN n1)).trans h2,supd_same,?_,hN2 _ _ ⟨_,_,rfl,?_,?_,fun b o e=>?_⟩⟩
      ·rw[bS,ap,ap,iG,bF];omega
      ·rw[supd_ne (cN hne),supd_ne (cN n2)];exact h1
      ·rw[supd_same,et,br,he,bo];rfl
      ·rw[supd_ne (by rintro rfl;rw[hSl] at e;cases e),supd_ne (by rintro rfl;rw[hSp] at e;cases e)]
       exact hs2 b o e
   ·rintro Γ S2 ⟨y5,y6,rfl,h1,h2,hs2⟩;rw[ap,b5,<- hnext] at h2;exact⟨h1,hN _ _ ⟨lp,_,_,_,_,rfl,hSl,h2,hs2⟩⟩
  ·rintro Γ S' ⟨rp,x3,x4,x5,x6,rfl,hrp,hS,hs⟩;rw[rngD_len,rwN_all] at hS;refine⟨trivial,_,hS,?_⟩;have cl:=Nat.le_trans (ch_len (aY n) m) (Nat.le_trans (Nat.pow_le_pow_right (by decide) (show(aY n).length<=15 by rw[dN];exact hn)) (show 2 ^ 15<=32768 by decide))
   have mem:∀ r∈ch (aY n) m,r.length=m/\∀ i∈r,i < n:=fun r h=>⟨(ch_mem h).1,fun i hi=>bh.mp ((ch_mem h).2.subset hi)⟩;generalize ch (aY n) m=C at hS cl mem q;refine loop_ind (fun i acc S2=>acc=(C.take i).map (fun r=>D.tup ((r.map fun i=>ts.getD i []).map tupS))/\S2=S') ⟨rfl,rfl⟩ ?_ ?_
   ·rintro i x acc S2 N2 hx ⟨rfl,rfl⟩ hN2;rw[aJ,bz] at hx;obtain⟨r,hr,rfl⟩:=hx;obtain⟨rl,ri⟩:=mem r (ak hr);have tk:C.take (i + 1)=C.take i++[r]:=by rw[cm,hr];rfl
    rw[tk] at hN2;refine⟨hS,_,rfl,loop_map (enc:=natE.e) (f:=fun o=>tupS (ts.getD o [])) (fun o ho Q q=>⟨_,_,rfl,atI_nat (by rw[aJ,ag (en ▸ ri o ho),aj,ag (en ▸ ri o ho)];rfl),q⟩) (z9999 (by show 0 + r.length<=9999;omega)) ⟨_,rfl,?_,hN2 _ _ ⟨by rw[br,bS];show _=_++[D.tup ((r.map fun i=>ts.getD i []).map tupS)];rw[bo];rfl,rfl⟩⟩⟩
    rw[ap,aS,bF];omega
   ·rintro acc S2 ⟨rfl,rfl⟩;rw[ap,b5];exact⟨hS,rt_drop hs q⟩
end
abbrev s_law_whole:Stmt:=top 20
theorem sc_law_whole:FnScope ["found"] ["found"] (defScope s_law_whole):=fsc
def sp_law_whole:SpD:=fun ds S Q=>∃ n:Nat,ds=[.int n]/\Q (.bl true) S
section
variable {P:ay} {w:aI} {K:ar} {mg:Str->Option ae} {base:be} {pt cc:Addr}
theorem ok_law_whole (T:Tx K mg "_law_whole" s_law_whole) (B:Bs mg):Df P w K mg base 1 "_law_whole" ["found"] (spU K sp_law_whole):=by
 refine e_def T sc_law_whole (fun F=>F.binds fun _ _ _ _ _ _=>us1 fun _=>rfl) ?_ fun f cdv A outer s H E hr=>⟨_,(dss_one (ds_ret (e_and (e_isi rfl B.isinstance (da_cons (dv 0) (da_cons (e_ty rfl B.int bt_int) da_nil))) (e_one (e_not (e_isi rfl B.isinstance (da_cons (dv 0) (da_cons (e_ty rfl B.bool bt_bool) da_nil)))))))),?_⟩
 ·rintro ds S Q ⟨n,rfl,_⟩;rfl
 ·rintro ds S Q ⟨n,rfl,q⟩;refine⟨_,true,rfl,rfl,true,rfl,?_⟩;rw[if_pos rfl];exact⟨_,false,rfl,rfl,false,rfl,rt_same q⟩
end
abbrev s_choices_of:Stmt:=top 5
theorem sc_choices_of:FnScope ["things", "many", "found", "at", "one"] ["things", "many"] (defScope s_choices_of):=fsc
def sp_choices_of:SpD:=cn_of 8
section
variable {P:ay} {w:aI} {K:ar} {mg:Str->Option ae} {base:be} {pt cc:Addr}
theorem ch_step {k n:Nat} (T:Tx K mg "choices_of" s_choices_of) (B:Bs mg) (d_choices_of:Df P w K mg base k "choices_of" ["things", "many"] (spU K (cn_of n))):Df P w K mg base (k + 1) "choices_of" ["things", "many"] (spU K (cn_of (n + 1))):=by
 refine e_def T sc_choices_of (fun F=>F.binds fun _ _ _ _ _ _=>us2 fun _ _=>rfl) ?_ fun f cdv A outer s H E hr=>⟨_,(dss_cons (ds_if (dt_eq hr (dv 1) e_int) (dss_one (ds_ret (e_lst (b:=false) (da_cons (e_tup da_nil) da_nil)))) dss_nil)
  (dss_cons (ds_if (dt_not (dt_ltle e_int (dv 1) (e_len rfl B.len (da_cons (dv 0) da_nil)))) (dss_one (ds_ret (e_lst (b:=false) da_nil))) dss_nil)
  (dss_cons (ds_set (i:=2) sc_choices_of.nd rfl (aW rfl) (e_lst (b:=true) da_nil))
  (dss_cons (ds_for ci rfl (di_enT rfl B.enumerate (da_cons (dv 0) da_nil)) (dg_tup rfl (dgs_cons (dg_name (i:=3) sc_choices_of.nd rfl (aW rfl)) (dgs_cons (dg_name (i:=4) sc_choices_of.nd rfl (Or.inr rfl)) dgs_nil))) (dss_one (ds_expr (e_extend (dv 2) (da_cons (e_comp (N':=["more", "one"]) (oc:=none) (b:=true) [0] [] rfl sc_choices_of.nd (fun _ _ _=>turn_one _ _ _ _ _ _ _ _ _) (.own (.cap (i:=4) rfl (by decide +kernel) .nil)) (free_of rfl) (di_sq (e_callD d_choices_of hr rfl (da_cons (e_sl (b:=false) (dv 0) (do_some (e_add (k:=false) (dv 3) e_int)) do_none) (da_cons (e_sub (dv 1) e_int) da_nil)))) (cg_name (i:=0)) (fun _ _ _ _ _=>pg_name (i:=0) (nd_ ["more", "one"]) rfl (aW rfl) (.inr rfl)) (fun _ _ _ _ _=>dts_nil) bo_emit (fun _ _ _ _ _ _=>pb_emit rfl (by exact PD.o (e_add (k:=false) (e_tup (da_cons (dv 1) da_nil)) (dv 0))))) da_nil)))))
  (dss_one (ds_ret (dv 2))))))),?_⟩
 ·rintro ds S Q ⟨xs,m,rfl,_⟩;rfl
 ·rintro ds S Q ⟨xs,m,rfl,hm,hx,q⟩;refine⟨rfl,_,rfl,ite2 (fun c1=>?_) fun c1=>?_⟩
  ·have e:m=0:=by
    have:=of_decide_eq_true c1
    injection this with this
    omega
   subst e;rw[ch_zero] at q;exact⟨z9999 (by decide),z9999 (by show 1<=9999;decide),rt_same q⟩
  have m0:m≠0:=fun e=>c1 (decide_eq_true (by rw[e];rfl))
  refine⟨_,rfl,ite2 (fun _=>?_) fun c=>absurd (decide_eq_true (by omega)) c⟩
  refine⟨_,rfl,_,rfl,ite2 (fun c2=>?_) fun c2=>?_⟩
  ·have hb:xs.length < m:=by simp at c2;omega
   rw[ch_big xs m hb] at q;exact⟨z9999 (by decide),rt_same q⟩
  have hb:m<=xs.length:=by simp at c2;omega
  obtain⟨c,rfl⟩:∃ c,m=c + 1:=⟨m - 1,by omega⟩
  refine⟨z9999 (by decide),fun fp hfp=>?_⟩
  have hcl:∀ m,(ch xs m).length<=2 ^ 20:=fun m=>Nat.le_trans (ch_len xs m) (Nat.pow_le_pow_right (by decide) hx)
  refine for_ind (fun i Γ S'=>∃ (x3 x4:Option D) (acc:List (List D)),Γ=[some (.tup xs),some (.int ((c + 1:Nat):Int)),some (.ref fp),x3,x4]/\S' fp=some (.lst (acc.map D.tup))/\acc++ch (xs.drop i) (c + 1)=ch xs (c + 1)/\∀ b o,S b=some o->S' b=some o)
   ⟨none,none,[],rfl,supd_same,rfl,fun b o e=>by rw[supd_ne (by rintro rfl;rw[hfp] at e;cases e)];exact e⟩ ?_ ?_
  ·rintro i x Γ S' N hxi ⟨x3,x4,acc,rfl,hf,hacc,hs⟩ hN;obtain⟨y,hy,rfl⟩:=pairs_get xs 0 i x hxi;have hi:i < xs.length:=by
    rcases Nat.lt_or_ge i xs.length with z | z
    ·exact z
    ·rw[bP z] at hy;cases hy
   have hyi:xs[i]=y:=by rw[ag hi] at hy;exact aP hy
   have hd:=ch_drop xs i c hi;rw[hyi] at hd;have hlen:acc.length + (ch (xs.drop (i + 1)) c).length<=2 ^ 20:=by
    have h1:=congrArg eE hacc;rw[hd,az,az,ap] at h1
    have:=hcl (c + 1)
    omega
   refine⟨trivial,rfl,rfl,⟨_,hf⟩,_,rfl,xs.drop (i + 1),c,?_,by omega,by rw[bB];omega,_,rfl,loop_map (enc:=D.tup) (f:=fun more=>D.tup (y::more)) (fun more hm Q q=>?_) ?_ ?_⟩
   ·show [D.tup (cutD xs (some (0 + (i:Int) + 1)) none),D.int (((c + 1:Nat):Int) - 1)]=_;rw[hU,cut_from,show((c + 1:Nat):Int) - 1=(c:Int) by omega]
   ·have h1:=(ch_mem hm).1;exact⟨z9999 (by show 1<=9999;decide),z9999 (by show 1 + more.length<=9999;omega),q⟩
   ·rw[bF];show 0 + (ch (xs.drop (i + 1)) c).length<=_;omega
   ·intro p2 hp2;have hne:p2≠fp:=by rintro rfl;rw[hp2] at hf;cases hf
    refine⟨_,_,(supd_ne (cN hne)).trans hf,supd_same,?_,hN _ _ ⟨_,_,acc++(ch (xs.drop (i + 1)) c).map (y::·),rfl,?_,?_,fun b o e=>?_⟩⟩
    ·rw[bS,ap,ap,bF];omega
    ·rw[supd_same,br,bo];rfl
    ·rw[aR,<- hd];exact hacc
    ·rw[supd_ne (by rintro rfl;rw[hfp] at e;cases e),supd_ne (by rintro rfl;rw[hs _ _ e] at hp2;cases hp2)]
     exact hs b o e
  ·rintro Γ S' ⟨x3,x4,acc,rfl,hf,hacc,hs⟩;rw[pairs_len,bA (Nat.le_refl _),ch_nil,bR] at hacc;refine⟨trivial,rt_frz (S':=S) hf hs hfp (hacc ▸ q)⟩
theorem ch_all (T:Tx K mg "choices_of" s_choices_of) (B:Bs mg):∀ n:Nat,Df P w K mg base (1 + n) "choices_of" ["things", "many"] (spU K (cn_of n))
 | 0=>T.df (fun F=>F.binds fun _ _ _ _ _ _=>us2 fun _ _=>rfl) fun F=>F.ok sc_choices_of (fun vs H Q E ⟨_,_,_,_,_,_,⟨_,_,_,h,_⟩,_⟩=>absurd h (Nat.not_lt_zero _)) fun cdv A outer s H vs Q E' hr ⟨_,_,_,_,_,_,⟨_,_,_,h,_⟩,_⟩=>absurd h (Nat.not_lt_zero _)
 | n + 1=>ch_step T B (ch_all T B n)
theorem ok_choices_of (T:Tx K mg "choices_of" s_choices_of) (B:Bs mg):Df P w K mg base 9 "choices_of" ["things", "many"] (spU K sp_choices_of):=by
 exact ch_all T B 8
end
abbrev s_meet_of:Stmt:=top 3
theorem sc_meet_of:FnScope ["one", "other"] ["one", "other"] (defScope s_meet_of):=fsc
section
variable {P:ay} {w:aI} {K:ar} {mg:Str->Option ae} {base:be} {pt cc:Addr}
theorem ok_meet_of (T:Tx K mg "meet_of" s_meet_of) (B:Bs mg):Df P w K mg base 1 "meet_of" ["one", "other"] (spU K sp_meet_of):=by
 refine e_def T sc_meet_of (fun F=>F.binds fun _ _ _ _ _ _=>us2 fun _ _=>rfl) ?_ fun f cdv A outer s H E hr=>⟨_,(dss_one (ds_ret (e_tuple rfl B.tuple (da_cons (e_comp (N':=["name", "other"]) (oc:=none) (b:=false) [0] [] rfl sc_meet_of.nd (fun _ _ _=>turn_one _ _ _ _ _ _ _ _ _) (.own (.cap (i:=1) rfl (by decide +kernel) .nil)) (free_of rfl) (di_sq (dv 0)) (cg_name (i:=0)) (fun _ _ _ _ _=>pg_name (i:=0) (nd_ ["name", "other"]) rfl (aW rfl) (.inr rfl)) (fun _ _ _ _ _=>dts_one (by exact(dt_in hr (dv 0) (dv 1)))) bo_emit (fun _ _ _ _ _ _=>pb_emit rfl (by exact PD.o (dv 0)))) da_nil)))),?_⟩
 ·rintro ds S Q ⟨one,row,rfl,_⟩;rfl
 ·rintro ds S Q ⟨one,row,rfl,hl,q⟩;exact⟨one.map D.str,rfl,loop_filt (p:=fun n=>decide (n∈row)) (f:=D.str) (fun x hx Q q=>in_t (neg:=false) (E:=strE) (by decide) rfl q) (fun x hx _ Q q=>q) (z9999 (by show 0 + one.length<=_;omega)) ⟨_,rfl,rt_same q⟩⟩
end
end Toy
namespace L2
open PySem PySem.Spec PyProof.Rows
end L2
namespace L2
open PySem Toy
theorem ch2_half {α:Type}:∀ xs:List α,2 * (ch xs 2).length<=xs.length * (xs.length - 1)
 | []=>by simp[ch_nil]
 | x::xs=>by
  have ih:=ch2_half xs;rw[ch_cons,az,ap,ch_one,ap,aO,Nat.add_sub_cancel];have e:(xs.length + 1) * xs.length=xs.length * (xs.length - 1) + 2 * xs.length:=by
   cases xs with
   | nil=>rfl
   | cons y ys=>simp only[aO,Nat.add_sub_cancel];rw[Nat.mul_comm (ys.length + 1) ys.length,<- Nat.add_mul]
  lia
def mets (ts:List (List Str)):List (List Str):=(ch ts 2).map mt2
theorem mets_len (ts:List (List Str)) (h:ts.length<=14):(mets ts).length<=91:=by
 have h1:=ch2_half ts;have h2:ts.length * (ts.length - 1)<=14 * 13:=Nat.mul_le_mul h (by lia)
 unfold mets;rw[ap];lia
theorem mets_each {ts:List (List Str)} {n:Nat} (h:∀ t∈ts,t.length<=n) {c:List Str} (hc:c∈mets ts):c.length<=n:=by
 obtain⟨p,hp,rfl⟩:=cC.mp hc;obtain⟨a,b,rfl,hab⟩:=ch2_pair hp;exact Nat.le_trans (dD _ _) (h a (hab.subset (by simp)))
theorem met_two {ts:List (List Str)} (hs:SrtT ts) (he:∀ t∈ts,Srt t) {core:List Str} (h:core∈mets ts):Srt core/\∀ r,MfS (hav ts core) (mtg (hav ts core) core) (-1) r->2<=r.length:=by
 obtain⟨p,hp,rfl⟩:=cC.mp h;obtain⟨a,b,rfl,hab⟩:=ch2_pair hp;have ha:=he a (hab.subset (by simp))
 have hb:=he b (hab.subset (by simp))
 refine⟨cX _ ha,fun r hr=>?_⟩;have sub:[a,b].Sublist (hav ts (mt2 [a,b])):=by
  have h1:=hab.filter fun t=>has t (mt2 [a,b]);have e:[a,b].filter (fun t=>has t (mt2 [a,b]))=[a,b]:=by
   rw[gX];intro t ht;rw[has_iff];intro x hx;have hx':=bu.mp hx;rcases aB.mp ht with rfl | ht
   ·exact hx'.1
   ·rw[aN.mp ht];exact of_decide_eq_true hx'.2
  rw[e] at h1;exact h1
 have:=hr.most [a,b] sub ((free_mtg (fun t ht=>he t (bu.mp ht).1) (hs.nodup.filter _) sub).mpr (by
  refine bd.mpr ⟨fun c hc=>?_,bt _ _⟩;rw[aN.mp hc];rfl))
 exact this
end L2
namespace Toy
open PySem L2
abbrev s_cores_of_two:Stmt:=top 12
theorem sc_cores_of_two:FnScope ["sets"] ["sets"] (defScope s_cores_of_two):=fsc
def sp_cores_of_two:SpD:=fun ds S Q=>∃ (ts:List (List Str)),ds=[.tup (ts.map tupS)]/\ts.length<=14/\(∀ t∈ts,t.length<=12)/\∀ out,SrtT out->(∀ t,t∈out↔t∈mets ts)->Q (.lst (out.map tupS)) S
section
variable {P:ay} {w:aI} {K:ar} {mg:Str->Option ae} {base:be} {pt cc:Addr}
theorem ok_cores_of_two (T:Tx K mg "cores_of_two" s_cores_of_two) (B:Bs mg) (d_choices_of:Df P w K mg base 9 "choices_of" ["things", "many"] (spU K sp_choices_of)) (d_meet_of:Df P w K mg base 9 "meet_of" ["one", "other"] (spU K sp_meet_of)):Df P w K mg base 10 "cores_of_two" ["sets"] (spU K sp_cores_of_two):=by
 refine e_def T sc_cores_of_two (fun F=>F.binds fun _ _ _ _ _ _=>us1 fun _=>rfl) ?_ fun f cdv A outer s H E hr=>⟨_,(dss_one (ds_ret (e_srtCT (N':=["one", "other"]) (oc:=none) (b:=false) [0,1] [] hr rfl B.sorted rfl sc_cores_of_two.nd (fun _ _ _=>turn_oneS _ _ _ _ _ _ _ _ _) (.own (.own .nil)) (free_of rfl) (di_sq (e_callD d_choices_of hr rfl (da_cons (dv 0) (da_cons e_int da_nil)))) (cg_pair (i:=0) (j:=1)) (fun _ _ _ _ _=>pg_tup rfl (pgs_cons (pg_name (i:=0) (nd_ ["one", "other"]) rfl (aW rfl) (.inr rfl)) (pgs_cons (pg_name (i:=1) (nd_ ["one", "other"]) rfl (aW rfl) (.inr rfl)) pgs_nil))) (fun _ _ _ _ _=>dts_nil) bo_emT (fun _ _ _ _ _ _=>(pb_emitS (kn:=tupKn _ _ _) rfl (lt10 hr) rfl rfl rfl (by exact PD.o (e_callD d_meet_of hr rfl (da_cons (dv 0) (da_cons (dv 1) da_nil))))))))),?_⟩
 ·rintro ds S Q ⟨ts,rfl,_⟩;rfl
 ·rintro ds S Q ⟨ts,rfl,h14,he,q⟩;have ml:=mets_len ts h14;have ml2:(Toy.ch ts 2).length<=91:=by rw[mets,ap] at ml;exact ml
  refine⟨ts.map tupS,2,rfl,by decide,by rw[ap];omega,(Toy.ch ts 2).map (fun s=>D.tup (s.map tupS)),(by show _=_;rw[Toy.ch_map,bo];rfl),?_⟩
  refine loop_ind (fun i acc S'=>S'=S/\acc=(((Toy.ch ts 2).take i).map mt2).map tupS) ⟨rfl,rfl⟩ ?_ ?_
  ·rintro i x acc S' N hx ⟨rfl,rfl⟩ hN;rw[aJ,bz] at hx;obtain⟨p,hp,rfl⟩:=hx;obtain⟨a,b,rfl,hab⟩:=ch2_pair (ak hp);have hi:=(aD.mp hp).1;have ha:=he a (hab.subset (by simp))
   refine⟨trivial,rfl,rfl,a,b,rfl,by omega,mt2 [a,b],rfl,?_,hN _ _ ⟨rfl,?_⟩⟩
   ·rw[ap,ap,aS];omega
   ·rw[cm,hp,br,br];rfl
  ·rintro acc S' ⟨rfl,rfl⟩;rw[ap,b5];refine⟨trivial,mets ts,rfl,fun out ond omem=>⟨?_,fun opw=>rt_same (q out opw omem)⟩⟩
   have:=ond.length_le_of_subset fun t ht=>(omem t).mp ht
   omega
end
abbrev s_has_all:Stmt:=top 1
theorem sc_has_all:FnScope ["one", "row"] ["one", "row"] (defScope s_has_all):=fsc
section
variable {P:ay} {w:aI} {K:ar} {mg:Str->Option ae} {base:be} {pt cc:Addr}
theorem ok_has_all (T:Tx K mg "has_all" s_has_all) (B:Bs mg):Df P w K mg base 1 "has_all" ["one", "row"] (spU K sp_has_all):=by
 refine e_def T sc_has_all (fun F=>F.binds fun _ _ _ _ _ _=>us2 fun _ _=>rfl) ?_ fun f cdv A outer s H E hr=>⟨_,(dss_one (ds_ret (e_all rfl B.all (da_cons (e_comp (N':=["name", "one"]) (oc:=none) (b:=false) [0] [] rfl sc_has_all.nd (fun _ _ _=>turn_one _ _ _ _ _ _ _ _ _) (.own (.cap (i:=0) rfl (by decide +kernel) .nil)) (free_of rfl) (di_sq (dv 1)) (cg_name (i:=0)) (fun _ _ _ _ _=>pg_name (i:=0) (nd_ ["name", "one"]) rfl (aW rfl) (.inr rfl)) (fun _ _ _ _ _=>dts_nil) bo_emit (fun _ _ _ _ _ _=>pb_emit rfl (by exact PD.o (e_in hr (dv 0) (dv 1))))) da_nil)))),?_⟩
 ·rintro ds S Q ⟨α,dα,E,one,row,d1,d2,rfl,_⟩;rfl
 ·rintro ds S Q ⟨α,dα,E,one,row,d1,d2,rfl,hE,h1,h2,hl,q⟩;have go:∀ Q':List D->Sto->Prop,Q' (row.map fun d=>D.bl (decide (d∈one))) S->loopD (gdName 0) dYes (emitD (dOp (inD false) (dVar 0) (dVar 1))) (fun _=>True) [none,some d1] (row.map E.e) [] S Q':=fun Q' q' =>
   loop_map (f:=fun d=>D.bl (decide (d∈one))) (fun d hd Q q=>in_e (neg:=false) (E:=E) (by omega) h1.sq q) (z9999 (by show 0 + row.length<=_;omega)) q'
  have e:(row.map fun d=>decide (d∈one)).all id=has one row:=by unfold has;rw[g9];rfl
  rw[<- e] at q;rcases h2 with rfl | rfl
  ·exact⟨row.map E.e,rfl,go _ ⟨row.map fun d=>decide (d∈one),by show _=_;rw[bo];rfl,rt_same q⟩⟩
  ·exact⟨row.map E.e,rfl,go _ ⟨row.map fun d=>decide (d∈one),by show _=_;rw[bo];rfl,rt_same q⟩⟩
end
abbrev s_without_names:Stmt:=top 4
theorem sc_without_names:FnScope ["one", "row"] ["one", "row"] (defScope s_without_names):=fsc
section
variable {P:ay} {w:aI} {K:ar} {mg:Str->Option ae} {base:be} {pt cc:Addr}
theorem ok_without_names (T:Tx K mg "without_names" s_without_names) (B:Bs mg):Df P w K mg base 1 "without_names" ["one", "row"] (spU K sp_without_names):=by
 refine e_def T sc_without_names (fun F=>F.binds fun _ _ _ _ _ _=>us2 fun _ _=>rfl) ?_ fun f cdv A outer s H E hr=>⟨_,(dss_one (ds_ret (e_tuple rfl B.tuple (da_cons (e_comp (N':=["name", "row"]) (oc:=none) (b:=false) [0] [] rfl sc_without_names.nd (fun _ _ _=>turn_one _ _ _ _ _ _ _ _ _) (.own (.cap (i:=1) rfl (by decide +kernel) .nil)) (free_of rfl) (di_sq (dv 0)) (cg_name (i:=0)) (fun _ _ _ _ _=>pg_name (i:=0) (nd_ ["name", "row"]) rfl (aW rfl) (.inr rfl)) (fun _ _ _ _ _=>dts_one (by exact(dt_nin hr (dv 0) (dv 1)))) bo_emit (fun _ _ _ _ _ _=>pb_emit rfl (by exact PD.o (dv 0)))) da_nil)))),?_⟩
 ·rintro ds S Q ⟨α,dα,E,one,row,d1,d2,rfl,_⟩;rfl
 ·rintro ds S Q ⟨α,dα,E,one,row,d1,d2,rfl,hE,h1,h2,hl,q⟩;have go:∀ Q':List D->Sto->Prop,Q' ((wo one row).map E.e) S->loopD (gdName 0) (dTest (dOp (inD true) (dVar 0) (dVar 1))) (emitD (dVar 0)) (fun _=>True) [none,some d2] (one.map E.e) [] S Q':=fun Q' q' =>
   loop_filt (p:=fun n=>!decide (n∈row)) (f:=E.e) (fun x hx Q q=>in_t (neg:=true) (E:=E) (by omega) h2.sq q) (fun x hx _ Q q=>q) (z9999 (by show 0 + one.length<=_;omega)) q'
  rcases h1 with rfl | rfl
  ·exact⟨one.map E.e,rfl,go _ ⟨_,rfl,rt_same q⟩⟩
  ·exact⟨one.map E.e,rfl,go _ ⟨_,rfl,rt_same q⟩⟩
end
abbrev s_link_of:Stmt:=top 7
theorem sc_link_of:FnScope ["sets", "row"] ["sets", "row"] (defScope s_link_of):=fsc
theorem lnk_nd {ts:List (List Str)} {row:List Str} (nd:ts.Nodup) (hs:∀ t∈ts,Srt t):((ts.filter fun t=>has t row).map fun t=>wo t row).Nodup:=by
 unfold List.Nodup;rw[gq];refine dH ?_ (nd.filter _);intro a b ha hb hne e;obtain⟨ha,ha'⟩:=bu.mp ha;obtain⟨hb,hb'⟩:=bu.mp hb;refine hne ((hs a ha).ext (hs b hb) fun n=>?_)
 by_cases hn:n∈row
 ·exact⟨fun _=>has_iff.mp hb' n hn,fun _=>has_iff.mp ha' n hn⟩
 ·have:=mem_wo (one:=a) (row:=row) (x:=n)
  rw[e,mem_wo] at this;exact⟨fun h=>(this.mpr ⟨h,hn⟩).1,fun h=>(this.mp ⟨h,hn⟩).1⟩
def sp_link_of:SpD:=fun ds S Q=>∃ (ts:List (List Str)) (row:List Str),ds=[.tup (ts.map tupS),tupS row]/\ts.length<=20/\row.length<=9999/\(∀ t∈ts,t.length<=9999)/\Q (.tup ((lnk ts row).map tupS)) S
section
variable {P:ay} {w:aI} {K:ar} {mg:Str->Option ae} {base:be} {pt cc:Addr}
theorem ok_link_of (T:Tx K mg "link_of" s_link_of) (B:Bs mg) (d_has_all:Df P w K mg base 1 "has_all" ["one", "row"] (spU K sp_has_all)) (d_without_names:Df P w K mg base 1 "without_names" ["one", "row"] (spU K sp_without_names)):Df P w K mg base 2 "link_of" ["sets", "row"] (spU K sp_link_of):=by
 refine e_def T sc_link_of (fun F=>F.binds fun _ _ _ _ _ _=>us2 fun _ _=>rfl) ?_ fun f cdv A outer s H E hr=>⟨_,(dss_one (ds_ret (e_tuple rfl B.tuple (da_cons (e_sorted (b:=false) hr rfl B.sorted (da_cons (e_comp (N':=["one", "row"]) (oc:=none) (b:=false) [0] [] rfl sc_link_of.nd (fun _ _ _=>turn_one _ _ _ _ _ _ _ _ _) (.own (.cap (i:=1) rfl (by decide +kernel) .nil)) (free_of rfl) (di_sq (dv 0)) (cg_name (i:=0)) (fun _ _ _ _ _=>pg_name (i:=0) (nd_ ["one", "row"]) rfl (aW rfl) (.inr rfl)) (fun _ _ _ _ _=>dts_one (by exact(dt_tru (e_callD d_has_all hr rfl (da_cons (dv 0) (da_cons (dv 1) da_nil)))))) bo_emit (fun _ _ _ _ _ _=>pb_emit rfl (by exact PD.o (e_callD d_without_names hr rfl (da_cons (dv 0) (da_cons (dv 1) da_nil)))))) da_nil)) da_nil)))),?_⟩
 ·rintro ds S Q ⟨ts,row,rfl,_⟩;rfl
 ·rintro ds S Q ⟨ts,row,rfl,hl,hr,he,q⟩;refine⟨_,rfl,loop_filt (p:=fun t=>has t row) (f:=fun t=>tupS (wo t row)) (fun t ht Q q=>⟨Str,inferInstance,strE,t,row,tupS t,tupS row,rfl,by decide,.inl rfl,.inl rfl,hr,q⟩) (fun t ht _ Q q=>⟨Str,inferInstance,strE,t,row,tupS t,tupS row,rfl,by decide,.inl rfl,.inl rfl,he t ht,q⟩) (z9999 (by show 0 + ts.length<=_;omega)) ?_⟩
  exact .inr (.inr ⟨(ts.filter fun t=>has t row).map fun t=>wo t row,by rw[bS,bo];rfl,_,rfl,rt_same q⟩)
end
abbrev s_meets:Stmt:=top 2
theorem sc_meets:FnScope ["one", "row"] ["one", "row"] (defScope s_meets):=fsc
section
variable {P:ay} {w:aI} {K:ar} {mg:Str->Option ae} {base:be} {pt cc:Addr}
theorem ok_meets (T:Tx K mg "meets" s_meets) (B:Bs mg):Df P w K mg base 1 "meets" ["one", "row"] (spU K sp_meets):=by
 refine e_def T sc_meets (fun F=>F.binds fun _ _ _ _ _ _=>us2 fun _ _=>rfl) ?_ fun f cdv A outer s H E hr=>⟨_,(dss_one (ds_ret (e_any rfl B.any (da_cons (e_comp (N':=["name", "one"]) (oc:=none) (b:=false) [0] [] rfl sc_meets.nd (fun _ _ _=>turn_one _ _ _ _ _ _ _ _ _) (.own (.cap (i:=0) rfl (by decide +kernel) .nil)) (free_of rfl) (di_sq (dv 1)) (cg_name (i:=0)) (fun _ _ _ _ _=>pg_name (i:=0) (nd_ ["name", "one"]) rfl (aW rfl) (.inr rfl)) (fun _ _ _ _ _=>dts_nil) bo_emit (fun _ _ _ _ _ _=>pb_emit rfl (by exact PD.o (e_in hr (dv 0) (dv 1))))) da_nil)))),?_⟩
 ·rintro ds S Q ⟨α,dα,E,one,row,d1,d2,rfl,_⟩;rfl
 ·rintro ds S Q ⟨α,dα,E,one,row,d1,d2,rfl,hE,h1,h2,hl,q⟩;have go:∀ Q':List D->Sto->Prop,Q' (row.map fun d=>D.bl (decide (d∈one))) S->loopD (gdName 0) dYes (emitD (dOp (inD false) (dVar 0) (dVar 1))) (fun _=>True) [none,some d1] (row.map E.e) [] S Q':=fun Q' q' =>
   loop_map (f:=fun d=>D.bl (decide (d∈one))) (fun d hd Q q=>in_e (neg:=false) (E:=E) (by omega) h1.sq q) (z9999 (by show 0 + row.length<=_;omega)) q'
  have e:(row.map fun d=>decide (d∈one)).any id=mts one row:=by unfold mts;rw[List.any_map];rfl
  rw[<- e] at q;rcases h2 with rfl | rfl
  ·exact⟨row.map E.e,rfl,go _ ⟨row.map fun d=>decide (d∈one),by show _=_;rw[bo];rfl,rt_same q⟩⟩
  ·exact⟨row.map E.e,rfl,go _ ⟨row.map fun d=>decide (d∈one),by show _=_;rw[bo];rfl,rt_same q⟩⟩
end
end Toy
namespace L2
open PySem PySem.Spec PyProof.Rows
def EsAt (h:be) (d:Addr) (es:Array i5) (ep:Nat):Prop:=∃ o,h.get? d=some o/\o.ExactDict/\o.data=.dict es ep
section
variable {prog:ay} {w:aI} {A:a6} {E:ae->ai->Prop} {s:ai} {d it:Addr} {es:Array i5} {ep i:Nat}
theorem EsAt.ty (x:EsAt s.heap d es ep):s.TypeIs (.ref d) "dict":=by
 obtain⟨o,e,c,_⟩:=x;exact⟨o,e,c.1⟩
end
section
variable {κ β:Type} [DecidableEq κ]
def valX (kvs:List (κ × β)) (k:κ):Option β:=(kvs.find? fun kv=>decide (kv.1=k)).map (·.2)
def putX (kvs:List (κ × β)) (k:κ) (v:β):List (κ × β):=if (kvs.any fun kv=>decide (kv.1=k))=true then kvs.map (fun kv=>if kv.1=k then (kv.1,v) else kv) else kvs++[(k,v)]
theorem valX_pos {p:κ × β} {r:List (κ × β)} {k:κ} (e:p.1=k):valX (p::r) k=some p.2:=by simp[valX,cR,e]
theorem valX_neg {p:κ × β} {r:List (κ × β)} {k:κ} (e:¬ p.1=k):valX (p::r) k=valX r k:=by simp[valX,cR,e]
end
structure KnD (P:ay) (w:aI) (K:Fg) (κ:Type) [DecidableEq κ] where
 knd:HeapKind P w κ
 enc:κ->D
 room:∀ {A:a6},A.units + 8 < b7->knd.room A.in1
 key:∀ {X:Cx} {pins:List (Addr × Obj)} {σ:St} {H:Hp} {s:ai} {M:Am} {k:κ} {b:Addr},X.prog=P->X.w=w->X.K=K->Inv X pins σ H s->RepV K M H (enc k) (.ref b)->knd.is s.heap k b
 ref:∀ {M:Am} {H:Hp} {k:κ} {v:V},RepV K M H (enc k) v->∃ b,v=.ref b
section
variable {P:ay} {w:aI} {K:Fg} {κ:Type} [DecidableEq κ]
abbrev KX (N:KnD P w K κ) (M:Am) (H:Hp) (p:κ × V) (q:κ × Addr × ae):Prop:=p.1=q.1/\RepV K M H (N.enc p.1) (.ref q.2.1)/\RelV p.2 q.2.2
def DxV (N:KnD P w K κ) (o:Obj) (M:Am) (H:Hp) (a:Addr) (kw:List (κ × V)):Prop:=∃ es ep,∃ xs:List (κ × Addr × ae),H a=some (cdO a o)/\o.ExactDict/\o.data=.dict es ep/\es.toList=xs.map (entryOfKey N.knd)/\(xs.map (·.1)).Nodup/\kw.length<=sizeLine/\(a == eG)=false/\aZ (KX N M H) kw xs
variable {N:KnD P w K κ} {M M':Am} {H H':Hp} {a:Addr} {o:Obj} {kw:List (κ × V)}
theorem DxV.keep (h:DxV N o M H a kw) (k:Keep M H M' H') (e:H' a=H a):DxV N o M' H' a kw:=by
 obtain⟨es,ep,xs,h1,h2,h3,h4,h5,h6,h7,h8⟩:=h;exact⟨es,ep,xs,e.trans h1,h2,h3,h4,h5,h6,h7,Paired.imp (fun _ _ z=>⟨z.1,z.2.1.keep k,z.2.2⟩) h8⟩
theorem kx_val {xs:List (κ × Addr × ae)} (r:aZ (KX N M H) kw xs) (k:κ):RelO (valV kw k) ((atKey xs k).map (·.2)):=by
 induction r with
 | nil=>exact fV
 | @cons p q ps qs h t ih =>
  obtain⟨h1,_,h2⟩:=h
  by_cases e:p.1=k
  ·have b:atKey (q::qs) k=some q.2:=by simp[atKey,cR,h1.symm.trans e]
   rw[valV_pos e,b];exact h2
  ·have e':¬ q.1=k:=fun z=>e (h1.trans z);have b:atKey (q::qs) k=atKey qs k:=by simp[atKey,cR,e']
   rw[valV_neg e,b];exact ih
theorem kx_put {xs:List (κ × Addr × ae)} (r:aZ (KX N M H) kw xs) (k:κ) {b:Addr} {y:V} {u:ae} (hb:RepV K M H (N.enc k) (.ref b)) (ry:RelV y u):aZ (KX N M H) (putK kw k y) (storedH xs k b u):=by
 have e:(kw.any fun kv=>decide (kv.1=k))=(atKey xs k).isSome:=by rw[valV_any,(kx_val r k).isSome_eq,Option.isSome_map]
 unfold putK storedH;rw[e]
 by_cases q:(atKey xs k).isSome=true
 ·rw[if_pos q,if_pos q];clear e q
  induction r with
  | nil=>exact .nil
  | @cons p q ps qs h t ih =>
   rw[aG,aG];refine .cons ?_ ih;obtain⟨h1,h2,h3⟩:=h;unfold putAt
   by_cases e:p.1=k
   ·rw[if_pos e,if_pos (h1.symm.trans e)];exact⟨h1,h2,ry⟩
   ·rw[if_neg e,if_neg (fun z=>e (h1.trans z))];exact⟨h1,h2,h3⟩
 ·rw[if_neg q,if_neg q];exact aZ.snoc r ⟨rfl,hb,ry⟩
theorem DxV.at {X:Cx} {pins:List (Addr × Obj)} {σ:St} {s:ai} (h:DxV N o M H a kw) (hP:X.prog=P) (hw:X.w=w) (hK:X.K=K) (I:Inv X pins σ H s) :
  s.heap.get? a=some o/\∃ xs,s.heap.DictOfH N.knd a xs/\aZ (KX N M H) kw xs:=by
 obtain⟨es,ep,xs,h1,h2,h3,h4,h5,h6,h7,h8⟩:=h;obtain⟨ho,_⟩:=I.hok a _ h1;refine⟨ho,xs,⟨o,es,ep,ho,h2,h3,h4,fun x hx=>?_,h5⟩,h8⟩;obtain⟨p,hp,q1,q2,q3⟩:=ST.paired_mem' h8 x hx;rw[<- q1];exact N.key hP hw hK I q2
theorem DxV.no (h:DxV N o M H a kw):o.ExactDict:=by
 obtain⟨es,ep,xs,h1,h2,_⟩:=h;exact h2
theorem DxV.lo (h:DxV N o M H a kw):(a == eG)=false:=by
 obtain⟨es,ep,xs,h1,h2,h3,h4,h5,h6,h7,h8⟩:=h;exact h7
theorem DxV.len (h:DxV N o M H a kw):kw.length<=sizeLine:=by
 obtain⟨es,ep,xs,h1,h2,h3,h4,h5,h6,h7,h8⟩:=h;exact h6
end
section
variable {X:Cx} {K:Fg} {κ:Type} [DecidableEq κ] {pos:Pos} {k:Nat}
theorem pe_dnewX {N:KnD X.prog X.w K κ} (M:Am):PE X (.Dict [] [] pos) (fun _ H Q=>∀ p,H p=none->∀ o,DxV N o M (upd H p (cdO p o)) p []->Q (.ref p) (upd H p (cdO p o))):=fun pins s σ H Q I h=>by
 have ho:(s.heap.push { cls:=.type "dict",data:=.dict #[] }).get? s.heap.objs.size=some { cls:=.type "dict",data:=.dict #[] }:=av _ rfl;have lo:(s.heap.objs.size == eG)=false:=beq_eq_false_iff_ne.mpr (cN (Nat.ne_of_lt I.big));exact wpAny_Dict_empty ⟨.ref s.heap.objs.size,_,I.laid (a:=s.heap.objs.size) (o:=cdO s.heap.objs.size { cls:=.type "dict",data:=.dict #[] }) (t':=s.toks) (fun _ _ q=>ah _ q) (Nat.le_refl _) ⟨ho,⟨_,ho⟩,fun g1 g2 g k=>k _ g⟩,rfl,
  h _ (I.hok.fresh (Nat.le_refl _)) _ ⟨#[],0,[],upd_same,⟨rfl,rfl,rfl⟩,rfl,rfl,d8,Nat.zero_le _,lo,.nil⟩⟩
def tGetX {P:ay} {w:aI} (N:KnD P w K κ) (td ty tx:TE):TE:=fun σ H Q=>td σ H fun x H1=>(∃ a o M kw,x=.ref a/\DxV N o M H1 a kw)/\ty σ H1 fun y H2=>tx σ H2 fun z H3=>∃ a o M kw k,x=.ref a/\DxV N o M H3 a kw/\RepV K M H3 (N.enc k) y/\Q ((valV kw k).getD z) H3
theorem pe_getX {N:KnD X.prog X.w K κ} {o e f:Expr} {apos cpos:Pos} {td ty tx:TE} (hu:X.A.units + 8 < b7) (hK:X.K=K) (ho:PE X o td) (he:PE X e ty) (hf:PE X f tx) (m:M2 X o "get" apos e f cpos):PE X (.Call (.Attribute o "get" apos) [e,f] [] cpos) (tGetX N td ty tx):=by
 intro pins s σ H Q I h;refine wpAny_Call_method m.base m.few m.line jj jJ PySem.F.type_dict_get (thn (ho pins s σ H _ I h) fun u s1 ⟨x,H1,I1,rx,⟨a,ob,M,kw,ex,d⟩,q1⟩=>?_);subst ex;obtain rfl:u=bY a:=rx;obtain⟨g0,_⟩:=d.at rfl rfl hK I1;refine⟨⟨ob,g0,d.no.1⟩,fun b q=>by cases q;exact⟨ob,g0,d.no.2.1⟩,?_⟩
 rw[m.trees];refine gh rfl (Calls.evalArgs_plain (ii (thn (he pins s1 σ H1 _ I1 q1) fun iv s2 ⟨y,H2,I2,ry,q2⟩ =>
  ii (thn (hf pins s2 σ H2 _ I2 q2) fun fv s3 ⟨z,H3,I3,rz,a',ob',M',kw',k,ea,d',rk,q3⟩=>Calls.spliced_nil ?_))))
 cases ea;obtain⟨b,rfl⟩:=N.ref rk;cases (show iv=bY b from ry)
 obtain⟨g1,xs,dd,rel⟩:=d'.at rfl rfl hK I3;exact call_meetsIn jJ dd.typeIs PySem.F.entry_dict_get (PySem.F.args_dict_get_3 _ _ _) (meetsH_dict_get_default N.knd a b d'.lo fv) ⟨N.room hu,k,xs,N.key rfl rfl hK I3 rk,dd,⟨_,H3,I3.tok _,(kx_val rel k).getD rz,q3⟩⟩
def sPutX {P:ay} {w:aI} (N:KnD P w K κ) (td ty tv:TE):TS:=fun D σ H=>tv σ H fun v H1=>td σ H1 fun x H2=>ty σ H2 fun y H3=>∃ a o M kw k,x=.ref a/\M a/\DxV N o M H3 a kw/\RepV K M H3 (N.enc k) y/\kw.length < sizeLine/\∀ o',DxV N o' M (upd H3 a (cdO a o')) a (putK kw k v)->D.nx σ (upd H3 a (cdO a o'))
theorem ps_putX {N:KnD X.prog X.w K κ} {o i value:Expr} {pos':Pos} {td ty tv:TE} (hu:X.A.units + 8 < b7) (hK:X.K=K) (ho:PE X o td) (hi:PE X i ty) (hv:PE X value tv) (hs:gE value (some (.Subscript o i pos')) pos.line X.env=pure false) :
  PS X (.Assign [.Subscript o i pos'] value pos) (sPutX N td ty tv):=by
 intro pins s σ H D I h;refine wpAny_Assign_Subscript (thn (hv pins s σ H _ I h) fun r s1 ⟨v,H1,I1,rv,q1⟩=>thn (ho pins s1 σ H1 _ I1 q1) fun u s2 ⟨x,H2,I2,rx,q2⟩=>thn (hi pins s2 σ H2 _ I2 q2) fun iv s3 ⟨y,H3,I3,ry,a,ob,M,kw,k,ex,hM,d,rk,hl,q3⟩=>?_) hs;subst ex;obtain rfl:u=bY a:=rx;obtain⟨b,rfl⟩:=N.ref rk;cases (show iv=bY b from ry)
 obtain⟨g1,xs,dd,rel⟩:=d.at rfl rfl hK I3;have hz:xs.length<=sizeLine:=by rw[<- bV rel];exact d.len
 have hl2:(putK kw k v).length<=sizeLine:=by have:=length_putK kw k v;omega
 obtain⟨_,_,_,hH,_⟩:=id d;refine wpAny_setItem_heap (hsz:=hz) (N.room hu) (N.key rfl rfl hK I3 rk) dd fun h' dd' hsb=>?_;obtain⟨q,es,ep,hq,h2,h3,h4,_,h5⟩:=dd';have kp:Keep M H3 M (upd H3 a (cdO a q)):=⟨fun c oc hc e=>by rw[upd_ne (fun z=>hc (by rw[z];exact hM))];exact e,fun _ h _=>h⟩
 refine⟨σ,_,d_write I3 (by rw[hH];exact fV) hsb ⟨q,hq⟩ (ob:=cdO a q) ⟨hq,⟨_,hq⟩,fun g1 g2 g k=>k _ g⟩,q3 q ⟨es,ep,_,upd_same,h2,h3,h4,h5,hl2,d.lo,Paired.imp (fun _ _ z=>⟨z.1,z.2.1.keep kp,z.2.2⟩) (kx_put rel k rk rv)⟩⟩
end
section
variable {P:ay} {w:aI} {K:Fg} {κ:Type} [DecidableEq κ] {F:Am} {S:Sto} {H:Hp} {a:Addr}
abbrev PX (K:Fg) (M:Am) (H:Hp) (p:κ × V) (q:κ × D):Prop:=p.1=q.1/\RepV K M H q.2 p.2
def dxO (N:KnD P w K κ) (o:Obj) (kvs:List (κ × D)):DO:=.ex (fun M H a=>∃ kw,DxV N o M H a kw/\aZ (PX K M H) kw kvs)
 (fun M M' H H' a k e h=>by
  obtain⟨kw,h1,h2⟩:=h;exact⟨kw,h1.keep k e,Paired.imp (fun _ _ z=>⟨z.1,z.2.keep k⟩) h2⟩)
 fun M H a h=>by
  obtain⟨kw,⟨es,ep,xs,h1,_⟩,_⟩:=h;exact⟨_,h1,trivial⟩
theorem px_val {M:Am} {kw:List (κ × V)} {kvs:List (κ × D)} (r:aZ (PX K M H) kw kvs) (k:κ):(valV kw k=none/\valX kvs k=none)\/∃ v d,valV kw k=some v/\valX kvs k=some d/\RepV K M H d v:=by
 induction r with
 | nil=>exact .inl ⟨rfl,rfl⟩
 | @cons p q ps qs h t ih =>
  by_cases e:p.1=k
  ·exact .inr ⟨_,_,valV_pos e,valX_pos (h.1.symm.trans e),h.2⟩
  ·rw[valV_neg e,valX_neg fun z=>e (h.1.trans z)];exact ih
theorem px_put {M:Am} {kw:List (κ × V)} {kvs:List (κ × D)} (l:aZ (PX K M H) kw kvs) (k:κ) {v:V} {d:D} (rv:RepV K M H d v):aZ (PX K M H) (putK kw k v) (putX kvs k d):=by
 have hany:(kw.any fun kv=>decide (kv.1=k))=kvs.any fun kv=>decide (kv.1=k):=by
  induction l with
  | nil=>rfl
  | cons h _ ih=>rw[iY,iY,h.1,ih]
 unfold putK putX;rw[hany]
 split
 ·rename_i hz;clear hany hz
  induction l with
  | nil=>exact .nil
  | @cons a b as bs h _ ih =>
   refine .cons ?_ ih;show(if a.1=k then (a.1,v) else a).1=(if b.1=k then (b.1,d) else b).1/\RepV K M H (if b.1=k then (b.1,d) else b).2 (if a.1=k then (a.1,v) else a).2
   rw[h.1]
   split
   ·exact⟨rfl,rv⟩
   ·exact h
 ·rename_i hz;clear hany hz;exact aZ.snoc l ⟨rfl,rv⟩
end
section
variable {X:Cx} {K:Fg} {κ:Type} [DecidableEq κ] {pos:Pos} {k:Nat} {P:ay} {w:aI}
def dNewX (N:KnD P w K κ):ED:=fun _ S Q=>∀ p,S p=none->∀ o,Q (.ref p) (supd S p (dxO N o []))
theorem e_dnewX (N:KnD P w K κ) (hP:X.prog=P:=by rfl) (hw:X.w=w:=by rfl):PD K X (.Dict [] [] pos) (dNewX N):=by
 subst hP hw;refine .of (pe_dnewX (N:=N) (fun _=>False)) fun σ H Q z0=>z0.el fun F S Γ QD r g q c=>fun p hp o dx=>?_;refine c (.ref p) (.ref p) _ (supd S p (dxO N o [])) (Ext.mk' hp) (r.mk' hp ⟨[],?_,.nil⟩) (by unfold RepV;rfl) (q p (r.sn hp) o)
 obtain⟨es,ep,xs,h1,h2,h3,h4,h5,h6,h7,h8⟩:=dx;cases h8;exact⟨es,ep,[],h1,h2,h3,h4,h5,h6,h7,.nil⟩
def dGetX (N:KnD P w K κ) (td ty tx:ED):ED:=fun Γ S Q=>td Γ S fun x S1=>(∃ a o kvs,x=.ref a/\S1 a=some (dxO N o kvs))/\ty Γ S1 fun y S2=>tx Γ S2 fun z S3=>∃ a o kvs k,x=.ref a/\S3 a=some (dxO N o kvs)/\y=N.enc k/\Q ((valX kvs k).getD z) S3
theorem e_dgetX (N:KnD P w K κ) {o e f:Expr} {apos cpos:Pos} {td ty tx:ED} (hr:Room k X.A) (ho:PD K X o td) (he:PD K X e ty) (hf:PD K X f tx) (hP:X.prog=P:=by rfl) (hw:X.w=w:=by rfl) (hK:X.K=K:=by rfl) (m:M2 X o "get" apos e f cpos:=by exact⟨rfl,rfl,rfl,rfl⟩) :
  PD K X (.Call (.Attribute o "get" apos) [e,f] [] cpos) (dGetX N td ty tx):=by
 subst hP hw;refine .of (pe_getX (N:=N) (lt64 hr) hK ho.o he.o hf.o m) fun σ H Q z0=>z0.el fun F S Γ QD r g q c=>⟨F,S,Γ,_,r,g,q,fun v d H1 S1 x1 r1 v1 ⟨⟨a,o,kvs,e1,e2⟩,q1⟩=>⟨?_,F,S1,Γ,_,r1,g.ext x1,q1,fun y dy H2 S2 x2 r2 v2 q2=>⟨F,S2,Γ,_,r2,g.ext (x1.trans x2),q2,fun z dz H3 S3 x3 r3 v3 q3=>?_⟩⟩⟩
 ·subst e1;obtain⟨kw,dx,_⟩:=r1.obj a _ e2;exact⟨a,o,_,kw,rref v1,dx⟩
 ·obtain⟨a,o,kvs,k,e1,e2,e3,q4⟩:=q3;subst e1 e3;obtain⟨kw,dx,pp⟩:=r3.obj a _ e2;refine⟨a,o,_,kw,k,rref v1,dx,v2.ext x3,?_⟩;have cc:=Cn.shift c (x1.trans (x2.trans x3));rcases px_val pp k with⟨h1,h2⟩ | ⟨v',d',h1,h2,h3⟩
  ·rw[h1];rw[h2] at q4;exact cc.here r3 v3 q4
  ·rw[h1];rw[h2] at q4;exact cc.here r3 h3 q4
def dPutX (N:KnD P w K κ) (td ty tv:ED):SD:=fun E Γ S=>tv Γ S fun v S1=>td Γ S1 fun x S2=>ty Γ S2 fun y S3=>∃ a o kvs k,x=.ref a/\S3 a=some (dxO N o kvs)/\y=N.enc k/\kvs.length < sizeLine/\∀ o',E.nx Γ (supd S3 a (dxO N o' (putX kvs k v)))
theorem ds_putX (N:KnD P w K κ) {o i value:Expr} {pos':Pos} {td ty tv:ED} (hr:Room k X.A) (ho:PD K X o td) (hi:PD K X i ty) (hv:PD K X value tv) (hP:X.prog=P:=by rfl) (hw:X.w=w:=by rfl) (hK:X.K=K:=by rfl) (hs:gE value (some (.Subscript o i pos')) pos.line X.env=pure false:=by rfl) :
  PSD K X (.Assign [.Subscript o i pos'] value pos) (dPutX N td ty tv):=by
 subst hP hw;refine .of (ps_putX (N:=N) (lt64 hr) hK ho.o hi.o hv.o hs) fun D' σ H z0=>z0.el fun F S Γ E r g q c=>⟨F,S,Γ,_,r,g,q,fun v d H1 S1 x1 r1 v1 q1=>⟨F,S1,Γ,_,r1,g.ext x1,q1,fun x od H2 S2 x2 r2 v2 q2=>⟨F,S2,Γ,_,r2,g.ext (x1.trans x2),q2,fun y dy H3 S3 x3 r3 v3 ⟨a,o,kvs,k,e1,e2,e3,hz,q3⟩=>?_⟩⟩⟩;subst e1 e3;obtain⟨kw,dx,pp⟩:=r3.obj a _ e2;have hS':S3 a≠none:=by rw[e2];exact fun z=>by cases z
 refine⟨a,o,mt S3 F,kw,k,rref (v2.ext x3),.inl hS',dx,v3,by rw[bV pp];exact hz,fun o' dx'=>?_⟩
 have x4:Ext S3 H3 (supd S3 a (dxO N o' (putX kvs k d))) (upd H3 a (cdO a o')):=Ext.write hS';have x:=x1.trans (x2.trans (x3.trans x4));have mm:∀ b,¬ mt S3 F b->¬ mt (supd S3 a (dxO N o' (putX kvs k d))) F b:=fun b hb z=>hb (z.elim (fun z=>by
  by_cases e:b=a
  ·rw[e];exact .inl hS'
  ·rw[supd_ne e] at z;exact .inl z) .inr)
 refine c.nx Γ _ σ _ x (r3.write hS' ⟨_,dx'.keep ⟨fun _ _ _ h=>h,fun b h _=>mm b h⟩ rfl,?_⟩) (g.ext x) (q3 o');exact px_put (Paired.imp (fun _ _ z=>⟨z.1,z.2.ext x4⟩) pp) k (v1.ext (x2.trans (x3.trans x4)))
end
theorem pair_at {α β:Type} {R:α->β->Prop}:∀ {l:List α} {m:List β},aZ R l m->∀ (i:Nat) (b:β),m[i]?=some b->∃ a,l[i]?=some a/\R a b
 | _,_,.nil,i,b,h=>by cases i <;> cases h
 | _,_,.cons r t,0,b,h=>by cases h;exact⟨_,rfl,r⟩
 | _,_,.cons r t,i + 1,b,h=>pair_at t i b h
theorem pair_at' {α β:Type} {R:α->β->Prop}:∀ {l:List α} {m:List β},aZ R l m->∀ (i:Nat) (a:α),l[i]?=some a->∃ b,m[i]?=some b/\R a b
 | _,_,.nil,i,b,h=>by cases i <;> cases h
 | _,_,.cons r t,0,b,h=>by cases h;exact⟨_,rfl,r⟩
 | _,_,.cons r t,i + 1,b,h=>pair_at' t i b h
def tKN (P:ay) (w:aI) (K:Fg):KnD P w K (List Str) where
 knd:=tupleKind (strKind P w)
 enc:=tupS
 room:=fun h=>tupleKind_room_in1 (by omega)
 key:=fun {X pins σ H s M k b} e1 e2 e3 I r=>by
  subst e1 e2 e3;unfold tupS RepV at r;obtain⟨a,xs,e,t,l⟩:=r;cases e;obtain⟨its,ri,tp,_⟩:=I.tuple t.sq;obtain⟨b',e',hk⟩:=tk_of (K:=X.K) (H:=H) (repStrs l) ri tp;cases e';exact hk
 ref:=fun {M H k v} r=>by
  unfold tupS RepV at r;obtain⟨a,xs,e,_⟩:=r;exact⟨a,e⟩
end L2
namespace L2
open PySem PySem.SeqAt PyProof.Rows
inductive Qt (h:be):Nat->ae->Prop
 | val {n:Nat} {v:ae}:ip v=true->Qt h n v
 | tup {n:Nat} {a:Addr} {xs:Array ae}:h.IsTuple a xs->(∀ v∈xs.toList,Qt h n v)->Qt h (n + 1) (.ref a)
section
variable {s:ai} {A:a6} {E:ae->ai->Prop} {w:aI} {prog:ay}
theorem Qt.ok {n:Nat} {v:ae} {Q:Bool->ai->Prop} (x:Qt s.heap n v) (q:Q true s):aE (aF prog w) A (eqIsQuiet n v) Q E s:=by
 induction x generalizing Q with
 | val h=>rw[eqIsQuiet_byValue _ h];exact af q
 | @tup n a xs t hs ih =>
  obtain⟨o,g,c,m,d⟩:=t;have ty:s.TypeIs (.ref a) "tuple":=⟨o,g,c⟩;unfold eqIsQuiet;refine ad (wpAny_specialOf ty PySem.F.slot_tuple_eq.lookup (ad (fA ty isSubtype_tuple_tuple ?_):aE _ _ (isInstance (.ref a) (.type "tuple") >>= _) _ _ s));rw[if_neg (by decide)]
  refine ad (eL g d (ad ?_));rw[show((some xs).getD #[])=xs from rfl,<- fW]
  clear d hs;generalize xs.toList=l at ih ⊢
  induction l with
  | nil=>rw[ir];exact af (af q)
  | cons y l k =>
   rw[dh];refine ad (ad (ih y (by simp) ?_))
   rw[if_neg (by decide)]
   exact af (k fun v h=>ih v (by simp[h]))
end
def IsPr (P:ay) (w:aI) (h:be) (k:Nat × List Str) (a:Addr):Prop:=∃ t b,h.IsTuple a #[.int k.1 t,.ref b]/\jv (strKind P w) h k.2 b
theorem isTuple_inj {h:be} {a:Addr} {xs ys:Array ae} (x:h.IsTuple a xs) (y:h.IsTuple a ys):xs=ys:=by
 obtain⟨o,g,_,n,d⟩:=x;obtain⟨o',g',_,n',d'⟩:=y;rw[g] at g';cases g';rw[d] at d';cases d'
 rfl
theorem tk_is {P:ay} {w:aI} {h:be} {ks:List Str} {a:Addr} (x:jv (strKind P w) h ks a) (P':ay) (w':aI):jv (strKind P' w') h ks a:=by
 obtain⟨o,xs,n,g,c,d,i⟩:=x;refine⟨o,xs,n,g,c,d,?_⟩;generalize xs.toList=l at i
 induction i with
 | nil=>exact .nil
 | cons z _ ih=>exact .cons z ih
theorem tk_tu {P:ay} {w:aI} {h:be} {ks:List Str} {a:Addr} (x:jv (strKind P w) h ks a):∃ xs,h.IsTuple a xs/\∀ v∈xs.toList,ip v=true:=by
 obtain⟨o,xs,n,g,c,d,i⟩:=x;exact⟨xs,⟨o,g,c,n,d⟩,i.byValue⟩
section
variable {P:ay} {w:aI}
theorem IsPr.inj {h:be} {a:Addr} {x y:Nat × List Str} (hx:IsPr P w h x a) (hy:IsPr P w h y a):x=y:=by
 obtain⟨t,b,h1,h2⟩:=hx;obtain⟨u,c,h3,h4⟩:=hy;have e:=isTuple_inj h1 h3;have e:[gD x.1 t,.ref b]=[gD y.1 u,.ref c]:=congrArg Array.toList e;simp only[List.cons.injEq,gD.injEq,bY.injEq,and_true] at e;obtain⟨⟨e1,_⟩,rfl⟩:=e;exact Prod.ext (by omega) (h2.inj h4)
theorem IsPr.quiet {h:be} {k:Nat × List Str} {a:Addr} (x:IsPr P w h k a):Qt h 8 (.ref a):=by
 obtain⟨t,b,h1,h2⟩:=x;obtain⟨xs,h3,h4⟩:=tk_tu h2;refine .tup h1 fun v m=>?_;have m:v=.int k.1 t\/v=.ref b:=by simpa using m
 rcases m with rfl | rfl
 ·exact .val rfl
 ·exact .tup h3 fun v m=>.val (h4 v m)
def prHash (P:ay) (w:aI) (k:Nat × List Str):Int:=reduceHash (b6.Tuple.tupleHashOf [hashInt k.1,tupleKeyHash (strKind P w) k.2])
variable {s:ai} {A:a6} {E:ae->ai->Prop}
theorem IsPr.hash {k:Nat × List Str} {a:Addr} {Q:Int->ai->Prop} (hu:A.units + 4 < b7) (x:IsPr P w s.heap k a) (q:Q (prHash P w k) { s with toks:=s.toks + (k.2.length + 3) }):aE (aF P w) A (pyHash (.ref a)) Q E s:=by
 obtain⟨t,b,⟨o,g,c,n,d⟩,h2⟩:=x;refine PySem.W.pyHash_slot (T := "tuple") ⟨o,g,c⟩ PySem.F.slot_tuple_hash PySem.F.entry_tuple_hash (PySem.F.args_tuple_hash_1 _) (beq_builtin_none _) (.inr (by omega)) ?_
 refine(ad (wpAny_tupleItemsOf g d ?_):aE _ _ (fo (.ref a) >>= _) _ _ s);refine ad ?_;rw[<- fW,dh];refine ad (ad (wpAny_pyHash_int (ad (af (af ?_)))));dsimp only;rw[dh];refine ad (ad (wpAny_pyHash_tuple (by show A.units + 1 < b7;omega) h2 (ad (af (af ?_)))))
 dsimp only;rw[ir];refine af (ad (wpAny_mkInt (af ⟨_,_,rfl,?_⟩)));have e:s.toks + 1 + (k.2.length + 1) + 1=s.toks + (k.2.length + 3):=by omega
 dsimp only;rw[e];exact q
theorem IsPr.eq {x y:Nat × List Str} {a b:Addr} {Q:Bool->ai->Prop} (hu:A.units + 6 < b7) (hx:IsPr P w s.heap x a) (hy:IsPr P w s.heap y b) (q:Q (decide (x=y)) s):aE (aF P w) A (eqBool (.ref a) (.ref b)) Q E s:=by
 by_cases hab:a=b
 ·subst hab;rw[hx.inj hy,decide_eq_true rfl] at q;exact EqAt.same _ P w E Q q
 obtain⟨t,c,h1,h2⟩:=hx;obtain⟨u,e,h3,h4⟩:=hy;have z:EqAt A s (.ref a) (.ref b) _:=.of_refs hab (.tuples (e:=fun j=>if j=0 then (x.1:Int) == y.1 else decide (x.2=y.2)) h1 h3 (by omega) fun j j1 j2=>by
  have j1:j < 2:=j1;rcases j with _ | _ | j
  ·exact .int_int _ _ _ _
  ·intro P' w' E' Q' q';exact iq (knd:=strKind P' w') (by show A.units + 1 < b7;omega) (tk_is h2 P' w') (tk_is h4 P' w') q'
  ·omega)
 refine z P w E Q ?_;have e0:decide (x=y)=(((x.1:Int) == y.1) && decide (x.2=y.2)):=by
  obtain⟨x1,x2⟩:=x;obtain⟨y1,y2⟩:=y;rw[dU];simp;omega
 rw[e0] at q;simpa [jD] using q
def prKind (P:ay) (w:aI):HeapKind P w (Nat × List Str) where
 is:=IsPr P w
 hash:=prHash P w
 draws:=fun k=>k.2.length + 3
 room:=fun A=>A.units + 6 < b7
 inj:=fun x y=>x.inj y
 keeps:=fun {h h' k a d o es ep} x ho hd hs=>by
  obtain⟨t,b,⟨o',g,c,n,e⟩,i⟩:=x;refine⟨t,b,⟨o',(hs.2 a fun z=>?_).trans g,c,n,e⟩,i.keeps ho hd hs⟩;subst z;rw[g] at ho;cases ho;rw[e] at hd;cases hd
 pyHash:=fun hu x q=>x.hash (by omega) q
 eqBool:=fun hu x y q=>x.eq hu y q
 quiet:=fun x q=>x.quiet.ok q
def prN (P:ay) (w:aI) (K:Fg):KnD P w K (Nat × List Str) where
 knd:=prKind P w
 enc:=fun k=>.tup [.int k.1,tupS k.2]
 room:=fun {A} h=>by show A.units + 1 + 6 < b7;omega
 key:=fun {X pins σ H s M k b} e1 e2 e3 I r=>by
  subst e1 e2 e3;unfold RepV at r;obtain⟨a,xs,e,t,l⟩:=r;cases e;obtain⟨its,ri,tp,_⟩:=I.tuple t.sq;simp only[RepL] at l;obtain⟨x1,_,rfl,r1,x2,_,rfl,r2,rfl⟩:=l;cases ri with
  | cons u1 ri =>
  cases ri with
  | cons u2 ri =>
  cases ri;unfold RepV at r1;subst r1;obtain⟨b',rfl⟩:=(tKN X.prog X.w X.K).ref r2;obtain⟨tk,rfl⟩:=u1;cases (show _=bY b' from u2)
  exact⟨tk,b',tp,(tKN X.prog X.w X.K).key rfl rfl rfl I r2⟩
 ref:=fun {M H k v} r=>by
  unfold RepV at r;obtain⟨a,xs,e,_⟩:=r;exact⟨a,e⟩
end
end L2
namespace L2
open PySem PySem.Spec PyProof.Rows
section
variable {prog:ay} {w:aI} {A:a6} {E:ae->ai->Prop} {s:ai} {d it v:Addr} {es:Array i5} {ep i:Nat}
theorem es_items {Q:ae->ai->Prop} (lo:(d == eG)=false) (x:EsAt s.heap d es ep)
  (q:Q (.ref s.heap.objs.size) { s with heap:=s.heap.push { cls:=.type "dict_items",data:=.fields #[.ref d] } }):aE (aF prog w) A (b6.«dict.items» ⟨[.ref d],[]⟩) (fun f s'=>∃ y,f=.done (.ret y)/\Q y s') E s:=by
 unfold b6.«dict.items» b6.Dict.noArgs;refine ad (ad (wpAny_notOrdered_dict x.ty (af (?_:aE _ _ (jK d >>= _) _ _ s))));unfold jK;rw[if_neg (by rw[lo];decide)]
 exact ad (af (ad (bm (af ⟨_,rfl,q⟩))))
theorem es_itemsIter {Q:ae->ai->Prop} (hv:s.heap.IsItemsView v d) (x:EsAt s.heap d es ep)
  (q:Q (.ref s.heap.objs.size) { s with heap:=s.heap.push { cls:=.type "dict_itemiterator",data:=.fields #[.none,.bool false,.ref d,.int 0 0,.int es.size 0,.int ep 0,.none,.none] } }):aE (aF prog w) A (pyIter (.ref v)) Q E s:=by
 have hT:=hv.typeIs;obtain⟨ov,hov,_,hdv⟩:=hv;obtain⟨o,ho,_,hd⟩:=x;refine wpAny_pyIter_slot hT F.slot_dict_items_iter (bM F.slot_dict_items_iter hT F.entry_dict_items_iter (?_:_) (F.args_dict_items_iter_1 _));unfold b6.«dict_items.__iter__» b6.Dict_items.dictOf b6.Dict_items.newIterator;refine ad (af (ad (ad (dg hov hdv (x:=.ref d) rfl (af (ad (ad (iR ho hd (ad (wpAny_dictEpoch ho hd ?_))))))))));simp only[show eU "dict_itemiterator" = true by decide,if_true]
 exact bm (af ⟨_,rfl, "dict_itemiterator",_,⟨_,av _ rfl,rfl⟩,F.slot_dict_itemiterator_next.lookup,by simpa [eW,fQ] using q⟩) (by simp only[sizeOk,fQ,aq,az,aO,b4,bF];omega)
theorem es_itemsNext {ok ov:ae} {Q:Option ae->ai->Prop} (hit:fZ s.heap it d i es.size ep ok ov) (x:EsAt s.heap d es ep) (hi:i < es.size)
  (q:∀ h',IsItemIterOut h' it d (i + 1) es.size ep es[i].key es[i].val s.heap.objs.size->h'.get? s.heap.objs.size=some { cls:=.type "tuple",data:=.seq #[es[i].key,es[i].val] } ->
   h'.objs.size=s.heap.objs.size + 1->(∀ b o,b≠it->s.heap.get? b=some o->h'.get? b=some o)->Q (some (.ref s.heap.objs.size)) { s with heap:=h' }):aE (aF prog w) A (fj (.ref it)) Q E s:=by
 obtain⟨hp,g,dr,tk,os⟩:=s;obtain⟨od,hod,_,hdd⟩:=x;have hT:jX ⟨hp,g,dr,tk,os⟩ (.ref it) ("dict_itemiterator" : String):=⟨_,hit,rfl⟩;have own:=show eU "dict_itemiterator" = true by decide
 unfold fj;refine ad (fO (bX (name:=cb "__next__") hT F.slot_dict_itemiterator_next (bM F.slot_dict_itemiterator_next hT F.entry_dict_itemiterator_next (?_:_) (F.args_dict_itemiterator_next_1 _))));refine ad (af (ad (ad ?_)))
 first | refine ad (dG hT (af (ad (gx hit rfl ?_)))) | refine ad (eC hT (af (ad (gx hit rfl ?_))))
 simp only[own,if_true];refine(?_:aE _ _ (if (bY d == bQ)=true then _ else _) _ _ _)
 rw[if_neg (show ¬ ((bY d == bQ)=true) from fun z=>by cases z)]
 refine ad (af (ad (iR hod hdd ?_)));rw[if_neg (by simp)]
 refine ad (af (ad (wpAny_dictEpoch hod hdd ?_)));rw[if_neg (by simp)]
 refine af ?_;simp only[show ¬ ((i:Int) < 0) by omega,if_false,bG,fG hi]
 refine ad ?_
 first | refine ad (dG hT (af (ad (eS hT ?_)))) | refine ad (eC hT (af (ad (eS hT ?_))))
 refine(?_:aE _ _ (gP (.ref it) 3 (eW ((i:Int) + 1)) >>= _) _ _ ⟨hp,g,dr,tk,os⟩);refine ad (bI hit (by simp) fun h1 he1 hs1=>?_)
 have hs1:cQ it hp h1:=hs1;have he1:fZ h1 it d (i + 1) es.size ep ok ov:=by
  unfold fZ;rw[show((i + 1:Nat):Int)=(i:Int) + 1 by omega]
  simpa [eW] using he1
 have hT1:jX ⟨h1,g,dr,tk,os⟩ (.ref it) "dict_itemiterator":=⟨_,he1,rfl⟩;refine ad (cO (ad (eS hT1 (ad (eS hT1 ?_)))));refine(?_:aE _ _ (gy (.ref it) 6 es[i].key es[i].val) _ _ ⟨h1,g,dr,tk,os⟩);unfold gy Builtin.Dict_items.ownedTupleIsFree;have hz1:h1.objs.size=hp.objs.size:=hs1.1;have ne:hp.objs.size≠it:=Nat.ne_of_gt (aC hit);refine ad (wpAny_newTuple (?_:_));obtain⟨h2,e2⟩:∃ h2,h2=h1.push { cls:=.type "tuple",data:=.seq #[es[i].key,es[i].val] }:=⟨_,rfl⟩;have he2:fZ h2 it d (i + 1) es.size ep ok ov:=by rw[e2];exact ah _ he1
 have ht2:h2.get? hp.objs.size=some { cls:=.type "tuple",data:=.seq #[es[i].key,es[i].val] }:=by rw[e2,<- hz1];exact av _ rfl
 have hz2:h2.objs.size=hp.objs.size + 1:=by rw[e2,cP,hz1]
 have hk2:∀ b o,b≠it->hp.get? b=some o->h2.get? b=some o:=fun b o hb e=>by rw[e2];exact ah _ (hs1.extBut b o hb e)
 rw[hz1];refine(?_:aE _ _ _ _ _ ⟨h1.push { cls:=.type "tuple",data:=.seq #[es[i].key,es[i].val] },g,dr,tk,os⟩);rw[<- e2];refine ad (ad (dg he2 rfl (x:=.none) rfl (af ?_)));simp only[if_true];refine ad (dg he2 rfl (x:=ok) rfl (ad (dg he2 rfl (x:=ov) rfl (ad (bI he2 (by simp) fun h3 he3 hs3=>?_)))))
 have he3:fZ h3 it d (i + 1) es.size ep es[i].key ov:=he3;refine ad (bI he3 (by simp) fun h4 he4 hs4=>?_)
 have he4:fZ h4 it d (i + 1) es.size ep es[i].key es[i].val:=he4;refine ad (bI he4 (by simp) fun h5 he5 hs5=>?_)
 have he5:IsItemIterOut h5 it d (i + 1) es.size ep es[i].key es[i].val hp.objs.size:=he5;refine ad (bI he5 (by simp) fun h6 he6 hs6=>?_)
 have up:∀ b o,b≠it->h2.get? b=some o->h6.get? b=some o:=fun b o hb e=>fJ hs6 b o hb (fJ hs5 b o hb (fJ hs4 b o hb (fJ hs3 b o hb e)));have sz:h6.objs.size=h2.objs.size:=(show h6.objs.size=h5.objs.size from hs6.1).trans ((show h5.objs.size=h4.objs.size from hs5.1).trans ((show h4.objs.size=h3.objs.size from hs4.1).trans (show h3.objs.size=h2.objs.size from hs3.1)))
 exact ad (wpAny_letGo (af (af ⟨_,rfl,af (q h6 he6 (up _ _ ne ht2) (sz.trans hz2) fun b o hb e=>up b o hb (hk2 b o hb e))⟩)))
theorem es_itemsEnd {ok ov:ae} {Q:Option ae->ai->Prop} (hh:A.handled=none) (hit:fZ s.heap it d i es.size ep ok ov) (x:EsAt s.heap d es ep) (hi:es.size<=i)
  (q:∀ h',be.ExtBut it s.heap h'->Q none { s with heap:=h' }):aE (aF prog w) A (fj (.ref it)) Q E s:=by
 obtain⟨od,hod,_,hdd⟩:=x;have hT:s.TypeIs (.ref it) ("dict_itemiterator" : String):=⟨_,hit,rfl⟩;have own:=show eU "dict_itemiterator" = true by decide
 unfold fj;refine ad (fO (bX (name:=cb "__next__") hT F.slot_dict_itemiterator_next (bM F.slot_dict_itemiterator_next hT F.entry_dict_itemiterator_next (?_:_) (F.args_dict_itemiterator_next_1 _))));refine ad (af (ad (ad ?_)))
 first | refine ad (dG hT (af (ad (gx hit rfl ?_)))) | refine ad (eC hT (af (ad (gx hit rfl ?_))))
 simp only[own,if_true];refine(?_:aE _ _ (if (bY d == bQ)=true then _ else _) _ _ s)
 rw[if_neg (show ¬ ((bY d == bQ)=true) from fun z=>by cases z)]
 refine ad (af (ad (iR hod hdd ?_)));rw[if_neg (by simp)]
 refine ad (af (ad (wpAny_dictEpoch hod hdd ?_)));rw[if_neg (by simp)]
 refine af ?_;simp only[show ¬ ((i:Int) < 0) by omega,if_false,bG,Array.getElem?_eq_none hi]
 refine ad ?_
 first | refine ad (dG hT (af (?_:aE _ _ (gP (.ref it) 2 .none >>= _) _ _ s))) | refine ad (eC hT (af (?_:aE _ _ (gP (.ref it) 2 .none >>= _) _ _ s)))
 refine ad (wpAny_setField hit rfl (by simp) ?_)
 exact ST.stopT (I:=it) hh fun h' k=>q h' fun b o hb e=>k b o ((cf ..).extBut b o hb e)
end
def Itm (a:Addr) (o:Obj) (bs:List Addr) (zs:List V):It:=⟨fun i H=>H a=some (cdO a o)/\i < bs.length,fun i H x H'=>∃ p b z,H p=none/\x=.ref p/\H'=upd H p (.tup [.ref b,z])/\bs[i]?=some b/\zs[i]?=some z,fun i H=>H a=some (cdO a o)/\bs.length<=i⟩
def ist (it a:Addr) (n ep:Nat) (i:Nat) (h:be):Prop:=∃ ok ov,fZ h it a i n ep ok ov
theorem turn_items {P:ay} {w:aI} {K:Fg} {elts:List Expr} {x1:Nat} {pos:Pos} (a it:Addr) (hai:a≠it) {o:Obj} {es:Array i5} {ep:Nat} {bs:List Addr} {zs:List V} (hx:o.ExactDict) (hd:o.data=.dict es ep) (hb:es.toList.map (·.key)=bs.map bY) (hz:Vals zs (es.toList.map (·.val))):Turn P w K (.Tuple elts x1 pos) (Itm a o bs zs) [it] it (ist it a es.size ep) where
 mem:=by simp
 obj:=fun i h st c hc=>by
  have e:c=it:=by simpa using hc
  subst e;obtain⟨ok,ov,st⟩:=st;exact⟨_,st,fun v z=>by cases z⟩
 keep:=fun i h h' st k=>by
  obtain⟨ok,ov,st⟩:=st;exact⟨ok,ov,k it (by simp) _ st⟩
 item:=by
  intro X hP hw hK hc i pins s σ H E I hf st hg;subst hP hw hK;obtain⟨ok,ov,st⟩:=st;obtain⟨hH,hi⟩:=hg;obtain⟨ho,_⟩:=I.hok a _ hH;have hl:es.size=bs.length:=by have:=congrArg eE hb;simpa using this
  have hi':i < es.size:=by omega
  have hk:es[i].key=.ref bs[i]:=by
   have:=congrArg (fun l=>l[i]?) hb
   rw[aJ,aJ,ag hi,aQ,fG hi'] at this;exact aP this
  have hzl:zs.length=es.size:=by have:=hz.length;simp at this;omega
  obtain⟨u,hu,ru⟩:=hz.get (ag (show i < zs.length by omega))
  have eu:es[i].val=u:=by
   rw[aJ,aQ,fG hi'] at hu;exact aP hu
  refine es_itemsNext st ⟨o,ho,hx,hd⟩ hi' fun h1 heo ht hsz hkp=>⟨_,rfl,?_⟩;refine wpAny_letOwnedTupleGo_items heo fun h2 he2 hs2=>?_;have hs2:cQ it h1 h2:=hs2;have hil:it < s.heap.objs.size:=aC st;have kk:∀ c ob,c∉[it]->s.heap.get? c=some ob->h2.get? c=some ob:=fun c ob n g=>by
   have n:c≠it:=by simpa using n
   exact hs2.extBut c ob n (hkp c ob n g)
  have hfresh:H s.heap.objs.size=none:=I.hok.fresh (Nat.le_refl _);have nT:∀ c ob,s.heap.get? c=some ob->c≠s.heap.objs.size:=fun c ob g=>Nat.ne_of_lt (aC g);have nH:∀ c ob,H c=some ob->c∉[it]:=fun c ob g hc=>by have:=(hf c hc).1;rw[g] at this;cases this
  have tupT:h2.get? s.heap.objs.size=some { cls:=.type "tuple",data:=.seq #[.ref bs[i],u] }:=by
   rw[<- hk,<- eu];exact hs2.extBut _ _ (Nat.ne_of_gt hil) ht
  have hok:HOk X.prog X.w (upd H s.heap.objs.size (.tup [.ref bs[i],zs[i]])) h2:=fun c ob g=>by
   by_cases hb:c=s.heap.objs.size
   ·subst hb;rw[upd_same] at g;cases g;exact⟨by rw[bF];show 2<=_;decide,[.ref bs[i],u],.cons rfl (.cons ru .nil),⟨_,tupT,rfl,0,rfl⟩,fun o e=>by rw[tupT] at e;cases e;rfl⟩
   ·rw[upd_ne hb] at g;refine(I.hok c ob g).stay (fun e w' hc' q=>?_) (fun e q=>?_) fun e ys q=>?_
    ·rcases hc' with rfl | hc'
     ·exact kk _ _ (nH _ _ g) q
     ·exact kk _ _ (nH _ _ hc') q
    ·rw[upd_ne (ne_of_none q hfresh)];exact q
    ·rw[upd_ne (ne_of_none q hfresh)];exact q
  have un:Un (frs X.stack) [it] H (upd H s.heap.objs.size (.tup [.ref bs[i],zs[i]])) s.heap h2 :=
   ⟨fun c ob g _ _ hb=>kk c ob hb g,fun c ob g _ _ hb=>⟨ob.slots,kk c ob hb g⟩,fun c ob g n _=>by rw[upd_ne (nT c ob g)];exact n,fun c ob g hb=>⟨ob,kk c ob hb g⟩,
    fun c ys g=>by rw[upd_ne (ne_of_none g hfresh)];exact g,fun c ob v g=>by rw[upd_ne (ne_of_none g hfresh)];exact g,fun c ps g=>⟨#[],by rw[upd_ne (ne_of_none g hfresh),g];simp⟩⟩
  have I2:Inv X pins σ (upd H s.heap.objs.size (.tup [.ref bs[i],zs[i]])) { s with heap:=h2 }:=I.call' (s':={ s with heap:=h2 }) rfl un hok I.bare fun c hb=>by
   have fe:=hf c hb;exact⟨fe.2.2.2.1,fe.2.1,fe.2.2.2.2.1,fe.2.2.2.2.2⟩
  refine⟨.ref s.heap.objs.size,_,I2,rfl,⟨_,bs[i],zs[i],hfresh,rfl,rfl,ag hi,ag (by omega)⟩,⟨_,_,he2⟩,fun c hb=>?_⟩
  have e:c=it:=by simpa using hb
  subst e;rw[upd_ne (Nat.ne_of_lt hil)];exact(hf c hb).1
 done:=by
  intro X hP hw hK hc i pins s σ H E I hf st hg;subst hP hw hK;obtain⟨ok,ov,st⟩:=st;obtain⟨hH,hi⟩:=hg;obtain⟨ho,_⟩:=I.hok a _ hH;obtain⟨f0,f1,f2,f3,f4,f5⟩:=hf it (by simp)
  have hl:es.size=bs.length:=by have:=congrArg eE hb;simpa using this
  exact es_itemsEnd (I.ok.hd hc) st ⟨o,ho,hx,hd⟩ (by omega) fun h' eb=>⟨rfl,I.turned (t':=s.toks) (fun b o hb e=>eb b o hb e) f0 f1 f3 f4 f5⟩
 self:=fun A i s Q E st h=>by
  obtain⟨ok,ov,st⟩:=st;exact PySem.W.kcp_self st h
section
variable {X:Cx} {K:Fg} {κ:Type} [DecidableEq κ] {pos:Pos} {k:Nat} {P:ay} {w:aI}
theorem pi_items {l:Expr} {tl:TE} {elts:List Expr} {x1:Nat} {tpos apos cpos:Pos} (hl:PE X l tl) (hbase:d3 l "items" X.env (eval l X.env)=eval l X.env:=by rfl) (hline:(apos.endLine == cpos.line)=true:=by rfl) :
  PI X (.Tuple elts x1 tpos) (.Call (.Attribute l "items" apos) [] [] cpos) (fun σ H R=>tl σ H fun x H1=>∃ a o es ep bs zs,x=.ref a/\H1 a=some (cdO a o)/\o.ExactDict/\o.data=.dict es ep/\(a == eG)=false/\es.toList.map (·.key)=bs.map bY/\Vals zs (es.toList.map (·.val))/\R (Itm a o bs zs) H1):=by
 intro pins s σ H R I h;refine wpAny_Call_method hbase rfl hline jj jl PySem.F.type_dict_items (thn (hl pins s σ H _ I h) fun v s1 ⟨x,H1,I1,r1,q1⟩=>?_);obtain⟨a,o,es,ep,bs,zs,e,hH,hx,hd,lo,hb,hz,q⟩:=q1;subst e;cases r1;obtain⟨ho,_⟩:=I1.hok a _ hH;have x0:EsAt s1.heap a es ep:=⟨o,ho,hx,hd⟩;refine⟨x0.ty,fun b e=>by cases e;exact⟨o,ho,hx.2.1⟩,?_⟩
 have hs:cw cpos (ax [] X.env)=[]:=rfl;rw[hs];refine gh rfl (PySem.evalArgs_none ?_);refine bM jl x0.ty PySem.F.entry_dict_items (es_items lo x0 ?_) (PySem.F.args_dict_items_1 _);have hv:be.IsItemsView (s1.heap.push { cls:=.type "dict_items",data:=.fields #[.ref a] }) s1.heap.objs.size a:=⟨_,av _ rfl,rfl,rfl⟩;have x1:EsAt (s1.heap.push { cls:=.type "dict_items",data:=.fields #[.ref a] }) a es ep:=⟨o,ah _ ho,hx,hd⟩;refine es_itemsIter (s:={ s1 with heap:=s1.heap.push { cls:=.type "dict_items",data:=.fields #[.ref a] } }) hv x1 ?_
 have kk:∀ b o,s1.heap.get? b=some o->((s1.heap.push { cls:=.type "dict_items",data:=.fields #[.ref a] }).push { cls:=.type "dict_itemiterator",data:=.fields #[.none,.bool false,.ref a,.int 0 0,.int es.size 0,.int ep 0,.none,.none] }).get? b=some o:=fun b o e=>ah _ (ah _ e);have hsz:(s1.heap.push { cls:=.type "dict_items",data:=.fields #[.ref a] }).objs.size=s1.heap.objs.size + 1:=by simp[be.push]
 have hal:a < s1.heap.objs.size:=aC ho;rw[hsz];refine⟨s1.heap.objs.size + 1,[s1.heap.objs.size + 1],_,_,H1,rfl,I1.kept (t':=s1.toks) kk,turn_items a (s1.heap.objs.size + 1) (Nat.ne_of_lt (Nat.lt_succ_of_lt hal)) hx hd hb hz,?_,fun b hb=>?_,q⟩
 ·exact⟨.none,.none,by rw[<- hsz];exact av _ rfl⟩
 ·have e:b=s1.heap.objs.size + 1:=by simpa using hb
  subst e;exact I1.fpOk (Nat.le_succ _) (I1.hok.fresh (Nat.le_succ _))
def dItemsX (N:KnD P w K κ) (te:ED):ID:=fun Γ S Q=>te Γ S fun d S1=>∃ a o kvs,d=.ref a/\S1 a=some (dxO N o kvs)/\Q (kvs.map fun p=>.tup [N.enc p.1,p.2]) (fun S'=>S' a=some (dxO N o kvs)) S1
theorem di_itemsX (N:KnD P w K κ) {l:Expr} {tl:ED} {elts:List Expr} {x1:Nat} {tpos apos cpos:Pos} (hl:PD K X l tl) (hbase:d3 l "items" X.env (eval l X.env)=eval l X.env:=by rfl) (hline:(apos.endLine == cpos.line)=true:=by rfl) :
  PID K X (.Tuple elts x1 tpos) (.Call (.Attribute l "items" apos) [] [] cpos) (dItemsX N tl):=.of (pi_items hl.o hbase hline) fun σ H Q z0=>z0.el fun F S Γ QD r g q c =>
 ⟨F,S,Γ,_,r,g,q,fun v d H1 S1 x1 r1 v1 ⟨a,o,kvs,e1,e2,q1⟩=>by
  subst e1;obtain⟨kw,⟨es,ep,xs,h1,h2,h3,h4,h5,h6,h7,h8⟩,pp⟩:=r1.obj a _ e2;have hb:es.toList.map (·.key)=(xs.map (·.2.1)).map bY:=by rw[h4,bo,bo];rfl
  have hz:Vals (kw.map (·.2)) (es.toList.map (·.val)):=by
   rw[h4,bo];clear h4 hb pp h5 h6
   induction h8 with
   | nil=>exact .nil
   | cons h _ ih=>exact .cons h.2.2 ih
  refine⟨a,o,es,ep,xs.map (·.2.1),kw.map (·.2),rref v1,h1,h2,h3,h7,hb,hz,c _ _ _ _ _ x1 r1 ⟨fun F2 f S2 H2 x r2 hg i d hd=>?_,fun F2 f S2 H2 x r2 hg=>?_⟩ q1⟩
  ·obtain⟨kw2,⟨es2,ep2,xs2,i1,_⟩,_⟩:=r2.obj a _ hg;rw[aJ,bz] at hd;obtain⟨p,hp,rfl⟩:=hd;obtain⟨q,hq,q1,q2⟩:=pair_at pp i p hp;obtain⟨y,hy,y1,y2,y3⟩:=pair_at' h8 i q hq;have hyb:(xs.map (·.2.1))[i]?=some y.2.1:=by rw[aJ,hy];rfl
   have hqz:(kw.map (·.2))[i]?=some q.2:=by rw[aJ,hq];rfl
   refine⟨⟨i1,(aD.mp hyb).1⟩,fun x' H3 ⟨a3,b,z,e3,e4,e5,e6,e7⟩=>?_⟩;subst e4 e5;rw[hyb] at e6;cases e6;rw[hqz] at e7;cases e7;rw[<- q1];exact pairRep2 r2 e3 (y2.keep (x.kpF f)) (q2.keep (x.kpF f))
  ·obtain⟨kw2,⟨es2,ep2,xs2,i1,_⟩,_⟩:=r2.obj a _ hg;refine⟨i1,?_⟩;rw[ap,ap,<- bV h8,bV pp];exact Nat.le_refl _⟩
end
section
variable {X:Cx} {K:Fg} {κ:Type} [DecidableEq κ] {pos:Pos} {P:ay} {w:aI}
def tOneX (N:KnD P w K κ) (tk tv:TE):TE:=fun σ H Q=>∀ p,H p=none->∀ o M,DxV N o M (upd H p (cdO p o)) p []->tk σ (upd H p (cdO p o)) fun y H1=>tv σ H1 fun v H2=>∃ o1 M k,M p/\DxV N o1 M H2 p []/\RepV K M H2 (N.enc k) y/\∀ o',DxV N o' M (upd H2 p (cdO p o')) p (putK [] k v)->Q (.ref p) (upd H2 p (cdO p o'))
theorem pe_oneX {N:KnD X.prog X.w K κ} {ek ev:Expr} {tk tv:TE} (hu:N.knd.room X.A) (hK:X.K=K) (hk:PE X ek tk) (hv:PE X ev tv):PE X (.Dict [some ek] [ev] pos) (tOneX N tk tv):=by
 intro pins s σ H Q I h;have ho:(s.heap.push { cls:=.type "dict",data:=.dict #[] }).get? s.heap.objs.size=some { cls:=.type "dict",data:=.dict #[] }:=av _ rfl;have lo:(s.heap.objs.size == eG)=false:=beq_eq_false_iff_ne.mpr (cN (Nat.ne_of_lt I.big));have I0:=I.laid (a:=s.heap.objs.size) (o:=cdO s.heap.objs.size { cls:=.type "dict",data:=.dict #[] }) (t':=s.toks) (fun _ _ q=>ah _ q) (Nat.le_refl _) ⟨ho,⟨_,ho⟩,fun g1 g2 g k=>k _ g⟩;refine wpAny_Dict_any rfl rfl (by simp) (by simp) ?_
 refine evalPairs_cons (thn (hk pins _ σ _ _ I0 (h _ (I.hok.fresh (Nat.le_refl _)) _ (fun _=>False) ⟨#[],0,[],upd_same,⟨rfl,rfl,rfl⟩,rfl,rfl,d8,Nat.zero_le _,lo,.nil⟩)) fun yv s1 ⟨y,H1,I1,ry,q1⟩=>?_);refine ad (thn (hv pins s1 σ H1 _ I1 q1) fun vv s2 ⟨v,H2,I2,rv,o1,M,k,hM,d,rk,q⟩=>ad (gK (af (evalPairs_nil ?_))));obtain⟨b,rfl⟩:=N.ref rk;cases (show yv=bY b from ry)
 obtain⟨g1,xs,dd,rel⟩:=d.at rfl rfl hK I2;cases rel;obtain⟨_,_,_,hH,_⟩:=id d;unfold storeAll;rw[dh];refine ad (ad (wpAny_dictSet_heap (hsz:=Nat.zero_le _) hu (N.key rfl rfl hK I2 rk) dd fun h' dd' hsb=>af ?_));dsimp only;rw[ir];refine af ?_;obtain⟨q',es,ep,hq,h2,h3,h4,_,h5⟩:=dd';have kp:Keep M H2 M (upd H2 s.heap.objs.size (cdO s.heap.objs.size q')):=⟨fun c oc hc e=>by rw[upd_ne (fun z=>hc (by rw[z];exact hM))];exact e,fun _ h _=>h⟩
 exact⟨.ref s.heap.objs.size,_,d_write I2 (by rw[hH];exact fV) hsb ⟨q',hq⟩ (ob:=cdO s.heap.objs.size q') ⟨hq,⟨_,hq⟩,fun g1 g2 g k=>k _ g⟩,rfl,q q' ⟨es,ep,_,upd_same,h2,h3,h4,h5,(by rw[bF];show 1<=_;decide),lo,Paired.imp (fun _ _ z=>⟨z.1,z.2.1.keep kp,z.2.2⟩) (kx_put .nil k rk rv)⟩⟩
def dOneX (N:KnD P w K κ) (tk tv:ED):ED:=fun Γ S Q=>∀ p,S p=none->∀ o,tk Γ (supd S p (dxO N o [])) fun d S1=>tv Γ S1 fun e S2=>∃ k o1,d=N.enc k/\S2 p=some (dxO N o1 [])/\∀ o',Q (.ref p) (supd S2 p (dxO N o' (putX [] k e)))
theorem e_oneX (N:KnD P w K κ) {ek ev:Expr} {tk tv:ED} (hu:N.knd.room X.A) (hk:PD K X ek tk) (hv:PD K X ev tv) (hP:X.prog=P:=by rfl) (hw:X.w=w:=by rfl) (hK:X.K=K:=by rfl):PD K X (.Dict [some ek] [ev] pos) (dOneX N tk tv):=by
 subst hP hw;refine .of (pe_oneX (N:=N) hu hK hk.o hv.o) fun σ H Q z0=>z0.el fun F S Γ QD r g q c=>fun p hp o M dx=>?_;have x0:Ext S H (supd S p (dxO N o [])) (upd H p (cdO p o)):=Ext.mk' hp;have r0:Rp K F (supd S p (dxO N o [])) (upd H p (cdO p o)):=r.mk' hp ⟨[],by
  obtain⟨es,ep,xs,h1,h2,h3,h4,h5,h6,h7,h8⟩:=dx;cases h8;exact⟨es,ep,[],h1,h2,h3,h4,h5,h6,h7,.nil⟩,.nil⟩
 refine⟨F,_,Γ,_,r0,g.ext x0,q p (r.sn hp) o,fun y dy H1 S1 x1 r1 v1 q1=>⟨F,S1,Γ,_,r1,g.ext (x0.trans x1),q1,fun v dv H2 S2 x2 r2 v2 ⟨k,o1,e1,e2,q2⟩=>?_⟩⟩;subst e1;obtain⟨kw,dx2,pp⟩:=r2.obj p _ e2;cases pp;have hS':S2 p≠none:=by rw[e2];exact fun z=>by cases z
 refine⟨o1,mt S2 F,k,.inl hS',dx2,v1.ext x2,fun o' dx'=>?_⟩;have x4:Ext S2 H2 (supd S2 p (dxO N o' (putX [] k dv))) (upd H2 p (cdO p o')):=Ext.write hS';have mm:∀ b,¬ mt S2 F b->¬ mt (supd S2 p (dxO N o' (putX [] k dv))) F b:=fun b hb z=>hb (z.elim (fun z=>by
  by_cases e:b=p
  ·rw[e];exact .inl hS'
  ·rw[supd_ne e] at z;exact .inl z) .inr)
 exact c (.ref p) (.ref p) _ _ (x0.trans (x1.trans (x2.trans x4))) (r2.write hS' ⟨_,dx'.keep ⟨fun _ _ _ h=>h,fun b h _=>mm b h⟩ rfl,px_put .nil k (v2.ext x4)⟩) (by unfold RepV;rfl) (q2 o')
theorem room_pr {k:Nat} (hr:Room k X.A):(prN P w K).knd.room X.A:=by
 have:=lt64 (n:=6) hr
 show X.A.units + 6 < b7;omega
end
end L2
set_option maxHeartbeats 4000000
namespace HT
open PySem PyProof.Rows
theorem rcGe_st (A:a6) (s:ai) (a:Str) (t:Tok) (c:Str) (u:Tok) (prog:ay) (w:aI) (E:ae->ai->Prop) (Q:ae->ai->Prop) (h:Q (.bool (!ltS a c)) s) :
  aE (aF prog w) A (richCompare .GtE (.str a t) (.str c u)) Q E s :=
 (PySem.P.ge_str h:aE (aF prog w) A (bW .GtE (.str a t) (.str c u)) Q E s)
section
open PySem.SeqAt
open PySem.AutoSeq1 (wpAny_loadPart')
open PySem.MeetsSeq PySem.MeetsSeq2 PySem.MeetsSeq3
theorem tuple_ge_strs (l b:Addr) (items items2:Array ae) (n n2:Nat) (dd dd2:Option Addr) (sl sl2:Array (Option ae)) (ns ms:List Str) (hi:SAre items.toList ns) (hj:SAre items2.toList ms) :
  Meets (b6.«tuple.__ge__» ⟨[.ref l,.ref b],[]⟩)
   (fun _ R s=>s.heap.get? l=some { cls:=.type "tuple",dict:=dd,data:=.seq items n,slots:=sl }/\s.heap.get? b=some { cls:=.type "tuple",dict:=dd2,data:=.seq items2 n2,slots:=sl2 } /\
    R (.ok (.ret (.bool (!lexS ns ms)))) s) :=
 .of_wp fun prog w A R s h=>by
  obtain⟨hp,g,d,tk,os⟩:=s;obtain⟨hl,hb,h⟩:=h;have f2:=iV;have z1:items.size=ns.length:=by rw[<- hi.len];simp
  have z2:items2.size=ms.length:=by rw[<- hj.len];simp
  wp_walk using eD hl,eD hb,gG _ (fun rest b s'=>b.1=none/\s'=⟨hp,g,d,tk,os⟩/\∃ (vs ws:List ae) (ns' ms':List Str),rest=vs.zip ws /\
   SAre vs ns'/\SAre ws ms'/\ns'.length + items2.size=ms'.length + items.size/\R (.ok (.ret (.bool (!lexS ns' ms')))) ⟨hp,g,d,tk,os⟩) _
  case turn =>
   rintro⟨y,x⟩ rest b s' ⟨hb',rfl,vs,ws,ns',ms',hz,hvi,hwi,hlen,hR⟩;cases hvi with
   | nil=>rw[iO] at hz;cases hz
   | @cons va a _ _ ha hvi' =>
    obtain⟨t,rfl⟩:=ha;cases hwi with
    | nil=>rw[eR] at hz;cases hz
    | @cons vc c _ _ hc hwi' =>
     obtain⟨u,rfl⟩:=hc;rw[dF] at hz;injection hz with hyx hrest
     injection hyx with hy hx
     subst hy hx;rw[lexS_cons] at hR;simp only[aO] at hlen;obtain⟨e,he,hiff⟩:=eqAt_st A.in1 ⟨hp,g,d,tk,os⟩ a t c u;refine ad (he prog w _ _ ?_);cases e with
     | true =>
      rw[if_pos (hiff.mp rfl)] at hR
      wp_walk
      exact⟨rfl,rfl,_,_,_,_,hrest,hvi',hwi',by lia,hR⟩
     | false =>
      rw[if_neg (fun q=>absurd (hiff.mpr q) ba)] at hR;have hri:=rcGe_st A.in1 ⟨hp,g,d,tk,os⟩ a t c u prog w
      wp_walk using hri
      exact⟨_,rfl,by simpa using hR⟩
  case fin =>
   rintro⟨b1,b2⟩ s' ⟨hb',rfl,vs,ws,ns',ms',hz,hvi,hwi,hlen,hR⟩;simp only at hb';subst hb';have hv:(!lexS ns' ms')=decide (items2.size<=items.size):=by
    cases hvi with
    | nil =>
     cases hwi with
     | nil =>
      simp only[b4] at hlen;rw[lexS_nil_nil];exact(decide_eq_true (by lia)).symm
     | cons hc hw =>
      simp only[b4,aO] at hlen;rw[lexS_nil_cons];exact(decide_eq_false (by lia)).symm
    | cons ha hv =>
     cases hwi with
     | nil =>
      simp only[b4,aO] at hlen;rw[lexS_cons_nil];exact(decide_eq_true (by lia)).symm
     | cons hc hw =>
      rw[dF] at hz;cases hz
   rw[hv] at hR
   wp_walk
   exact⟨_,rfl,by simpa [gA] using hR⟩
  case h =>
   exact⟨rfl,rfl,items.toList,items2.toList,ns,ms,rfl,hi,hj,by lia,h⟩
end
section
variable {prog:ay} {w:aI} {A:a6} {E:ae->ai->Prop} {s:ai}
theorem ge_tupStrs {l b:Addr} {items items2:Array ae} {ns ms:List Str} {Q:ae->ai->Prop} (hl:iK s.heap l items) (hb:iK s.heap b items2) (hi:SAre items.toList ns) (hj:SAre items2.toList ms)
  (hu:A.units < b7) (h:Q (.bool (!lexS ns ms)) s):aE (aF prog w) A (bW .GtE (.ref l) (.ref b)) Q E s:=by
 obtain⟨⟨cls,dd,data,sl⟩,ho,hc,n,hd⟩:=id hl;obtain⟨⟨cls2,dd2,data2,sl2⟩,ho2,hc2,n2,hd2⟩:=id hb;simp only at hc hd hc2 hd2;subst hc hd hc2 hd2;exact richCompare_meets_room (op:=.GtE) ⟨_,ho,rfl⟩ ⟨_,ho2,rfl⟩ PySem.F.slot_tuple_ge PySem.F.entry_tuple_ge (PySem.F.args_tuple_ge_2 _ _) (tuple_ge_strs l b items items2 n n2 dd dd2 sl sl2 ns ms hi hj)
  ⟨ho,ho2,show jp (!lexS ns ms)≠Value.notImplemented/\Q (.bool (!lexS ns ms)) s from⟨(fun x=>nomatch x),h⟩⟩ hu
end
end HT
namespace L2
open PySem PySem.Spec PyProof.Rows
section
variable {X:Cx} {K:Fg} {pos:Pos} {k:Nat}
def rGeT (K:Fg):R2:=fun x y H Q=>∃ d e,dT K dS H x d/\dT K dS H y e/\Q (.bl (!HT.lexS d e)) H
theorem op_geT (hu:X.A.units < b7) (hK:X.K=K:=by rfl):OpR X (bW .GtE) (rGeT K):=by
 subst hK;intro pins s σ H x y v u Q I rx ry h;obtain⟨d,e,⟨a,xs,rfl,ha,pa⟩,⟨b,ys,rfl,hb,pb⟩,q⟩:=h;cases rx;cases ry;obtain⟨its,r1,p1,_⟩:=I.tuple ha;obtain⟨its2,r2,p2,_⟩:=I.tuple hb;exact HT.ge_tupStrs p1 p2 (sare_of pa r1) (sare_of pb r2) hu ⟨.bl (!HT.lexS d e),H,I,rfl,q⟩
def geTD:R2D:=fun d e S Q=>∃ a b:List Str,d=tupS a/\e=tupS b/\Q (.bl (!HT.lexS a b)) S
theorem od_geT:OpD K (rGeT K) geTD:=by
 intro F S H d e x y Q QD r hd he h c;obtain⟨a,b,rfl,rfl,q⟩:=h;have one:∀ {t:List Str} {v:V},RepV K (mt S F) H (tupS t) v->dT K dS H v t:=fun {t v} h=>by
  unfold tupS RepV at h;obtain⟨p,us,rfl,tt,l⟩:=h;exact⟨p,us,rfl,tt.sq,repStrs l⟩
 exact⟨a,b,one hd,one he,c.bl r q⟩
theorem dt_geT {a b:Expr} {ta tb:ED} (hr:Room k X.A) (ha:PD K X a ta) (hb:PD K X b tb) (hK:X.K=K:=by rfl):PTD K X (.Compare a [.GtE] [b] pos) (dTest (dOp geTD ta tb)):=dt_cmp (op_geT (lt10 (n:=0) hr) hK) od_geT ha hb (nomark _)
end
end L2
set_option maxHeartbeats 1000000
namespace L2
open PySem PySem.Spec PyProof.Rows
section
variable {K:Fg}
theorem cg_nest {L:List Nat} {i j k:Nat} (hi:i∉j::k::L:=by decide) (hj:j∉k::L:=by decide) (hk:k∉L:=by decide):CG K (i::j::k::L) L (gTup K 2 (gCons (gTup K 2 (gCons (gName i) (gCons (gName j) gNil))) (gCons (gName k) gNil))) (gdTup 2 (gdCons (gdTup 2 (gdCons (gdName i) (gdCons (gdName j) gdNil))) (gdCons (gdName k) gdNil))):=fun F S H Γ σ d v Q QD f r g rv q c=>by
 cases d with
 | tup ds =>
  obtain⟨p,us,rfl,sq,l⟩:=tup.st rv;obtain⟨hl,q⟩:=q
  match ds,hl,q with
  | [d1,d2],_,q =>
   obtain⟨v1,v2,rfl,r1,r2⟩:=l.two;cases d1 with
   | tup es =>
    obtain⟨p',us',rfl,sq',l'⟩:=tup.st r1;obtain⟨hl',q⟩:=q
    match es,hl',q with
    | [e1,e2],_,q =>
     obtain⟨w1,w2,rfl,s1,s2⟩:=l'.two;have f1:Free (j::k::L) (σ.set i (some w1)):=f.set hi;have f2:Free (k::L) ((σ.set i (some w1)).set j (some w2)):=f1.set hj;exact⟨p,_,rfl,sq,rfl,.ref p',_,rfl,p',_,rfl,sq',rfl,w1,_,rfl,w2,_,rfl,rfl,v2,_,rfl,rfl,c _ S _ H (Ext.refl _ _) r (((g.set s1 i).set s2 j).set r2 k) (((wk_of (f i am)).trans (wk_of (f1 j am))).trans (wk_of (f2 k am))) (f2.set hk) q.2.2⟩
   | _=>exact q.elim
 | _=>exact q.elim
end
end L2
namespace Toy
open PySem L2
section
variable {α β:Type}
def apP (R:α->α->Bool):(α->Bool)->List α->Nat->Nat
 | _,_,0=>1
 | _,[],_ + 1=>0
 | p,a::l,k + 1=>(if p a=true then apP R (fun b=>p b && R a b) l k else 0) + apP R p l (k + 1)
def pwB (R:α->α->Bool):List α->Bool
 | []=>true
 | a::s=>s.all (R a) && pwB R s
def twP (R:α->α->Bool) (p:α->Bool) (x y:α) (l:List α):Nat->Nat
 | 0=>0
 | j + 1=>apP R (fun c=>(p c && R x c) && R y c) l j
theorem apP_zero (R:α->α->Bool) (p:α->Bool) (l:List α):apP R p l 0=1:=by cases l <;> rfl
theorem apP_ch (R:α->α->Bool):∀ (l:List α) (k:Nat) (p:α->Bool),((ch l k).filter fun s=>s.all p && pwB R s).length=apP R p l k
 | l,0,p=>by rw[ch_zero,apP_zero];rfl
 | [],k + 1,p=>rfl
 | a::l,k + 1,p=>by
  rw[ch_cons,fY,az,apP_ch R l (k + 1) p,List.filter_map,ap];show _=(if p a=true then _ else 0) + _
  congr 1
  cases h:p a with
  | false =>
   rw[if_neg ba,ga,List.filter_eq_nil_iff];intro s _ z;have z:((p a && s.all p) && (s.all (R a) && pwB R s))=true:=z;rw[h] at z;cases z
  | true =>
   rw[if_pos rfl,<- apP_ch R l k]
   congr 1
   refine fb fun s hm=>?_;clear hm;show((p a && s.all p) && (s.all (R a) && pwB R s))=((s.all fun b=>p b && R a b) && pwB R s);rw[h,eV,<- Bool.and_assoc]
   congr 1
   induction s with
   | nil=>rfl
   | cons b s ih =>
    rw[fP,fP,fP,<- ih];cases p b <;> cases R a b <;> cases s.all p <;> rfl
theorem apP_congr {R R':α->α->Bool}:∀ (l:List α) (k:Nat) (p p':α->Bool),(∀ a∈l,p a=p' a)->(∀ a∈l,∀ b∈l,p a=true->p b=true->R a b=R' a b)->apP R p l k=apP R' p' l k
 | l,0,p,p',_,_=>by rw[apP_zero,apP_zero]
 | [],k + 1,p,p',_,_=>rfl
 | a::l,k + 1,p,p',h,hr=>by
  show(if p a=true then _ else 0) + _=(if p' a=true then _ else 0) + _
  rw[<- h a am,apP_congr l (k + 1) p p' (fun b hb=>h b (ao _ hb)) fun b hb c hc=>hr b (ao _ hb) c (ao _ hc)]
  congr 1
  by_cases e:p a=true
  ·rw[if_pos e,if_pos e];refine apP_congr l k _ _ (fun b hb=>?_) fun b hb c hc h1 h2=>hr b (ao _ hb) c (ao _ hc) ((aV _ _).mp h1).1 ((aV _ _).mp h2).1;show(p b && R a b)=(p' b && R' a b);rw[<- h b (ao _ hb)];cases hp:p b with
   | false=>rfl
   | true=>rw[hr a am b (ao _ hb) e hp]
  ·rw[if_neg e,if_neg e]
theorem apP_filter (R:α->α->Bool) (q:α->Bool):∀ (l:List α) (k:Nat) (p:α->Bool),apP R p (l.filter q) k=apP R (fun a=>p a && q a) l k
 | l,0,p=>by rw[apP_zero,apP_zero]
 | [],k + 1,p=>rfl
 | a::l,k + 1,p=>by
  rw[bJ];show _=(if (p a && q a)=true then _ else 0) + _
  cases hq:q a with
  | false=>rw[if_neg ba,jM,if_neg ba,Nat.zero_add,apP_filter R q l (k + 1) p]
  | true =>
   rw[if_pos rfl,Bool.and_true];show(if p a=true then _ else 0) + _=_
   rw[apP_filter R q l (k + 1) p]
   congr 1
   by_cases e:p a=true
   ·rw[if_pos e,if_pos e,apP_filter R q l k];refine apP_congr l k _ _ (fun b _=>?_) fun _ _ _ _ _ _=>rfl;show((p b && R a b) && q b)=((p b && q b) && R a b);cases p b <;> cases R a b <;> cases q b <;> rfl
   ·rw[if_neg e,if_neg e]
theorem apP_map (f:β->α) (R:α->α->Bool):∀ (l:List β) (k:Nat) (p:α->Bool),apP R p (l.map f) k=apP (fun a b=>R (f a) (f b)) (fun a=>p (f a)) l k
 | l,0,p=>by rw[apP_zero,apP_zero]
 | [],k + 1,p=>rfl
 | a::l,k + 1,p=>by
  rw[aG];show(if p (f a)=true then _ else 0) + _=(if p (f a)=true then _ else 0) + _
  rw[apP_map f R l (k + 1) p,apP_map f R l k]
theorem apP_perm {R:α->α->Bool} (sy:∀ a b,R a b=R b a) {l l':List α} (h:l.Perm l'):∀ (k:Nat) (p:α->Bool),apP R p l k=apP R p l' k:=by
 induction h with
 | nil=>intro k p;rfl
 | @cons a l l' _ ih =>
  intro k p;cases k with
  | zero=>rfl
  | succ k =>
   show(if p a=true then _ else 0) + _=(if p a=true then _ else 0) + _
   rw[ih (k + 1) p,ih k]
 | @swap a b l =>
  intro k p;cases k with
  | zero=>rfl
  | succ k =>
   show(if p b=true then apP R (fun c=>p c && R b c) (a::l) k else 0) + ((if p a=true then apP R (fun c=>p c && R a c) l k else 0) + apP R p l (k + 1))=(if p a=true then apP R (fun c=>p c && R a c) (b::l) k else 0) + ((if p b=true then apP R (fun c=>p c && R b c) l k else 0) + apP R p l (k + 1))
   have key:∀ x y:α,(if p x=true then apP R (fun c=>p c && R x c) (y::l) k else 0)=(if p x=true/\p y=true/\R x y=true then twP R p x y l k else 0) + (if p x=true then apP R (fun c=>p c && R x c) l k else 0):=fun x y=>by
    by_cases e:p x=true
    ·rw[if_pos e,if_pos e];cases k with
     | zero =>
      rw[apP_zero,apP_zero]
      split <;> rfl
     | succ j =>
      show(if (p y && R x y)=true then _ else 0) + _=_
      congr 1
      by_cases e2:p y=true/\R x y=true
      ·rw[if_pos (by rw[e2.1,e2.2];rfl),if_pos ⟨e,e2.1,e2.2⟩];rfl
      ·rw[if_neg (fun z=>e2 ((aV _ _).mp z)),if_neg (fun z=>e2 z.2)]
    ·rw[if_neg e,if_neg e,if_neg (fun z=>e z.1)]
   rw[key b a,key a b];have s1:(if p b=true/\p a=true/\R b a=true then twP R p b a l k else 0)=(if p a=true/\p b=true/\R a b=true then twP R p a b l k else 0):=by
    rw[sy b a]
    by_cases e:p a=true/\p b=true/\R a b=true
    ·rw[if_pos e,if_pos ⟨e.2.1,e.1,e.2.2⟩];cases k with
     | zero=>rfl
     | succ j =>
      show apP R _ l j=apP R _ l j;refine apP_congr l j _ _ (fun c _=>?_) fun _ _ _ _ _ _=>rfl;show((p c && R b c) && R a c)=((p c && R a c) && R b c);cases p c <;> cases R a c <;> cases R b c <;> rfl
    ·rw[if_neg e,if_neg (fun z=>e ⟨z.2.1,z.1,z.2.2⟩)]
   rw[s1];omega
 | trans _ _ h1 h2=>intro k p;rw[h1 k p,h2 k p]
end
def geq (one:List Str) (n:Str):Bool:=!HT.lexS [n] (one.take 1)
def stK (many:Nat) (one:List Str) (e:Nat × List Str):List (Nat × List Str):=(e.1,e.2.filter (geq one))::if e.1 < many/\mts one (e.2.filter (geq one))=false then [(e.1 + 1,srS (e.2.filter (geq one)++one))] else []
def finK (many:Nat):List (List Str)->Nat × List Str->List (Nat × List Str)
 | [],e=>[e]
 | o::R,e=>(stK many o e).flatMap (finK many R)
theorem geq_all {o o':List Str} (s':Srt o') (h:HT.lexS o o'=true\/o=o') (so:Srt o):∀ n∈o',geq o n=true:=by
 intro n hn;unfold geq;cases o with
 | nil=>rfl
 | cons x r =>
  show(!(if n=x then HT.lexS [] [] else HT.ltS n x))=true
  by_cases e:n=x
  ·rw[if_pos e];rfl
  ·rw[if_neg e]
   have:HT.ltS n x=false:=by
    cases o' with
    | nil=>cases hn
    | cons y r' =>
     have hyn:y=n\/HT.ltS y n=true:=by
      rcases aB.mp hn with rfl | hn
      ·exact .inl rfl
      ·exact .inr ((bd.mp s').1 n hn)
     have hxy:x=y\/HT.ltS x y=true:=by
      rcases h with h | h
      ·rw[HT.lexS_cons] at h
       by_cases q:x=y
       ·exact .inl q
       ·rw[if_neg q] at h;exact .inr h
      ·injection h with h _;exact .inl h
     rcases hxy with rfl | hxy
     ·rcases hyn with rfl | hyn
      ·exact absurd rfl e
      ·exact HT.ltS_as hyn
     ·rcases hyn with rfl | hyn
      ·exact HT.ltS_as hxy
      ·exact HT.ltS_as (HT.ltS_tr hxy hyn)
   rw[this];rfl
theorem mts_geq {o o' t:List Str} (s':Srt o') (h:HT.lexS o o'=true\/o=o') (so:Srt o):mts o' (t.filter (geq o))=mts o' t:=by
 refine dU.mpr ?_;rw[mts_iff,mts_iff];constructor
 ·rintro⟨x,h1,h2⟩;exact⟨x,(bu.mp h1).1,h2⟩
 ·rintro⟨x,h1,h2⟩;exact⟨x,bu.mpr ⟨h1,geq_all s' h so x h2⟩,h2⟩
theorem fin_cnt {many:Nat}:∀ (R:List (List Str)) (e:Nat × List Str) (p:List Str->Bool),SrtT R->(∀ o∈R,Srt o)->e.1<=many->(∀ o∈R,p o=!mts o e.2)->((finK many R e).filter fun k=>decide (k.1=many)).length=apP (fun a b=>!mts b a) p R (many - e.1)
 | [],e,p,_,_,he,_=>by
  show([e].filter _).length=_;rw[bJ]
  by_cases q:e.1=many
  ·rw[if_pos (decide_eq_true q),q,Nat.sub_self];rfl
  ·rw[if_neg (by rw[decide_eq_false q];exact ba)]
   obtain⟨k,hk⟩:∃ k,many - e.1=k + 1:=⟨many - e.1 - 1,by omega⟩
   rw[hk];rfl
 | o::R,e,p,sR,hs,he,hp=>by
  have so:=hs o am;have sR':=(bd.mp sR);have hs':∀ x∈R,Srt x:=fun x hx=>hs x (ao _ hx);have mo:mts o (e.2.filter (geq o))=mts o e.2:=mts_geq so (.inr rfl) so;have mR:∀ x∈R,mts x (e.2.filter (geq o))=mts x e.2:=fun x hx=>mts_geq (hs' x hx) (.inl (sR'.1 x hx)) so;have c1:((finK many R (e.1,e.2.filter (geq o))).filter fun k=>decide (k.1=many)).length=apP (fun a b=>!mts b a) p R (many - e.1):=fin_cnt R (e.1,e.2.filter (geq o)) p sR'.2 hs' he fun x hx=>by rw[hp x (ao _ hx)];show _=!mts x (e.2.filter (geq o));rw[mR x hx]
  show(((stK many o e).flatMap (finK many R)).filter _).length=_;unfold stK;rw[bH,fY,az,c1]
  by_cases q:e.1=many
  ·rw[if_neg (fun z=>by omega),q,Nat.sub_self,apP_zero,apP_zero];rfl
  obtain⟨k,hk⟩:∃ k,many - e.1=k + 1:=⟨many - e.1 - 1,by omega⟩
  rw[hk];show _=(if p o=true then _ else 0) + apP _ p R (k + 1)
  have po:=hp o am
  by_cases m:mts o e.2=false
  ·have p1:p o=true:=by rw[po,m];rfl
   rw[if_pos ⟨by omega,by rw[mo];exact m⟩,if_pos p1,bH,gH,bR]
   have c2:((finK many R (e.1 + 1,srS (e.2.filter (geq o)++o))).filter fun k=>decide (k.1=many)).length=apP (fun a b=>!mts b a) (fun b=>p b && (fun a b=>!mts b a) o b) R (many - (e.1 + 1)):=fin_cnt R (e.1 + 1,srS (e.2.filter (geq o)++o)) (fun b=>p b && !mts b o) sR'.2 hs' (by show e.1 + 1<=many;omega) fun x hx=>by
    show(p x && !mts x o)=!mts x (srS (e.2.filter (geq o)++o));rw[hp x (ao _ hx),<- mR x hx,<- Bool.not_or]
    congr 1
    refine dU.mpr ?_;rw[Bool.or_eq_true,mts_iff,mts_iff,mts_iff];constructor
    ·rintro(⟨y,h1,h2⟩ | ⟨y,h1,h2⟩)
     ·exact⟨y,mem_srS.mpr (cF _ h1),h2⟩
     ·exact⟨y,mem_srS.mpr (bj _ h1),h2⟩
    ·rintro⟨y,h1,h2⟩;rcases aU.mp (mem_srS.mp h1) with h | h
     ·exact .inl ⟨y,h,h2⟩
     ·exact .inr ⟨y,h,h2⟩
   rw[c2,show many - (e.1 + 1)=k by omega]
   exact Nat.add_comm _ _
  ·have m:mts o e.2=true:=by cases h:mts o e.2 with | true=>rfl | false=>exact absurd h m
   rw[if_neg (fun z=>by rw[mo,m] at z;cases z.2),if_neg (by rw[po,m];exact ba),Nat.zero_add]
   rfl
end Toy
set_option maxHeartbeats 4000000
namespace L2
open PySem
theorem cut_to' (xs:List D) (i:Nat):cutD xs none (some (i:Int))=xs.take i:=by
 show(xs.drop 0).take (HT.sIx xs.length xs.length (some ((i:Nat):Int)) - 0)=_;rw[HT.sIx_nat,gl,Nat.sub_zero];rcases Nat.le_total i xs.length with h | h
 ·rw[Nat.min_eq_left h]
 ·rw[Nat.min_eq_right h,b5,bq h]
end L2
set_option maxHeartbeats 1000000
namespace Toy
open PySem L2
section
variable {κ:Type} [DecidableEq κ]
def valK (l:List (κ × Nat)) (k:κ):Nat:=((l.find? fun p=>decide (p.1=k)).map (·.2)).getD 0
def addK (l:List (κ × Nat)) (k:κ) (n:Nat):List (κ × Nat):=if (l.any fun p=>decide (p.1=k))=true then l.map (fun p=>if p.1=k then (p.1,valK l k + n) else p) else l++[(k,valK l k + n)]
def sumF (f:κ->Nat) (l:List (κ × Nat)):Nat:=(l.map fun p=>p.2 * f p.1).sum
theorem sumF_append (f:κ->Nat) (l m:List (κ × Nat)):sumF f (l++m)=sumF f l + sumF f m:=by unfold sumF;rw[br,List.sum_append]
theorem any_key {l:List (κ × Nat)} {k:κ}:(l.any fun p=>decide (p.1=k))=true↔k∈l.map (·.1):=by
 rw[ja,cC];exact⟨fun⟨p,h,e⟩=>⟨p,h,of_decide_eq_true e⟩,fun⟨p,h,e⟩=>⟨p,h,decide_eq_true e⟩⟩
theorem valK_none {l:List (κ × Nat)} {k:κ} (h:k∉l.map (·.1)):valK l k=0:=by
 unfold valK;rw[List.find?_eq_none.mpr fun p hp e=>h (cC.mpr ⟨p,hp,of_decide_eq_true e⟩)]
 rfl
theorem sum_set (f:κ->Nat) (k:κ) (v:Nat):∀ l:List (κ × Nat),(l.map (·.1)).Nodup->k∈l.map (·.1)->sumF f (l.map fun p=>if p.1=k then (p.1,v) else p) + valK l k * f k=sumF f l + v * f k
 | [],_,h=>by cases h
 | p::l,nd,h=>by
  obtain⟨n1,n2⟩:=bZ.mp (show(p.1::l.map (·.1)).Nodup from nd)
  show(if p.1=k then (p.1,v) else p).2 * f (if p.1=k then (p.1,v) else p).1 + sumF f (l.map _) + valK (p::l) k * f k=p.2 * f p.1 + sumF f l + v * f k
  by_cases e:p.1=k
  ·have:(l.map fun p=>if p.1=k then (p.1,v) else p)=l:=by
    conv=>rhs;rw[<- gS l]
    refine de fun q hq=>if_neg fun z=>n1 ?_;rw[e,<- z];exact List.mem_map_of_mem hq
   have hv:valK (p::l) k=p.2:=by
    unfold valK;rw[cR,decide_eq_true e];rfl
   rw[if_pos e,this,hv,<- e];show v * f p.1 + sumF f l + p.2 * f p.1=_;omega
  ·have hv:valK (p::l) k=valK l k:=by
    unfold valK;rw[cR,decide_eq_false e]
   have hm:k∈l.map (·.1):=(aB.mp (show k∈p.1::l.map (·.1) from h)).resolve_left fun z=>e z.symm
   have:=sum_set f k v l n2 hm
   rw[if_neg e,hv];omega
theorem addK_keys {l:List (κ × Nat)} {k:κ} {n:Nat}:(addK l k n).map (·.1)=if k∈l.map (·.1) then l.map (·.1) else l.map (·.1)++[k]:=by
 unfold addK
 by_cases h:k∈l.map (·.1)
 ·rw[if_pos (any_key.mpr h),if_pos h,bo];refine de fun p _=>?_;show(if p.1=k then (p.1,_) else p).1=p.1
  split <;> rfl
 ·rw[if_neg (fun z=>h (any_key.mp z)),if_neg h,br];rfl
theorem addK_nd {l:List (κ × Nat)} (nd:(l.map (·.1)).Nodup) (k:κ) (n:Nat):((addK l k n).map (·.1)).Nodup:=by
 rw[addK_keys]
 split
 ·exact nd
 ·next h=>exact eZ.mpr ⟨nd,bt ..,fun x hx y hy e=>h (by rw[aN.mp hy] at e;exact e ▸ hx)⟩
theorem addK_len (l:List (κ × Nat)) (k:κ) (n:Nat):(addK l k n).length<=l.length + 1:=by
 have:=congrArg eE (addK_keys (l:=l) (k:=k) (n:=n))
 rw[ap] at this;rw[this]
 split
 ·rw[ap];omega
 ·rw[az,ap];exact Nat.le_refl _
theorem addK_sum (f:κ->Nat) {l:List (κ × Nat)} (nd:(l.map (·.1)).Nodup) (k:κ) (n:Nat):sumF f (addK l k n)=sumF f l + n * f k:=by
 unfold addK
 by_cases h:k∈l.map (·.1)
 ·rw[if_pos (any_key.mpr h)]
  have:=sum_set f k (valK l k + n) l nd h
  rw[Nat.add_mul] at this;omega
 ·rw[if_neg (fun z=>h (any_key.mp z)),sumF_append,valK_none h];show _ + ((0 + n) * f k + 0)=_;rw[Nat.zero_add,Nat.add_zero]
end
structure CtK (many:Nat) (ts:List (List Str)) (l:List ((Nat × List Str) × Nat)):Prop where
 nd:(l.map (·.1)).Nodup
 sum:∀ f,sumF f l=((ts.foldl (fun L o=>L.flatMap (stK many o)) [(0,[])]).map f).sum
theorem run_fin (many:Nat):∀ (R:List (List Str)) (L:List (Nat × List Str)),R.foldl (fun L o=>L.flatMap (stK many o)) L=L.flatMap (finK many R)
 | [],L=>by
  show L=L.flatMap fun e=>[e];rw[List.flatMap_singleton']
 | o::R,L=>by
  show R.foldl _ (L.flatMap (stK many o))=_;rw[run_fin many R,List.flatMap_assoc];rfl
theorem sum_flat {α β:Type} (f:β->Nat) (g:α->List β):∀ L:List α,((L.flatMap g).map f).sum=(L.map fun a=>((g a).map f).sum).sum
 | []=>rfl
 | a::L=>by rw[bH,br,List.sum_append,sum_flat f g L];rfl
structure TnK (many:Nat) (o:List Str) (done:List ((Nat × List Str) × Nat)) (ways:List ((Nat × List Str) × Nat)):Prop where
 nd:(ways.map (·.1)).Nodup
 sum:∀ f,sumF f ways=sumF (fun e=>((stK many o e).map f).sum) done
 len:ways.length<=2 * done.length
theorem TnK.nil {many:Nat} {o:List Str}:TnK many o [] []:=⟨d8,fun _=>rfl,Nat.le_refl _⟩
theorem TnK.one {many:Nat} {o:List Str} {done ways:List ((Nat × List Str) × Nat)} (h:TnK many o done ways) (e:Nat × List Str) (n:Nat) (c:¬ (e.1 < many/\mts o (e.2.filter (geq o))=false)):TnK many o (done++[(e,n)]) (addK ways (e.1,e.2.filter (geq o)) n):=by
 refine⟨addK_nd h.nd _ _,fun f=>?_,by have:=addK_len ways (e.1,e.2.filter (geq o)) n;have:=h.len;rw[az];show _<=2 * (done.length + 1);omega⟩
 rw[addK_sum f h.nd,h.sum,sumF_append]
 congr 1
 show _=n * ((stK many o e).map f).sum + 0;unfold stK;rw[if_neg c];show _=n * (f _ + 0) + 0;rw[Nat.add_zero,Nat.add_zero]
theorem TnK.two {many:Nat} {o:List Str} {done ways:List ((Nat × List Str) × Nat)} (h:TnK many o done ways) (e:Nat × List Str) (n:Nat) (c:e.1 < many/\mts o (e.2.filter (geq o))=false):TnK many o (done++[(e,n)]) (addK (addK ways (e.1,e.2.filter (geq o)) n) (e.1 + 1,srS (e.2.filter (geq o)++o)) n):=by
 refine⟨addK_nd (addK_nd h.nd _ _) _ _,fun f=>?_,?_⟩
 ·rw[addK_sum f (addK_nd h.nd _ _),addK_sum f h.nd,h.sum,sumF_append,Nat.add_assoc]
  congr 1
  show _=n * ((stK many o e).map f).sum + 0;unfold stK;rw[if_pos c];show _=n * (f _ + (f _ + 0)) + 0;rw[Nat.mul_add,Nat.mul_add,Nat.mul_zero];omega
 ·have:=addK_len ways (e.1,e.2.filter (geq o)) n
  have:=addK_len (addK ways (e.1,e.2.filter (geq o)) n) (e.1 + 1,srS (e.2.filter (geq o)++o)) n
  have:=h.len
  rw[az];show _<=2 * (done.length + 1);omega
theorem CtK.start (many:Nat):CtK many [] [((0,[]),1)]:=⟨bt ..,fun f=>by show 1 * f _ + 0=f _ + 0;rw[Nat.one_mul]⟩
theorem CtK.turn {many:Nat} {ts:List (List Str)} {o:List Str} {l ways:List ((Nat × List Str) × Nat)} (h:CtK many ts l) (t:TnK many o l ways):CtK many (ts++[o]) ways:=by
 refine⟨t.nd,fun f=>?_⟩;rw[t.sum,h.sum,List.foldl_append];show _=((List.flatMap _ _).map f).sum;rw[sum_flat]
theorem CtK.told {many:Nat} {ts:List (List Str)} {l:List ((Nat × List Str) × Nat)} (h:CtK many ts l) (sR:SrtT ts) (hs:∀ o∈ts,Srt o):((l.filter fun p=>decide (p.1.1=many)).map (·.2)).sum=apP (fun a b=>!mts b a) (fun _=>true) ts many:=by
 have e:((l.filter fun p=>decide (p.1.1=many)).map (·.2)).sum=sumF (fun k=>if k.1=many then 1 else 0) l:=by
  clear h;unfold sumF
  induction l with
  | nil=>rfl
  | cons p l ih =>
   rw[bJ]
   by_cases q:p.1.1=many
   ·rw[if_pos (decide_eq_true q),aG,cr,ih,aG,cr];show _=p.2 * (if p.1.1=many then 1 else 0) + _
    rw[if_pos q,Nat.mul_one]
   ·rw[if_neg (by rw[decide_eq_false q];exact ba),ih,aG,cr]
    show _=p.2 * (if p.1.1=many then 1 else 0) + _
    rw[if_neg q,Nat.mul_zero,Nat.zero_add]
 have e2:∀ L:List (Nat × List Str),(L.map fun k=>if k.1=many then 1 else 0).sum=(L.filter fun k=>decide (k.1=many)).length:=fun L=>by
  induction L with
  | nil=>rfl
  | cons k L ih =>
   rw[aG,cr,ih,bJ]
   by_cases q:k.1=many
   ·rw[if_pos q,if_pos (decide_eq_true q),aO];omega
   ·rw[if_neg q,if_neg (by rw[decide_eq_false q];exact ba)];omega
 rw[e,h.sum,e2,run_fin];rw[bH,gH,bR];rw[fin_cnt ts (0,[]) (fun _=>true) sR hs (Nat.zero_le _) fun o _=>rfl]
 rfl
abbrev s_count_apart:Stmt:=top 11
theorem sc_count_apart:FnScope ["sets", "many", "counted", "one", "ways", "size", "taken", "number", "shut", "longer"] ["sets", "many"] (defScope s_count_apart):=fsc
def kE (l:List ((Nat × List Str) × Nat)):List ((Nat × List Str) × D):=l.map fun p=>(p.1,D.int (p.2:Nat))
theorem kE_val (l:List ((Nat × List Str) × Nat)) (k:Nat × List Str):(valX (kE l) k).getD (D.int 0)=D.int (valK l k:Nat):=by
 unfold kE valK valX
 induction l with
 | nil=>rfl
 | cons p l ih =>
  rw[aG,cR,cR]
  by_cases h:p.1=k
  ·simp[h]
  ·simpa [h] using ih
theorem kE_put (l:List ((Nat × List Str) × Nat)) (k:Nat × List Str) (n:Nat):putX (kE l) k (D.int ((valK l k + n:Nat):Int))=kE (addK l k n):=by
 unfold putX addK kE;have e:((l.map fun p=>(p.1,D.int (p.2:Nat))).any fun kv=>decide (kv.1=k))=l.any fun p=>decide (p.1=k):=by rw[List.any_map];rfl
 rw[e]
 split
 ·rw[bo,bo];refine de fun p _=>?_;show(if p.1=k then (p.1,D.int ((valK l k + n:Nat):Int)) else (p.1,D.int (p.2:Nat)))=_
  show _=((if p.1=k then (p.1,valK l k + n) else p).1,D.int ((if p.1=k then (p.1,valK l k + n) else p).2:Nat))
  by_cases h:p.1=k
  ·rw[if_pos h,if_pos h]
  ·rw[if_neg h,if_neg h]
 ·rw[br];rfl
theorem addK_mem {l:List ((Nat × List Str) × Nat)} {k:Nat × List Str} {n:Nat} {e:Nat × List Str} (h:e∈(addK l k n).map (·.1)):e∈l.map (·.1)\/e=k:=by
 rw[addK_keys] at h
 split at h
 ·exact .inl h
 ·rcases aU.mp h with h | h
  ·exact .inl h
  ·exact .inr (aN.mp h)
theorem int_dec (a b:Nat):decide (D.int (a:Nat)=D.int (b:Nat))=decide (a=b):=decide_eq_decide.mpr ⟨fun h=>by injection h with h;omega,fun h=>by rw[h]⟩
theorem sum_cast (l:List ((Nat × List Str) × Nat)):(l.map fun q=>(q.2:Int)).sum=(((l.map (·.2)).sum:Nat):Int):=by
 induction l with
 | nil=>rfl
 | cons q l ih=>rw[aG,cr,aG,cr,ih];omega
theorem loop_sz {many:Nat} {G:Sto->Prop} {S:Sto} {Q:List D->Sto->Prop} (hG:G S):∀ (l:List ((Nat × List Str) × Nat)) (acc:List D),acc.length + l.length<=99999->Q (acc++(l.filter fun q=>decide (q.1.1=many)).map fun q=>D.int (q.2:Nat)) S ->
  loopD (gdTup 2 (gdCons (gdTup 2 (gdCons (gdName 0) (gdCons (gdName 1) gdNil))) (gdCons (gdName 2) gdNil))) (dTest (dOp (eqD false) (dVar 0) (dVar 3))) (emitD (dVar 2)) G [none,none,none,some (D.int (many:Nat))] ((kE l).map fun q=>.tup [.tup [.int (q.1.1:Nat),tupS q.1.2],q.2]) acc S Q
 | [],acc,_,q=>⟨hG,by simpa using q⟩
 | ((size,taken),n)::l,acc,hn,q=>by
  rw[aO] at hn;refine⟨hG,rfl,rfl,rfl,rfl,rfl,_,rfl,?_⟩;have e:(if false=true then !decide (D.int (size:Nat)=D.int (many:Nat)) else decide (D.int (size:Nat)=D.int (many:Nat)))=decide (size=many):=int_dec size many
  rw[bJ] at q
  by_cases c:size=many
  ·rw[if_pos (decide_eq_true c)] at q;refine ite2 (fun _=>⟨by rw[bF];omega,loop_sz hG l _ (by rw[az];show _ + 1 + _<=_;omega) (by rw[aR];exact q)⟩) fun z=>absurd (e.trans (decide_eq_true c)) z
  ·rw[if_neg (by simpa using c)] at q
   exact ite2 (fun z=>absurd (of_decide_eq_true (e.symm.trans z)) c) fun _=>loop_sz hG l _ (by omega) q
def sp_count_apart:SpD:=fun ds S Q=>∃ (ts:List (List Str)) (many:Nat),ds=[.tup (ts.map tupS),.int many]/\ts.length<=14/\SrtT ts/\(∀ t∈ts,Srt t/\t.length<=6)/\Q (.int (apP (fun a b=>!mts b a) (fun _=>true) ts many:Nat)) S
section
variable {P:ay} {w:aI} {K:ar} {mg:Str->Option ae} {base:be} {pt cc:Addr}
theorem ok_count_apart (T:Tx K mg "count_apart" s_count_apart) (B:Bs mg) (d_meets:Df P w K mg base 1 "meets" ["one", "row"] (spU K sp_meets)):Df P w K mg base 2 "count_apart" ["sets", "many"] (spU K sp_count_apart):=by
 refine e_def T sc_count_apart (fun F=>F.binds fun _ _ _ _ _ _=>us2 fun _ _=>rfl) ?_ fun f cdv A outer s H E hr=>⟨_,(dss_cons (ds_set (i:=2) sc_count_apart.nd rfl (aW rfl) (e_oneX (prN P w K) (room_pr hr) (e_tup (da_cons e_int (da_cons (e_tup da_nil) da_nil))) e_int))
  (dss_cons (ds_for ci rfl (di_sq (dv 0)) (dg_name (i:=3) sc_count_apart.nd rfl (Or.inr rfl)) (dss_cons (ds_set (i:=4) sc_count_apart.nd rfl (aW rfl) (e_dnewX (prN P w K)))
  (dss_cons (ds_for ci rfl (di_itemsX (prN P w K) (dv 2)) (dg_tup rfl (dgs_cons (dg_tup rfl (dgs_cons (dg_name (i:=5) sc_count_apart.nd rfl (aW rfl)) (dgs_cons (dg_name (i:=6) sc_count_apart.nd rfl (aW rfl)) dgs_nil))) (dgs_cons (dg_name (i:=7) sc_count_apart.nd rfl (aW rfl)) dgs_nil))) (dss_cons (ds_set (i:=8) sc_count_apart.nd rfl (aW rfl) (e_tuple rfl B.tuple (da_cons (e_comp (N':=["name", "one"]) (oc:=none) (b:=false) [0] [] rfl sc_count_apart.nd (fun _ _ _=>turn_one _ _ _ _ _ _ _ _ _) (.own (.cap (i:=3) rfl (by decide +kernel) .nil)) (free_of rfl) (di_sq (dv 6)) (cg_name (i:=0)) (fun _ _ _ _ _=>pg_name (i:=0) (nd_ ["name", "one"]) rfl (aW rfl) (.inr rfl)) (fun _ _ _ _ _=>dts_one (by exact(dt_geT hr (e_tup (da_cons (dv 0) da_nil)) (e_sl (b:=false) (dv 1) do_none (do_some e_int))))) bo_emit (fun _ _ _ _ _ _=>pb_emit rfl (by exact PD.o (dv 0)))) da_nil)))
  (dss_cons (ds_putX (prN P w K) hr (dv 4) (e_tup (da_cons (dv 5) (da_cons (dv 8) da_nil))) (e_add (k:=false) (e_dgetX (prN P w K) hr (dv 4) (e_tup (da_cons (dv 5) (da_cons (dv 8) da_nil))) e_int) (dv 7)))
  (dss_one (ds_if (PWD.pt (dw_and (dt_lt hr (dv 5) (dv 1)) (dw_and1 (dt_not (dt_tru (e_callD d_meets hr rfl (da_cons (dv 3) (da_cons (dv 8) da_nil)))))))) (dss_cons (ds_set (i:=9) sc_count_apart.nd rfl (aW rfl) (e_tup (da_cons (e_add (k:=false) (dv 5) e_int) (da_cons (e_tuple rfl B.tuple (da_cons (e_sorted (b:=false) hr rfl B.sorted (da_cons (e_add (k:=false) (dv 8) (dv 3)) da_nil)) da_nil)) da_nil))))
  (dss_one (ds_putX (prN P w K) hr (dv 4) (dv 9) (e_add (k:=false) (e_dgetX (prN P w K) hr (dv 4) (dv 9) e_int) (dv 7))))) dss_nil)))))
  (dss_one (ds_set (i:=2) sc_count_apart.nd rfl (aW rfl) (dv 4))))))
  (dss_one (ds_ret (e_sum rfl B.sum (da_cons (e_comp (N':=["size", "taken", "number", "many"]) (oc:=none) (b:=false) [0,1,2] [] rfl sc_count_apart.nd (fun _ _ _=>turn_one _ _ _ _ _ _ _ _ _) (.own (.own (.own (.cap (i:=1) rfl (by decide +kernel) .nil)))) (free_of rfl) (di_itemsX (prN P w K) (dv 2)) (cg_nest (i:=0) (j:=1) (k:=2)) (fun _ _ _ _ _=>pg_tup rfl (pgs_cons (pg_tup rfl (pgs_cons (pg_name (i:=0) (nd_ ["size", "taken", "number", "many"]) rfl (aW rfl) (.inr rfl)) (pgs_cons (pg_name (i:=1) (nd_ ["size", "taken", "number", "many"]) rfl (aW rfl) (.inr rfl)) pgs_nil))) (pgs_cons (pg_name (i:=2) (nd_ ["size", "taken", "number", "many"]) rfl (aW rfl) (.inr rfl)) pgs_nil))) (fun _ _ _ _ _=>dts_one (by exact(dt_eq hr (dv 0) (dv 3)))) bo_emit (fun _ _ _ _ _ _=>pb_emit rfl (by exact PD.o (dv 2)))) da_nil)))))),?_⟩
 ·rintro ds S Q ⟨ts,many,rfl,_⟩;rfl
 ·rintro ds S Q ⟨ts,many,rfl,hl,sR,hs,q⟩;intro p0 hp0 o0;refine⟨z9999 (by decide),z9999 (by decide),(0,[]),o0,rfl,supd_same,fun o1=>?_⟩
  refine⟨_,rfl,?_⟩;refine for_ind (fun i Γ S'=>∃ (p:Addr) (o:Obj) (l:List ((Nat × List Str) × Nat)) (x3 x4 x5 x6 x7 x8 x9:Option D),Γ=[some (.tup (ts.map tupS)),some (.int many),some (.ref p),x3,x4,x5,x6,x7,x8,x9]/\S' p=some (dxO (prN P w K) o (kE l))/\(∀ b o,S b=some o->S' b=some o)/\CtK many (ts.take i) l/\l.length<=2 ^ i/\∀ e∈l.map (·.1),e.2.Nodup/\e.2.length<=6 * i) ?_ ?_ ?_
  ·refine⟨p0,o1,[((0,[]),1)],none,none,none,none,none,none,none,rfl,?_,fun b o e=>?_,.start many,Nat.le_refl _,?_⟩
   ·exact supd_same
   ·have hb:b≠p0:=by rintro rfl;rw[e] at hp0;cases hp0
    exact(supd_ne hb).trans ((supd_ne hb).trans e)
   ·intro e he;have he:e=(0,[]):=by simpa using he
    subst he;exact⟨d8,Nat.le_refl _⟩
  ·rintro i x Γ S' N hx ⟨p,o,l,x3,x4,x5,x6,x7,x8,x9,rfl,hS',fr,ct,hl2,hk⟩ hN;rw[aJ,bz] at hx;obtain⟨t,ht,rfl⟩:=hx;have hi:i < ts.length:=(aD.mp ht).1;obtain⟨tS,t6⟩:=hs t (ak ht);refine⟨trivial,?_⟩;intro p' hp' o';have hpp:p≠p':=by rintro rfl;rw[hS'] at hp';cases hp'
   have hl3:l.length<=16384:=Nat.le_trans hl2 (Nat.pow_le_pow_right (n:=2) (by decide) (show i<=14 by omega))
   refine⟨p,o,kE l,rfl,(supd_ne hpp).trans hS',?_⟩;refine for_ind (fun j Γ S2=>∃ (o2:Obj) (ways:List ((Nat × List Str) × Nat)) (y5 y6 y7 y8 y9:Option D),Γ=[some (.tup (ts.map tupS)),some (.int many),some (.ref p),some (tupS t),some (.ref p'),y5,y6,y7,y8,y9]/\S2 p=some (dxO (prN P w K) o (kE l))/\S2 p'=some (dxO (prN P w K) o2 (kE ways))/\(∀ b o,S b=some o->S2 b=some o)/\TnK many t (l.take j) ways/\∀ e∈ways.map (·.1),e.2.Nodup/\e.2.length<=6 * (i + 1)) ?_ ?_ ?_
   ·exact⟨o',[],x5,x6,x7,x8,x9,rfl,(supd_ne hpp).trans hS',supd_same,fun b o e=>(supd_ne (by rintro rfl;rw[fr _ _ e] at hp';cases hp')).trans (fr b o e),.nil,fun e h=>nomatch h⟩
   ·rintro j y Γ S2 N2 hy ⟨o2,ways,y5,y6,y7,y8,y9,rfl,hp2,hp3,fr2,tn,hk2⟩ hN2;rw[aJ,bz] at hy;obtain⟨q',hq,rfl⟩:=hy;unfold kE at hq;rw[aJ,bz] at hq;obtain⟨⟨⟨size,taken⟩,n⟩,hen,rfl⟩:=hq;have hj:j < l.length:=(aD.mp hen).1;obtain⟨knd,kl⟩:taken.Nodup/\taken.length<=6 * i:=hk (size,taken) (cC.mpr ⟨_,ak hen,rfl⟩);refine⟨hp2,rfl,rfl,rfl,rfl,?_⟩;refine⟨_,rfl,loop_filt (enc:=D.str) (p:=geq t) (f:=D.str) (fun n hn Q' h=>?_) (fun n hn _ Q' h=>h) (z9999 ?_) ?_⟩
    ·exact⟨z9999 (by show 1<=9999;decide),1,rfl,[n],t.take 1,rfl,by show D.tup (cutD (t.map D.str) none (some ((1:Nat):Int)))=_;rw[cut_to',<- iZ];rfl,_,rfl,h⟩
    ·show 0 + taken.length<=_;omega
    have sl:(taken.filter (geq t)).length<=6 * i:=Nat.le_trans (dD _ _) kl;have snd:(taken.filter (geq t)).Nodup:=knd.filter _;have wl:ways.length<=32768:=by
     have:=tn.len
     rw[aS] at this;omega
    have etk:l.take (j + 1)=l.take j++[((size,taken),n)]:=by rw[cm,hen];rfl
    refine⟨_,rfl,⟨p',o2,kE ways,rfl,hp3⟩,z9999 (by show 2<=9999;decide),p',o2,kE ways,(size,taken.filter (geq t)),rfl,hp3,rfl,?_⟩
    rw[kE_val];refine⟨z9999 (by show 2<=9999;decide),p',o2,kE ways,(size,taken.filter (geq t)),rfl,hp3,rfl,?_,fun o3=>?_⟩
    ·show(kE ways).length < sizeLine;unfold kE;rw[ap,bF];omega
    rw[show((valK ways (size,taken.filter (geq t)):Nat):Int) + (n:Int)=((valK ways (size,taken.filter (geq t)) + n:Nat):Int) from(gU ..).symm,kE_put]
    have frn:∀ {o3:DO} {S3:Sto},(∀ b o,S b=some o->S3 b=some o)->∀ b o,S b=some o->supd S3 p' o3 b=some o:=fun h b o e=>(supd_ne (by rintro rfl;rw[fr _ _ e] at hp';cases hp')).trans (h b o e)
    have kw:∀ e∈(addK ways (size,taken.filter (geq t)) n).map (·.1),e.2.Nodup/\e.2.length<=6 * (i + 1):=fun e he=>by
     rcases addK_mem he with he | rfl
     ·exact hk2 e he
     ·exact⟨snd,by show(taken.filter (geq t)).length<=_;omega⟩
    refine⟨_,rfl,ite2 (fun c0=>?_) fun c0=>?_⟩
    ·have c0:size < many:=by have z:((size:Nat):Int) < ((many:Nat):Int):=of_decide_eq_true c0;omega
     refine⟨Str,inferInstance,strE,t,taken.filter (geq t),tupS t,tupS (taken.filter (geq t)),rfl,by decide,.inl rfl,.inl rfl,by omega,?_⟩
     refine ite2 (fun c1=>?_) fun c1=>?_
     ·have c1:mts t (taken.filter (geq t))=false:=by simpa using c1
      have an:(taken.filter (geq t)++t).Nodup:=by
       rw[eZ];refine⟨snd,tS.imp fun h e=>?_,fun a ha b hb e=>?_⟩
       ·subst e;rw[HT.ltS_ir] at h;cases h
       ·subst e
        have:=mts_iff.mpr ⟨a,ha,hb⟩
        rw[c1] at this;cases this
      refine⟨z9999 ?_,.inl ⟨taken.filter (geq t)++t,?_,_,rfl,z9999 (by show 2<=9999;decide),?_⟩⟩
      ·show((taken.filter (geq t)).map D.str).length + (t.map D.str).length<=9999;rw[ap,ap];omega
      ·show(taken.filter (geq t)++t).map D.str=(taken.filter (geq t)).map D.str++t.map D.str;rw[br]
      have wl2:(addK ways (size,taken.filter (geq t)) n).length<=32769:=Nat.le_trans (addK_len _ _ _) (by omega)
      refine⟨⟨p',o3,kE (addK ways (size,taken.filter (geq t)) n),rfl,supd_same⟩,p',o3,kE (addK ways (size,taken.filter (geq t)) n),(size + 1,srS (taken.filter (geq t)++t)),rfl,supd_same,rfl,?_⟩;rw[kE_val];refine⟨p',o3,kE (addK ways (size,taken.filter (geq t)) n),(size + 1,srS (taken.filter (geq t)++t)),rfl,supd_same,rfl,?_,fun o4=>?_⟩
      ·show(kE _).length < sizeLine;unfold kE;rw[ap,bF];omega
      rw[show((valK (addK ways (size,taken.filter (geq t)) n) (size + 1,srS (taken.filter (geq t)++t)):Nat):Int) + (n:Int)=((valK (addK ways (size,taken.filter (geq t)) n) (size + 1,srS (taken.filter (geq t)++t)) + n:Nat):Int) from(gU ..).symm,kE_put]
      refine hN2 _ _ ⟨o4,_,_,_,_,_,_,rfl,(supd_ne hpp).trans ((supd_ne hpp).trans hp2),supd_same,frn (frn fr2),by rw[etk];exact tn.two (size,taken) n ⟨c0,c1⟩,fun e he=>?_⟩
      rcases addK_mem he with he | rfl
      ·exact kw e he
      ·refine⟨(srS_perm _).nodup_iff.mpr an,?_⟩;show(srS _).length<=_;rw[(srS_perm _).length_eq,az];omega
     ·have c1:mts t (taken.filter (geq t))=true:=by simpa using c1
      exact hN2 _ _ ⟨o3,_,_,_,_,_,_,rfl,(supd_ne hpp).trans hp2,supd_same,frn fr2,by rw[etk];exact tn.one (size,taken) n fun z=>(by rw[show mts t _=false from z.2] at c1;cases c1),kw⟩
    ·have c0:¬ size < many:=fun z=>c0 (decide_eq_true (show((size:Nat):Int) < ((many:Nat):Int) by omega))
     refine ite2 (fun z=>nomatch (show false=true from z)) fun _=>?_
     exact hN2 _ _ ⟨o3,_,_,_,_,_,_,rfl,(supd_ne hpp).trans hp2,supd_same,frn fr2,by rw[etk];exact tn.one (size,taken) n fun z=>c0 z.1,kw⟩
   ·rintro Γ S2 ⟨o2,ways,y5,y6,y7,y8,y9,rfl,hp2,hp3,fr2,tn,hk2⟩;have el:(l.take ((kE l).map fun p=>D.tup [(prN P w K).enc p.1,p.2]).length)=l:=by
     unfold kE;rw[ap,ap,b5]
    rw[el] at tn;refine⟨hp2,hN _ _ ⟨p',o2,ways,some (tupS t),some (.ref p'),y5,y6,y7,y8,y9,rfl,hp3,fr2,?_,?_,hk2⟩⟩
    ·rw[cm,ht];exact ct.turn tn
    ·rw[Nat.pow_succ]
     have:=tn.len
     omega
  ·rintro Γ S' ⟨p,o,l,x3,x4,x5,x6,x7,x8,x9,rfl,hS',fr,ct,hl2,hk⟩;rw[ap,b5] at ct;have hl3:l.length<=16384:=Nat.le_trans hl2 (Nat.pow_le_pow_right (n:=2) (by decide) (show(ts.map tupS).length<=14 by rw[ap];exact hl))
   refine⟨trivial,p,o,kE l,rfl,hS',loop_sz hS' l [] (by show 0 + _<=_;omega) ?_⟩
   refine⟨(l.filter fun q=>decide (q.1.1=many)).map fun q=>(q.2:Int),?_,rt_drop fr ?_⟩
   ·show []++_=_;rw[bS,bo];rfl
   rw[sum_cast,ct.told sR fun o ho=>(hs o ho).1];exact q
end
theorem pwB_iff {α:Type} {R:α->α->Bool}:∀ {s:List α},pwB R s=true↔s.Pairwise fun a b=>R a b=true
 | []=>⟨fun _=>.nil,fun _=>rfl⟩
 | a::s=>by
  show(s.all (R a) && pwB R s)=true↔_;rw[aV,a7,bd,pwB_iff]
theorem mts_sw (a b:List Str):mts a b=mts b a:=by
 refine dU.mpr ?_;rw[mts_iff,mts_iff];exact⟨fun⟨x,h1,h2⟩=>⟨x,h2,h1⟩,fun⟨x,h1,h2⟩=>⟨x,h2,h1⟩⟩
def cwc (ts:List (List Str)) (m:Nat) (c:List Str):Nat:=((ch ts m).filter fun s=>decide (coG s=some c)).length
def lkC (ts:List (List Str)) (c:List Str):List (List Str):=srT ((ts.filter fun t=>has t c).map fun t=>wo t c)
theorem off_iff {a b c:List Str} (ha:Srt a) (hc:Srt c) (pa:has a c=true) (pb:has b c=true):meG a b=c↔mts (wo b c) (wo a c)=false:=by
 have pa:=has_iff.mp pa;have pb:=has_iff.mp pb;constructor
 ·intro h;rw[<- Bool.not_eq_true,mts_iff];rintro⟨x,h1,h2⟩;rw[mem_wo] at h1 h2;exact h1.2 (by rw[<- h];exact mem_me.mpr ⟨h1.1,h2.1⟩)
 ·intro h;refine Srt.ext (cX _ ha) hc fun n=>?_;rw[mem_me];constructor
  ·rintro⟨h1,h2⟩;refine aK fun z=>?_
   have:mts (wo b c) (wo a c)=true:=mts_iff.mpr ⟨n,mem_wo.mpr ⟨h1,z⟩,mem_wo.mpr ⟨h2,z⟩⟩
   rw[h] at this;cases this
  ·exact fun hn=>⟨pa n hn,pb n hn⟩
theorem cwc_ap {ts:List (List Str)} (nd:ts.Nodup) (hs:∀ t∈ts,Srt t) {m:Nat} (m2:2<=m) {c:List Str} (hc:Srt c):cwc ts m c=apP (fun a b=>!mts b a) (fun _=>true) (lkC ts c) m:=by
 unfold lkC;rw[apP_perm (fun a b=>by rw[mts_sw]) (srT_perm _),apP_map,apP_filter,<- apP_ch]
 unfold cwc
 congr 1
 refine fb fun s h=>?_;obtain⟨sl,sub⟩:=ch_mem h;have sn:s.Nodup:=nd.sublist sub;have ss:∀ o∈s,Srt o:=fun o ho=>hs o (sub.subset ho);refine dU.mpr ?_;rw[decide_eq_true_iff,co_Fm (by omega) sn ss,aV,a7,pwB_iff]
 constructor
 ·intro hp;have all:∀ x∈s,(true && has x c)=true:=by
   obtain⟨a,b,r,rfl⟩:∃ a b r,s=a::b::r:=by
    cases s with
    | nil=>rw[b4] at sl;omega
    | cons a s =>
     cases s with
     | nil=>rw[du] at sl;omega
     | cons b s=>exact⟨a,b,s,rfl⟩
   have h1:=(bd.mp hp).1;intro x hx;rw[eV,has_iff];intro n hn;rcases aB.mp hx with rfl | hx
   ·have:=h1 b am
    rw[<- this] at hn;exact(mem_me.mp hn).1
   ·have:=h1 x hx
    rw[<- this] at hn;exact(mem_me.mp hn).2
  refine⟨all,dH (fun {a b} ha hb e=>?_) hp⟩;have pa:=all a ha;have pb:=all b hb;rw[eV] at pa pb;rw[(off_iff (ss a ha) hc pa pb).mp e];rfl
 ·rintro⟨all,hp⟩;refine dH (fun {a b} ha hb e=>?_) hp;have pa:=all a ha;have pb:=all b hb;rw[eV] at pa pb;refine(off_iff (ss a ha) hc pa pb).mpr ?_;cases z:mts (wo b c) (wo a c) with
  | false=>rfl
  | true=>rw[z] at e;cases e
theorem sum_cores {α β:Type} [DecidableEq β] (g:α->Option β) (cs:List β) (nd:cs.Nodup):∀ (L:List α),(∀ x∈L,∀ c,g x=some c->c∈cs)->(cs.map fun c=>(L.filter fun s=>decide (g s=some c)).length).sum=(L.filter fun s=>(g s).isSome).length
 | [],_=>by
  show(cs.map fun _=>0).sum=0;clear nd
  induction cs with
  | nil=>rfl
  | cons c cs ih=>rw[aG,cr,ih fun _ h=>nomatch h]
 | x::L,h=>by
  have ih:=sum_cores g cs nd L fun y hy=>h y (ao _ hy);have key:∀ cs:List β,(cs.map fun c=>((x::L).filter fun s=>decide (g s=some c)).length).sum=(cs.map fun c=>if g x=some c then 1 else 0).sum + (cs.map fun c=>(L.filter fun s=>decide (g s=some c)).length).sum:=fun cs=>by
   induction cs with
   | nil=>rfl
   | cons c cs ih =>
    rw[aG,cr,aG,cr,aG,cr,ih,bJ]
    by_cases e:g x=some c
    ·rw[if_pos e,if_pos (decide_eq_true e),aO];omega
    ·rw[if_neg e,if_neg (by rw[decide_eq_false e];exact ba)];omega
  rw[key,ih,bJ];cases hx:g x with
  | none =>
   have z:(cs.map fun c=>if (none:Option β)=some c then 1 else 0).sum=0:=by
    clear nd h ih key
    induction cs with
    | nil=>rfl
    | cons c cs ih=>rw[aG,cr,ih];rfl
   rw[z,if_neg (by exact ba),Nat.zero_add]
  | some c =>
   have hm:=h x am c hx;have z:∀ cs:List β,cs.Nodup->c∈cs->(cs.map fun d=>if some c=some d then 1 else 0).sum=1:=fun cs=>by
    induction cs with
    | nil=>intro _ z;cases z
    | cons d cs ih =>
     intro nd hm;obtain⟨n1,n2⟩:=bZ.mp nd;rw[aG,cr]
     by_cases e:c=d
     ·subst e;rw[if_pos rfl]
      have:(cs.map fun d=>if some c=some d then 1 else 0).sum=0:=by
       clear ih nd hm n2
       induction cs with
       | nil=>rfl
       | cons e cs ih =>
        rw[aG,cr,if_neg (fun q=>n1 (by injection q with q;rw[q];exact am)),ih fun q=>n1 (ao _ q)]
      rw[this]
     ·rw[if_neg (fun q=>e (by injection q)),ih n2 ((aB.mp hm).resolve_left e)]
   rw[z cs nd hm,if_pos (by exact rfl),aO,Nat.add_comm]
theorem cwf {ts:List (List Str)} {m:Nat} {cs:List (List Str)} (nd:cs.Nodup) (h:∀ s∈ch ts m,∀ c,coG s=some c->c∈cs):(cs.map (cwc ts m)).sum=(flO ts m).length:=sum_cores coG cs nd (ch ts m) h
abbrev s_count_with_core:Stmt:=top 10
theorem sc_count_with_core:FnScope ["sets", "many", "core"] ["sets", "many", "core"] (defScope s_count_with_core):=fsc
def sp_count_with_core:SpD:=fun ds S Q=>∃ (ts:List (List Str)) (m:Nat) (c:List Str),ds=[.tup (ts.map tupS),.int m,tupS c]/\ts.length<=14/\SrtT ts/\(∀ t∈ts,Srt t/\t.length<=6)/\Srt c/\c.length<=9999/\2<=m/\Q (.int (cwc ts m c:Nat)) S
section
variable {P:ay} {w:aI} {K:ar} {mg:Str->Option ae} {base:be} {pt cc:Addr}
theorem ok_count_with_core (T:Tx K mg "count_with_core" s_count_with_core) (B:Bs mg) (d_link_of:Df P w K mg base 2 "link_of" ["sets", "row"] (spU K sp_link_of)) (d_count_apart:Df P w K mg base 2 "count_apart" ["sets", "many"] (spU K sp_count_apart)):Df P w K mg base 3 "count_with_core" ["sets", "many", "core"] (spU K sp_count_with_core):=by
 refine e_def T sc_count_with_core (fun F=>F.binds fun _ _ _ _ _ _=>us3 fun _ _ _=>rfl) ?_ fun f cdv A outer s H E hr=>⟨_,(dss_one (ds_ret (e_ifExp (dt_ge hr (dv 1) e_int) (e_callD d_count_apart hr rfl (da_cons (e_callD d_link_of hr rfl (da_cons (dv 0) (da_cons (dv 2) da_nil))) (da_cons (dv 1) da_nil))) e_int))),?_⟩
 ·rintro ds S Q ⟨ts,m,c,rfl,_⟩;rfl
 ·rintro ds S Q ⟨ts,m,c,rfl,hl,sT,hs,sc,c9,m2,q⟩;have nd:=sT.nodup;have es:=fun t ht=>(hs t ht).1;refine⟨_,rfl,ite2 (fun c0=>?_) fun c0=>absurd (decide_eq_true (show((2:Nat):Int)<=((m:Nat):Int) by omega)) c0⟩
  refine⟨ts,c,rfl,by omega,c9,fun t ht=>by have:=(hs t ht).2;omega,lnk ts c,m,rfl,?_,srT_srt (lnk_nd nd es),fun t ht=>?_,?_⟩
  ·unfold lnk;rw[(srT_perm _).length_eq,ap];exact Nat.le_trans (dD _ _) hl
  ·unfold lnk at ht;rw[mem_srT,cC] at ht;obtain⟨o,ho,rfl⟩:=ht;have ho:=(bu.mp ho).1;exact⟨(hs o ho).1.filter _,Nat.le_trans (dD _ _) (hs o ho).2⟩
  ·rw[cwc_ap nd es m2 sc] at q;exact rt_same q
end
abbrev s_count_flowers:Stmt:=top 9
theorem sc_count_flowers:FnScope ["sets", "many"] ["sets", "many"] (defScope s_count_flowers):=fsc
def sp_count_flowers:SpD:=fun ds S Q=>∃ (ts:List (List Str)) (m:Nat),ds=[.tup (ts.map tupS),.int m]/\ts.length<=14/\SrtT ts/\(∀ t∈ts,Srt t/\t.length<=6)/\2<=m/\Q (.int ((flO ts m).length:Nat)) S
theorem core_in {ts:List (List Str)} (nd:ts.Nodup) (hs:∀ t∈ts,Srt t) {m:Nat} (m2:2<=m) {s:List (List Str)} (h:s∈ch ts m) {c:List Str} (e:coG s=some c):c∈mets ts:=by
 obtain⟨hl,sub⟩:=ch_mem h;have f:=(co_Fm (by omega) (sub.nodup nd) fun o ho=>hs o (sub.subset ho)).mp e
 match s,hl,sub,f with
 | a::b::r,_,sub,f =>
  have fab:meG a b=c:=(bd.mp f).1 b am;refine cC.mpr ⟨[a,b],mem_ch (s:=[a,b]) (List.Sublist.trans (jZ a (jZ b (List.nil_sublist r))) sub),fab⟩
 | [],hl,_,_=>exact absurd hl (by show ¬ 0=m;omega)
 | [a],hl,_,_=>exact absurd hl (by show ¬ 1=m;omega)
section
variable {P:ay} {w:aI} {K:ar} {mg:Str->Option ae} {base:be} {pt cc:Addr}
theorem ok_count_flowers (T:Tx K mg "count_flowers" s_count_flowers) (B:Bs mg) (d_cores_of_two:Df P w K mg base 10 "cores_of_two" ["sets"] (spU K sp_cores_of_two)) (d_count_with_core:Df P w K mg base 10 "count_with_core" ["sets", "many", "core"] (spU K sp_count_with_core)):Df P w K mg base 11 "count_flowers" ["sets", "many"] (spU K sp_count_flowers):=by
 refine e_def T sc_count_flowers (fun F=>F.binds fun _ _ _ _ _ _=>us2 fun _ _=>rfl) ?_ fun f cdv A outer s H E hr=>⟨_,(dss_one (ds_ret (e_sum rfl B.sum (da_cons (e_comp (N':=["core", "sets", "many"]) (oc:=none) (b:=false) [0] [] rfl sc_count_flowers.nd (fun _ _ _=>turn_one _ _ _ _ _ _ _ _ _) (.own (.cap (i:=0) rfl (by decide +kernel) (.cap (i:=1) rfl (by decide +kernel) .nil))) (free_of rfl) (di_sq (e_callD d_cores_of_two hr rfl (da_cons (dv 0) da_nil))) (cg_name (i:=0)) (fun _ _ _ _ _=>pg_name (i:=0) (nd_ ["core", "sets", "many"]) rfl (aW rfl) (.inr rfl)) (fun _ _ _ _ _=>dts_nil) bo_emit (fun _ _ _ _ _ _=>pb_emit rfl (by exact PD.o (e_callD d_count_with_core hr rfl (da_cons (dv 1) (da_cons (dv 2) (da_cons (dv 0) da_nil))))))) da_nil)))),?_⟩
 ·rintro ds S Q ⟨ts,m,rfl,_⟩;rfl
 ·rintro ds S Q ⟨ts,m,rfl,hl,sT,hs,m2,q⟩;have nd:=sT.nodup;have es:=fun t ht=>(hs t ht).1;refine⟨ts,rfl,hl,fun t ht=>by have:=(hs t ht).2;omega,fun out so mem=>?_⟩
  have ol:out.length<=91:=Nat.le_trans (so.nodup.length_le_of_subset fun t ht=>(mem t).mp ht) (mets_len ts hl);refine⟨_,rfl,loop_map (enc:=tupS) (f:=fun c=>D.int (cwc ts m c:Nat)) (fun c hc Q q=>?_) (z9999 (by show 0 + out.length<=9999;omega)) ?_⟩
  ·have hm:=(mem c).mp hc
   have:=mets_each (n:=6) (fun t ht=>(hs t ht).2) hm
   exact⟨ts,m,c,rfl,hl,sT,hs,(met_two sT es hm).1,by omega,m2,q⟩
  refine⟨out.map fun c=>((cwc ts m c:Nat):Int),by show []++_=_;rw[bS,bo];rfl,rt_same ?_⟩
  have e:(out.map fun c=>((cwc ts m c:Nat):Int)).sum=(((out.map (cwc ts m)).sum:Nat):Int):=by
   clear ol so mem
   induction out with
   | nil=>rfl
   | cons c l ih=>rw[aG,cr,aG,cr,ih];omega
  rw[e,cwf so.nodup fun s h c e=>(mem c).mpr (core_in nd es m2 h e)];exact q
end
end Toy
namespace L2
open PySem PySem.Spec PyProof.Rows
section
variable {X:Cx} {K:Fg} {pos:Pos} {k:Nat}
def ckSq (d:D) (S:Sto):Prop:=∃ xs,lsIs S d xs
end
section
variable {X:Cx} {K:Fg} {pos:Pos} {k:Nat}
theorem cnt_pt {e:ae->Bool} {d:D}:∀ (its:List ae) (ds:List D),its.length=ds.length->(∀ m (h:m < its.length) (h':m < ds.length),e its[m]=decide (ds[m]=d))->its.countP e=ds.countP fun x=>decide (x=d)
 | [],[],_,_=>rfl
 | v::its,x::ds,hl,h=>by
  rw[List.countP_cons,List.countP_cons,cnt_pt its ds (by simpa using hl) fun m h1 h2=>h (m + 1) (Nat.succ_lt_succ h1) (Nat.succ_lt_succ h2)]
  have:=h 0 (Nat.succ_pos _) (Nat.succ_pos _)
  rw[show e v=decide (x=d) from this]
def rCountLt (K:Fg):V->List V->Hp->VK->Prop:=fun x vs H Q=>∃ (a:Addr) (us:List V) (y:V) (M:Am) (ds:List D) (d:D),x=.ref a/\vs=[y]/\SqL K H a us/\RepL K M H ds us/\RepV K M H d y/\(ds.all fun e=>okE 8 e d)=true/\Q (.int (ds.countP fun x=>decide (x=d):Nat)) H
theorem mt_countLt (hu:X.A.units + 10 < b7) (hK:X.K=K:=by rfl):MtR X "list.count" (rCountLt K):=by
 subst hK;intro pins s σ H x xs v us Q I rx rs h;obtain⟨a,ws,y,M,ds,d,rfl,rfl,sq,lu,ry,ok,q⟩:=h;cases rx;obtain⟨u,rfl,ru⟩:=rs.one;obtain⟨its,r,⟨⟨oc,od,dt,sl⟩,n,e,hc,hd,hsq⟩,hz⟩:=I.list sq;have l1:=lu.length;have l2:=r.length;dsimp only at hc hd hsq;subst hc hsq;have at':∀ m (hm:m < its.length),∃ c w,ds[m]?=some c/\RepV X.K M H c w/\RelV w its[m]:=fun m hm=>by
  obtain⟨c,e1,e2⟩:=lu.get' (ag (show m < ws.length by omega))
  obtain⟨u',eu,ru'⟩:=r.get (ag (show m < ws.length by omega))
  rw[ag hm] at eu;cases eu;exact⟨c,_,e1,e2,ru'⟩
 have un:∀ m m' (hm:m < its.length) (hm':m' < its.length),its[m]=its[m']->ds[m']?=some d->ds[m]?=some d:=fun m m' hm hm' ev e1=>by
  obtain⟨c,w,e2,c1,r1⟩:=at' m hm;obtain⟨c',w',e3,c2,r2⟩:=at' m' hm';rw[e1] at e3;cases e3;rw[ev] at r1;rw[RelV.inj r2 r1] at c2;rw[e2,uniq I 8 c1 c2 (a7.mp ok c (ak e2))]
 have tell:∀ m (hm:m < its.length) (hm':m < ds.length),decide (∃ m',∃ (_:m' < its.length),its[m']=its[m]/\ds[m']?=some d)=decide (ds[m]=d):=fun m hm hm'=>by
  refine dU.mpr ?_;rw[decide_eq_true_iff,decide_eq_true_iff];constructor
  ·rintro⟨m',h',e4,e5⟩
   have:=un m m' hm h' e4.symm e5
   rw[ag hm'] at this;exact aP this
  ·intro e;exact⟨m,hm,rfl,by rw[ag hm',e]⟩
 refine ju F.slot_list_count ⟨_,e,rfl⟩ F.entry_list_count (F.args_list_count_2 _ _) (SeqAt.list_countAt a its.toArray n od sl u fun z=>decide (∃ m,∃ (_:m < its.length),its[m]=z/\ds[m]?=some d)) ⟨e,fun z hz=>?_,?_⟩
 ·obtain⟨m,hm,rfl⟩:=Array.mem_iff_getElem.mp hz;rw[aq] at hm;obtain⟨c,w,e1,e2,e3⟩:=at' m hm;have hm':m < ds.length:=by omega
  have h1:=(eq3 I 8 (show X.A.in1.units + 8 < _ by show X.A.units + 1 + 8 < _;omega) e2 ry e3 ru (a7.mp ok c (ak e1))).eq
  rw[ag hm'] at e1;cases e1;rw[List.getElem_toArray,tell m hm hm'];exact h1
 ·have hc:its.toArray.toList.countP (fun z=>decide (∃ m,∃ (_:m < its.length),its[m]=z/\ds[m]?=some d))=ds.countP fun x=>decide (x=d):=by
   rw[List.toList_toArray];exact cnt_pt its ds (by omega) tell
  rw[hc];exact⟨.int _,H,I.tok _,⟨_,rfl⟩,q⟩
def cntLtD:D->List D->Sto->DK->Prop:=fun o ds S Q=>∃ (xs:List D) (d:D),lsIs S o xs/\ds=[d]/\(xs.all fun e=>okE 8 e d)=true/\Q (.int (xs.countP fun x=>decide (x=d):Nat)) S
theorem md_countLt:MtD K "list" (rCountLt K) cntLtD ckSq:=⟨fun F S H d x r h c=>by
 obtain⟨xs,hx⟩:=c;obtain⟨a,us,rfl,sq,_⟩:=lsIs.sl r h hx;exact .inl ⟨rfl,us,sq⟩,fun F S H d ds x vs Q QD r h l q c=>by
 obtain⟨xs,y,h1,rfl,ok,q⟩:=q;obtain⟨v,rfl,rv⟩:=l.one;obtain⟨a,us,rfl,sq,lu⟩:=lsIs.sl r h h1;exact⟨a,us,v,_,xs,y,rfl,rfl,sq,lu,rv,ok,c _ _ _ S (Ext.refl _ _) r (by unfold RepV;rfl) q⟩⟩
theorem e_countLt {o e:Expr} {to:ED} {t:AD} {apos cpos:Pos} (hr:Room k X.A) (ho:PD K X o to) (ha:PAD K X [e] t) (hK:X.K=K:=by rfl)
  (hbase:d3 o "count" X.env (eval o X.env)=eval o X.env:=by rfl)
  (hfew:((cw cpos (ax [e] X.env)).all (fun x=>!x.1) && (i8 cpos (f8 [] X.env)).all (fun x=>x.1.isSome)
   && decide (([e]:List Expr).length + ([]:List fx).length + (if ([]:List fx).isEmpty then 0 else 1) < 30))=true:=by rfl)
  (hline:(apos.endLine == cpos.line)=true:=by rfl) (hs:ax [e] X.env=(false,eval e X.env)::ax [] X.env:=by rfl) (hplain:(cw cpos (ax [] X.env)).any (·.1)=false:=by rfl) :
  PD K X (.Call (.Attribute o "count" apos) [e] [] cpos) (dMt cntLtD ckSq to t):=e_bm md_countLt eN PySem.F.slot_list_count PySem.F.type_list_count (mt_countLt (lt64 hr) hK) ho ha hK hbase hfew hline hs hplain
end
end L2
namespace Toy
open PySem L2
abbrev s_law:Stmt:=top 21
theorem sc_law:FnScope ["script", "sets", "number", "cores", "one", "most", "many", "found", "told", "core"] ["script"] (defScope s_law):=fsc
section
variable {P:ay} {w:aI} {K:ar} {mg:Str->Option ae} {base:be} {pt cc:Addr}
theorem ok_law {f:Addr} {fd:dq} (Fn:Fun K "law" "law" s_law f fd) (B:Bs mg) (d_law_sets:Df P w K mg base 49 "_law_sets" ["script", "start", "most"] (spU K spa_sets)) (d_law_number:Df P w K mg base 49 "_law_number" ["script", "k"] (spU K spa_number)) (d_law_meet:Df P w K mg base 49 "_law_meet" ["one", "other"] (spU K sp_law_meet)) (d_law_core:Df P w K mg base 49 "_law_core" ["some"] (spU K sp_law_core)) (d_law_choices:Df P w K mg base 49 "_law_choices" ["sets", "many"] (spU K sp_law_choices)) (d_law_whole:Df P w K mg base 49 "_law_whole" ["found"] (spU K sp_law_whole)) (d_count_flowers:Df P w K mg base 49 "count_flowers" ["sets", "many"] (spU K sp_count_flowers)) (d_count_with_core:Df P w K mg base 49 "count_with_core" ["sets", "many", "core"] (spU K sp_count_with_core)):FnOk P w K mg base CX0 50 f fd ["script"] (spU K (spLawD 63)):=by
 refine e_fn Fn sc_law ?_ fun cdv A outer s H E hr=>⟨_,(dss_cons (ds_set (i:=1) sc_law.nd rfl (aW rfl) (e_callD d_law_sets hr rfl (da_cons (dv 0) (da_cons e_int (da_cons (e_ix (e_lst (b:=false) (da_cons e_int (da_cons e_int da_nil))) (e_int1 rfl B.int (da_cons (e_eq hr (e_mod (e_callD d_law_number hr rfl (da_cons (dv 0) (da_cons e_int da_nil))) e_int) e_int) da_nil))) da_nil)))))
  (dss_cons (ds_set (i:=2) sc_law.nd rfl (aW rfl) (e_callD d_law_number hr rfl (da_cons (dv 0) (da_cons e_int da_nil))))
  (dss_cons (ds_set (i:=3) sc_law.nd rfl (aW rfl) (e_lst (b:=false) (da_cons (e_tup da_nil) (da_cons (e_tup (da_cons e_str da_nil)) (da_cons (e_tup (da_cons e_str (da_cons e_str da_nil))) da_nil)))))
  (dss_cut (ds_if (dt_ne hr (dv 1) (e_tup da_nil)) (dss_cons (ds_set (i:=4) sc_law.nd rfl (aW rfl) (e_ix (dv 1) (e_mod (dv 2) (e_len rfl B.len (da_cons (dv 1) da_nil)))))
  (dss_one (ds_set (i:=3) sc_law.nd rfl (aW rfl) (e_add (k:=false) (dv 3) (e_lst (b:=false) (da_cons (dv 4) (da_cons (e_callD d_law_meet hr rfl (da_cons (dv 4) (da_cons (e_ix (dv 1) (e_mod (e_fdiv (dv 2) e_int) (e_len rfl B.len (da_cons (dv 1) da_nil)))) da_nil))) (da_cons (e_sl (b:=false) (dv 4) do_none (do_some e_int)) da_nil)))))))) dss_nil)
  (dss_cut (ds_set (i:=5) sc_law.nd rfl (aW rfl) (e_ix (e_lst (b:=false) (da_cons e_int (da_cons e_int da_nil))) (e_int1 rfl B.int (da_cons (e_and (e_gt hr (e_len rfl B.len (da_cons (dv 1) da_nil)) e_int) (e_one (e_gt hr (e_mod (dv 2) e_int) e_int))) da_nil))))
  (dss_cons (ds_for ci rfl (di_range2 rfl B.range (da_cons e_int (da_cons (e_add (k:=false) (dv 5) e_int) da_nil))) (dg_name (i:=6) sc_law.nd rfl (aW rfl)) (dss_cons (ds_setC (i:=7) rfl (aW rfl) (N':=["some"]) (oc:=none) (b:=false) [0] [] rfl sc_law.nd (fun _ _ _=>turn_one _ _ _ _ _ _ _ _ _) (.own .nil) (free_of rfl) (di_sq (e_callD d_law_choices hr rfl (da_cons (dv 1) (da_cons (dv 6) da_nil)))) (cg_name (i:=0)) (fun _ _ _ _ _=>pg_name (i:=0) (nd_ ["some"]) rfl (aW rfl) (.inr rfl)) (fun _ _ _ _ _=>dts_nil) bo_emit (fun _ _ _ _ _ _=>pb_emit rfl (by exact PD.o (e_callD d_law_core hr rfl (da_cons (dv 0) da_nil)))))
  (dss_cons (ds_set (i:=8) sc_law.nd rfl (aW rfl) (e_callD d_count_flowers hr rfl (da_cons (dv 1) (da_cons (dv 6) da_nil))))
  (dss_cons (ds_if (PWD.pt (dw_or (dt_not (dt_tru (e_callD d_law_whole hr rfl (da_cons (dv 8) da_nil)))) (dw_or1 (dt_ne hr (dv 8) (e_len rfl B.len (da_cons (e_comp (N':=["core"]) (oc:=none) (b:=false) [0] [] rfl sc_law.nd (fun _ _ _=>turn_one _ _ _ _ _ _ _ _ _) (.own .nil) (free_of rfl) (di_sq (dv 7)) (cg_name (i:=0)) (fun _ _ _ _ _=>pg_name (i:=0) (nd_ ["core"]) rfl (aW rfl) (.inr rfl)) (fun _ _ _ _ _=>dts_one (by exact(dt_isnt hr (dv 0) e_non))) bo_emit (fun _ _ _ _ _ _=>pb_emit rfl (by exact PD.o (dv 0)))) da_nil)))))) (dss_one (ds_ret e_bl)) dss_nil)
  (dss_one (ds_for ci rfl (di_sq (dv 3)) (dg_name (i:=9) sc_law.nd rfl (aW rfl)) (dss_cons (ds_set (i:=8) sc_law.nd rfl (aW rfl) (e_callD d_count_with_core hr rfl (da_cons (dv 1) (da_cons (dv 6) (da_cons (dv 9) da_nil)))))
  (dss_one (ds_if (PWD.pt (dw_or (dt_not (dt_tru (e_callD d_law_whole hr rfl (da_cons (dv 8) da_nil)))) (dw_or1 (dt_ne hr (dv 8) (e_countLt hr (dv 7) (da_cons (dv 9) da_nil)))))) (dss_one (ds_ret e_bl)) dss_nil)))))))))
  (dss_one (ds_ret e_bl)))))))),?_⟩
 ·rintro ds S Q ⟨ns,rfl,_⟩;rfl
 ·rintro ds S Q ⟨ns,rfl,h63,hS,q⟩;have one:∀ n:Nat,n<=99->n<=sizeLine:=fun n h=>z9999 (by omega)
  refine⟨one _ (by show 2<=99;decide),ns,60,rfl,h63,by decide,by decide,fun r r0 r1=>⟨by show(0:Int) < 8;decide,rfl,?_⟩⟩
  obtain⟨v,hv,v1⟩:∃ v:Nat,atI [D.int 8,.int 14] (if (if false=true then !decide (D.int (r % 8)=D.int 0) else decide (D.int (r % 8)=D.int 0))=true then 1 else 0)=some (.int (v:Nat))/\v<=14:=by
   have gen:∀ b:Bool,∃ v:Nat,atI [D.int 8,.int 14] (if b=true then 1 else 0)=some (.int (v:Nat))/\v<=14:=fun b=>by
    cases b with
    | true=>exact⟨14,rfl,by decide⟩
    | false=>exact⟨8,rfl,by decide⟩
   exact gen _
  refine⟨_,_,rfl,hv,ns,0,v,rfl,h63,by decide,by decide,v1,fun ts hC=>?_⟩
  have l14:ts.length<=14:=by have:=hC.len;omega
  have he:∀ t∈ts,Srt t/\t.length<=6:=fun t ht=>⟨(hC.each t ht).1,by have:=(hC.each t ht).2;omega⟩
  have sT:=hC.srt;refine⟨ns,61,rfl,h63,by decide,by decide,fun r2 r20 r21=>?_⟩
  refine⟨one _ (by show 0<=99;decide),one _ (by show 1<=99;decide),one _ (by show 2<=99;decide),one _ (by show 3<=99;decide),?_⟩
  refine⟨fun Γ' S'=>S'=S/\∃ (cs:List (List Str)) (x4:Option D),Γ'=[some (.lst (ns.map D.int)),some (.tup (ts.map tupS)),some (.int r2),some (.lst (cs.map tupS)),x4,none,none,none,none,none]/\cs.length<=6/\∀ c∈cs,Srt c/\c.length<=6,?_,?_⟩
  ·refine⟨one _ (by show 0<=99;decide),by unfold okE;rw[eR];rfl,_,rfl,ite2 (fun c0=>?_) fun c0=>?_⟩
   ·have ne:ts≠[]:=by
     rintro rfl;simp at c0
    have lp:0 < ts.length:=db.mpr ne;have pick:∀ z:Int,∃ t∈ts,atI (ts.map tupS) (z % ((ts.map tupS).length:Int))=some (tupS t):=fun z=>by
     have z0:=jC z (show((ts.length:Nat):Int)≠0 by omega)
     have z1:=io z (show(0:Int) < ((ts.length:Nat):Int) by omega)
     obtain⟨k,ek⟩:=Int.eq_ofNat_of_zero_le z0;have kl:k < ts.length:=by omega
     refine⟨ts[k],d6 kl,?_⟩;rw[ap,ek];exact atI_nat (by rw[aJ,ag kl];rfl)
    obtain⟨t1,m1,e1⟩:=pick r2;obtain⟨t2,m2,e2⟩:=pick (r2 / 16);have ec:cutD (t1.map D.str) none (some 2)=(t1.take 2).map D.str:=by rw[iZ];exact cut_to' _ 2
    obtain⟨s1,l1⟩:=he t1 m1;refine⟨_,rfl,by rw[ap];omega,_,_,rfl,e1,?_⟩
    refine⟨⟨by decide,by decide⟩,_,rfl,by rw[ap];omega,_,_,rfl,e2,t1,t2,rfl,by omega,2,rfl,?_⟩
    refine⟨one _ (by show 3<=99;decide),_,_,rfl,rfl,one _ (by show 6<=99;decide),rfl,[[],[cb "none"],[cb "aa",cb "bb"],t1,meG t1 t2,t1.take 2],some (tupS t1),?_,by show 6<=6;decide,fun c hc=>?_⟩
    ·rw[ec];rfl
    ·simp only[aB,d5,or_false] at hc;rcases hc with rfl | rfl | rfl | rfl | rfl | rfl
     ·exact⟨.nil,by decide⟩
     ·exact⟨bt _ _,by decide⟩
     ·exact⟨by decide +kernel,by decide⟩
     ·exact⟨s1,l1⟩
     ·exact⟨s1.filter _,Nat.le_trans (dD _ _) l1⟩
     ·exact⟨jW.sublist (c5 _ _) s1,by rw[aS];omega⟩
   ·exact⟨rfl,[[],[cb "none"],[cb "aa",cb "bb"]],none,rfl,by decide,fun c hc=>by
     simp only[aB,d5,or_false] at hc;rcases hc with rfl | rfl | rfl
     ·exact⟨.nil,by decide⟩
     ·exact⟨bt _ _,by decide⟩
     ·exact⟨by decide +kernel,by decide⟩⟩
  ·rintro Γ' S' ⟨rfl,cs,x4,rfl,cl,hc⟩;refine⟨fun Γ' S2=>S2=S'/\∃ mo:Nat,Γ'=[some (.lst (ns.map D.int)),some (.tup (ts.map tupS)),some (.int r2),some (.lst (cs.map tupS)),x4,some (.int (mo:Nat)),none,none,none,none]/\mo<=6,?_,?_⟩
   ·refine⟨one _ (by show 2<=99;decide),_,rfl,_,rfl,ite2 (fun c1=>?_) fun c1=>?_⟩
    ·have gen:∀ b:Bool,∃ v:Nat,atI [D.int 6,.int 4] (if b=true then 1 else 0)=some (.int (v:Nat))/\v<=6:=fun b=>by
      cases b with
      | true=>exact⟨4,rfl,by decide⟩
      | false=>exact⟨6,rfl,by decide⟩
     refine⟨by show(0:Int) < 3;decide,?_⟩
     obtain⟨mo,hmo,m6⟩:=gen _;exact⟨_,_,rfl,hmo,rfl,mo,rfl,m6⟩
    ·exact⟨_,_,rfl,rfl,rfl,6,rfl,Nat.le_refl _⟩
   rintro Γ' S2 ⟨rfl,mo,rfl,mo6⟩;refine⟨⟨by decide,by decide,by omega,by omega⟩,for_ind (fun i Γ S3=>S3=S2/\∃ y6 y7 y8 y9:Option D,Γ=[some (.lst (ns.map D.int)),some (.tup (ts.map tupS)),some (.int r2),some (.lst (cs.map tupS)),x4,some (.int (mo:Nat)),y6,y7,y8,y9]) ⟨rfl,none,none,none,none,rfl⟩ ?_ ?_⟩
   ·rintro i x Γ S3 N hx ⟨rfl,y6,y7,y8,y9,rfl⟩ hN;obtain⟨hi,rfl⟩:=rngD_get _ _ i x hx;have em:(2:Int) + (i:Nat)=((2 + i:Nat):Int):=by omega
    rw[em];have m2:2<=2 + i:=by omega
    have m6:2 + i<=6:=by omega
    generalize 2 + i=m at m2 m6;refine⟨trivial,?_⟩;have ck:∀ s∈ch ts m,2<=s.length/\s.length<=99/\(∀ o∈s,o.length<=99)/\laG s=coG s:=fun s h=>by
     obtain⟨h1,h2⟩:=ch_mem h;refine⟨by omega,by omega,fun o ho=>by have:=(he o (h2.subset ho)).2;omega,la_co (lt:=fun a b=>HT.ltS a b=true) (fun a=>by rw[HT.ltS_ir];simp) (fun a b h=>by rw[HT.ltS_as h];simp) (by omega) (h2.nodup sT.nodup) fun o ho=>(he o (h2.subset ho)).1⟩
    have cl2:=Nat.le_trans (ch_len ts m) (Nat.le_trans (Nat.pow_le_pow_right (n:=2) (by decide) l14) (show 2 ^ 14<=16384 by decide))
    have sz:(ch ts m).length<=sizeLine:=by rw[bF];omega
    refine⟨ts,m,rfl,by omega,m6,_,rfl,loop_map (enc:=fun s:List (List Str)=>D.tup (s.map tupS)) (f:=fun s=>opD (laG s)) (fun s hs Q q=>⟨s,rfl,(ck s hs).1,(ck s hs).2.1,(ck s hs).2.2.1,q⟩) (by show 0 + (ch ts m).length<=_;omega) ?_⟩
    rw[bS];refine⟨ts,m,rfl,l14,sT,he,m2,(flO ts m).length,rfl,?_⟩;refine⟨_,rfl,loop_filt (enc:=fun s=>opD (laG s)) (p:=fun s=>(laG s).isSome) (f:=fun s=>opD (laG s)) (fun s hs Q q=>?_) (fun s hs _ Q q=>q) (by show 0 + (ch ts m).length<=_;omega) ?_⟩
    ·generalize laG s=o at q ⊢;cases o with
     | none=>exact⟨_,rfl,q⟩
     | some c=>exact⟨_,rfl,q⟩
    have lf:((ch ts m).filter fun s=>(laG s).isSome)=flO ts m:=fb fun s hs=>by rw[(ck s hs).2.2.2]
    refine⟨_,rfl,rfl,_,rfl,ite2 (fun c2=>?_) fun c2=>?_⟩
    ·have e2:D.int ((flO ts m).length:Nat)=D.int (([]++List.map (fun s=>opD (laG s)) (List.filter (fun s=>(laG s).isSome) (ch ts m))).length:Nat):=by rw[bS,ap,lf]
     exact absurd (decide_eq_true e2) (by simpa using c2)
    refine⟨_,rfl,for_ind (fun j Γ S4=>S4=S3/\∃ y8 y9:Option D,Γ=[some (.lst (ns.map D.int)),some (.tup (ts.map tupS)),some (.int r2),some (.lst (cs.map tupS)),x4,some (.int (mo:Nat)),some (.int (m:Nat)),some (.lst ((ch ts m).map fun s=>opD (laG s))),y8,y9]) ⟨rfl,_,_,rfl⟩ ?_ ?_⟩
    ·rintro j y Γ S4 N2 hy ⟨rfl,y8,y9,rfl⟩ hN2;rw[aJ,bz] at hy;obtain⟨c,hcj,rfl⟩:=hy;obtain⟨sc,c6⟩:=hc c (ak hcj);refine⟨trivial,ts,m,c,rfl,l14,sT,he,sc,by omega,m2,cwc ts m c,rfl,?_⟩
     refine⟨⟨_,rfl⟩,_,_,rfl,rfl,?_,rfl,_,rfl,ite2 (fun c3=>?_) fun c3=>hN2 _ _ ⟨rfl,_,_,rfl⟩⟩
     ·rw[g9,a7];intro s hs;show okE 8 (opD (laG s)) (tupS c)=true;cases laG s with
      | none=>rfl
      | some a=>exact setE.ok 8 a c (by decide)
     ·have e3:((ch ts m).map fun s=>opD (laG s)).countP (fun x=>decide (x=tupS c))=cwc ts m c:=by
       rw[List.countP_map,List.countP_eq_length_filter];unfold cwc
       congr 1
       refine fb fun s hs=>?_;show decide (opD (laG s)=tupS c)=_;rw[(ck s hs).2.2.2];refine decide_eq_decide.mpr ?_;cases coG s with
       | none=>exact⟨fun h=>(nomatch h),fun h=>(nomatch h)⟩
       | some a=>exact⟨fun h=>congrArg some (setE.inj h),fun h=>by cases h;rfl⟩
      exact absurd (decide_eq_true (congrArg (fun n:Nat=>D.int (n:Nat)) e3.symm)) (by simpa using c3)
    ·rintro Γ S4 ⟨rfl,y8,y9,rfl⟩;exact⟨trivial,hN _ _ ⟨rfl,_,_,_,_,rfl⟩⟩
   ·rintro Γ S3 ⟨rfl,y6,y7,y8,y9,rfl⟩;exact⟨trivial,rt_same (q _)⟩
end
end Toy
set_option maxHeartbeats 4000000
namespace Toy
open PySem L2
theorem fin {l:jB} {w:aI} {K:ar} {h:be} {mg:Str->Option ae} {fa f3:Addr} (X:K.In h) (G:h.Ns a8 mg) (hfa:mg "law" = some (.ref fa)) (B:Bs mg)
  (T1:Tx K mg "has_all" s_has_all) (T2:Tx K mg "meets" s_meets) (T3:Tx K mg "meet_of" s_meet_of) (T4:Tx K mg "without_names" s_without_names) (T5:Tx K mg "choices_of" s_choices_of) (T6:Tx K mg "link_of" s_link_of) (T7:Tx K mg "count_flowers" s_count_flowers) (T8:Tx K mg "count_with_core" s_count_with_core) (T9:Tx K mg "count_apart" s_count_apart) (T10:Tx K mg "cores_of_two" s_cores_of_two) (T11:Tx K mg "_law_number" s_law_number) (T12:Tx K mg "_law_names" s_law_names) (T13:Tx K mg "_law_sets" s_law_sets) (T14:Tx K mg "_law_meet" s_law_meet) (T15:Tx K mg "_law_core" s_law_core) (T16:Tx K mg "_law_choices" s_law_choices) (T17:Tx K mg "_law_whole" s_law_whole)
  {od3 an3:Option Addr} {sl3:Array (Option ae)} {oc3 kV3 dc3 pm3 cd3 ct3:ae}
  (a3:bN K a8 "law" = some (some (.ref f3))) (l3:K.lookup f3=some ⟨oc3,od3,.func (eF "law" "law" (defArgs s_law) (defBody s_law) (defScope s_law) .none kV3 dc3 pm3 an3 cd3 ct3),sl3⟩) (c3:gc K cd3 "law" = true) (k3:fk K (.ref f3)=true) :
  ∃ fd:dq,(∀ (s:ai) (v:ae),BindsTo s fd ⟨[v],[]⟩ [("script",v)])/\∀ base:be,K.In base->base.Ns a8 mg->FnOk l.prog w K mg base CX0 50 fa fd ["script"] (spU K (spLawD 63)):=by
 have e:=hfa.symm.trans (PySem.W.mg_of X G a3);cases e;refine⟨eF "law" "law" (defArgs s_law) (defBody s_law) (defScope s_law) .none kV3 dc3 pm3 an3 cd3 ct3,fun s v=>.of_eq rfl,fun base XB GB=>?_⟩;have F3:=fun_mk (st:=s_law) l3 c3 k3;have d_law_number:=ok_law_number (P:=l.prog) (w:=w) (base:=base) T11 B;have d_law_names:=ok_law_names (P:=l.prog) (w:=w) (base:=base) T12 B (d_law_number.mono (by decide))
 have d_law_sets:=ok_law_sets (P:=l.prog) (w:=w) (base:=base) T13 B (d_law_number.mono (by decide)) (d_law_names.mono (by decide))
 have d_law_meet:=ok_law_meet (P:=l.prog) (w:=w) (base:=base) T14 B;have d_law_core:=ok_law_core (P:=l.prog) (w:=w) (base:=base) T15 B (d_law_meet.mono (by decide))
 have d_law_choices:=ok_law_choices (P:=l.prog) (w:=w) (base:=base) T16 B;have d_law_whole:=ok_law_whole (P:=l.prog) (w:=w) (base:=base) T17 B;have d_choices_of:=ok_choices_of (P:=l.prog) (w:=w) (base:=base) T5 B;have d_meet_of:=ok_meet_of (P:=l.prog) (w:=w) (base:=base) T3 B;have d_cores_of_two:=ok_cores_of_two (P:=l.prog) (w:=w) (base:=base) T10 B (d_choices_of.mono (by decide)) (d_meet_of.mono (by decide))
 have d_has_all:=ok_has_all (P:=l.prog) (w:=w) (base:=base) T1 B;have d_without_names:=ok_without_names (P:=l.prog) (w:=w) (base:=base) T4 B;have d_link_of:=ok_link_of (P:=l.prog) (w:=w) (base:=base) T6 B (d_has_all.mono (by decide)) (d_without_names.mono (by decide))
 have d_meets:=ok_meets (P:=l.prog) (w:=w) (base:=base) T2 B;have d_count_apart:=ok_count_apart (P:=l.prog) (w:=w) (base:=base) T9 B (d_meets.mono (by decide))
 have d_count_with_core:=ok_count_with_core (P:=l.prog) (w:=w) (base:=base) T8 B (d_link_of.mono (by decide)) (d_count_apart.mono (by decide))
 have d_count_flowers:=ok_count_flowers (P:=l.prog) (w:=w) (base:=base) T7 B (d_cores_of_two.mono (by decide)) (d_count_with_core.mono (by decide))
 exact ok_law F3 B (d_law_sets.mono (by decide)) (d_law_number.mono (by decide)) (d_law_meet.mono (by decide)) (d_law_core.mono (by decide)) (d_law_choices.mono (by decide)) (d_law_whole.mono (by decide)) (d_count_flowers.mono (by decide)) (d_count_with_core.mono (by decide))
end Toy
namespace PySem.W.Fast
theorem tw16593188058253430946:True:=⟨⟩
theorem tw6352844649765683128:True:=⟨⟩
theorem tw4743733663082210153:True:=⟨⟩
theorem tw11862641510325731541:True:=⟨⟩
theorem tw17402658973632394668:True:=⟨⟩
theorem tw9956422343733423090:True:=⟨⟩
theorem tw7639375751214405057:True:=⟨⟩
theorem tw8371462550927290908:True:=⟨⟩
theorem tw15670519282936172601:True:=⟨⟩
theorem tw7498053625187615592:True:=⟨⟩
theorem tw13217655470566409770:True:=⟨⟩
theorem tw4787811740464742861:True:=⟨⟩
theorem tw18021268274442677003:True:=⟨⟩
theorem tw14100646038830541136:True:=⟨⟩
theorem tw17719494710626903489:True:=⟨⟩
theorem tw5176430066458972520:True:=⟨⟩
theorem tw7110202827850407972:True:=⟨⟩
theorem tw10344612118658039220:True:=⟨⟩
theorem tw7714810405313822069:True:=⟨⟩
theorem tw1121326861271393429:True:=⟨⟩
theorem tw2964089475025035828:True:=⟨⟩
theorem tw1034637938974538588:True:=⟨⟩
theorem tw6466882255835918847:True:=⟨⟩
theorem tw5228450609268656765:True:=⟨⟩
theorem tw2298537646056401901:True:=⟨⟩
theorem tw648077855406986146:True:=⟨⟩
theorem tw8646191760601004927:True:=⟨⟩
theorem tw18209976730199653683:True:=⟨⟩
theorem tw13611559496619792195:True:=⟨⟩
theorem tw11412081523647600961:True:=⟨⟩
theorem tw1932565199281729192:True:=⟨⟩
theorem tw16541493603386619106:True:=⟨⟩
theorem tw435188394372630609:True:=⟨⟩
theorem tw12023438945296807496:True:=⟨⟩
theorem tw9874975433102893143:True:=⟨⟩
theorem tw2211380389594616005:True:=⟨⟩
theorem tw16269503849566852852:True:=⟨⟩
theorem tw3467488258313213118:True:=⟨⟩
theorem tw18177285140930189605:True:=⟨⟩
theorem tw13413905108565735377:True:=⟨⟩
theorem tw6590778221083039513:True:=⟨⟩
theorem tw5481952996696258195:True:=⟨⟩
theorem tw4708018496139678034:True:=⟨⟩
theorem tw420157983164860814:True:=⟨⟩
theorem tw17472482349204428551:True:=⟨⟩
theorem tw16552789143000264401:True:=⟨⟩
theorem tw1437305904436205896:True:=⟨⟩
end PySem.W.Fast
open PySem PySem.W PyProof.Rows
set_option maxRecDepth 100000 in
set_option maxHeartbeats 0 in
theorem PySem.Challenge.cw_corepetals_k16_flowers_counted_holds : PySem.Challenge.rw_corepetals_k16_flowers_counted.Holds := by
 w_on;o_law;k_head;(case hw=>w_witness2)
 k_fill
 refine L2.walkD (l:=PySem.Challenge.rw_corepetals_k16_flowers_counted) rfl rfl (fun w h Y=>PySem.W.kIn_of Y) ?F
 case F =>
  intro w mg fa h KX G hmg;have B:L2.Bs mg:=by
   refine' L2.bs_mk KX G (L2.bs_all ?z1 ?z2 ?z3 ?z4 ?z5 ?z6 ?z7 ?z8 ?z9 ?z10 ?z11 ?z12 ?z13 ?z14 ?z15 ?z16 ?z17) <;> k_is
  have T1:L2.Tx (L2.KOf KX) mg "has_all" Toy.s_has_all:=by
   dsimp only[L2.KOf];exact L2.tx_mk KX G (by k_is) (by k_is) (by k_is) (by k_is)
  have T2:L2.Tx (L2.KOf KX) mg "meets" Toy.s_meets:=by
   dsimp only[L2.KOf];exact L2.tx_mk KX G (by k_is) (by k_is) (by k_is) (by k_is)
  have T3:L2.Tx (L2.KOf KX) mg "meet_of" Toy.s_meet_of:=by
   dsimp only[L2.KOf];exact L2.tx_mk KX G (by k_is) (by k_is) (by k_is) (by k_is)
  have T4:L2.Tx (L2.KOf KX) mg "without_names" Toy.s_without_names:=by
   dsimp only[L2.KOf];exact L2.tx_mk KX G (by k_is) (by k_is) (by k_is) (by k_is)
  have T5:L2.Tx (L2.KOf KX) mg "choices_of" Toy.s_choices_of:=by
   dsimp only[L2.KOf];exact L2.tx_mk KX G (by k_is) (by k_is) (by k_is) (by k_is)
  have T6:L2.Tx (L2.KOf KX) mg "link_of" Toy.s_link_of:=by
   dsimp only[L2.KOf];exact L2.tx_mk KX G (by k_is) (by k_is) (by k_is) (by k_is)
  have T7:L2.Tx (L2.KOf KX) mg "count_flowers" Toy.s_count_flowers:=by
   dsimp only[L2.KOf];exact L2.tx_mk KX G (by k_is) (by k_is) (by k_is) (by k_is)
  have T8:L2.Tx (L2.KOf KX) mg "count_with_core" Toy.s_count_with_core:=by
   dsimp only[L2.KOf];exact L2.tx_mk KX G (by k_is) (by k_is) (by k_is) (by k_is)
  have T9:L2.Tx (L2.KOf KX) mg "count_apart" Toy.s_count_apart:=by
   dsimp only[L2.KOf];exact L2.tx_mk KX G (by k_is) (by k_is) (by k_is) (by k_is)
  have T10:L2.Tx (L2.KOf KX) mg "cores_of_two" Toy.s_cores_of_two:=by
   dsimp only[L2.KOf];exact L2.tx_mk KX G (by k_is) (by k_is) (by k_is) (by k_is)
  have T11:L2.Tx (L2.KOf KX) mg "_law_number" Toy.s_law_number:=by
   dsimp only[L2.KOf];exact L2.tx_mk KX G (by k_is) (by k_is) (by k_is) (by k_is)
  have T12:L2.Tx (L2.KOf KX) mg "_law_names" Toy.s_law_names:=by
   dsimp only[L2.KOf];exact L2.tx_mk KX G (by k_is) (by k_is) (by k_is) (by k_is)
  have T13:L2.Tx (L2.KOf KX) mg "_law_sets" Toy.s_law_sets:=by
   dsimp only[L2.KOf];exact L2.tx_mk KX G (by k_is) (by k_is) (by k_is) (by k_is)
  have T14:L2.Tx (L2.KOf KX) mg "_law_meet" Toy.s_law_meet:=by
   dsimp only[L2.KOf];exact L2.tx_mk KX G (by k_is) (by k_is) (by k_is) (by k_is)
  have T15:L2.Tx (L2.KOf KX) mg "_law_core" Toy.s_law_core:=by
   dsimp only[L2.KOf];exact L2.tx_mk KX G (by k_is) (by k_is) (by k_is) (by k_is)
  have T16:L2.Tx (L2.KOf KX) mg "_law_choices" Toy.s_law_choices:=by
   dsimp only[L2.KOf];exact L2.tx_mk KX G (by k_is) (by k_is) (by k_is) (by k_is)
  have T17:L2.Tx (L2.KOf KX) mg "_law_whole" Toy.s_law_whole:=by
   dsimp only[L2.KOf];exact L2.tx_mk KX G (by k_is) (by k_is) (by k_is) (by k_is)
  refine' Toy.fin KX G hmg B T1 T2 T3 T4 T5 T6 T7 T8 T9 T10 T11 T12 T13 T14 T15 T16 T17 ?a ?l ?c ?k
  (case a=>k_is);(case l=>k_is);(case c=>k_is);(case k=>k_is)
