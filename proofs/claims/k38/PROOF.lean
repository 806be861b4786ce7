import PyProof.Rows.All
import Wide.All
import OpenK.AllK
import Wide.FinOn
import Lean
import PyProof.EqAt
import PyProof.EqKinds
import PyProof.TupleCall
import PySem.SetOps
import KE.KSortTup
import KE.KDictSum
import PyProof.Rows.StrJoin2
import PyProof.Rows.SumAny
import KE.KxText
import PyProof.ZipIter
import PyProof.Rows.FactsT2
import PyProof.Rows.ZipGen
import PyProof.StrOps2
import PyProof.ListRange
import PyProof.ListStr
import PyProof.FString5
import PyProof.AutoSeq1
import PyProof.MinMaxWalk
import PyProof.WalksMore
import PyProof.Rows.CallKwBuiltin
import KE.KMinKey
import PyProof.Rows.BitMore
import KE.KLam
import PyProof.TupleKey
import PyProof.TupleOfStr
import KE.RegKTryMore
import PyProof.ExcArgsOwn
import KE.RegKIsAll
import PyProof.Rows.SortShellK
import PyProof.ReprRoads
import PyProof.CallFns
import PyProof.StrLawsRepr
import PySem.Challenge.RW_corepetals_k38_kept_sets_held
open Array renaming filterMap -> j2, getD -> cB, getD_eq_getD_getElem? -> bN, getElem?_eq_getElem -> d9, getElem?_eq_some_iff -> cG, getElem?_replicate -> jh, getElem?_setIfInBounds_ne -> gE, getElem?_setIfInBounds_self_of_lt -> fB, getElem?_toList -> bS, length_toList -> b9, mem_of_getElem? -> fu, mem_toList_iff -> cX, replicate -> f6, toList_push -> ja
open Bool renaming and_eq_true -> aG, eq_false_iff -> eD, eq_iff_iff -> fj, false_eq_true -> aF, false_ne_true -> aS, noConfusion -> jx, not_eq_true' -> dM, not_false -> kf, not_true -> fT, true_and -> gW
open Classical renaming byContradiction -> aX
open False renaming elim -> cN
open ForInStep renaming done -> gw, yield -> cg
open Int renaming ediv_one -> jN, toNat_natCast -> bF
open LawfulBEq renaming eq_of_beq -> fJ
open LawfulMonad renaming pure_bind -> jt
open List renaming all_cons -> jn, all_eq_true -> bn, all_map -> eZ, append_assoc -> bG, append_nil -> bI, dropLast_concat_getLast -> hZ, drop_eq_getElem_cons -> d8, drop_eq_nil_of_le -> dW, drop_length -> gP, drop_zero -> d6, eq_nil_of_length_eq_zero -> bC, eraseIdxIfInBounds_toArray -> gD, ext_getElem -> eS, filterMap_append -> gF, filterMap_cons -> bU, filterMap_map -> iI, filter_append -> iS, filter_cons -> cz, filter_eq_nil_iff -> dg, filter_eq_self -> ie, filter_sublist -> ig, flatMap_append -> ic, flatMap_cons -> cq, flatten_cons -> gB, forIn_cons -> fZ, getD_eq_getElem?_getD -> aB, getElem?_append_left -> d7, getElem?_append_right -> d4, getElem?_cons_succ -> gc, getElem?_eq_getElem -> ag, getElem?_eq_none -> br, getElem?_eq_some_iff -> bi, getElem?_map -> bv, getElem?_set_ne -> fC, getElem?_take_of_lt -> jf, getElem_append_left -> jp, getElem_append_right -> i4, getElem_inj -> gH, getElem_map -> gN, getElem_mem -> d0, getElem_of_mem -> bV, getElem_toArray -> eG, getLastD_cons -> iR, getLast_eq_getElem -> jB, length -> f9, length_append -> av, length_cons -> aE, length_drop -> dw, length_eq_zero_iff -> jC, length_eraseIdx_of_lt -> iQ, length_filter_le -> dq, length_map -> aj, length_nil -> dj, length_pos_iff -> eQ, length_range -> eE, length_reverse -> dQ, length_set -> fY, length_singleton -> ft, length_take -> bw, lookup -> eA, lookup_cons -> cL, mapM_toArray -> jb, map_append -> aN, map_congr_left -> dh, map_cons -> aY, map_eq_nil_iff -> ij, map_id -> kh, map_map -> cf, map_nil -> da, map_reverse -> gR, map_take -> kz, mem_append -> aU, mem_append_left -> bd, mem_append_right -> aL, mem_cons -> aA, mem_cons_of_mem -> aq, mem_cons_self -> am, mem_filter -> bP, mem_filterMap -> cW, mem_map -> b4, mem_of_getElem? -> bz, mem_of_mem_drop -> gY, mem_of_mem_take -> dF, mem_range -> bj, mem_singleton -> az, mergeSort_perm -> ib, nil_append -> bQ, nodup_append -> b0, nodup_cons -> bX, nodup_nil -> fF, nodup_range -> jw, not_mem_nil -> ju, of_mem_zip -> jZ, pairwise_append -> eF, pairwise_cons -> a9, pairwise_iff_getElem -> cM, pairwise_lt_range -> gv, pairwise_map -> gu, pairwise_mergeSort -> gg, pairwise_singleton -> cj, perm_append_left_iff -> iZ, perm_append_singleton -> iM, range -> aP, replicate -> iG, reverse_append -> fP, reverse_cons -> gk, reverse_singleton -> gC, singleton_append -> fv, size_toArray -> ak, sublist_append_left -> fV, sublist_append_right -> dl, take_add_one -> dJ, take_append_drop -> fw, take_length -> d3, take_of_length_le -> bZ, take_sublist -> dH, toArray -> fN, zip_cons_cons -> cu, zip_nil_left -> fA, zip_nil_right -> cH
open List.Pairwise renaming filter -> fH, imp_of_mem -> fW, nil -> kE
open List.Perm renaming append_left -> j9, refl -> gq, trans -> j4
open List.Sublist renaming append -> ko, refl -> eJ
open Nat renaming add_right_comm -> iL, le_of_lt -> io, le_of_lt_succ -> db, le_refl -> ar, le_succ -> dE, le_trans -> aV, lt_irrefl -> cy, lt_of_le_of_lt -> eV, lt_of_lt_of_le -> a8, lt_or_eq_of_le -> d5, lt_or_ge -> bH, lt_succ_of_le -> dI, lt_succ_of_lt -> cS, lt_succ_self -> du, lt_trans -> eW, lt_trichotomy -> gp, min_eq_left -> hX, mod_lt -> kC, ne_of_gt -> ip, ne_of_lt -> aH, not_lt -> gL, not_lt_zero -> cV, pow_le_pow_right -> g7, sub_self -> iu, sub_zero -> fL, succ_le_succ -> gK, succ_ne_zero -> gQ, succ_pos -> iq, zero_add -> jR, zero_le -> bA
open Nat.succ renaming inj -> dX
open Ne renaming symm -> aZ
open Option renaming getD_none -> js, isSome_iff_exists -> b5, map_eq_some_iff -> fb
open Option.some renaming inj -> aJ
open Or renaming inl -> aR, inr -> gO
open PyProof.Rows renaming AllBare -> ik, IntsAre -> jP, IsTup -> gX, callWith_type1 -> dR, get?_update_seq -> fm, lt_int -> km, lt_str -> kj, seqObj -> cD, slicePart_none -> iH, slot_tuple_getitem -> bM
open PyProof.Rows.F renaming entry_set_update_loop -> cO, plain_set_update_loop -> bL
open PySem renaming Around -> aQ, Builtin -> cP, Comprehension -> jg, FuncData -> cC, Heap -> aW, IsPart -> jO, KeyKind -> kr, Keyword -> fK, NameKind -> fh, Paired -> a7, Program -> aD, PyData -> jW, SetTable -> aI, Shared -> ai, Value -> ae, Within -> jH, World -> aK, argBest -> eI, assign -> jI, assignEach -> eK, attributeBase -> cJ, backTo -> bD, backToKw -> fg, behindInMarks -> dA, binaryOp -> eR, bootBuiltins -> bY, cLine -> bK, call_meets -> iK, cellsFrom -> f8, codeAny -> eT, codeAny_builtin -> bJ, codeAny_mono -> eB, codeAny_of_tree -> g9, compEnvC -> kd, compTurn -> fS, compareOp -> bE, concat_meets -> jM, firstArgMember -> iO, foldedSetIterable -> cQ, getItem -> i7, getMethod -> jq, holding -> eO, keywordEach -> di, letOwnedTupleGo -> ff, mainGlobals -> aO, mem_of_lookup -> eP, model -> aC, noFill_tuple_add -> jr, ofAClassStatement -> fy, pickOrder -> iC, plainId_quiet -> cU, plainKind -> iB, pushCells -> jv, putSet_of -> gM, pyIter -> je, pyNext -> fq, rawInt -> fD, relayAll -> gZ, richCompare_meets_room -> eY, seqItems? -> jz, setAddHashed -> jS, setField -> kg, sizeLine_eq -> bu, sliceBounds -> eC, sliceRange -> jV, slot_list_getitem -> i8, standAt -> fI, starEach -> au, strKind -> fo, swapsWith -> gI, unsupported -> g6, wpAny -> ax, wpAny_Call_Name_kw -> eU, wpAny_askSetting -> dZ, wpAny_bind -> ad, wpAny_callSpecial?_slot -> cY, wpAny_call_entry -> cZ, wpAny_execs_nil -> g8, wpAny_field -> dY, wpAny_forIn_list -> fM, wpAny_holding -> bB, wpAny_isInstance -> jA, wpAny_ite_split -> hW, wpAny_loadPart' -> bc, wpAny_mono -> dP, wpAny_newObj_type -> bh, wpAny_of_eq -> i9, wpAny_passesOwn -> er, wpAny_pure -> af, wpAny_pyIter_list -> gy, wpAny_pyIter_tuple -> eX, wpAny_rule -> f7, wpAny_seqItems -> dG, wpAny_setField_rec -> cI, wpAny_setState_of -> de, wpAny_standAt -> gS, wpAny_storeSet_of -> gx, wpAny_truthy_bool -> c6, wpAny_tryCatch -> gA, wpAny_typeOf -> gi, wpAny_updateSeq -> fk
open PySem.Around renaming under -> jK, under_plainId -> bo
open PySem.AutoSeq1 renaming sub_tuple_tuple -> fU
open PySem.Builtin.Builtins renaming bindParams -> iz
open PySem.Builtin.Frozenset renaming updateFrom -> hU
open PySem.Builtin.List renaming listExtendWith -> iy, listLengthHint -> iw, listSameRef -> ji, listTooLong -> fR
open PySem.Builtin.Slice renaming sliceAdjust -> fO, sliceApplied -> c8, sliceFields -> iV, slicePlaces -> cr
open PySem.Builtin.SmallTypes renaming nextOf -> iW
open PySem.Builtin.Str renaming strSliceIndices -> bO
open PySem.Builtin.Tuple renaming tupleCompareSizes -> eL, tupleExact -> b7, tupleItemsOf -> iJ
open PySem.Calls renaming Name_function_global -> iD, callWith_builtin -> jQ, call_function_entry -> iY
open PySem.Code renaming compLoop -> gV, compStart -> gn
open PySem.Expr renaming Call -> jE
open PySem.F renaming args_tuple_add_2 -> fQ, args_tuple_lt_2 -> gf, called_set -> bf, entry_extend_loop -> iX, entry_set_init -> jU, entry_tuple_add -> ga, entry_tuple_lt -> gz, entry_type_call -> jy, excBase_ValueError -> iT, plainAttrs_list -> dN, plain_extend_loop -> ef, plain_list_iadd -> jD, plain_set_new -> j8, slot_list_pop -> kb, slot_set_iter -> ka, slot_tuple_add -> gh, slot_tuple_lt -> fx, typeCall_set_1 -> jT, type_list_pop -> kc
open PySem.Heap renaming SameBut -> dz, get?_push_of_some -> ah, get?_push_size -> aw, get?_update_other -> be, get?_update_self -> b8, lt_size -> ay, size_push -> bR
open PySem.Heap.IsSliceOf renaming new -> kB
open PySem.Heap.SameBut renaming refl -> kF, update -> ce
open PySem.NameKind renaming cell -> gT, free -> aT
open PySem.Obj renaming mapSeq -> bW, putSet -> dy
open PySem.Paired renaming length -> bT
open PySem.PassesOwn renaming never -> cK
open PySem.PyData renaming depthAll -> j5, hasDictAll -> jc, showableAll -> iU, shown -> dD, shownAll -> j6, tuple -> jX
open PySem.SeqAt renaming EqAt -> cA, RcNeAt -> cw
open PySem.SeqAt.EqAt renaming of_refs -> kD, same -> j3, str_str -> iP
open PySem.SetTable renaming fill -> ky, fits -> kx, fresh -> ke, grown -> cT, slot -> kv
open PySem.Str renaming ofString -> aM
open PySem.Value renaming bool -> gG, int -> ki, isStrOf -> jd, isStrOf_shape -> eM, none -> ci, notImplemented -> fG, ref -> dr, str -> iA, type -> cE
open PySem.W renaming Frag -> ao, OpenLaw -> j0, callWith_K -> iF, cellsFrom_some -> jL, codeIn -> fE, emptyDict -> cR, excIn -> kA, findIn -> c7, fnOf -> dU, hasDictIn -> i6, instObj -> dO, isFn -> jJ, keepIn -> cF, lookIn -> iE, makesIn -> fX, methodCall_KW -> j7, methodObj -> i5, mg_of -> gU, nsIn -> bq, plainGet -> gJ, plainGet_of -> ia, takerIn -> jY
open PySem.pickOrder renaming go -> kG
open Sum renaming inl -> jF, inr -> jG
set_option Elab.async false
set_option linter.all false
set_option maxRecDepth 100000
namespace L2
open PySem PySem.Spec PyProof.Rows
abbrev Key:=Sum Int Str
def keyIs:Key->ae->Bool
 | .inl k,v=>ae.isInt k v
 | .inr x,v=>jd x v
def keyH (w:aK):Key->Int
 | .inl k=>hashInt k
 | .inr x=>hashStr w x
theorem keyIs_shape:∀ {k:Key} {v:ae},keyIs k v=true->(∃ i t,k=jF i/\v=ki i t)\/(∃ x t,k=jG x/\v=iA x t)
 | .inl i,v,h=>by
  obtain⟨t,e⟩:=ae.isInt_shape (k:=i) (v:=v) h;exact .inl ⟨i,t,rfl,e⟩
 | .inr x,v,h=>by
  obtain⟨t,e⟩:=eM (x:=x) (v:=v) h;exact .inr ⟨x,t,rfl,e⟩
theorem key_ll (a b:Int):decide ((jF a:Key)=jF b)=(a == b):=by
 by_cases e:a=b
 ·subst e;simp
 ·have h:¬ (jF a:Key)=jF b:=fun q=>e (jF.inj q);rw[decide_eq_false h];exact(beq_eq_false_iff_ne.mpr e).symm
theorem key_rr (a b:Str):decide ((jG a:Key)=jG b)=decide (a=b):=by
 by_cases e:a=b
 ·subst e;simp
 ·have h:¬ (jG a:Key)=jG b:=fun q=>e (jG.inj q);rw[decide_eq_false h,decide_eq_false e]
theorem key_lr (a:Int) (b:Str):decide ((jF a:Key)=jG b)=false:=decide_eq_false (fun q=>nomatch q)
theorem key_rl (a:Str) (b:Int):decide ((jG a:Key)=jF b)=false:=decide_eq_false (fun q=>nomatch q)
def mixKind (prog:aD) (w:aK):kr prog w Key where
 is:=keyIs
 hash:=keyH w
 inj:=fun v a b ha hb=>by
  rcases keyIs_shape ha with⟨i,t,rfl,rfl⟩ | ⟨x,t,rfl,rfl⟩
  ·rcases keyIs_shape hb with⟨j,u,rfl,e⟩ | ⟨y,u,rfl,e⟩
   ·injection e with e1 _;rw[e1]
   ·exact nomatch e
  ·rcases keyIs_shape hb with⟨j,u,rfl,e⟩ | ⟨y,u,rfl,e⟩
   ·exact nomatch e
   ·injection e with e1 _;rw[e1]
 byValue:=fun k v h=>by
  rcases keyIs_shape h with⟨i,t,rfl,rfl⟩ | ⟨x,t,rfl,rfl⟩ <;> rfl
 pyHash:=fun hv h=>by
  rcases keyIs_shape hv with⟨i,t,rfl,rfl⟩ | ⟨x,t,rfl,rfl⟩
  ·exact wpAny_pyHash_int h
  ·exact wpAny_pyHash_str h
 eqBool:=fun hu hv h=>by
  rcases keyIs_shape hu with⟨i,t,rfl,rfl⟩ | ⟨x,t,rfl,rfl⟩
  ·rcases keyIs_shape hv with⟨j,u,rfl,rfl⟩ | ⟨y,u,rfl,rfl⟩
   ·rw[key_ll] at h;exact wpAny_eqBool_int h
   ·rw[key_lr] at h;exact cA.int_str i t y u _ _ _ _ h
  ·rcases keyIs_shape hv with⟨j,u,rfl,rfl⟩ | ⟨y,u,rfl,rfl⟩
   ·rw[key_rl] at h;exact cA.str_int x t j u _ _ _ _ h
   ·rw[key_rr] at h;exact wpAny_eqBool_str h
 «strs»:=fun k x t v h=>by
  rcases keyIs_shape h with⟨i,u,rfl,e⟩ | ⟨y,u,rfl,e⟩
  ·exact nomatch e
  ·injection e with e1 _
   subst e1;cases v <;> rfl
inductive V where
 | non | bl (b:Bool) | int (i:Int) | str (x:Str) | byt (b:Array UInt8) | flt (b:UInt64) | ref (a:Addr) | ty (n:String)
 deriving DecidableEq
def RelV:V->ae->Prop
 | .non,u=>u=ci
 | .bl b,u=>u=gG b
 | .int i,u=>∃ t,u=ki i t
 | .str x,u=>∃ t,u=iA x t
 | .byt b,u=>∃ t,u=ae.bytes b t
 | .flt b,u=>∃ t,u=ae.float b t
 | .ref a,u=>u=dr a
 | .ty n,u=>u=cE n
abbrev Vals:List V->List ae->Prop:=a7 RelV
theorem Vals.length {xs:List V} {us:List ae} (r:Vals xs us):xs.length=us.length:=bT r
theorem Vals.get:∀ {xs:List V} {us:List ae} {i:Nat} {x:V},Vals xs us->xs[i]?=some x->∃ u,us[i]?=some u/\RelV x u
 | _,_,_,_,.nil,e=>by simp at e
 | _,_,0,_,.cons r _,e=>by simp at e;subst e;exact⟨_,rfl,r⟩
 | _,_,i + 1,x,.cons _ t,e=>by
  obtain⟨u,h1,h2⟩:=Vals.get (i:=i) (x:=x) t (by simpa using e)
  exact⟨u,by simpa using h1,h2⟩
theorem Vals.set {x:V} {u:ae} (r:RelV x u):∀ {xs:List V} {us:List ae} (i:Nat),Vals xs us->Vals (xs.set i x) (us.set i u)
 | _,_,_,.nil=>.nil
 | _,_,0,.cons _ t=>.cons r t
 | _,_,i + 1,.cons q t=>.cons q (Vals.set r i t)
theorem Vals.append:∀ {xs ys:List V} {us ws:List ae},Vals xs us->Vals ys ws->Vals (xs++ys) (us++ws)
 | _,_,_,_,.nil,s=>s
 | _,_,_,_,.cons r t,s=>.cons r (Vals.append t s)
theorem Vals.take:∀ {xs:List V} {us:List ae} (n:Nat),Vals xs us->Vals (xs.take n) (us.take n)
 | _,_,0,_=>.nil
 | _,_,_ + 1,.nil=>.nil
 | _,_,n + 1,.cons r t=>.cons r (Vals.take n t)
theorem Vals.drop:∀ {xs:List V} {us:List ae} (n:Nat),Vals xs us->Vals (xs.drop n) (us.drop n)
 | _,_,0,r=>r
 | _,_,_ + 1,.nil=>.nil
 | _,_,n + 1,.cons _ t=>Vals.drop n t
def RelO:Option V->Option ae->Prop
 | some v,some u=>RelV v u
 | none,none=>True
 | _,_=>False
def KV {κ:Type}:List (κ × V)->List (κ × ae)->Prop:=a7 fun(p:κ × V) (q:κ × ae)=>p.1=q.1/\RelV p.2 q.2
def kV:Key->V
 | .inl i=>.int i
 | .inr x=>.str x
inductive HO where
 | lst (xs:List V)
 | tup (xs:List V)
 | dK (kvs:List (Key × V)) | dT (kvs:List (List Key × V))
 | set (S:Int->Bool) (n:Nat)
 | ins (C dx:Addr) (fs:List (Str × V))
 | own (x:Addr)
 | xd (fs:List (Str × V))
 | met (f x:Addr)
 | rng (lo hi:Int)
 | frz (o:Obj) (u:HO)
 | tbl (ps:Array ae)
 | ext (φ:aW->Prop)
abbrev Hp:=Addr->Option HO
def upd (H:Hp) (a:Addr) (o:HO):Hp:=fun b=>if b=a then some o else H b
theorem upd_same {H:Hp} {a:Addr} {o:HO}:upd H a o a=some o:=by unfold upd;rw[if_pos rfl]
theorem upd_ne {H:Hp} {a b:Addr} {o:HO} (h:b≠a):upd H a o b=H b:=by unfold upd;rw[if_neg h]
theorem ne_of_none {H:Hp} {a b:Addr} {o:HO} (h:H a=some o) (h':H b=none):a≠b:=by
 intro e;subst e;rw[h] at h';cases h'
section
variable (P:aD) (w:aK)
def ObjOk (H:Hp) (h:aW) (a:Addr):HO->Prop
 | .lst xs=>xs.length<=sizeLine/\∃ (its:List ae) (n:Nat),Vals xs its/\h.get? a=some { cls:=.type "list",data:=.seq its.toArray n }
 | .tup xs=>xs.length<=sizeLine/\∃ its:List ae,Vals xs its/\gX h a its.toArray/\∀ o,h.get? a=some o->o.dict=none
 | .dK kvs=>kvs.length<=sizeLine/\(a == sysModules)=false/\∃ vs,KV kvs vs/\h.DictOf (mixKind P w) a vs
 | .dT kvs=>kvs.length<=sizeLine/\(a == sysModules)=false/\∃ xs:List (List Key × Addr × ae),
   a7 (fun(p:List Key × V) (q:List Key × Addr × ae)=>p.1=q.1/\H q.2.1=some (.tup (p.1.map kV))/\RelV p.2 q.2.2) kvs xs /\
   ∃ o es ep,h.get? a=some o/\o.ExactDict/\o.data=.dict es ep/\es.toList=xs.map (entryOfKey (tupleKind (mixKind P w)))/\(xs.map (·.1)).Nodup
 | .set S n=>h.SetOf (intKind P w) a S n
 | .ins C dx fs=>H dx=some (.own a)/\fs.length<=1000/\dx≠a/\h.get? a=some (dO C dx) /\
   ∃ mA,h.Ns1 dx mA/\(∀ f,RelO (fs.lookup f) (mA f))/\jH mA (fs.map (·.1))
 | .own _=>∃ o,h.get? a=some o
 | .xd fs=>∃ mA,h.Ns1 a mA/\∀ f,RelO (fs.lookup f) (mA f)
 | .rng lo hi=>∃ t u v,h.get? a=some { cls:=.type "range",data:=.fields #[.int lo t,.int hi u,.int 1 v] }
 | .frz o u=>h.get? a=some o/\ObjOk H h a u
 | .tbl ps=>h.get? a=some { cls:=.none,data:=.fields ps }
 | .met f x=>h.get? a=some (i5 (.ref f) (.ref x))
 | .ext φ=>φ h/\(∃ o,h.get? a=some o)/\∀ h1 h2:aW,φ h1->(∀ o,h1.get? a=some o->h2.get? a=some o)->φ h2
def HOk (H:Hp) (h:aW):Prop:=∀ a o,H a=some o->ObjOk P w H h a o
end
section
variable {P:aD} {w:aK} {H H':Hp} {h h':aW} {a:Addr} {o:HO}
theorem ObjOk.lt (x:ObjOk P w H h a o):a < h.objs.size:=by
 cases o with
 | lst xs=>obtain⟨_,_,_,_,e⟩:=x;exact ay e
 | tup xs=>obtain⟨_,_,_,p⟩:=x;exact p.1.lt
 | dK kvs=>obtain⟨_,_,_,_,o,_,_,e,_⟩:=x;exact ay e
 | dT kvs=>obtain⟨_,_,_,_,o,_,_,e,_⟩:=x;exact ay e
 | set S n=>obtain⟨o,_,_,_,e,_⟩:=x;exact ay e
 | ins C dx fs=>obtain⟨_,_,_,e,_⟩:=x;exact ay e
 | own y=>obtain⟨_,e⟩:=x;exact ay e
 | xd fs=>obtain⟨_,⟨_,_,_,e,_⟩,_⟩:=x;exact ay e
 | rng lo hi=>obtain⟨_,_,_,e⟩:=x;exact ay e
 | frz ob u=>obtain⟨e,_⟩:=x;exact ay e
 | tbl ps=>exact ay (show h.get? a=some _ from x)
 | met f y=>exact ay (show h.get? a=some _ from x)
 | ext φ=>obtain⟨_,⟨_,e⟩,_⟩:=x;exact ay e
theorem Paired.mapP {α β:Type} {F G:α->β->Prop}:∀ {l₁:List α} {l₂:List β},a7 F l₁ l₂->(∀ a b,F a b->G a b)->a7 G l₁ l₂
 | _,_,.nil,_=>.nil
 | _,_,.cons r t,f=>.cons (f _ _ r) (Paired.mapP t f)
theorem ObjOk.stay (x:ObjOk P w H h a o) (k:∀ b u,(b=a\/H b=some (.own a))->h.get? b=some u->h'.get? b=some u)
  (ho:∀ b,H b=some (.own a)->H' b=some (.own a)) (ht:∀ b xs,H b=some (.tup xs)->H' b=some (.tup xs)):ObjOk P w H' h' a o:=by
 induction o with
 | lst xs=>obtain⟨z,its,n,r,e⟩:=x;exact⟨z,its,n,r,k _ _ (.inl rfl) e⟩
 | tup xs =>
  obtain⟨z,its,r,⟨ob,e,c⟩,nd⟩:=x;exact⟨z,its,r,⟨ob,k _ _ (.inl rfl) e,c⟩,fun o q=>by rw[k _ _ (.inl rfl) e] at q;cases q;exact nd _ e⟩
 | dK kvs=>obtain⟨z,y,vs,r,ob,es,ep,e,c⟩:=x;exact⟨z,y,vs,r,ob,es,ep,k _ _ (.inl rfl) e,c⟩
 | dT kvs =>
  obtain⟨z,y,xs,r,ob,es,ep,e,c⟩:=x;exact⟨z,y,xs,Paired.mapP r fun p q z=>⟨z.1,ht _ _ z.2.1,z.2.2⟩,ob,es,ep,k _ _ (.inl rfl) e,c⟩
 | set S n=>obtain⟨ob,es,ep,t,e,c⟩:=x;exact⟨ob,es,ep,t,k _ _ (.inl rfl) e,c⟩
 | ins C dx fs =>
  obtain⟨d,z,ne,e,mA,⟨od,es,ep,e2,c⟩,r⟩:=x;exact⟨ho _ d,z,ne,k _ _ (.inl rfl) e,mA,⟨od,es,ep,k _ _ (.inr d) e2,c⟩,r⟩
 | own y=>obtain⟨ob,e⟩:=x;exact⟨ob,k _ _ (.inl rfl) e⟩
 | xd fs=>obtain⟨mA,⟨od,es,ep,e,c⟩,r⟩:=x;exact⟨mA,⟨od,es,ep,k _ _ (.inl rfl) e,c⟩,r⟩
 | rng lo hi=>obtain⟨t,u,v,e⟩:=x;exact⟨t,u,v,k _ _ (.inl rfl) e⟩
 | frz ob u ih=>obtain⟨e,q⟩:=x;exact⟨k _ _ (.inl rfl) e,ih q⟩
 | tbl ps =>
  have e:h.get? a=some { cls:=.none,data:=.fields ps }:=x;show h'.get? a=some { cls:=.none,data:=.fields ps };exact k a _ (.inl rfl) e
 | met f y =>
  have e:h.get? a=some (i5 (.ref f) (.ref y)):=x;show h'.get? a=some (i5 (.ref f) (.ref y));exact k a _ (.inl rfl) e
 | ext φ=>obtain⟨p,⟨o,e⟩,st⟩:=x;exact⟨st _ _ p fun o q=>k _ _ (.inl rfl) q,⟨o,k _ _ (.inl rfl) e⟩,st⟩
theorem nd_new {g:aW} {arr:Array ae} {n:Nat}:∀ o,(g.push { cls:=.type "tuple",data:=.seq arr n }).get? g.objs.size=some o->o.dict=none:=fun o e=>by
 rw[aw _ rfl] at e;cases e;rfl
theorem HOk.lt (x:HOk P w H h) (e:H a=some o):a < h.objs.size:=(x a o e).lt
theorem HOk.fresh (x:HOk P w H h) (e:h.objs.size<=a):H a=none:=by
 cases q:H a with
 | none=>rfl
 | some u=>exact absurd (a8 (x.lt q) e) (cy _)
theorem HOk.kept (x:HOk P w H h) (k:∀ b u,h.get? b=some u->h'.get? b=some u):HOk P w H h':=fun a o e =>
 (x a o e).stay (fun b u _ q=>k b u q) (fun _ q=>q) fun _ _ q=>q
theorem HOk.laid (x:HOk P w H h) (k:∀ b u,h.get? b=some u->h'.get? b=some u) (hp:h.objs.size<=a) (new:ObjOk P w (upd H a o) h' a o):HOk P w (upd H a o) h':=fun b u e=>by
 have hn:=x.fresh hp
 by_cases hb:b=a
 ·subst hb;rw[upd_same] at e;cases e;exact new
 ·rw[upd_ne hb] at e;exact(x b u e).stay (fun c v _ q=>k c v q) (fun c q=>by rw[upd_ne (ne_of_none q hn)];exact q) fun c xs q=>by rw[upd_ne (ne_of_none q hn)];exact q
end
def Rd (H:Hp) (a:Addr) (u:HO):Prop:=H a=some u\/∃ o,H a=some (.frz o u)
theorem Rd.ok {P:aD} {w:aK} {H:Hp} {h:aW} {a:Addr} {u:HO} (r:Rd H a u) (x:HOk P w H h):ObjOk P w H h a u:=by
 rcases r with r | ⟨o,r⟩
 ·exact x a u r
 ·obtain⟨_,q⟩:=x a _ r;exact q
def Mut:Option HO->Prop
 | some (.lst _)=>True
 | some (.dK _)=>True
 | some (.dT _)=>True
 | some (.set _ _)=>True
 | some (.ins _ _ _)=>True
 | some (.ext _)=>True
 | _=>False
section
variable {P:aD} {w:aK} {H:Hp} {h h':aW} {x e:Addr} {o':HO}
theorem HOk.write (ok:HOk P w H h) (mu:Mut (H x)) (he:e=x\/H e=some (.own x)) (k:∀ b u,b≠e->h.get? b=some u->h'.get? b=some u) (heo:∃ u,h'.get? e=some u)
  (new:ObjOk P w (upd H x o') h' x o'):HOk P w (upd H x o') h':=fun b u q=>by
 have nown:∀ c y,H c=some (.own y)->c≠x:=fun c y r z=>by subst z;rw[r] at mu;exact mu
 have ntup:∀ c xs,H c=some (.tup xs)->c≠x:=fun c xs r z=>by subst z;rw[r] at mu;exact mu
 by_cases hb:b=x
 ·subst hb;rw[upd_same] at q;cases q;exact new
 ·rw[upd_ne hb] at q
  by_cases hbe:b=e
  ·have q':H b=some (.own x):=by
    rcases he with z | z
    ·exact absurd (hbe.trans z) hb
    ·rw[hbe];exact z
   rw[q] at q';cases q';obtain⟨v,hv⟩:=heo;exact⟨v,by rw[hbe];exact hv⟩
  ·refine(ok b u q).stay (fun c v hc r=>k c v ?_ r) (fun c r=>by rw[upd_ne (nown c b r)];exact r) fun c xs r=>by rw[upd_ne (ntup c xs r)];exact r
   rcases hc with rfl | hc
   ·exact hbe
   ·rintro rfl;rcases he with z | z
    ·exact nown c b hc z
    ·rw[hc] at z;cases z;exact hb rfl
end
structure Un (fs ex:List Addr) (H H':Hp) (h h':aW):Prop where
 keep:∀ b o,h.get? b=some o->H b=none->b∉fs->b∉ex->h'.get? b=some o
 slot:∀ b o,h.get? b=some o->H b=none->b∈fs->b∉ex->∃ sl,h'.get? b=some { o with slots:=sl }
 free:∀ b o,h.get? b=some o->H b=none->b∉ex->H' b=none
 there:∀ b o,h.get? b=some o->b∉ex->∃ o',h'.get? b=some o'
 tups:∀ b xs,H b=some (.tup xs)->H' b=some (.tup xs)
 frzs:∀ b o u,H b=some (.frz o u)->H' b=some (.frz o u)
 tbls:∀ b ps,H b=some (.tbl ps)->∃ more,H' b=some (.tbl (ps++more))
section
variable {fs fs' ex ex':List Addr} {H H1 H2:Hp} {h h1 h2 h':aW} {a x e:Addr} {o:HO}
theorem Un.any (u:Un fs ex H H1 h h1) {b:Addr} {ob:Obj} (q:h.get? b=some ob) (n:H b=none) (hx:b∉ex):∃ sl,h1.get? b=some { ob with slots:=sl }:=by
 by_cases hb:b∈fs
 ·exact u.slot b ob q n hb hx
 ·exact⟨ob.slots,u.keep b ob q n hb hx⟩
theorem Un.kept (k:∀ b u,h.get? b=some u->h'.get? b=some u):Un fs ex H H h h' :=
 ⟨fun b ob q _ _ _=>k b ob q,fun b ob q _ _ _=>⟨ob.slots,k b ob q⟩,fun _ _ _ n _=>n,fun b ob q _=>⟨ob,k b ob q⟩,fun _ _ q=>q,fun _ _ _ q=>q,fun _ ps q=>⟨#[],by rw[q];simp⟩⟩
theorem Un.refl:Un fs ex H H h h:=Un.kept fun _ _ q=>q
theorem Un.laid (k:∀ b u,h.get? b=some u->h'.get? b=some u) (hp:h.objs.size<=a) (hn:H a=none):Un fs ex H (upd H a o) h h' where
 keep:=fun b u q _ _ _=>k b u q
 slot:=fun b u q _ _ _=>⟨u.slots,k b u q⟩
 free:=fun b u q n _=>by rw[upd_ne (aH (a8 (ay q) hp))];exact n
 there:=fun b u q _=>⟨u,k b u q⟩
 tups:=fun b xs q=>by rw[upd_ne (ne_of_none q hn)];exact q
 frzs:=fun b u xs q=>by rw[upd_ne (ne_of_none q hn)];exact q
 tbls:=fun b ps q=>⟨#[],by rw[upd_ne (ne_of_none q hn),q];simp⟩
theorem Un.write (mu:Mut (H x)) (he:e=x\/H e=some (.own x)) (k:∀ b u,b≠e->h.get? b=some u->h'.get? b=some u) (heo:∃ u,h'.get? e=some u):Un fs ex H (upd H x o) h h':=by
 have hx:∀ b,H b=none->b≠x:=fun b n z=>by subst z;rw[n] at mu;exact mu
 have hb:∀ b,H b=none->b≠e:=fun b n z=>by
  subst z;rcases he with r | r
  ·exact hx b n r
  ·rw[n] at r;cases r
 have hm:∀ b u,H b=some u->¬ Mut (some u)->b≠x:=fun b u q nm z=>by subst z;rw[q] at mu;exact nm mu
 refine⟨fun b u q n _ _=>k b u (hb b n) q,fun b u q n _ _=>⟨u.slots,k b u (hb b n) q⟩,fun b u q n _=>by rw[upd_ne (hx b n)];exact n,fun b u q _=>?_,
  fun b xs q=>by rw[upd_ne (hm b _ q fun z=>z)];exact q,fun b u xs q=>by rw[upd_ne (hm b _ q fun z=>z)];exact q,fun b ps q=>⟨#[],by rw[upd_ne (hm b _ q fun z=>z),q];simp⟩⟩
 by_cases hbe:b=e
 ·subst hbe;exact heo
 ·exact⟨u,k b u hbe q⟩
end
def trk (h:aW) (H:Hp):List Addr:=(aP h.objs.size).filter fun a=>(H a).isSome
def hidT (h:aW) (H:Hp):aW:=PySem.W.hideAll h (trk h H)
theorem hidT_size (h:aW) (H:Hp):(hidT h H).objs.size=h.objs.size:=PySem.W.hideAll_size _ _
theorem hidT_get {h:aW} {H:Hp} {b:Addr} {o:Obj} (e:h.get? b=some o) (n:H b=none):(hidT h H).get? b=some o :=
 PySem.W.hideAll_get _ e fun hm=>by
  have q:(H b).isSome=true:=(bP.mp hm).2;rw[n] at q;simp at q
theorem of_hidT {h:aW} {H:Hp} {b:Addr} {o:Obj} (e:(hidT h H).get? b=some o):h.get? b=some o/\H b=none:=by
 have e':h.get? b=some o:=PySem.W.of_hideAll (trk h H) e;refine⟨e',?_⟩;cases q:H b with
 | none=>rfl
 | some x =>
  have hm:b∈trk h H:=bP.mpr ⟨bj.mpr (ay e'),by simp[q]⟩
  have z:(hidT h H).get? b=none:=PySem.W.hideAll_none (trk h H) hm;rw[z] at e;cases e
structure Mod (K:ao) (mg:Str->Option ae) (base:aW):Prop where
 kin:K.In base
 glob:base.Ns aO mg
 blt:∃ mb,base.Ns builtinsNs mb/\∀ x:Str,x ≠ "__name__"->mb x=bY x
 nolimit:base.NoLimit
structure Cx where
 prog:aD
 w:aK
 K:ao
 mg:Str->Option ae
 base:aW
 A:aQ
 N:List Str
 s₀:ai
 H₀:Hp
 env:Env
 outer:List Env
 stack:List Env
 ex:List Addr
 fn:Str->Bool
 calm:Bool
 pn:List (Addr × Obj)
 xe:ae->ai->Prop
def frs (l:List Env):List Addr:=l.filterMap (·.frame)
abbrev Cx.fs (X:Cx):List Addr:=frs X.outer
def Vis (sc:Scope) (x:Str):Prop:=sc.names.lookup x=some .local\/sc.names.lookup x=some .cell\/sc.names.lookup x=some .free
def Loc (sc:Scope) (x:Str):Prop:=sc.names.lookup x=some .local\/sc.names.lookup x=some .cell
def Look (env:Env) (h:aW) (m:Str->Option ae) (x:Str) (u:ae):Prop :=
 (env.kindOf x=some .local/\m x=some u)\/((env.kindOf x=some .cell\/env.kindOf x=some .free)/\∃ c,env.cells.lookup x=some c/\h.IsCell c (some u))
structure Cx.Ok (X:Cx):Prop where
 mod:Mod X.K X.mg X.base
 kind:X.env.scope.kind=.function
 glob:X.env.globals=aO
 blt:X.env.builtins=builtinsNs
 above:X.s₀.heap.objs.size<=X.env.locals
 inj:∀ x y c,X.env.cells.lookup x=some c->X.env.cells.lookup y=some c->x=y
 has:∀ x,(X.env.kindOf x=some .cell\/X.env.kindOf x=some .free)->∃ c,X.env.cells.lookup x=some c
 cab:∀ x c,X.fn x=true->X.env.cells.lookup x=some c->X.s₀.heap.objs.size<=c
 hd:X.calm=true->X.A.handled=none
 frames:X.A.frames=some X.stack
 gd:X.A.guards=some []
 stk:X.stack=X.outer\/(X.stack=X.env::X.outer/\X.env.frame=some X.env.locals)
 exf:∀ b∈X.ex,b≠X.env.locals/\∀ x c,X.env.cells.lookup x=some c->c≠b
 bs:∀ b o,X.base.get? b=some o->X.s₀.heap.get? b=some o/\X.H₀ b=none
 bsz:X.base.objs.size<=X.s₀.heap.objs.size
 noex:∀ b o,X.base.get? b=some o->b∉X.ex
 exfs:∀ b∈X.ex,b∉X.fs
 funs:X.s₀.heap.FunFrames X.base X.outer
 frf:∀ b∈X.fs,X.H₀ b=none
structure Inv (X:Cx) (pins:List (Addr × Obj)) (σ:List (Option V)) (H:Hp) (s:ai):Prop where
 ok:X.Ok
 os:s.os=X.s₀.os
 bare:ik s.gens
 base:Un X.fs X.ex X.H₀ H X.s₀.heap s.heap
 loc:∃ m,s.heap.Ns X.env.locals m/\∀ (i:Nat) (x:Str) (v:V),X.N[i]?=some x->σ[i]?=some (some v)->Vis X.env.scope x->∃ u,RelV v u/\Look X.env s.heap m x u
 cell:∀ x c,X.env.cells.lookup x=some c->∃ v,s.heap.IsCell c v
 free:H X.env.locals=none
 freeC:∀ x c,X.env.cells.lookup x=some c->H c=none
 pin:∀ p∈X.pn++pins,s.heap.get? p.1=some p.2/\H p.1=none/\p.1≠X.env.locals/\p.1∉X.fs/\∀ v,p.2.data≠.cell v
 hok:HOk X.prog X.w H s.heap
 len:σ.length=X.N.length
section
variable {X:Cx} {pins:List (Addr × Obj)} {σ:List (Option V)} {H H':Hp} {s:ai} {h':aW}
theorem Cx.Ok.nofr (ok:X.Ok) {b:Addr} {o:Obj} (e:X.base.get? b=some o):b∉X.fs:=fun hb=>by
 have:=(ok.funs.mem hb).1
 rw[e] at this;cases this
theorem Inv.bs (I:Inv X pins σ H s):∀ b o,X.base.get? b=some o->s.heap.get? b=some o/\H b=none:=fun b o e =>
 ⟨I.base.keep b o (I.ok.bs b o e).1 (I.ok.bs b o e).2 (I.ok.nofr e) (I.ok.noex b o e),I.base.free b o (I.ok.bs b o e).1 (I.ok.bs b o e).2 (I.ok.noex b o e)⟩
theorem Inv.bk (I:Inv X pins σ H s):∀ b o,X.base.get? b=some o->s.heap.get? b=some o:=fun b o e=>(I.bs b o e).1
theorem Inv.mod (I:Inv X pins σ H s):Mod X.K X.mg X.base:=I.ok.mod
theorem Inv.kIn (I:Inv X pins σ H s):X.K.In s.heap:=I.ok.mod.kin.keeps I.bk
theorem Inv.lt (I:Inv X pins σ H s):X.env.locals < s.heap.objs.size:=let ⟨_,hn,_⟩:=I.loc;hn.lt
theorem Inv.sz (I:Inv X pins σ H s):X.s₀.heap.objs.size<=s.heap.objs.size:=aV I.ok.above (io I.lt)
theorem Inv.nofs (I:Inv X pins σ H s) {a:Addr} (h:s.heap.objs.size<=a):a∉X.fs:=fun hb=>by
 obtain⟨_,o,ho,_⟩:=I.ok.funs.mem hb;exact absurd (a8 (ay ho) (aV I.sz h)) (cy _)
theorem Inv.cne (I:Inv X pins σ H s):∀ x c,X.env.cells.lookup x=some c->c≠X.env.locals:=fun x c e z=>by
 obtain⟨v,o,ho,hd⟩:=I.cell x c e;obtain⟨m,⟨o',es,ep,ho',hd',_⟩,_⟩:=I.loc;rw[z,ho'] at ho;cases ho;rw[hd'] at hd;cases hd
theorem Inv.funs (I:Inv X pins σ H s):s.heap.FunFrames X.base X.outer:=by
 have all:∀ (l:List Env),(∀ b∈frs l,b∈X.fs)->X.s₀.heap.FunFrames X.base l->s.heap.FunFrames X.base l:=by
  intro l
  induction l with
  | nil=>intro _ _;trivial
  | cons env r ih =>
   intro hs hl;obtain⟨hk,⟨L,o,hf,hn,ho,hd⟩,hr⟩:=hl;have hL:L∈X.fs:=hs L (by unfold frs;rw[bU,hf];exact am)
   obtain⟨sl,e⟩:=I.base.slot L o ho (I.ok.frf L hL) hL fun z=>I.ok.exfs L z hL;exact⟨hk,⟨L,_,hf,hn,e,hd⟩,ih (fun b hb=>hs b (by unfold frs;rw[bU,hf];exact aq _ hb)) hr⟩
 exact all X.outer (fun _ hb=>hb) I.ok.funs
theorem Inv.stack (I:Inv X pins σ H s):s.heap.FunFrames X.base X.stack:=by
 rcases I.ok.stk with e | ⟨e,hf⟩
 ·rw[e];exact I.funs
 ·rw[e];obtain⟨m,hn,_⟩:=I.loc;refine .cons (by rw[I.ok.kind];decide) hf hn ?_ I.funs
  exact aW.get?_none_of_le (aV I.ok.bsz I.ok.above)
theorem Inv.stkSub (I:Inv X pins σ H s):∀ b∈frs X.stack,b∈X.env.locals::X.fs:=fun b hb=>by
 rcases I.ok.stk with e | ⟨e,hf⟩
 ·rw[e] at hb;exact aq _ hb
 ·rw[e] at hb;unfold frs at hb;rw[bU,hf] at hb;exact hb
theorem Inv.stkFree (I:Inv X pins σ H s):∀ b∈frs X.stack,H b=none:=fun b hb=>by
 rcases aA.mp (I.stkSub b hb) with e | hb
 ·rw[e];exact I.free
 ·obtain⟨_,o,ho,_⟩:=I.ok.funs.mem hb;exact I.base.free b o ho (I.ok.frf b hb) fun z=>I.ok.exfs b z hb
theorem Inv.step {g':Array GenState} {t':Nat} {d':Drawn} {ch:List Addr} (I:Inv X pins σ H s)
  (hch:∀ b∈ch,(b∈X.ex\/X.s₀.heap.objs.size<=b)/\b≠X.env.locals/\(∀ x c,X.env.cells.lookup x=some c->c≠b)/\∀ p∈X.pn++pins,p.1≠b)
  (keep:∀ b o,b≠X.env.locals->b∉X.fs->b∉ch->s.heap.get? b=some o->H b=none->h'.get? b=some o)
  (slot:∀ b o,b≠X.env.locals->b∈X.fs->b∉ch->s.heap.get? b=some o->H b=none->∃ sl,h'.get? b=some { o with slots:=sl }) (free:∀ b o,b∉ch->s.heap.get? b=some o->H b=none->H' b=none)
  (there:∀ b o,b∉ch->s.heap.get? b=some o->∃ o',h'.get? b=some o')
  (tups:∀ b xs,H b=some (.tup xs)->H' b=some (.tup xs)) (frzs:∀ b o u,H b=some (.frz o u)->H' b=some (.frz o u)) (tbls:∀ b ps,H b=some (.tbl ps)->∃ more,H' b=some (.tbl (ps++more)))
  (ns:∀ m,s.heap.Ns X.env.locals m->h'.Ns X.env.locals m) (hok:HOk X.prog X.w H' h') (hg:ik g') :
  Inv X pins σ H' { s with heap:=h',gens:=g',drawn:=d',toks:=t' }:=by
 have neL:∀ b o,X.s₀.heap.get? b=some o->b≠X.env.locals:=fun b o e=>aH (a8 (ay e) I.ok.above);have neC:∀ b o,X.s₀.heap.get? b=some o->b∉X.ex->b∉ch:=fun b o e hx hb=>by
  rcases(hch b hb).1 with z | z
  ·exact hx z
  ·exact absurd (a8 (ay e) z) (cy _)
 have cellK:∀ x c,X.env.cells.lookup x=some c->∀ v,s.heap.IsCell c v->h'.IsCell c v:=fun x c e v ⟨o,ho,hd⟩=>by
  have nch:c∉ch:=fun z=>(hch c z).2.2.1 x c e rfl
  by_cases hc:c∈X.fs
  ·obtain⟨sl,q⟩:=slot c o (I.cne x c e) hc nch ho (I.freeC x c e);exact⟨_,q,hd⟩
  ·exact⟨o,keep c o (I.cne x c e) hc nch ho (I.freeC x c e),hd⟩
 refine⟨I.ok,I.os,hg,⟨fun b o e n hb hx=>?_,fun b o e n hb hx=>?_,fun b o e n hx=>?_,fun b o e hx=>?_,fun b xs e=>tups b xs (I.base.tups b xs e),fun b o xs e=>frzs b o xs (I.base.frzs b o xs e),fun b ps e=>?_⟩,?_,fun x c e=>?_,?_,fun x c e=>?_,fun p hp=>?_,hok,I.len⟩
 ·exact keep b o (neL b o e) hb (neC b o e hx) (I.base.keep b o e n hb hx) (I.base.free b o e n hx)
 ·obtain⟨sl,e1⟩:=I.base.slot b o e n hb hx;obtain⟨sl',e2⟩:=slot b _ (neL b o e) hb (neC b o e hx) e1 (I.base.free b o e n hx);exact⟨sl',e2⟩
 ·obtain⟨o',e1⟩:=I.base.there b o e hx;exact free b o' (neC b o e hx) e1 (I.base.free b o e n hx)
 ·obtain⟨o',e1⟩:=I.base.there b o e hx;exact there b o' (neC b o e hx) e1
 ·obtain⟨m1,e1⟩:=I.base.tbls b ps e;obtain⟨m2,e2⟩:=tbls b _ e1;exact⟨m1++m2,by rw[e2,Array.append_assoc]⟩
 ·obtain⟨m,hn,hl⟩:=I.loc;refine⟨m,ns m hn,fun i x v e1 e2 e3=>?_⟩;obtain⟨u,r,l⟩:=hl i x v e1 e2 e3;refine⟨u,r,?_⟩;rcases l with l | ⟨k,c,e,z⟩
  ·exact .inl l
  ·exact .inr ⟨k,c,e,cellK x c e _ z⟩
 ·obtain⟨v,z⟩:=I.cell x c e;exact⟨v,cellK x c e v z⟩
 ·obtain⟨m,⟨o,_,_,ho,_⟩,_⟩:=I.loc;exact free _ o (fun z=>(hch _ z).2.1 rfl) ho I.free
 ·obtain⟨v,o,ho,hd⟩:=I.cell x c e;exact free c o (fun z=>(hch c z).2.2.1 x c e rfl) ho (I.freeC x c e)
 ·obtain⟨e,n,ne,nf,d⟩:=I.pin p hp;have nch:p.1∉ch:=fun z=>(hch p.1 z).2.2.2 p hp rfl;exact⟨keep p.1 p.2 ne nf nch e n,free p.1 p.2 nch e n,ne,nf,d⟩
theorem Inv.un {t':Nat} (I:Inv X pins σ H s) (u:Un X.fs [] H H' s.heap h') (hok:HOk X.prog X.w H' h'):Inv X pins σ H' { s with heap:=h',toks:=t' }:=by
 obtain⟨m,⟨o,es,ep,ho,r⟩,_⟩:=id I.loc;obtain⟨sl,hL⟩:=u.any ho I.free (by simp)
 exact I.step (g':=s.gens) (d':=s.drawn) (ch:=[]) (fun _ z=>nomatch z) (fun b o _ hb _ e n=>u.keep b o e n hb (by simp)) (fun b o _ hb _ e n=>u.slot b o e n hb (by simp)) (fun b o _ e n=>u.free b o e n (by simp)) (fun b o _ e=>u.there b o e (by simp)) u.tups u.frzs u.tbls (fun m' hm=>by
  obtain⟨o',es',ep',ho',r'⟩:=hm;rw[ho] at ho';cases ho';exact⟨_,es',ep',hL,r'⟩) hok I.bare
theorem Inv.call {g':Array GenState} {t':Nat} {d':Drawn} {ch:List Addr} (I:Inv X pins σ H s) (u:Un (frs X.stack) ch H H' s.heap h') (hok:HOk X.prog X.w H' h') (hg:ik g')
  (hch:∀ b∈ch,(b∈X.ex\/X.s₀.heap.objs.size<=b)/\b≠X.env.locals/\(∀ x c,X.env.cells.lookup x=some c->c≠b)/\∀ p∈X.pn++pins,p.1≠b) :
  Inv X pins σ H' { s with heap:=h',gens:=g',drawn:=d',toks:=t' }:=by
 obtain⟨m,⟨o,es,ep,ho,r⟩,_⟩:=id I.loc;obtain⟨sl,hL⟩:=u.any ho I.free fun z=>(hch _ z).2.1 rfl;exact I.step (ch:=ch) hch (fun b o hL hb hc e n=>u.keep b o e n (fun z=>(aA.mp (I.stkSub b z)).elim hL hb) hc) (fun b o _ _ hc e n=>u.any e n hc) (fun b o hc e n=>u.free b o e n hc) (fun b o hc e=>u.there b o e hc) u.tups u.frzs u.tbls (fun m' hm=>by
  obtain⟨o',es',ep',ho',r'⟩:=hm;rw[ho] at ho';cases ho';exact⟨_,es',ep',hL,r'⟩) hok hg
theorem Inv.turned {t':Nat} {it:Addr} (I:Inv X pins σ H s) (k:∀ b o,b≠it->s.heap.get? b=some o->h'.get? b=some o) (hn:H it=none) (hL:it≠X.env.locals)
  (h1:it∈X.ex\/X.s₀.heap.objs.size<=it) (h2:∀ x c,X.env.cells.lookup x=some c->c≠it) (h3:∀ p∈X.pn++pins,p.1≠it):Inv X pins σ H { s with heap:=h',toks:=t' }:=by
 have nit:∀ b u,H b=some u->b≠it:=fun b u e z=>by rw[z,hn] at e;cases e
 refine I.step (g':=s.gens) (d':=s.drawn) (ch:=[it]) (fun b hb=>?_) (fun b o _ _ hc e _=>k b o (fun z=>hc (by simp[z])) e) (fun b o _ _ hc e _=>⟨o.slots,k b o (fun z=>hc (by simp[z])) e⟩) (fun _ _ _ _ n=>n)
  (fun b o hc e=>⟨o,k b o (fun z=>hc (by simp[z])) e⟩) (fun _ _ e=>e) (fun _ _ _ e=>e) (fun b ps e=>⟨#[],by rw[e];simp⟩) (fun m hm=>?_) (fun b u e=>?_) I.bare
 ·have e:b=it:=by simpa using hb
  subst e;exact⟨h1,hL,h2,h3⟩
 ·obtain⟨o,es,ep,ho,r⟩:=hm;exact⟨o,es,ep,k _ o (aZ hL) ho,r⟩
 ·refine(I.hok b u e).stay (fun c v hc q=>k c v ?_ q) (fun _ q=>q) fun _ _ q=>q;rcases hc with z | z
  ·rw[z];exact nit b u e
  ·exact nit c _ z
theorem Inv.tok (I:Inv X pins σ H s) (t:Nat):Inv X pins σ H { s with toks:=t }:=I.un (h':=s.heap) (t':=t) Un.refl I.hok
theorem Inv.kept {t':Nat} (I:Inv X pins σ H s) (k:∀ b u,s.heap.get? b=some u->h'.get? b=some u):Inv X pins σ H { s with heap:=h',toks:=t' }:=I.un (Un.kept k) (I.hok.kept k)
theorem Inv.laid {a:Addr} {o:HO} {t':Nat} (I:Inv X pins σ H s) (k:∀ b u,s.heap.get? b=some u->h'.get? b=some u) (hp:s.heap.objs.size<=a) (new:ObjOk X.prog X.w (upd H a o) h' a o) :
  Inv X pins σ (upd H a o) { s with heap:=h',toks:=t' }:=I.un (Un.laid k hp (I.hok.fresh hp)) (I.hok.laid k hp new)
theorem Inv.write {x e:Addr} {o:HO} {t':Nat} (I:Inv X pins σ H s) (mu:Mut (H x)) (he:e=x\/H e=some (.own x)) (k:∀ b u,b≠e->s.heap.get? b=some u->h'.get? b=some u) (heo:∃ u,h'.get? e=some u)
  (new:ObjOk X.prog X.w (upd H x o) h' x o):Inv X pins σ (upd H x o) { s with heap:=h',toks:=t' }:=I.un (Un.write mu he k heo) (I.hok.write mu he k heo new)
theorem Inv.weak {σ':List (Option V)} (I:Inv X pins σ H s) (hl:σ'.length=σ.length) (w:∀ (i:Nat) v,σ'[i]?=some (some v)->σ[i]?=some (some v)):Inv X pins σ' H s :=
 ⟨I.ok,I.os,I.bare,I.base,let ⟨m,hn,hl'⟩:=I.loc;⟨m,hn,fun i x v e1 e2 e3=>hl' i x v e1 (w i v e2) e3⟩,I.cell,I.free,I.freeC,I.pin,I.hok,hl.trans I.len⟩
theorem Inv.pins_of {pins':List (Addr × Obj)} (I:Inv X pins σ H s) (h:∀ p∈pins',s.heap.get? p.1=some p.2/\H p.1=none/\p.1≠X.env.locals/\p.1∉X.fs/\∀ v,p.2.data≠.cell v):Inv X pins' σ H s :=
 ⟨I.ok,I.os,I.bare,I.base,I.loc,I.cell,I.free,I.freeC,fun p hp=>(aU.mp hp).elim (fun z=>I.pin p (bd _ z)) (h p),I.hok,I.len⟩
theorem nodup_ix {N:List Str} (hN:N.Nodup) {i j:Nat} {x:Str} (a:N[i]?=some x) (b:N[j]?=some x):i=j:=by
 obtain⟨h1,e1⟩:=bi.mp a;obtain⟨h2,e2⟩:=bi.mp b;exact(gH hN).mp (e1.trans e2.symm)
theorem store_ok2 {M:Model} {A:aQ} {E:ae->ai->Prop} {i:Nat} {x:Str} {v:V} {u:ae} {Q:Unit->ai->Prop} (I:Inv X pins σ H s) (hN:X.N.Nodup) (hi:X.N[i]?=some x) (hx:Loc X.env.scope x) (r:RelV v u)
  (h:∀ s',Inv X pins (σ.set i (some v)) H s'->(∃ a,dz a s.heap s'.heap/\(a=X.env.locals\/X.env.cells.lookup x=some a))->Q () s') (hf:X.fn x=true\/X.env.scope.names.lookup x=some .local:=by first | exact .inl rfl | exact .inr rfl | assumption):ax M A (storeName X.env x u) Q E s:=by
 obtain⟨m,hn,hl⟩:=id I.loc;have hcls:(X.env.scope.kind == .class || (X.env.scope.kind == .module && X.env.locals != X.env.globals))=false:=by rw[I.ok.kind];rfl
 have hiσ:i < σ.length:=by rw[I.len];exact(bi.mp hi).1
 have cne:=I.cne;have tracked:∀ {a:Addr} {h':aW},(∃ o,s.heap.get? a=some o/\H a=none)->dz a s.heap h'->HOk X.prog X.w H h':=fun {a h'} ha hs b ob e=>by
  obtain⟨_,_,hfree⟩:=ha;refine(I.hok b ob e).stay (fun c w' hc q=>(hs.2 c ?_).trans q) (fun _ q=>q) fun _ _ q=>q;rintro rfl;rcases hc with rfl | hc
  ·rw[hfree] at e;cases e
  ·rw[hfree] at hc;cases hc
 rcases hx with hk | hk
 ·refine wpAny_storeName_local hk hn (fun h' hn' hs=>?_) hcls;obtain⟨oL,_,_,hoL,_⟩:=id hn;refine h _ ⟨I.ok,I.os,I.bare,⟨fun b o e n hb hx=>?_,fun b o e n hb hx=>?_,I.base.free,fun b o e hx=>?_,I.base.tups,I.base.frzs,I.base.tbls⟩,⟨_,hn',fun j y v' e1 e2 e3=>?_⟩,fun y c e=>?_,I.free,I.freeC,fun p hp=>?_,tracked ⟨oL,hoL,I.free⟩ hs,by simpa using I.len⟩ ⟨_,hs,.inl rfl⟩
  ·exact(hs.2 b (aH (a8 (ay e) I.ok.above))).trans (I.base.keep b o e n hb hx)
  ·obtain⟨sl,e1⟩:=I.base.slot b o e n hb hx;exact⟨sl,(hs.2 b (aH (a8 (ay e) I.ok.above))).trans e1⟩
  ·obtain⟨o',e1⟩:=I.base.there b o e hx;exact⟨o',(hs.2 b (aH (a8 (ay e) I.ok.above))).trans e1⟩
  ·by_cases hj:j=i
   ·subst hj;rw[hi] at e1;cases e1;rw[List.getElem?_set_self hiσ] at e2;cases e2;exact⟨u,r,.inl ⟨hk,by simp⟩⟩
   ·rw[fC (aZ hj)] at e2;obtain⟨u',r',q⟩:=hl j y v' e1 e2 e3;refine⟨u',r',?_⟩;rcases q with⟨k,e⟩ | ⟨k,c,e,z⟩
    ·refine .inl ⟨k,?_⟩
     have:y≠x:=fun e=>hj (nodup_ix hN e1 (e ▸ hi))
     simp[this,e]
    ·exact .inr ⟨k,c,e,z.sameBut hs (cne y c e)⟩
  ·obtain⟨w',z⟩:=I.cell y c e;exact⟨w',z.sameBut hs (cne y c e)⟩
  ·obtain⟨e,n,ne,nf,d⟩:=I.pin p hp;exact⟨(hs.2 p.1 ne).trans e,n,ne,nf,d⟩
 ·have hfn:X.fn x=true:=by
   rcases hf with z | z
   ·exact z
   ·rw[z] at hk;cases hk
  obtain⟨c,hc⟩:=I.ok.has x (.inl hk);obtain⟨w',z⟩:=I.cell x c hc;refine wpAny_storeName_cell I.ok.kind hk hc z (fun h' hc' hs=>?_);obtain⟨oc,hoc,hocd⟩:=id z;refine h { s with heap:=h' } ⟨I.ok,I.os,I.bare,⟨fun b o e n hb hx=>?_,fun b o e n hb hx=>?_,I.base.free,fun b o e hx=>?_,I.base.tups,I.base.frzs,I.base.tbls⟩,⟨m,hn.sameBut hs (aZ (cne x c hc)),fun j y v' e1 e2 e3=>?_⟩,fun y c' e=>?_,I.free,I.freeC,fun p hp=>?_,tracked ⟨oc,hoc,I.freeC x c hc⟩ hs,by simpa using I.len⟩ ⟨c,hs,.inr hc⟩
  ·exact(hs.2 b (aH (a8 (ay e) (I.ok.cab x c hfn hc)))).trans (I.base.keep b o e n hb hx)
  ·obtain⟨sl,e1⟩:=I.base.slot b o e n hb hx;exact⟨sl,(hs.2 b (aH (a8 (ay e) (I.ok.cab x c hfn hc)))).trans e1⟩
  ·obtain⟨o',e1⟩:=I.base.there b o e hx;exact⟨o',(hs.2 b (aH (a8 (ay e) (I.ok.cab x c hfn hc)))).trans e1⟩
  ·by_cases hj:j=i
   ·subst hj;rw[hi] at e1;cases e1;rw[List.getElem?_set_self hiσ] at e2;cases e2;exact⟨u,r,.inr ⟨.inl hk,c,hc,hc'⟩⟩
   ·rw[fC (aZ hj)] at e2;obtain⟨u',r',q⟩:=hl j y v' e1 e2 e3;refine⟨u',r',?_⟩;rcases q with q | ⟨k,c',e,z'⟩
    ·exact .inl q
    ·refine .inr ⟨k,c',e,z'.sameBut hs ?_⟩;rintro rfl;exact hj (nodup_ix hN e1 (I.ok.inj _ _ _ e hc ▸ hi))
  ·by_cases hcc:c'=c
   ·subst hcc;exact⟨_,hc'⟩
   ·obtain⟨w2,z2⟩:=I.cell y c' e;exact⟨w2,z2.sameBut hs hcc⟩
  ·obtain⟨e,n,ne,nf,d⟩:=I.pin p hp;refine⟨(hs.2 p.1 ?_).trans e,n,ne,nf,d⟩;intro q;rw[q,hoc] at e;have q':oc=p.2:=aJ e;exact d w' (by rw[<- q'];exact hocd)
theorem store_ok {M:Model} {A:aQ} {E:ae->ai->Prop} {i:Nat} {x:Str} {v:V} {u:ae} {Q:Unit->ai->Prop} (I:Inv X pins σ H s) (hN:X.N.Nodup) (hi:X.N[i]?=some x) (hx:Loc X.env.scope x) (r:RelV v u)
  (h:∀ s',Inv X pins (σ.set i (some v)) H s'->Q () s') (hf:X.fn x=true\/X.env.scope.names.lookup x=some .local:=by first | exact .inl rfl | exact .inr rfl | assumption):ax M A (storeName X.env x u) Q E s :=
 store_ok2 I hN hi hx r (fun s' I' _=>h s' I') hf
theorem Inv.call' {s':ai} {ch:List Addr} (I:Inv X pins σ H s) (ho:s'.os=s.os) (u:Un (frs X.stack) ch H H' s.heap s'.heap) (hok:HOk X.prog X.w H' s'.heap) (hg:ik s'.gens)
  (hch:∀ b∈ch,(b∈X.ex\/X.s₀.heap.objs.size<=b)/\b≠X.env.locals/\(∀ x c,X.env.cells.lookup x=some c->c≠b)/\∀ p∈X.pn++pins,p.1≠b):Inv X pins σ H' s':=by
 obtain⟨h',g',d',t',o'⟩:=s';have e:o'=s.os:=ho;subst e;exact I.call (g':=g') (t':=t') (d':=d') u hok hg hch
end
abbrev XK:=ae->Option Addr->Hp->Prop
abbrev St:=List (Option V)
abbrev VK:=V->Hp->Prop
abbrev TE:=St->Hp->VK->Prop
abbrev TT:=St->Hp->(Bool->Hp->Prop)->Prop
abbrev TA:=St->Hp->(List V->Hp->Prop)->Prop
structure Ends where
 nx:St->Hp->Prop
 rt:VK
 bk:St->Hp->Prop:=fun _ _=>False
 ct:St->Hp->Prop:=fun _ _=>False
abbrev TS:=Ends->St->Hp->Prop
def EP (X:Cx) (pins:List (Addr × Obj)) (σ:St) (Q:VK) (u:ae) (s':ai):Prop:=∃ v H',Inv X pins σ H' s'/\RelV v u/\Q v H'
def TP (X:Cx) (pins:List (Addr × Obj)) (σ:St) (Q:Bool->Hp->Prop) (b:Bool) (s':ai):Prop:=∃ H',Inv X pins σ H' s'/\Q b H'
def AP (X:Cx) (pins:List (Addr × Obj)) (σ:St) (Q:List V->Hp->Prop) (us:List ae) (s':ai):Prop:=∃ vs H',Inv X pins σ H' s'/\Vals vs us/\Q vs H'
def SP (X:Cx) (pins:List (Addr × Obj)) (D:Ends) (f:Flow) (s':ai):Prop :=
 match f with
 | .next=>∃ σ' H',Inv X pins σ' H' s'/\D.nx σ' H'
 | .brk=>∃ σ' H',Inv X pins σ' H' s'/\D.bk σ' H'
 | .cont=>∃ σ' H',Inv X pins σ' H' s'/\D.ct σ' H'
 | .ret u=>∃ v σ' H',Inv X pins σ' H' s'/\RelV v u/\D.rt v H'
def PE (X:Cx) (e:Expr) (t:TE):Prop :=
 ∀ (pins:List (Addr × Obj)) (s:ai) (σ:St) (H:Hp) (Q:VK),Inv X pins σ H s->t σ H Q->ax (aC X.prog X.w) X.A (eval e X.env) (EP X pins σ Q) X.xe s
def PT (X:Cx) (e:Expr) (t:TT):Prop :=
 ∀ (pins:List (Addr × Obj)) (s:ai) (σ:St) (H:Hp) (Q:Bool->Hp->Prop),Inv X pins σ H s->t σ H Q->ax (aC X.prog X.w) X.A (isTrue e X.env (eval e X.env)) (TP X pins σ Q) X.xe s
def PW (X:Cx) (e:Expr) (t:TT):Prop :=
 ∀ (whole:Sem ae) (pins:List (Addr × Obj)) (s:ai) (σ:St) (H:Hp) (Q:Bool->Hp->Prop),Inv X pins σ H s->t σ H Q->ax (aC X.prog X.w) X.A (isTrue e X.env whole) (TP X pins σ Q) X.xe s
theorem PW.pt {X:Cx} {e:Expr} {t:TT} (h:PW X e t):PT X e t:=h _
def PA (X:Cx) (es:List Expr) (t:TA):Prop :=
 ∀ (pos:Pos) (pins:List (Addr × Obj)) (s:ai) (σ:St) (H:Hp) (Q:List V->Hp->Prop),Inv X pins σ H s->t σ H Q->ax (aC X.prog X.w) X.A (spliced (bD pos (au es X.env))) (AP X pins σ Q) X.xe s
def PS (X:Cx) (st:Stmt) (t:TS):Prop :=
 ∀ (pins:List (Addr × Obj)) (s:ai) (σ:St) (H:Hp) (D:Ends),Inv X pins σ H s->t D σ H->ax (aC X.prog X.w) X.A (exec st X.env) (SP X pins D) X.xe s
def PSs (X:Cx) (st:List Stmt) (t:TS):Prop :=
 ∀ (pins:List (Addr × Obj)) (s:ai) (σ:St) (H:Hp) (D:Ends),Inv X pins σ H s->t D σ H->ax (aC X.prog X.w) X.A (execs st X.env) (SP X pins D) X.xe s
theorem thn {α:Type} {t:Sem α} {Q Q':α->ai->Prop} {M:Model} {A:aQ} {E:ae->ai->Prop} {s:ai} (h:ax M A t Q E s) (hQ:∀ a s,Q a s->Q' a s):ax M A t Q' E s:=dP h hQ fun _ _ x=>x
section
variable {X:Cx}
def tVar (i:Nat):TE:=fun σ H Q=>∃ v,σ[i]?=some (some v)/\Q v H
def tC (v:V):TE:=fun _ H Q=>Q v H
theorem pe_var {i:Nat} {x:Str} {pos:Pos} (hN:X.N[i]?=some x) (hv:Vis X.env.scope x) (hd:(x == ("__debug__" : Str))=false:=by decide) (hcd:(x == ("__classdict__" : Str))=false:=by decide):PE X (.Name x pos) (tVar i):=by
 intro pins s σ H Q I h;obtain⟨v,e,h⟩:=h;obtain⟨m,hn,hl⟩:=I.loc;obtain⟨u,r,l⟩:=hl i x v hN e hv;have fin:EP X pins σ Q u s:=⟨v,H,I,r,h⟩;rcases l with⟨hk,hm⟩ | ⟨hk,c,hc,hcell⟩
 ·exact wpAny_Name (wpAny_loadName_local I.ok.kind hk hn hm fin) hd
 ·rcases hk with hk | hk
  ·exact wpAny_Name (wpAny_loadName_cell I.ok.kind hk hc hcell fin) hd
  ·exact wpAny_Name (wpAny_loadName_free I.ok.kind hk hc hcell fin hcd) hd
theorem pe_int {i j pos}:PE X (.Constant (.int i) j pos) (tC (.int i)):=fun _ _ _ H _ I h=>wpAny_Constant_int ⟨.int i,H,I.tok _,⟨_,rfl⟩,h⟩
theorem pe_bl {b j pos}:PE X (.Constant (.bool b) j pos) (tC (.bl b)):=fun _ _ _ H _ I h=>Constant_bool ⟨.bl b,H,I,rfl,h⟩
theorem pe_non {j pos}:PE X (.Constant .none j pos) (tC .non):=fun _ _ _ H _ I h=>Constant_none ⟨.non,H,I,rfl,h⟩
theorem pe_str {x j pos}:PE X (.Constant (.str x) j pos) (tC (.str x)):=fun _ _ _ H _ I h=>Calls.Constant_str ⟨.str x,H,I.tok _,⟨_,rfl⟩,h⟩
def Gl (X:Cx) (x:Str):Prop:=X.env.kindOf x=some .globalImplicit
theorem ld_glob {E:ae->ai->Prop} {pins:List (Addr × Obj)} {s:ai} {σ:St} {H:Hp} {x:Str} {u:ae} {pos:Pos} {Q:ae->ai->Prop} (I:Inv X pins σ H s) (hg:Gl X x) (hm:X.mg x=some u) (h:Q u s)
  (hd:(x == ("__debug__" : Str))=false:=by decide):ax (aC X.prog X.w) X.A (eval (.Name x pos) X.env) Q E s :=
 iD I.ok.kind hg (Calls.loadGlobal_global (by rw[I.ok.glob];exact I.mod.glob.keeps I.bk) hm h) hd
theorem ld_blt {E:ae->ai->Prop} {pins:List (Addr × Obj)} {s:ai} {σ:St} {H:Hp} {x:Str} {u:ae} {pos:Pos} {Q:ae->ai->Prop} (I:Inv X pins σ H s) (hg:Gl X x) (hm:X.mg x=none) (hv:bY x=some u) (h:Q u s)
  (hn:x ≠ "__name__":=by decide) (hd:(x == ("__debug__" : Str))=false:=by decide):ax (aC X.prog X.w) X.A (eval (.Name x pos) X.env) Q E s:=by
 obtain⟨mb,h1,h2⟩:=I.mod.blt;exact iD I.ok.kind hg (Calls.loadGlobal_builtin (by rw[I.ok.glob];exact I.mod.glob.keeps I.bk) hm (by rw[I.ok.blt];exact h1.keeps I.bk) ((h2 x hn).trans hv) h) hd
variable {a b:Expr} {ta tb:TE} {pos:Pos}
variable {tA tB':TT} {rest:List Expr}
def tAnd (t u:TT):TT:=fun σ H Q=>t σ H fun c H1=>if c=true then u σ H1 Q else Q false H1
def tOr (t u:TT):TT:=fun σ H Q=>t σ H fun c H1=>if c=true then Q true H1 else u σ H1 Q
def tNot (t:TT):TT:=fun σ H Q=>t σ H fun c H1=>Q (!c) H1
theorem pw_and1 (ha:PT X a tA):PW X (.BoolOp .And [a] pos) tA:=by
 intro wh pins s σ H Q I h;refine isTrue_and (thn (ha pins s σ H Q I h) fun c s1 e=>?_);cases c with
 | true=>exact isTrue_and_nil e
 | false=>exact e
theorem pw_or1 (ha:PT X a tA):PW X (.BoolOp .Or [a] pos) tA:=by
 intro wh pins s σ H Q I h;refine isTrue_or (thn (ha pins s σ H Q I h) fun c s1 e=>?_);cases c with
 | false=>exact isTrue_or_nil e
 | true=>exact e
theorem pw_and (ha:PT X a tA) (hb:PW X (.BoolOp .And (b::rest) pos) tB'):PW X (.BoolOp .And (a::b::rest) pos) (tAnd tA tB'):=by
 intro wh pins s σ H Q I h;refine isTrue_and (thn (ha pins s σ H _ I h) fun c s1 ⟨H1,I1,q1⟩=>?_);cases c with
 | true=>exact hb wh pins s1 σ H1 Q I1 q1
 | false=>exact⟨H1,I1,q1⟩
theorem pw_or (ha:PT X a tA) (hb:PW X (.BoolOp .Or (b::rest) pos) tB'):PW X (.BoolOp .Or (a::b::rest) pos) (tOr tA tB'):=by
 intro wh pins s σ H Q I h;refine isTrue_or (thn (ha pins s σ H _ I h) fun c s1 ⟨H1,I1,q1⟩=>?_);cases c with
 | true=>exact⟨H1,I1,q1⟩
 | false=>exact hb wh pins s1 σ H1 Q I1 q1
theorem pt_not (ha:PT X a tA):PT X (.UnaryOp .Not a pos) (tNot tA):=by
 intro pins s σ H Q I h;exact isTrue_not (ha pins s σ H (fun c H1=>Q (!c) H1) I h)
def tAndV (ta tb:TE):TE:=fun σ H Q=>ta σ H fun x H1=>∃ c,x=.bl c/\if c=true then tb σ H1 Q else Q (.bl false) H1
theorem pe_one {op} {t:TE} (h:PE X a t):PE X (.BoolOp op [a] pos) t:=fun pins s σ H Q I hw=>BoolOp_one (h pins s σ H Q I hw)
theorem pe_and (ha:PE X a ta) (hb:PE X (.BoolOp .And (b::rest) pos) tb):PE X (.BoolOp .And (a::b::rest) pos) (tAndV ta tb):=by
 intro pins s σ H Q I h;refine BoolOp_and (thn (ha pins s σ H _ I h) fun v s1 ⟨x,H1,I1,r1,q1⟩=>?_);obtain⟨c,rfl,q1⟩:=q1;cases r1;refine c6 ?_;cases c with
 | true=>exact hb pins s1 σ H1 Q I1 q1
 | false=>exact⟨.bl false,H1,I1,rfl,q1⟩
def tIf (t:TT) (ta tb:TE):TE:=fun σ H Q=>t σ H fun c H1=>if c=true then ta σ H1 Q else tb σ H1 Q
theorem pe_ifExp {c:Expr} (hc:PT X c tA) (ha:PE X a ta) (hb:PE X b tb):PE X (.IfExp c a b pos) (tIf tA ta tb):=by
 intro pins s σ H Q I h;refine wpAny_IfExp (thn (hc pins s σ H _ I h) fun d s1 ⟨H1,I1,q1⟩=>?_);cases d with
 | true=>exact ha pins s1 σ H1 Q I1 q1
 | false=>exact hb pins s1 σ H1 Q I1 q1
end
def SqL (K:ao) (H:Hp) (a:Addr) (xs:List V):Prop :=
 Rd H a (.lst xs) \/
  ∃ (o:Obj) (its:Array ae) (n:Nat),K.lookup a=some o/\o.cls=.type "list"/\o.dict=none/\o.data=.seq its n/\its.size<=sizeLine/\Vals xs its.toList
def SqT (K:ao) (H:Hp) (a:Addr) (xs:List V):Prop :=
 Rd H a (.tup xs) \/
  ∃ (o:Obj) (its:Array ae) (n:Nat),K.lookup a=some o/\o.cls=.type "tuple"/\o.dict=none/\o.data=.seq its n/\its.size<=sizeLine/\Vals xs its.toList
def absV:ae->Option V
 | .none=>some .non
 | .bool b=>some (.bl b)
 | .int i _=>some (.int i)
 | .str x _=>some (.str x)
 | .bytes b _=>some (.byt b)
 | .float b _=>some (.flt b)
 | .ref a=>some (.ref a)
 | .type n=>some (.ty n)
 | _=>none
theorem RelV.abs {x:V} {u:ae} (r:RelV x u):absV u=some x:=by
 cases x with
 | non=>cases r;rfl
 | bl _=>cases r;rfl
 | int _=>obtain⟨t,rfl⟩:=r;rfl
 | str _=>obtain⟨t,rfl⟩:=r;rfl
 | byt _=>obtain⟨t,rfl⟩:=r;rfl
 | flt _=>obtain⟨t,rfl⟩:=r;rfl
 | ref _=>cases r;rfl
 | ty _=>cases r;rfl
theorem RelV.inj {x y:V} {u:ae} (r:RelV x u) (q:RelV y u):x=y:=aJ (r.abs.symm.trans q.abs)
theorem Vals.inj:∀ {xs ys:List V} {us:List ae},Vals xs us->Vals ys us->xs=ys
 | _,_,_,.nil,.nil=>rfl
 | _,_,_,.cons r t,.cons r' t'=>by rw[r.inj r',Vals.inj t t']
section
variable {X:Cx} {pins:List (Addr × Obj)} {σ:St} {H:Hp} {s:ai} {a:Addr} {xs ys:List V}
theorem SqL.of {K:ao} (h:H a=some (.lst xs)):SqL K H a xs:=.inl (.inl h)
theorem Inv.list (I:Inv X pins σ H s) (h:SqL X.K H a xs):∃ its:List ae,Vals xs its/\PlainL s.heap a its.toArray/\xs.length<=sizeLine:=by
 rcases h with h | ⟨o,its,n,hk,hc,hd,hs,hz,r⟩
 ·obtain⟨z,its,n,r,e⟩:=h.ok I.hok;exact⟨its,r,⟨_,n,e,rfl,rfl,rfl⟩,z⟩
 ·refine⟨its.toList,r,⟨o,n,I.kIn a o hk,hc,hd,by simpa using hs⟩,?_⟩
  have e:=r.length;simp only[b9] at e;omega
theorem Inv.tuple (I:Inv X pins σ H s) (h:SqT X.K H a xs):∃ its:List ae,Vals xs its/\gX s.heap a its.toArray/\xs.length<=sizeLine:=by
 rcases h with h | ⟨o,its,n,hk,hc,_,hs,hz,r⟩
 ·obtain⟨z,its,r,p,_⟩:=h.ok I.hok;exact⟨its,r,p,z⟩
 ·refine⟨its.toList,r,⟨o,I.kIn a o hk,hc,n,by simpa using hs⟩,?_⟩
  have e:=r.length;simp only[b9] at e;omega
theorem Inv.list_inj (I:Inv X pins σ H s) (h:SqL X.K H a xs) (h':SqL X.K H a ys):xs=ys:=by
 obtain⟨its,r,⟨o,n,e,_,_,d⟩,_⟩:=I.list h;obtain⟨its',r',⟨o',n',e',_,_,d'⟩,_⟩:=I.list h';rw[e] at e';cases e';rw[d] at d';injection d' with d1 _
 have:its=its':=by simpa using congrArg Array.toList d1
 subst this;exact r.inj r'
theorem Inv.tuple_inj (I:Inv X pins σ H s) (h:SqT X.K H a xs) (h':SqT X.K H a ys):xs=ys:=by
 obtain⟨its,r,⟨o,e,_,n,d⟩,_⟩:=I.tuple h;obtain⟨its',r',⟨o',e',_,n',d'⟩,_⟩:=I.tuple h';rw[e] at e';cases e';rw[d] at d';injection d' with d1 _
 have:its=its':=by simpa using congrArg Array.toList d1
 subst this;exact r.inj r'
end
abbrev Cx.wish (X:Cx) (E:ae->ai->Prop):Cx:={ X with xe:=E }
abbrev Cx.nox (X:Cx):Cx:=X.wish fun _ _=>False
theorem Cx.Ok.wish {X:Cx} (ok:X.Ok) (E:ae->ai->Prop):(X.wish E).Ok :=
 ⟨ok.mod,ok.kind,ok.glob,ok.blt,ok.above,ok.inj,ok.has,ok.cab,ok.hd,ok.frames,ok.gd,ok.stk,ok.exf,ok.bs,ok.bsz,ok.noex,ok.exfs,ok.funs,ok.frf⟩
theorem Cx.Ok.unwish {X:Cx} {E:ae->ai->Prop} (ok:(X.wish E).Ok):X.Ok :=
 ⟨ok.mod,ok.kind,ok.glob,ok.blt,ok.above,ok.inj,ok.has,ok.cab,ok.hd,ok.frames,ok.gd,ok.stk,ok.exf,ok.bs,ok.bsz,ok.noex,ok.exfs,ok.funs,ok.frf⟩
section
variable {X:Cx} {pins:List (Addr × Obj)} {σ:St} {H:Hp} {s:ai} {E:ae->ai->Prop}
theorem Inv.wish (I:Inv X pins σ H s) (E:ae->ai->Prop):Inv (X.wish E) pins σ H s:=⟨I.ok.wish E,I.os,I.bare,I.base,I.loc,I.cell,I.free,I.freeC,I.pin,I.hok,I.len⟩
theorem Inv.unwish (I:Inv (X.wish E) pins σ H s):Inv X pins σ H s:=⟨I.ok.unwish,I.os,I.bare,I.base,I.loc,I.cell,I.free,I.freeC,I.pin,I.hok,I.len⟩
theorem SP.unwish {D:Ends} {f:Flow} {s':ai} (h:SP (X.wish E) pins D f s'):SP X pins D f s':=by
 cases f with
 | next=>obtain⟨σ',H',I,q⟩:=h;exact⟨σ',H',I.unwish,q⟩
 | brk=>obtain⟨σ',H',I,q⟩:=h;exact⟨σ',H',I.unwish,q⟩
 | cont=>obtain⟨σ',H',I,q⟩:=h;exact⟨σ',H',I.unwish,q⟩
 | ret u=>obtain⟨v,σ',H',I,r,q⟩:=h;exact⟨v,σ',H',I.unwish,r,q⟩
theorem PT.nox {e:Expr} {t:TT} (h:PT X.nox e t):PT X e t:=fun pins s σ H Q I hw =>
 dP (h pins s σ H Q (I.wish _) hw) (fun _ _ ⟨H',I',q⟩=>⟨H',I'.unwish,q⟩) fun _ _ z=>cN z
theorem PSs.nox {st:List Stmt} {t:TS} (h:PSs X.nox st t):PSs X st t:=fun pins s σ H D I hw =>
 dP (h pins s σ H D (I.wish _) hw) (fun _ _ q=>q.unwish) fun _ _ z=>cN z
end
section
variable {X:Cx} {st:Stmt} {rest:List Stmt} {t u:TS} {e:Expr} {te:TE} {pos:Pos}
def tNext:TS:=fun D σ H=>D.nx σ H
def tSeq (t u:TS):TS:=fun D σ H=>t { D with nx:=u D } σ H
theorem pss_nil:PSs X [] tNext:=fun _ _ σ H _ I h=>g8 ⟨σ,H,I,h⟩
theorem pss_cons (h1:PS X st t) (h2:PSs X rest u):PSs X (st::rest) (tSeq t u):=by
 intro pins s σ H D I h;refine wpAny_execs_cons (thn (h1 pins s σ H { D with nx:=u D } I h) fun f s1 q=>?_)
 cases f with
 | next =>
  obtain⟨σ',H',I',q⟩:=q;exact h2 pins s1 σ' H' D I' q
 | ret v=>exact q
 | brk=>exact q
 | cont=>exact q
theorem pss_one (h1:PS X st t):PSs X [st] t:=by
 intro pins s σ H D I h;refine wpAny_execs_cons (thn (h1 pins s σ H D I h) fun f s1 q=>?_);cases f with
 | next=>exact g8 q
 | ret v=>exact q
 | brk=>exact q
 | cont=>exact q
theorem Inv.quiet {pins:List (Addr × Obj)} {σ:St} {H:Hp} {s:ai} (I:Inv X pins σ H s):interactive X.env=false:=by simp[interactive,I.ok.kind]
def tDrop (te:TE):TS:=fun D σ H=>te σ H fun _ H1=>D.nx σ H1
theorem ps_expr (he:PE X e te) (hs:gI e none pos.line X.env=pure false:=by rfl):PS X (.Expr e pos) (tDrop te):=by
 intro pins s σ H D I h;exact wpAny_Expr_any (thn (he pins s σ H _ I h) fun v s1 ⟨x,H1,I1,r1,q1⟩=>⟨σ,H1,I1,q1⟩) I.quiet hs
def tRet (te:TE):TS:=fun D σ H=>te σ H D.rt
theorem ps_ret (he:PE X e te):PS X (.Return (some e) pos) (tRet te):=by
 intro pins s σ H D I h;exact wpAny_Return_some (thn (he pins s σ H _ I h) fun v s1 ⟨x,H1,I1,r1,q1⟩=>⟨x,σ,H1,I1,r1,q1⟩)
def tIfS (c:TT) (t u:TS):TS:=fun D σ H=>c σ H fun b H1=>if b=true then t D σ H1 else u D σ H1
theorem ps_if {c:Expr} {a b:List Stmt} {tc:TT} (hc:PT X c tc) (ha:PSs X a t) (hb:PSs X b u):PS X (.If c a b pos) (tIfS tc t u):=by
 intro pins s σ H D I h;refine wpAny_If (thn (hc pins s σ H _ I h) fun d s1 ⟨H1,I1,q1⟩=>?_);cases d with
 | true=>exact ha pins s1 σ H1 D I1 q1
 | false=>exact hb pins s1 σ H1 D I1 q1
end
abbrev TG:=V->St->Hp->(St->Hp->Prop)->Prop
abbrev TGs:=List V->St->Hp->(St->Hp->Prop)->Prop
def PG (X:Cx) (target:Expr) (t:TG):Prop :=
 ∀ (pins:List (Addr × Obj)) (s:ai) (σ:St) (H:Hp) (v:V) (u:ae) (Q:St->Hp->Prop),Inv X pins σ H s->RelV v u->t v σ H Q ->
  ax (aC X.prog X.w) X.A (jI target X.env u) (fun _ s'=>∃ σ' H',Inv X pins σ' H' s'/\Q σ' H') X.xe s
def PGs (X:Cx) (ts:List Expr) (t:TGs):Prop :=
 ∀ (pins:List (Addr × Obj)) (s:ai) (σ:St) (H:Hp) (vs:List V) (us:List ae) (Q:St->Hp->Prop),Inv X pins σ H s->Vals vs us->t vs σ H Q ->
  ax (aC X.prog X.w) X.A (assignInOrder ((eK ts X.env).map (·.2)) us) (fun _ s'=>∃ σ' H',Inv X pins σ' H' s'/\Q σ' H') X.xe s
abbrev TSet:=V->V->V->Hp->(Hp->Prop)->Prop
def PSet (X:Cx) (t:TSet):Prop :=
 ∀ (pins:List (Addr × Obj)) (s:ai) (σ:St) (H:Hp) (o i v:V) (ov iv u:ae) (Q:Hp->Prop),Inv X pins σ H s->RelV o ov->RelV i iv->RelV v u->t o i v H Q ->
  ax (aC X.prog X.w) X.A (setItem ov iv u) (fun _ s'=>∃ H',Inv X pins σ H' s'/\Q H') X.xe s
section
variable {X:Cx} {pos:Pos}
def gName (i:Nat):TG:=fun v σ H Q=>Q (σ.set i (some v)) H
theorem pg_name {i:Nat} {x:Str} (hN:X.N.Nodup) (hi:X.N[i]?=some x) (hx:Loc X.env.scope x) (hf:X.fn x=true\/X.env.scope.names.lookup x=some .local:=by first | exact .inl rfl | exact .inr rfl | assumption):PG X (.Name x pos) (gName i):=by
 intro pins s σ H v u Q I r h;exact wpAny_assign_Name (store_ok I hN hi hx r (fun s' I'=>⟨_,H,I',h⟩) hf)
def gNil:TGs:=fun vs σ H Q=>vs=[]/\Q σ H
def gCons (t:TG) (u:TGs):TGs:=fun vs σ H Q=>∃ v r,vs=v::r/\t v σ H fun σ' H'=>u r σ' H' Q
theorem pgs_nil:PGs X [] gNil:=by
 intro pins s σ H vs us Q I r h;obtain⟨e,h⟩:=h;subst e;cases r;exact assignInOrder_nil ⟨σ,H,I,h⟩
theorem pgs_cons {e:Expr} {es:List Expr} {t:TG} {u:TGs} (h1:PG X e t) (h2:PGs X es u)
  (hs:(eK (e::es) X.env).map (·.2)=jI e X.env::(eK es X.env).map (·.2):=by rfl):PGs X (e::es) (gCons t u):=by
 intro pins s σ H vs us Q I r h;obtain⟨v,vr,e1,h⟩:=h;subst e1;cases r with
 | cons r rr =>
  rw[hs];refine assignInOrder_cons (thn (h1 pins s σ H _ _ _ I r h) fun _ s1 ⟨σ1,H1,I1,q1⟩=>?_);exact h2 pins s1 σ1 H1 _ _ Q I1 rr q1
def gTup (K:ao) (n:Nat) (t:TGs):TG:=fun v σ H Q=>∃ a xs,v=.ref a/\SqT K H a xs/\xs.length=n/\t xs σ H Q
theorem pg_tup {es:List Expr} {k:Nat} {t:TGs} {n:Nat} (hc:X.calm=true) (h:PGs X es t)
  (hn:(eK es X.env).length=n:=by rfl) (hst:(eK es X.env).findIdx? (·.1)=none:=by rfl):PG X (.Tuple es k pos) (gTup X.K n t):=by
 intro pins s σ H v u Q I r hw;obtain⟨a,xs,e1,hq,hl,hw⟩:=hw;subst e1;cases r;obtain⟨its,rv,ht,hz⟩:=I.tuple hq;refine assign_Tuple_tuple (I.ok.hd hc) ht (by simp[hn,<- hl,rv.length]) hst fun h' hx=>?_
 have I1:Inv X pins σ H { s with heap:=h' }:=I.kept (t':=s.toks) fun b o e=>hx b o (aH (ay e)) e
 exact h pins _ σ H xs _ Q I1 (by simpa using rv) hw
def gSub (to ti:TE) (t:TSet):TG:=fun v σ H Q=>to σ H fun o H1=>ti σ H1 fun i H2=>t o i v H2 fun H3=>Q σ H3
theorem pg_sub {o i:Expr} {to ti:TE} {t:TSet} (ho:PE X o to) (hi:PE X i ti) (hs:PSet X t)
  (ha:∀ v,jI (.Subscript o i pos) X.env v=(do
   let ov <- eO [v] (eval o X.env)
   let iv <- eO [v,ov] (eval i X.env)
   fI pos
   eO [v,ov,iv] (setItem ov iv v)
   release [v,ov,iv] []):=by intro _;rfl):PG X (.Subscript o i pos) (gSub to ti t):=by
 intro pins s σ H v u Q I r h;rw[ha];refine ad (bB (thn (ho pins s σ H _ I h) fun ov s1 ⟨x,H1,I1,r1,q1⟩=>?_));refine ad (bB (thn (hi pins s1 σ H1 _ I1 q1) fun iv s2 ⟨y,H2,I2,r2,q2⟩=>?_));refine ad (gS (ad (bB (thn (hs pins s2 σ H2 x y v ov iv u _ I2 r1 r2 r q2) fun _ s3 ⟨H3,I3,q3⟩=>?_))));exact wpAny_release ⟨σ,H3,I3,q3⟩
def tAsg (te:TE) (g:TG):TS:=fun D σ H=>te σ H fun x H1=>g x σ H1 D.nx
theorem ps_asg {tg e:Expr} {te:TE} {g:TG} (he:PE X e te) (hg:PG X tg g) (hs:swapsWithSole [tg] e pos.line X.env=pure false:=by rfl) (hw:swappedStores [tg] e X.env=pure none:=by rfl)
  (h1:(eK [tg] X.env).map (·.2)=[jI tg X.env]:=by rfl):PS X (.Assign [tg] e pos) (tAsg te g):=by
 intro pins s σ H D I h;refine wpAny_Assign_stores (thn (he pins s σ H _ I h) fun v s1 ⟨x,H1,I1,r1,q1⟩=>?_) hs hw;rw[h1];exact thn (hg pins s1 σ H1 x v _ I1 r1 q1) fun _ s2 q=>q
theorem ps_set {i:Nat} {x:Str} {e:Expr} {te:TE} {pos':Pos} (hN:X.N.Nodup) (hi:X.N[i]?=some x) (hx:Loc X.env.scope x) (he:PE X e te) (hs:gI e (some (.Name x pos')) pos.line X.env=pure false:=by rfl) (hf:X.fn x=true\/X.env.scope.names.lookup x=some .local:=by first | exact .inl rfl | exact .inr rfl | assumption) :
  PS X (.Assign [.Name x pos'] e pos) (tAsg te (gName i)):=by
 intro pins s σ H D I h;refine wpAny_Assign_Name (thn (he pins s σ H _ I h) fun v s1 ⟨y,H1,I1,r1,q1⟩=>?_) hs;exact store_ok I1 hN hi hx r1 (fun s2 I2=>⟨_,H1,I2,q1⟩) hf
end
section
variable {X:Cx} {pos:Pos}
def tWhile (c:TT) (tb:TS):TS:=fun D σ H=>∃ W:Nat->St->Hp->Prop,(∃ m,W m σ H)/\∀ m σ H,W m σ H ->
 c σ H fun b H1=>if b=true then ∃ N:St->Hp->Prop,(∀ σ' H',N σ' H'->∃ m',m' < m/\W m' σ' H')/\tb { D with nx:=N,ct:=N,bk:=D.nx } σ H1 else D.nx σ H1
theorem ps_while {c:Expr} {body:List Stmt} {tc:TT} {tb:TS} (hp:PassesOwn (aC X.prog X.w) X.A X.env X.xe) (hc:PT X c tc) (hb:PSs X body tb):PS X (.While c body [] pos) (tWhile tc tb):=by
 intro pins s σ H D I h;obtain⟨W,⟨m0,w0⟩,turn⟩:=h;refine wpAny_While (codeAny_whileLoop (fun n s'=>∃ σ' H',Inv X pins σ' H' s'/\W n σ' H') ?_ m0 ⟨σ,H,I,w0⟩);rintro n s1 ⟨σ1,H1,I1,w1⟩;refine er hp (thn (hc pins s1 σ1 H1 _ I1 (turn n σ1 H1 w1)) fun b s2 ⟨H2,I2,q2⟩=>?_);cases b with
 | true =>
  obtain⟨N,hN,q2⟩:=q2;rw[if_pos rfl];refine er hp (thn (hb pins s2 σ1 H2 _ I2 q2) fun f s3 q3=>?_);cases f with
  | next =>
   obtain⟨σ3,H3,I3,n3⟩:=q3;obtain⟨m',hm,w3⟩:=hN σ3 H3 n3;exact⟨m',hm,σ3,H3,I3,w3⟩
  | cont =>
   obtain⟨σ3,H3,I3,n3⟩:=q3;obtain⟨m',hm,w3⟩:=hN σ3 H3 n3;exact⟨m',hm,σ3,H3,I3,w3⟩
  | brk=>exact q3
  | ret v=>exact q3
 | false =>
  rw[if_neg aS];exact g8 ⟨σ1,H2,I2,q2⟩
end
structure It where
 go:Nat->Hp->Prop
 yld:Nat->Hp->V->Hp->Prop
 stop:Nat->Hp->Prop
def FpOk (X:Cx) (pins:List (Addr × Obj)) (H:Hp) (b:Addr):Prop :=
 H b=none/\b≠X.env.locals/\b∉X.fs/\(b∈X.ex\/X.s₀.heap.objs.size<=b)/\(∀ x c,X.env.cells.lookup x=some c->c≠b)/\∀ p∈X.pn++pins,p.1≠b
theorem Inv.fpOk {X:Cx} {pins:List (Addr × Obj)} {σ:St} {H H':Hp} {s:ai} {b:Addr} (I:Inv X pins σ H s) (hb:s.heap.objs.size<=b) (hn:H' b=none):FpOk X pins H' b:=by
 refine⟨hn,ip (a8 I.lt hb),I.nofs hb,.inr (aV I.sz hb),fun x c e z=>?_,fun p hp z=>?_⟩
 ·obtain⟨v,q⟩:=I.cell x c e;exact absurd (a8 q.lt (by rw[z];exact hb)) (cy _)
 ·exact absurd (a8 (ay (I.pin p hp).1) (by rw[z];exact hb)) (cy _)
structure Turn (P:aD) (w:aK) (K:ao) (tg:Expr) (J:It) (fp:List Addr) (it:Addr) (tn:Nat->aW->Prop):Prop where
 mem:it∈fp
 obj:∀ i h,tn i h->∀ b∈fp,∃ o,h.get? b=some o/\∀ v,o.data≠.cell v
 keep:∀ i h h',tn i h->(∀ b∈fp,∀ o,h.get? b=some o->h'.get? b=some o)->tn i h'
 item:∀ (X:Cx),X.prog=P->X.w=w->X.K=K->X.calm=true->∀ (i:Nat) (pins:List (Addr × Obj)) (s:ai) (σ:St) (H:Hp) (E:ae->ai->Prop),Inv X pins σ H s->(∀ b∈fp,FpOk X pins H b)->tn i s.heap->J.go i H ->
  ax (aC P w) X.A (fq (.ref it)) (fun r s1=>∃ u,r=some u /\
   ax (aC P w) X.A (ff tg (.ref it) u) (fun _ s2=>∃ x H',Inv X pins σ H' s2/\RelV x u/\J.yld i H x H'/\tn (i + 1) s2.heap/\∀ b∈fp,H' b=none) E s1) E s
 done:∀ (X:Cx),X.prog=P->X.w=w->X.K=K->X.calm=true->∀ (i:Nat) (pins:List (Addr × Obj)) (s:ai) (σ:St) (H:Hp) (E:ae->ai->Prop),Inv X pins σ H s->(∀ b∈fp,FpOk X pins H b)->tn i s.heap->J.stop i H ->
  ax (aC P w) X.A (fq (.ref it)) (fun r s1=>r=none/\Inv X pins σ H s1) E s
 self:∀ (A:aQ) (i:Nat) (s:ai) (Q:ae->ai->Prop) (E:ae->ai->Prop),tn i s.heap->Q (.ref it) s->ax (aC P w) A (je (.ref it)) Q E s
abbrev TI:=St->Hp->(It->Hp->Prop)->Prop
def PIE (X:Cx) (pins:List (Addr × Obj)) (σ:St) (tg:Expr) (R:It->Hp->Prop) (itv:ae) (s2:ai):Prop :=
 ∃ (it:Addr) (fp:List Addr) (tn:Nat->aW->Prop) (J:It) (H':Hp),itv=.ref it/\Inv X pins σ H' s2/\Turn X.prog X.w X.K tg J fp it tn/\tn 0 s2.heap/\(∀ b∈fp,FpOk X pins H' b)/\R J H'
def PI (X:Cx) (tg iter:Expr) (wi:TI):Prop :=
 ∀ (pins:List (Addr × Obj)) (s:ai) (σ:St) (H:Hp) (R:It->Hp->Prop),Inv X pins σ H s->wi σ H R ->
  ax (aC X.prog X.w) X.A (eval iter X.env) (fun v s1=>ax (aC X.prog X.w) X.A (je v) (PIE X pins σ tg R) X.xe s1) X.xe s
theorem go_of {M : Model} {A : aQ} {E : ae -> ai -> Prop} {s : ai} {tg : Expr} {it : Addr} {u : ae} {o : Obj} {n : String} {vs : Array ae} {Q : Unit -> ai -> Prop} (ho : s.heap.get? it = some o) (hc : o.cls = .type n) (hd : o.data = .fields vs)
    (hn : ["enumerate", "zip", "dict_itemiterator", "dict_reverseitemiterator", "odict_iterator", "itertools.zip_longest", "itertools.pairwise"].contains n = false) (hQ : Q () s) : ax M A (ff tg (.ref it) u) Q E s := by
  unfold ff;cases tg <;> first
    | exact af hQ
    | (cases u <;> first
        | exact af hQ
        | (refine ad (wpAny_load ho ?_)
           rw [hc, hd];show ax M A (if (["enumerate", "zip", "dict_itemiterator", "dict_reverseitemiterator", "odict_iterator", "itertools.zip_longest", "itertools.pairwise"].contains n && vs[0]? == some (fD _)) = true then _ else _) Q E s
           rw [if_neg (by intro h; rw [hn, Bool.false_and] at h; cases h)]
           exact af hQ))
def Itl (K:ao) (a:Addr):It :=
 ⟨fun i H=>∃ xs x,SqL K H a xs/\xs[i]?=some x,fun i H x H'=>H'=H/\∀ xs,SqL K H a xs->xs[i]?=some x,fun i H=>∃ xs,SqL K H a xs/\xs.length<=i⟩
def Itt (K:ao) (a:Addr):It :=
 ⟨fun i H=>∃ xs x,SqT K H a xs/\xs[i]?=some x,fun i H x H'=>H'=H/\∀ xs,SqT K H a xs->xs[i]?=some x,fun i H=>∃ xs,SqT K H a xs/\xs.length<=i⟩
def Itr (lo:Int) (n:Nat):It:=⟨fun i _=>i < n,fun i H x H'=>H'=H/\x=.int (lo + i),fun i _=>n<=i⟩
theorem turn_list {P:aD} {w:aK} {K:ao} {tg:Expr} (a it:Addr):Turn P w K tg (Itl K a) [it] it (fun i h=>h.IsListIter it a i) where
 mem:=by simp
 obj:=fun i h st b hb=>by
  have e:b=it:=by simpa using hb
  subst e;obtain⟨o,e,c,d⟩:=st;exact⟨o,e,fun v z=>by rw[d] at z;cases z⟩
 keep:=fun i h h' st k=>st.at fun o e=>k it (by simp) o e
 item:=by
  intro X hP hw hK hc i pins s σ H E I hf st hg;subst hP hw hK;obtain⟨xs,x,hq,hx⟩:=hg;obtain⟨its,rv,p,hz⟩:=I.list hq;obtain⟨u,hu,ru⟩:=rv.get hx;obtain⟨f0,f1,f2,f3,f4,f5⟩:=hf it (by simp)
  refine wpAny_pyNext_list_item st p.isList (x:=u) (by simpa using hu) fun h' st' sb=>?_
  have I1:Inv X pins σ H { s with heap:=h' }:=I.turned (t':=s.toks) (fun b o hb e=>(sb.2 b hb).trans e) f0 f1 f3 f4 f5
  obtain⟨o,e,c,d⟩:=id st';exact⟨u,rfl,go_of (s:={ s with heap:=h' }) e c d (by decide) ⟨x,H,I1,ru,⟨rfl,fun ys hy=>by rw[I.list_inj hy hq];exact hx⟩,st',fun b hb=>(hf b hb).1⟩⟩
 done:=by
  intro X hP hw hK hc i pins s σ H E I hf st hg;subst hP hw hK;obtain⟨xs,hq,hx⟩:=hg;obtain⟨its,rv,p,hz⟩:=I.list hq;obtain⟨f0,f1,f2,f3,f4,f5⟩:=hf it (by simp)
  have hl:=rv.length;exact wpAny_pyNext_list_end (I.ok.hd hc) st p.isList (by simp;omega) fun h' eb=>⟨rfl,I.turned (t':=s.toks) (fun b o hb e=>eb b o hb e) f0 f1 f3 f4 f5⟩
 self:=fun _ _ _ _ _ st h=>wpAny_pyIter_listiter st h
theorem turn_tuple {P:aD} {w:aK} {K:ao} {tg:Expr} (a it:Addr):Turn P w K tg (Itt K a) [it] it (fun i h=>h.IsTupleIter it a i) where
 mem:=by simp
 obj:=fun i h st b hb=>by
  have e:b=it:=by simpa using hb
  subst e;obtain⟨o,e,c,d⟩:=st;exact⟨o,e,fun v z=>by rw[d] at z;cases z⟩
 keep:=fun i h h' st k=>st.at fun o e=>k it (by simp) o e
 item:=by
  intro X hP hw hK hc i pins s σ H E I hf st hg;subst hP hw hK;obtain⟨xs,x,hq,hx⟩:=hg;obtain⟨its,rv,p,hz⟩:=I.tuple hq;obtain⟨u,hu,ru⟩:=rv.get hx;obtain⟨f0,f1,f2,f3,f4,f5⟩:=hf it (by simp)
  refine wpAny_pyNext_tuple_item st (show s.heap.IsTuple a its.toArray from p) (x:=u) (by simpa using hu) fun h' st' sb=>?_
  have I1:Inv X pins σ H { s with heap:=h' }:=I.turned (t':=s.toks) (fun b o hb e=>(sb.2 b hb).trans e) f0 f1 f3 f4 f5
  obtain⟨o,e,c,d⟩:=id st';exact⟨u,rfl,go_of (s:={ s with heap:=h' }) e c d (by decide) ⟨x,H,I1,ru,⟨rfl,fun ys hy=>by rw[I.tuple_inj hy hq];exact hx⟩,st',fun b hb=>(hf b hb).1⟩⟩
 done:=by
  intro X hP hw hK hc i pins s σ H E I hf st hg;subst hP hw hK;obtain⟨xs,hq,hx⟩:=hg;obtain⟨its,rv,p,hz⟩:=I.tuple hq;obtain⟨f0,f1,f2,f3,f4,f5⟩:=hf it (by simp)
  have hl:=rv.length;exact wpAny_pyNext_tuple_end (I.ok.hd hc) st (show s.heap.IsTuple a its.toArray from p) (by simp;omega) fun h' eb=>⟨rfl,I.turned (t':=s.toks) (fun b o hb e=>eb b o hb e) f0 f1 f3 f4 f5⟩
 self:=fun _ _ _ _ _ st h=>wpAny_pyIter_tupleiter st h
theorem turn_range {P:aD} {w:aK} {K:ao} {tg:Expr} (it:Addr) (lo:Int) (n:Nat):Turn P w K tg (Itr lo n) [it] it (fun i h=>IsRangeIter h it (lo + (i:Nat) * 1) ((n:Int) - (i:Nat)) 1) where
 mem:=by simp
 obj:=fun i h st b hb=>by
  have e:b=it:=by simpa using hb
  subst e;exact⟨_,st,fun v z=>by
   have z':Data.fields _=Data.cell v:=z;cases z'⟩
 keep:=fun i h h' st k=>k it (by simp) _ st
 item:=by
  intro X hP hw hK hc i pins s σ H E I hf st hg;subst hP hw hK;obtain⟨f0,f1,f2,f3,f4,f5⟩:=hf it (by simp)
  have W:=Walks.range (prog:=X.prog) (w:=X.w) (I.ok.hd hc) it lo 1 n;refine W.item i s _ _ hg st fun v h' tk hv st' kk=>?_;obtain⟨t,rfl⟩:=hv;have I1:Inv X pins σ H { s with heap:=h',toks:=tk }:=I.turned (fun b o hb e=>kk b o (by simpa using hb) e) f0 f1 f3 f4 f5
  refine⟨_,rfl,go_of (s:={ s with heap:=h',toks:=tk }) (n := "range_iterator") st' rfl rfl (by decide) ⟨.int (lo + i),H,I1,⟨t,?_⟩,⟨rfl,rfl⟩,st',fun b hb=>(hf b hb).1⟩⟩
  rw[Int.mul_one]
 done:=by
  intro X hP hw hK hc i pins s σ H E I hf st hg;subst hP hw hK;obtain⟨f0,f1,f2,f3,f4,f5⟩:=hf it (by simp)
  exact wpAny_pyNext_range_end (I.ok.hd hc) st (by have:n<=i:=hg;omega) fun h' eb=>⟨rfl,I.turned (t':=s.toks) (fun b o hb e=>eb b o hb e) f0 f1 f3 f4 f5⟩
 self:=fun _ _ _ _ _ st h=>wpAny_pyIter_rangeiter st h
section
variable {X:Cx} {tg:Expr}
theorem range_it {pins:List (Addr × Obj)} {σ:St} {H:Hp} {s:ai} {R:It->Hp->Prop} {E:ae->ai->Prop} {lo hi:Int} {t u v:Tok} {tk:Nat} (I:Inv X pins σ H s) (h1:-(2 ^ 62)<=lo) (h2:lo < 2 ^ 62) (h3:-(2 ^ 62)<=hi) (h4:hi < 2 ^ 62)
  (q:R (Itr lo (hi - lo).toNat) H):ax (aC X.prog X.w) X.A (je (.ref s.heap.objs.size)) (PIE X pins σ tg R) E { s with heap:=s.heap.push { cls:=.type "range",data:=.fields #[.int lo t,.int hi u,.int 1 v] },toks:=tk }:=by
 refine wpAny_pyIter_range (IsRange.new ..) (small_one h1 h2 h3 h4) ?_;have I1:Inv X pins σ H { s with heap:=s.heap.push { cls:=.type "range",data:=.fields #[.int lo t,.int hi u,.int 1 v] },toks:=tk }:=I.kept fun b o e=>ah _ e
 refine⟨(s.heap.push { cls:=.type "range",data:=.fields #[.int lo t,.int hi u,.int 1 v] }).objs.size,[(s.heap.push { cls:=.type "range",data:=.fields #[.int lo t,.int hi u,.int 1 v] }).objs.size],_,_,H,rfl,
  I1.kept (t':=tk) fun b o e=>ah _ e,turn_range _ lo (hi - lo).toNat,?_,fun b hb=>?_,q⟩
 ·have e1:lo + ((0:Nat):Int) * 1=lo:=by simp
  have e2:(((hi - lo).toNat:Nat):Int) - ((0:Nat):Int)=cP.Range.rangeSize lo hi 1:=by rw[rangeSize_one];split <;> omega
  show IsRangeIter _ _ (lo + ((0:Nat):Int) * 1) ((((hi - lo).toNat:Nat):Int) - ((0:Nat):Int)) 1;rw[e1,e2];exact aw _ rfl
 ·have e:b=(s.heap.push { cls:=.type "range",data:=.fields #[.int lo t,.int hi u,.int 1 v] }).objs.size:=by simpa using hb
  subst e;exact I1.fpOk (ar _) (I1.hok.fresh (ar _))
def iRng1 (ta:TA):TI:=fun σ H R=>ta σ H fun vs H1=>∃ j:Int,vs=[.int j]/\-(2 ^ 62)<=j/\j < 2 ^ 62/\R (Itr 0 j.toNat) H1
def iRng2 (ta:TA):TI:=fun σ H R=>ta σ H fun vs H1=>∃ i j:Int,vs=[.int i,.int j]/\(-(2 ^ 62)<=i/\i < 2 ^ 62/\-(2 ^ 62)<=j/\j < 2 ^ 62)/\R (Itr i (j - i).toNat) H1
theorem pi_range1 {a:Expr} {ta:TA} {p pos:Pos} (hg:Gl X "range") (hm:X.mg "range" = none) (ha:PA X [a] ta) (hs:au [a] X.env=[(false,eval a X.env)]:=by rfl):PI X tg (.Call (.Name "range" p) [a] [] pos) (iRng1 ta):=by
 intro pins s σ H R I h;refine Call_ (ld_blt I hg hm boot_range (dR (thn (ha pos pins s σ H _ I h) fun us s1 ⟨vs,H1,I1,r1,q1⟩=>?_) hs rfl));obtain⟨j,e,q1,q2,q⟩:=q1;subst e;cases r1 with
 | cons r rr =>
  cases rr;obtain⟨t,rfl⟩:=r;exact call_range_1 (range_it I1 (by omega) (by omega) q1 q2 (by simpa using q))
theorem pi_range2 {a b:Expr} {ta:TA} {p pos:Pos} (hg:Gl X "range") (hm:X.mg "range" = none) (ha:PA X [a,b] ta) (hs:au [a,b] X.env=[(false,eval a X.env),(false,eval b X.env)]:=by rfl) (hs2:au [b] X.env=[(false,eval b X.env)]:=by rfl) :
  PI X tg (.Call (.Name "range" p) [a,b] [] pos) (iRng2 ta):=by
 intro pins s σ H R I h;refine Call_ (ld_blt I hg hm boot_range (dR (thn (ha pos pins s σ H _ I h) fun us s1 ⟨vs,H1,I1,r1,q1⟩=>?_) (by rw[hs,hs2]) (by rw[hs2];rfl)))
 obtain⟨i,j,e,⟨q1,q2,q3,q4⟩,q⟩:=q1;subst e;cases r1 with
 | cons r rr =>
  cases rr with
  | cons r' rr =>
   cases rr;obtain⟨t,rfl⟩:=r;obtain⟨t',rfl⟩:=r';exact call_range_2 (range_it I1 q1 q2 q3 q4 q)
def tFor (wi:TI) (g:TG) (tb:TS):TS:=fun D σ H=>wi σ H fun J H1=>∃ W:Nat->Nat->St->Hp->Prop,(∃ m,W 0 m σ H1)/\∀ i m σ H,W i m σ H ->
 (J.stop i H/\D.nx σ H)\/(J.go i H/\∃ N:St->Hp->Prop,(∀ σ' H',N σ' H'->∃ m',m' < m/\W (i + 1) m' σ' H')/\∀ x H',J.yld i H x H'->g x σ H' fun σ2 H2=>tb { D with nx:=N,ct:=N,bk:=D.nx } σ2 H2)
def pinsAt (fp:List Addr) (h:aW):List (Addr × Obj):=fp.filterMap fun b=>(h.get? b).map fun o=>(b,o)
theorem mem_pinsAt {fp:List Addr} {h:aW} {b:Addr} {o:Obj} (hb:b∈fp) (e:h.get? b=some o):(b,o)∈pinsAt fp h:=cW.mpr ⟨b,hb,by rw[e];rfl⟩
theorem of_pinsAt {fp:List Addr} {h:aW} {p:Addr × Obj} (hp:p∈pinsAt fp h):p.1∈fp/\h.get? p.1=some p.2:=by
 obtain⟨b,hb,e⟩:=cW.mp hp;cases q:h.get? b with
 | none=>rw[q] at e;cases e
 | some o =>
  rw[q] at e;have e':(b,o)=p:=aJ e;subst e';exact⟨hb,q⟩
theorem Inv.pinned {pins:List (Addr × Obj)} {σ:St} {H:Hp} {s:ai} {fp:List Addr} (I:Inv X pins σ H s) (hf:∀ b∈fp,FpOk X pins H b) (ho:∀ b∈fp,∃ o,s.heap.get? b=some o/\∀ v,o.data≠.cell v):Inv X (pins++pinsAt fp s.heap) σ H s :=
 I.pins_of fun p hp=>(aU.mp hp).elim (fun z=>I.pin p (aL _ z)) fun z=>by
  obtain⟨hb,e⟩:=of_pinsAt z;obtain⟨f0,f1,f2,_⟩:=hf p.1 hb;obtain⟨o,e',d⟩:=ho p.1 hb;rw[e] at e';cases e';exact⟨e,f0,f1,f2,d⟩
theorem Inv.unpinned {pins pl:List (Addr × Obj)} {σ:St} {H:Hp} {s:ai} (I:Inv X (pins++pl) σ H s):Inv X pins σ H s:=I.pins_of fun p hp=>I.pin p (aL _ (bd _ hp))
theorem ps_for {iter:Expr} {body:List Stmt} {wi:TI} {g:TG} {tb:TS} {pos:Pos} (hp:PassesOwn (aC X.prog X.w) X.A X.env X.xe) (hc:X.calm=true) (hi:PI X tg iter wi) (hg:PG X tg g) (hb:PSs X body tb)
  (hs:∀ x,cQ iter X.env x=pure x:=by intro _;rfl):PS X (.For tg iter body [] pos) (tFor wi g tb):=by
 intro pins s σ H D I h;refine wpAny_For (thn (hi pins s σ H _ I h) fun v s1 h1=>thn h1 fun itv s2 h2=>?_) hs;obtain⟨it,fp,tn,J,H2,e,I2,T,st2,f2,W,⟨m0,w0⟩,turn⟩:=h2;subst e;have stat:∀ {H':Hp},(∀ b∈fp,H' b=none)->∀ b∈fp,FpOk X pins H' b:=fun hn b hb=>⟨hn b hb,(f2 b hb).2⟩;refine codeAny_forLoop_any (fun n s'=>∃ i σ' H',Inv X pins σ' H' s'/\tn i s'.heap/\(∀ b∈fp,H' b=none)/\W i n σ' H') ?_ m0 ⟨0,σ,H2,I2,st2,fun b hb=>(f2 b hb).1,w0⟩;rintro n s3 ⟨i,σ3,H3,I3,st3,fr3,w3⟩;rcases turn i n σ3 H3 w3 with⟨stop,qn⟩ | ⟨go,N,hN,step⟩
 ·refine er hp (thn (T.done X rfl rfl rfl hc i pins s3 σ3 H3 X.xe I3 (stat fr3) st3 stop) fun r s4 ⟨hr,I4⟩=>?_);subst hr;exact g8 ⟨σ3,H3,I4,qn⟩
 ·refine er hp (thn (T.item X rfl rfl rfl hc i pins s3 σ3 H3 X.xe I3 (stat fr3) st3 go) fun r s4 ⟨u,hr,h4⟩=>?_);subst hr;refine er hp (thn h4 fun _ s5 ⟨x,H5,I5,r5,y5,st5,fr5⟩=>?_);have I5':=I5.pinned (stat fr5) (T.obj _ _ st5);refine er hp (thn (hg _ s5 σ3 H5 x u _ I5' r5 (step x H5 y5)) fun _ s6 ⟨σ6,H6,I6,q6⟩=>?_);refine er hp (thn (hb _ s6 σ6 H6 _ I6 q6) fun f s7 q7=>?_);have again:∀ {σ7:St} {H7:Hp},Inv X (pins++pinsAt fp s5.heap) σ7 H7 s7->N σ7 H7->∃ m,m < n/\∃ i σ' H',Inv X pins σ' H' s7/\tn i s7.heap/\(∀ b∈fp,H' b=none)/\W i m σ' H':=fun {σ7 H7} I7 n7=>by
   obtain⟨m',hm,w7⟩:=hN σ7 H7 n7;refine⟨m',hm,i + 1,σ7,H7,I7.unpinned,T.keep _ _ _ st5 fun b hb o e=>(I7.pin (b,o) (aL _ (aL _ (mem_pinsAt hb e)))).1,fun b hb=>?_,w7⟩;obtain⟨o,e,d⟩:=T.obj _ _ st5 b hb;exact(I7.pin (b,o) (aL _ (aL _ (mem_pinsAt hb e)))).2.1
  cases f with
  | next=>obtain⟨σ7,H7,I7,n7⟩:=q7;exact again I7 n7
  | cont=>obtain⟨σ7,H7,I7,n7⟩:=q7;exact again I7 n7
  | brk=>obtain⟨σ7,H7,I7,q7⟩:=q7;exact⟨σ7,H7,I7.unpinned,q7⟩
  | ret v=>obtain⟨x7,σ7,H7,I7,r7,q7⟩:=q7;exact⟨x7,σ7,H7,I7.unpinned,r7,q7⟩
end
abbrev R2:=V->V->Hp->VK->Prop
def OpR (X:Cx) (f:ae->ae->Sem ae) (r:R2):Prop :=
 ∀ (pins:List (Addr × Obj)) (s:ai) (σ:St) (H:Hp) (x y:V) (v u:ae) (Q:VK),Inv X pins σ H s->RelV x v->RelV y u->r x y H Q ->
  ax (aC X.prog X.w) X.A (f v u) (EP X pins σ Q) X.xe s
def UnR (X:Cx) (f:ae->Sem ae) (r:V->Hp->VK->Prop):Prop :=
 ∀ (pins:List (Addr × Obj)) (s:ai) (σ:St) (H:Hp) (x:V) (v:ae) (Q:VK),Inv X pins σ H s->RelV x v->r x H Q ->
  ax (aC X.prog X.w) X.A (f v) (EP X pins σ Q) X.xe s
def CallR (X:Cx) (f:ae) (r:List V->Hp->VK->Prop):Prop :=
 ∀ (pins:List (Addr × Obj)) (s:ai) (σ:St) (H:Hp) (xs:List V) (us:List ae) (Q:VK),Inv X pins σ H s->Vals xs us->r xs H Q ->
  ax (aC X.prog X.w) X.A (call f us) (EP X pins σ Q) X.xe s
def TruR (X:Cx) (r:V->Hp->(Bool->Hp->Prop)->Prop):Prop :=
 ∀ (pins:List (Addr × Obj)) (s:ai) (σ:St) (H:Hp) (x:V) (v:ae) (Q:Bool->Hp->Prop),Inv X pins σ H s->RelV x v->r x H Q ->
  ax (aC X.prog X.w) X.A (truthy v) (TP X pins σ Q) X.xe s
def tOp (r:R2) (ta tb:TE):TE:=fun σ H Q=>ta σ H fun x H1=>tb σ H1 fun y H2=>r x y H2 Q
def tUn (r:V->Hp->VK->Prop) (ta:TE):TE:=fun σ H Q=>ta σ H fun x H1=>r x H1 Q
def rI (C:Int->Int->Prop) (g:Int->Int->V):R2:=fun x y H Q=>∃ i j,x=.int i/\y=.int j/\C i j/\Q (g i j) H
def rI0 (g:Int->Int->V):R2:=fun x y H Q=>∃ i j,x=.int i/\y=.int j/\Q (g i j) H
def rU (g:Int->V):V->Hp->VK->Prop:=fun x H Q=>∃ i,x=.int i/\Q (g i) H
section
variable {X:Cx} {a b c:Expr} {ta tb tc:TE} {pos:Pos}
theorem binT (ha:PE X a ta) (hb:PE X b tb) {pins:List (Addr × Obj)} {s:ai} {σ:St} {H:Hp} {R:V->V->Hp->Prop} (I:Inv X pins σ H s)
  (h:ta σ H fun x H1=>tb σ H1 fun y H2=>R x y H2) {Q:ae->ai->Prop} {f:ae->ae->Sem ae}
  (hf:∀ v u s2 x y H2,Inv X pins σ H2 s2->RelV x v->RelV y u->R x y H2->ax (aC X.prog X.w) X.A (f v u) Q X.xe s2) :
  ax (aC X.prog X.w) X.A (eval a X.env) (fun v s₁=>ax (aC X.prog X.w) X.A (eval b X.env) (fun u s₂=>ax (aC X.prog X.w) X.A (f v u) Q X.xe s₂) X.xe s₁) X.xe s:=by
 refine thn (ha pins s σ H _ I h) fun v s1 ⟨x,H1,I1,r1,q1⟩=>?_;refine thn (hb pins s1 σ H1 _ I1 q1) fun u s2 ⟨y,H2,I2,r2,q2⟩=>?_;exact hf v u s2 x y H2 I2 r1 r2 q2
theorem pe_op {op:Operator} {r:R2} (ho:OpR X (eR op) r) (ha:PE X a ta) (hb:PE X b tb):PE X (.BinOp a op b pos) (tOp r ta tb):=by
 intro pins s σ H Q I h;exact wpAny_BinOp (binT ha hb I h fun v u s2 x y H2 I2 rx ry q=>ho pins s2 σ H2 x y v u Q I2 rx ry q)
theorem pe_un {op:UnaryOp} {r:V->Hp->VK->Prop} (ho:UnR X (unaryOp op) r) (ha:PE X a ta):PE X (.UnaryOp op a pos) (tUn r ta):=by
 intro pins s σ H Q I h;exact UnaryOp_ (thn (ha pins s σ H _ I h) fun v s1 ⟨x,H1,I1,r1,q1⟩=>ho pins s1 σ H1 x v Q I1 r1 q1)
theorem opI {f:ae->ae->Sem ae} {C:Int->Int->Prop} {g:Int->Int->Int}
  (rule:∀ (i j:Int) (t u:Tok) (s:ai) (Q:ae->ai->Prop) (E:ae->ai->Prop),C i j->Q (.int (g i j) s.toks) { s with toks:=s.toks + 1 }->ax (aC X.prog X.w) X.A (f (.int i t) (.int j u)) Q E s) :
  OpR X f (rI C fun i j=>.int (g i j)):=by
 intro pins s σ H x y v u Q I rx ry h;obtain⟨i,j,rfl,rfl,hc,q⟩:=h;obtain⟨t,rfl⟩:=rx;obtain⟨t',rfl⟩:=ry;exact rule i j t t' s _ _ hc ⟨.int (g i j),H,I.tok _,⟨_,rfl⟩,q⟩
theorem opI0 {f:ae->ae->Sem ae} {g:Int->Int->Int}
  (rule:∀ (i j:Int) (t u:Tok) (s:ai) (Q:ae->ai->Prop) (E:ae->ai->Prop),Q (.int (g i j) s.toks) { s with toks:=s.toks + 1 }->ax (aC X.prog X.w) X.A (f (.int i t) (.int j u)) Q E s) :
  OpR X f (rI0 fun i j=>.int (g i j)):=by
 intro pins s σ H x y v u Q I rx ry h;obtain⟨i,j,rfl,rfl,q⟩:=h;obtain⟨t,rfl⟩:=rx;obtain⟨t',rfl⟩:=ry;exact rule i j t t' s _ _ ⟨.int (g i j),H,I.tok _,⟨_,rfl⟩,q⟩
theorem opB0 {f:ae->ae->Sem ae} {g:Int->Int->Bool}
  (rule:∀ (i j:Int) (t u:Tok) (s:ai) (Q:ae->ai->Prop) (E:ae->ai->Prop),Q (.bool (g i j)) s->ax (aC X.prog X.w) X.A (f (.int i t) (.int j u)) Q E s) :
  OpR X f (rI0 fun i j=>.bl (g i j)):=by
 intro pins s σ H x y v u Q I rx ry h;obtain⟨i,j,rfl,rfl,q⟩:=h;obtain⟨t,rfl⟩:=rx;obtain⟨t',rfl⟩:=ry;exact rule i j t t' s _ _ ⟨.bl (g i j),H,I,rfl,q⟩
def CDiv (i j:Int):Prop:=0 < j/\j < 1073741824
def CMul (i j:Int):Prop:=(-(2 ^ 64) < i/\i < 2 ^ 64)\/(-(2 ^ 64) < j/\j < 2 ^ 64)
theorem CMul.ok {i j:Int} (h:CMul i j):IntMulOk i j:=by
 rcases h with⟨h1,h2⟩ | ⟨h1,h2⟩
 ·exact .of_left (intBits_le_64 h1 h2)
 ·exact .of_right (intBits_le_64 h1 h2)
theorem op_add:OpR X (eR .Add) (rI0 fun i j=>.int (i + j)):=opI0 fun _ _ _ _ _ _ _ q=>add_int q
theorem op_sub:OpR X (eR .Sub) (rI0 fun i j=>.int (i - j)):=opI0 fun _ _ _ _ _ _ _ q=>sub_int q
theorem op_mul:OpR X (eR .Mult) (rI CMul fun i j=>.int (i * j)):=opI fun _ _ _ _ _ _ _ hc q=>mul_int q hc.ok
theorem op_fdiv:OpR X (eR .FloorDiv) (rI CDiv fun i j=>.int (i / j)):=opI fun i j _ _ _ _ _ hc q=>by
 have h1:(0:Int) < j:=hc.1;have h2:j < 1073741824:=hc.2;exact floordiv_int (by omega) (by rw[Int.fdiv_eq_ediv_of_nonneg i (by omega)];exact q) (.inl (PyProof.noPylong_small (by omega)))
theorem op_mod:OpR X (eR .Mod) (rI (fun _ j=>0 < j) fun i j=>.int (i % j)):=opI fun i j _ _ _ _ _ hc q=>by
 have h1:(0:Int) < j:=hc;exact mod_int' (by omega) (by rw[Int.fmod_eq_emod_of_nonneg i (by omega)];exact q)
theorem unI {f:ae->Sem ae} {g:Int->Int}
  (rule:∀ (i:Int) (t:Tok) (s:ai) (Q:ae->ai->Prop) (E:ae->ai->Prop),Q (.int (g i) s.toks) { s with toks:=s.toks + 1 }->ax (aC X.prog X.w) X.A (f (.int i t)) Q E s) :
  UnR X f (rU fun i=>.int (g i)):=by
 intro pins s σ H x v Q I rx h;obtain⟨i,rfl,q⟩:=h;obtain⟨t,rfl⟩:=rx;exact rule i t s _ _ ⟨.int (g i),H,I.tok _,⟨_,rfl⟩,q⟩
theorem un_neg:UnR X (unaryOp .USub) (rU fun i=>.int (-i)):=unI fun _ _ _ _ _ q=>neg_int q
end
section
variable {X:Cx} {a b c:Expr} {ta tb tc:TE} {pos:Pos}
theorem fin_bl {pins:List (Addr × Obj)} {σ:St} {H:Hp} {s:ai} {Q:VK} {k k':Bool} (I:Inv X pins σ H s) (q:Q (.bl k) H) (e:k=k'):EP X pins σ Q (.bool k') s:=by
 subst e;exact⟨.bl k,H,I,rfl,q⟩
theorem op_lt:OpR X (bE .Lt) (rI0 fun i j=>.bl (decide (i < j))):=opB0 fun _ _ _ _ _ _ _ q=>lt_int q
theorem op_le:OpR X (bE .LtE) (rI0 fun i j=>.bl (decide (i<=j))):=opB0 fun _ _ _ _ _ _ _ q=>le_int q
theorem op_gt:OpR X (bE .Gt) (rI0 fun i j=>.bl (decide (j < i))):=opB0 fun _ _ _ _ _ _ _ q=>gt_int q
theorem op_lt_str:OpR X (bE .Lt) (fun x y H Q=>∃ i j,x=.str i/\y=.str j/\Q (.bl (decide (i.cps.toList < j.cps.toList))) H):=by
 intro pins s σ H x y v u Q I rx ry h;obtain⟨i,j,rfl,rfl,q⟩:=h;obtain⟨t,rfl⟩:=rx;obtain⟨t',rfl⟩:=ry;exact lt_str (fin_bl I q rfl)
theorem op_isN:OpR X (bE .Is) (fun x y H Q=>y=.non/\Q (.bl (decide (x=.non))) H):=by
 intro pins s σ H x y v u Q I rx ry h;obtain⟨rfl,q⟩:=h;cases ry;refine is_none_gen (fin_bl I q ?_);cases x <;> first
  | (cases rx;rfl)
  | (obtain⟨t,rfl⟩:=rx;rfl)
theorem op_notN:OpR X (bE .IsNot) (fun x y H Q=>y=.non/\Q (.bl (!decide (x=.non))) H):=by
 intro pins s σ H x y v u Q I rx ry h;obtain⟨rfl,q⟩:=h;cases ry;refine isnot_none_gen (fin_bl I q ?_);cases x <;> first
  | (cases rx;rfl)
  | (obtain⟨t,rfl⟩:=rx;rfl)
theorem OpR.or {f:ae->ae->Sem ae} {r r':R2} (h:OpR X f r) (h':OpR X f r'):OpR X f (fun x y H Q=>r x y H Q\/r' x y H Q):=by
 intro pins s σ H x y v u Q I rx ry q;rcases q with q | q
 ·exact h pins s σ H x y v u Q I rx ry q
 ·exact h' pins s σ H x y v u Q I rx ry q
theorem nomark (b:Expr) {op:CmpOp} (h:op≠.In:=by decide) (h2:op≠.NotIn:=by decide):dA op b=false:=by
 have e1:(op == CmpOp.In)=false:=by cases op <;> first | rfl | exact absurd rfl h
 have e2:(op == CmpOp.NotIn)=false:=by cases op <;> first | rfl | exact absurd rfl h2
 cases b <;> simp[dA,e1,e2]
theorem pe_cmpR {op:CmpOp} {r:R2} (ho:OpR X (bE op) r) (ha:PE X a ta) (hb:PE X b tb) (hm:dA op b=false):PE X (.Compare a [op] [b] pos) (tOp r ta tb):=by
 intro pins s σ H Q I h;exact wpAny_Compare1 (binT ha hb I h fun v u s2 x y H2 I2 rx ry q=>ho pins s2 σ H2 x y v u Q I2 rx ry q) hm
def tTest (t:TE):TT:=fun σ H Q=>t σ H fun x H'=>∃ k,x=.bl k/\Q k H'
theorem pt_cmpR {op:CmpOp} {r:R2} (ho:OpR X (bE op) r) (ha:PE X a ta) (hb:PE X b tb) (hm:dA op b=false):PT X (.Compare a [op] [b] pos) (tTest (tOp r ta tb)):=by
 intro pins s σ H Q I h;refine wpAny_isTrue_Compare1 (thn (ha pins s σ H _ I h) fun v s1 ⟨x,H1,I1,r1,q1⟩=>thn (hb pins s1 σ H1 _ I1 q1) fun u s2 ⟨y,H2,I2,r2,q2⟩ =>
  thn (ho pins s2 σ H2 x y v u _ I2 r1 r2 q2) fun c s3 ⟨z,H3,I3,r3,k,e,q3⟩=>?_) hm
 subst e;cases r3;exact c6 ⟨H3,I3,q3⟩
def tChain (r r':R2) (ta tb tc:TE):TE:=fun σ H Q=>ta σ H fun x H1=>tb σ H1 fun y H2=>r x y H2 fun z H3=>∃ k,z=.bl k /\
 (if k=true then tc σ H3 fun w' H4=>r' y w' H4 Q else Q (.bl false) H3)
theorem pt_chain {op op':CmpOp} {r r':R2} (ho:OpR X (bE op) r) (ho':OpR X (bE op') r') (ha:PE X a ta) (hb:PE X b tb) (hc:PE X c tc)
  (hm:lastMarks [op,op'] [b,c]=false:=by with_unfolding_all rfl):PT X (.Compare a [op,op'] [b,c] pos) (tTest (tChain r r' ta tb tc)):=by
 intro pins s σ H Q I h;refine isTrue_chain (thn (ha pins s σ H _ I h) fun v s1 ⟨x,H1,I1,r1,q1⟩=>test_link (thn (hb pins s1 σ H1 _ I1 q1) fun u s2 ⟨y,H2,I2,r2,q2⟩ =>
  thn (ho pins s2 σ H2 x y v u _ I2 r1 r2 q2) fun d s3 ⟨z,H3,I3,r3,k,e,q3⟩=>?_)) hm
 subst e;cases r3;refine c6 ?_;cases k with
 | false =>
  obtain⟨k',e',q'⟩:=q3;cases e';exact ite_ff ⟨H3,I3,q'⟩
 | true =>
  refine ite_tt (test_last (thn (hc pins s3 σ H3 _ I3 q3) fun w' s4 ⟨z',H4,I4,r4,q4⟩=>thn (ho' pins s4 σ H4 y z' u w' _ I4 r2 r4 q4) fun d' s5 ⟨z2,H5,I5,r5,k2,e2,q5⟩=>?_));subst e2;cases r5;exact c6 ⟨H5,I5,q5⟩
def TruV (K:ao) (x:V) (H:Hp) (k:Bool):Prop :=
 match x with
 | .non=>k=false
 | .bl b=>k=b
 | .int i=>k=(i != 0)
 | .str y=>y.length<=sizeLine/\k=((y.length:Int) != 0)
 | .byt y=>y.size<=sizeLine/\k=((y.size:Int) != 0)
 | .ref p=>(∃ xs,SqL K H p xs/\k=!xs.isEmpty)\/(∃ xs,SqT K H p xs/\k=!xs.isEmpty)\/∃ kvs,H p=some (.dK kvs)/\k=!kvs.isEmpty
 | _=>False
theorem isEmpty_kv {κ:Type} {kvs:List (κ × V)} {vs:List (κ × ae)} (r:KV kvs vs):(!vs.isEmpty)=!kvs.isEmpty:=by
 cases r <;> rfl
theorem isEmpty_of {xs:List V} {its:List ae} (r:Vals xs its):(!its.toArray.isEmpty)=!xs.isEmpty:=by
 cases r <;> simp
theorem line63:(sizeLine:Nat) < 2 ^ 63:=by rw[bu];decide
theorem tru_ok:TruR X (fun x H Q=>∃ k,TruV X.K x H k/\Q k H):=by
 intro pins s σ H x v Q I rx h;obtain⟨k,e,q⟩:=h;have hl:=line63;have hs:sizeLine=16777216:=bu;cases x with
 | non =>
  cases rx;have e':k=false:=e;subst e';exact truthy_none ⟨H,I,q⟩
 | bl b =>
  cases rx;have e':k=b:=e;subst e';exact c6 ⟨H,I,q⟩
 | int i =>
  obtain⟨t,rfl⟩:=rx;have e':k=(i != 0):=e;subst e';exact PySem.P.truthy_int ⟨H,I,q⟩
 | str y =>
  obtain⟨t,rfl⟩:=rx;obtain⟨hy,e'⟩:y.length<=sizeLine/\k=((y.length:Int) != 0):=e;subst e';exact PySem.P.truthy_str (by omega) ⟨H,I.tok _,q⟩
 | byt y =>
  obtain⟨t,rfl⟩:=rx;obtain⟨hy,e'⟩:y.size<=sizeLine/\k=((y.size:Int) != 0):=e;subst e';exact PySem.W.truthy_bytes (by omega) ⟨H,I.tok _,q⟩
 | ref p =>
  cases rx;have e':(∃ xs,SqL X.K H p xs/\k=!xs.isEmpty)\/(∃ xs,SqT X.K H p xs/\k=!xs.isEmpty)\/∃ kvs,H p=some (.dK kvs)/\k=!kvs.isEmpty:=e;rcases e' with⟨xs,hx,e'⟩ | ⟨xs,hx,e'⟩ | ⟨kvs,hx,e'⟩
  ·subst e';obtain⟨its,r,pl,hz⟩:=I.list hx;have hlen:=r.length;exact wpAny_truthy_list pl.isList (by simp only[ak];omega) ⟨H,I.tok _,by rw[isEmpty_of r];exact q⟩
  ·subst e';obtain⟨its,r,pl,hz⟩:=I.tuple hx;have hlen:=r.length;exact truthy_tuple pl (by simp only[ak];omega) ⟨H,I.tok _,by rw[isEmpty_of r];exact q⟩
  ·subst e';obtain⟨hz,hS,vs,r,m⟩:kvs.length<=sizeLine/\(p == sysModules)=false/\∃ vs,KV kvs vs/\s.heap.DictOf (mixKind X.prog X.w) p vs:=I.hok p _ hx;have hlen:kvs.length=vs.length:=bT r;exact wpAny_truthy_dict hS m (by omega) ⟨H,I.tok _,by rw[isEmpty_kv r];exact q⟩
 | _=>exact(show False from e).elim
theorem pt_truth (ha:PE X a ta) (he:∀ whole,isTrue a X.env whole=(do let v <- whole;fI a.pos;eO [v] (truthy v))) :
  PT X a (fun σ H Q=>ta σ H fun x H'=>∃ k,TruV X.K x H' k/\Q k H'):=by
 intro pins s σ H Q I h;exact isTrue_plain (thn (ha pins s σ H _ I h) fun v s1 ⟨x,H1,I1,r1,q1⟩=>tru_ok pins s1 σ H1 x v Q I1 r1 q1) (he _)
theorem op_add_str:OpR X (eR .Add) (fun x y H Q=>∃ i j,x=.str i/\y=.str j/\i.length + j.length<=sizeLine/\Q (.str (i++j)) H):=by
 intro pins s σ H x y v u Q I rx ry h;obtain⟨i,j,rfl,rfl,hz,q⟩:=h;obtain⟨t,rfl⟩:=rx;obtain⟨t',rfl⟩:=ry;exact add_str (fun t' tk=>⟨.str (i++j),H,I.tok _,⟨_,rfl⟩,q⟩) hz
theorem vals1 {x:V} {us:List ae} (r:Vals [x] us):∃ u,us=[u]/\RelV x u:=by
 cases r with
 | cons r1 r2=>cases r2;exact⟨_,rfl,r1⟩
theorem vals2 {x y:V} {us:List ae} (r:Vals [x,y] us):∃ u w',us=[u,w']/\RelV x u/\RelV y w':=by
 cases r with
 | cons r1 r2 =>
  cases r2 with
  | cons r3 r4=>cases r4;exact⟨_,_,rfl,r1,r3⟩
theorem call_min2 (hc:X.calm=true):CallR X (.builtin "min") (fun xs H Q=>∃ i j,xs=[.int i,.int j]/\Q (.int (if j < i then j else i)) H):=by
 intro pins s σ H xs us Q I r h;obtain⟨i,j,rfl,q⟩:=h;obtain⟨u,w',rfl,⟨t,rfl⟩,⟨t',rfl⟩⟩:=vals2 r;refine min_two_ints (I.ok.hd hc) fun h' tk k=>⟨_,H,I.kept k,?_,q⟩
 by_cases hj:j < i
 ·rw[if_pos hj,if_pos hj];exact⟨_,rfl⟩
 ·rw[if_neg hj,if_neg hj];exact⟨_,rfl⟩
theorem call_int1:CallR X (.type "int") (fun xs H Q=>(∃ i,xs=[.int i]/\Q (.int i) H)\/∃ k,xs=[.bl k]/\Q (.int (if k then 1 else 0)) H):=by
 intro pins s σ H xs us Q I r h;rcases h with⟨i,rfl,q⟩ | ⟨k,rfl,q⟩
 ·obtain⟨u,rfl,t,rfl⟩:=vals1 r;exact call_int_int ⟨.int i,H,I,⟨_,rfl⟩,q⟩
 ·obtain⟨u,rfl,r1⟩:=vals1 r;cases r1;exact call_int_bool ⟨.int (if k then 1 else 0),H,I.tok _,⟨_,rfl⟩,q⟩
def LenV (K:ao) (x:V) (H:Hp) (n:Nat):Prop :=
 match x with
 | .str y=>y.length<=sizeLine/\n=y.length
 | .byt y=>y.size<=sizeLine/\n=y.size
 | .ref p=>(∃ xs,SqL K H p xs/\n=xs.length)\/∃ xs,SqT K H p xs/\n=xs.length
 | _=>False
theorem call_len:CallR X (.builtin "len") (fun xs H Q=>∃ x n,xs=[x]/\LenV X.K x H n/\Q (.int n) H):=by
 intro pins s σ H xs us Q I r h;obtain⟨x,n,rfl,e,q⟩:=h;obtain⟨u,rfl,rx⟩:=vals1 r;have hl:=line63;have hs:sizeLine=16777216:=bu;cases x with
 | str y =>
  obtain⟨t,rfl⟩:=rx;obtain⟨hy,e'⟩:y.length<=sizeLine/\n=y.length:=e;subst e';exact len_str (by omega) ⟨.int _,H,I.tok _,⟨_,rfl⟩,q⟩
 | byt y =>
  obtain⟨t,rfl⟩:=rx;obtain⟨hy,e'⟩:y.size<=sizeLine/\n=y.size:=e;subst e';exact PySem.W.len_bytes (by omega) ⟨.int _,H,I.tok _,⟨_,rfl⟩,q⟩
 | ref p =>
  cases rx;have e':(∃ xs,SqL X.K H p xs/\n=xs.length)\/∃ xs,SqT X.K H p xs/\n=xs.length:=e;rcases e' with⟨xs,hx,e'⟩ | ⟨xs,hx,e'⟩
  ·subst e';obtain⟨its,r',pl,hz⟩:=I.list hx;have hlen:=r'.length;exact Calls.call_len_list pl.isList (by simp only[ak];omega) ⟨.int xs.length,H,I.tok _,⟨_,by simp only[ak];rw[hlen]⟩,q⟩
  ·subst e';obtain⟨its,r',pl,hz⟩:=I.tuple hx;have hlen:=r'.length;exact len_tuple pl (by simp only[ak];omega) ⟨.int xs.length,H,I.tok _,⟨_,by simp only[ak];rw[hlen]⟩,q⟩
 | _=>exact(show False from e).elim
end
structure ObjM (h:aW) (x dx C:Addr) (mA:Str->Option ae):Prop where
 obj:h.get? x=some (dO C dx)
 ns:h.Ns1 dx mA
 ne:dx≠x
theorem lookIn_ns {h:aW} {dx:Addr} {mA:Str->Option ae} (n:h.Ns1 dx mA):∃ od,h.get? dx=some od/\∀ name,iE name od=some (mA name):=by
 obtain⟨o,es,ep,ho,hd,hk,_,hm⟩:=n;refine⟨o,ho,fun name=>?_⟩;have e:=hm name;unfold nsFind findBy at e;rw[<- Array.find?_toList] at e;unfold iE;rw[hd];dsimp only
 split
 ·rename_i y q;rw[q] at e;exact congrArg some e
 ·rename_i q;rw[q] at e;have a:es.toList.any (·.refKey)=false:=by
   rw[List.any_eq_false];intro y hy;obtain⟨z,t,hkey⟩:=hk y (cX.mp hy);simp[DictEntry.refKey,hkey]
  have a':¬ es.toList.any (·.refKey)=true:=by rw[a];exact aS
  rw[if_neg a'];exact congrArg some e
theorem ObjM.look {h:aW} {x dx C:Addr} {mA:Str->Option ae} (I:ObjM h x dx C mA):∃ od,PySem.W.InstAt h x (dO C dx) C (some od)/\∀ name,iE name od=some (mA name) :=
 let ⟨od,ho,hl⟩:=lookIn_ns I.ns
 ⟨od,⟨I.obj,rfl,rfl,ho⟩,hl⟩
section
variable {prog:aD} {w:aK} {A:aQ} {E:ae->ai->Prop} {s:ai} {K:ao} {x dx C f:Addr} {mA:Str->Option ae} {name:Str} {v:ae}
theorem get_map {expr:Bool} {Q:ae->ai->Prop} (X:K.In s.heap) (I:ObjM s.heap x dx C mA) (hg:gJ K C name=true) (hh:i6 K C=true)
  (ha:c7 K (.ref C) name=some none) (hv:mA name=some v) (hv':PySem.W.handedIn v=true) (h:Q v { s with toks:=s.toks + 1 }) :
  ax (aC prog w) A (getAttr (.ref x) name expr) Q E s:=by
 obtain⟨od,J,hl⟩:=I.look;exact PySem.W.get_value X J (ia hg).1 (PySem.W.findObj_own hh ha rfl (by rw[hl,hv])) hv' h
theorem get_meth {pl:Sem Bool} {Q:ae × List ae->ai->Prop} (X:K.In s.heap) (I:ObjM s.heap x dx C mA) (hg:gJ K C name=true)
  (hf:c7 K (.ref C) name=some (some (.ref f))) (ht:jJ K (.ref f)=true) (hv:mA name=none) (h:Q (.ref f,[.ref x]) s) :
  ax (aC prog w) A (jq (.ref x) name pl) Q E s:=by
 obtain⟨od,J,hl⟩:=I.look;exact PySem.W.method_fn X J (ia hg).1 (ia hg).2 hf (beq_iff_eq.mp ht) (by show(iE name od).map (·.isSome)=some false;rw[hl,hv];rfl) h
theorem set_map {ns:List Str} {Q:Unit->ai->Prop} (X:K.In s.heap) (I:ObjM s.heap x dx C mA)
  (hs:c7 K (.ref C) "__setattr__" = some (some (.builtin "object.__setattr__"))) (hp:PySem.W.plainOver K C=true) (ht:jY K C name=some none) (hh:i6 K C=true)
  (hw:jH mA ns) (hsz:ns.length<=sizeLine)
  (h:∀ h',ObjM h' x dx C (fun y=>if y=name then some v else mA y)->dz dx s.heap h'->Q () { s with heap:=h',toks:=s.toks + 2 }) :
  ax (aC prog w) A (setAttr (.ref x) name v) Q E s:=by
 obtain⟨od,J,hl⟩:=I.look;refine PySem.W.set_plain X J hs (PySem.W.osa_open (s:={ s with toks:=s.toks + 1 }) (r:=none) X J hp ht fun b=>?_)
 obtain⟨cd,hc,hd'⟩:=PySem.W.any_some hh;have hx:s.heap.get? x=some ⟨.ref C,some dx,.plain,#[]⟩:=I.obj;refine ad (af (ad (ad (wpAny_loadPart hx (ad (PySem.W.Looks.here (s:={ s with toks:=s.toks + 1 }) (PySem.W.looks_clsIn X hc) ?_))))))
 rw[hd'];refine af (a:=some dx) (ad (af (ad ?_)));refine wpAny_nsSet1 (s:={ s with toks:=s.toks + 1 }) I.ns fun h' hn2 hs2=>?_
 obtain⟨oD,esD,epD,hoD,hdD,hcD⟩:=hn2.count (jH.cons name v hw);refine ad (wpAny_lookBehind hoD (by rw[hdD];exact pastItsLine_dict (aV hcD (by rw[aE];omega))) ?_)
 exact af (h _ ⟨(hs2.2 _ (aZ I.ne)).trans I.obj,hn2,I.ne⟩ hs2)
theorem make_map {R:Result->ai->Prop} {vs:List ae} {kw:List (Str × ae)} (X:K.In s.heap) (hm:fX K C=true)
  (hi:c7 K (.ref C) "__init__" = some (some (.ref f))) (hf:PySem.W.typeIn K (.ref f)=some (.type "function"))
  (h:eT (aC prog w) (A.under (.builtin "type.__call__" ⟨.ref C::vs,kw⟩)) (.call (.ref f) ⟨.ref (s.heap.objs.size + 1)::vs,kw⟩) (PySem.W.InitBack (s.heap.objs.size + 1) R)
   { s with heap:=(s.heap.push cR).push (dO C s.heap.objs.size) }) :
  eT (aC prog w) A (.call (.ref C) ⟨vs,kw⟩) R s:=by
 obtain⟨hh,g,d,t,os⟩:=s;exact PySem.W.make_core (PySem.W.makes_of X hm) (PySem.W.looks_findIn X hi) (fun self=>PySem.W.bind_fn X self hf) (.inl rfl) h
end
def putF (f:Str) (v:V):List (Str × V)->List (Str × V)
 | []=>[(f,v)]
 | (g,x)::r=>if g=f then (g,v)::r else (g,x)::putF f v r
theorem lookup_putF (f g:Str) (v:V):∀ fs:List (Str × V),(putF f v fs).lookup g=if g=f then some v else fs.lookup g
 | []=>by
  show eA g [(f,v)]=_
  by_cases h:g=f
  ·have hb:(g == f)=true:=beq_iff_eq.mpr h;simp only[eA,hb,if_pos h]
  ·have hb:(g == f)=false:=beq_eq_false_iff_ne.mpr h;simp only[eA,hb,if_neg h]
 | (k,x)::r=>by
  have ih:=lookup_putF f g v r;rw[show putF f v ((k,x)::r)=(if k=f then (k,v)::r else (k,x)::putF f v r) from rfl]
  by_cases hk:k=f
  ·rw[if_pos hk]
   by_cases h:g=k
   ·have hb:(g == k)=true:=beq_iff_eq.mpr h;simp only[eA,hb,if_pos (h.trans hk)]
   ·have hb:(g == k)=false:=beq_eq_false_iff_ne.mpr h;simp only[eA,hb,if_neg (fun e:g=f=>h (e.trans hk.symm))]
  ·rw[if_neg hk]
   by_cases h:g=k
   ·have hb:(g == k)=true:=beq_iff_eq.mpr h;simp only[eA,hb,if_neg (fun e:g=f=>hk (h.symm.trans e))]
   ·have hb:(g == k)=false:=beq_eq_false_iff_ne.mpr h;simp only[eA,hb];exact ih
theorem keys_putF (f:Str) (v:V):∀ fs:List (Str × V),f∈(putF f v fs).map (·.1)/\∀ g,g∈fs.map (·.1)->g∈(putF f v fs).map (·.1)
 | []=>⟨by simp[putF],fun g h=>by simp at h⟩
 | (k,x)::r=>by
  obtain⟨i1,i2⟩:=keys_putF f v r;rw[show putF f v ((k,x)::r)=(if k=f then (k,v)::r else (k,x)::putF f v r) from rfl]
  by_cases hk:k=f
  ·rw[if_pos hk];subst hk;exact⟨by simp,fun g h=>by simpa using h⟩
  ·rw[if_neg hk];refine⟨?_,fun g h=>?_⟩
   ·rw[aY];exact aq _ i1
   ·rw[aY] at h ⊢;rcases aA.mp h with e | e
    ·exact aA.mpr (.inl e)
    ·exact aq _ (i2 g e)
theorem length_putF (f:Str) (v:V):∀ fs:List (Str × V),(putF f v fs).length<=fs.length + 1
 | []=>by simp[putF]
 | (k,x)::r=>by
  have ih:=length_putF f v r;rw[show putF f v ((k,x)::r)=(if k=f then (k,v)::r else (k,x)::putF f v r) from rfl]
  by_cases hk:k=f
  ·rw[if_pos hk,aE,aE];omega
  ·rw[if_neg hk,aE,aE];omega
theorem RelO.some_of {v:V} {o:Option ae} (r:RelO (some v) o):∃ u,o=some u/\RelV v u:=by
 cases o with
 | none=>exact(show False from r).elim
 | some u=>exact⟨u,rfl,r⟩
theorem RelO.none_of {o:Option ae} (r:RelO none o):o=none:=by
 cases o with
 | none=>rfl
 | some u=>exact(show False from r).elim
theorem handed_of {v:V} {u:ae} (r:RelV v u):PySem.W.handedIn u=true:=by
 cases v with
 | non=>cases (show u=ci from r);rfl
 | bl b=>cases (show u=gG b from r);rfl
 | int i=>obtain⟨t,e⟩:=(show ∃ t,u=ki i t from r);cases e;rfl
 | str x=>obtain⟨t,e⟩:=(show ∃ t,u=iA x t from r);cases e;rfl
 | byt b=>obtain⟨t,e⟩:=(show ∃ t,u=ae.bytes b t from r);cases e;rfl
 | flt b=>obtain⟨t,e⟩:=(show ∃ t,u=ae.float b t from r);cases e;rfl
 | ref a=>cases (show u=dr a from r);rfl
 | ty n=>cases (show u=cE n from r);rfl
section
variable {P:aD} {w:aK} {H H':Hp} {h h':aW} {a C dx:Addr} {fs fs':List (Str × V)}
theorem ins_get (hok:HOk P w H h) (e:H a=some (.ins C dx fs)):∃ mA,ObjM h a dx C mA/\(∀ f,RelO (fs.lookup f) (mA f))/\jH mA (fs.map (·.1))/\fs.length<=1000/\H dx=some (.own a):=by
 obtain⟨d,z,ne,ob,mA,n,r,q⟩:=(show ObjOk P w H h a (.ins C dx fs) from hok a _ e)
 exact⟨mA,⟨ob,n,ne⟩,r,q,z,d⟩
end
structure Cls (K:ao) (C:Addr):Prop where
 pg:gJ K C Str.empty=true
 hd:i6 K C=true
 po:PySem.W.plainOver K C=true
 sa:c7 K (.ref C) "__setattr__" = some (some (.builtin "object.__setattr__"))
theorem Cls.get {K:ao} {C:Addr} (c:Cls K C) (f:Str):gJ K C f=true:=c.pg
def NoAttr (K:ao) (C:Addr) (f:Str):Prop:=c7 K (.ref C) f=some none
theorem NoAttr.taker {K:ao} {C:Addr} {f:Str} (n:NoAttr K C f):jY K C f=some none:=by
 unfold jY;rw[show c7 K (.ref C) f=some none from n]
 rfl
structure Meth (K:ao) (C:Addr) (m:Str) (f:Addr):Prop where
 at_:c7 K (.ref C) m=some (some (.ref f))
 fn:jJ K (.ref f)=true
 kp:cF K (.ref f)=true
section
variable {X:Cx} {pins:List (Addr × Obj)} {σ:St} {H:Hp} {s:ai} {a C dx:Addr} {fs:List (Str × V)} {f:Str} {v:V} {A:aQ} {E:ae->ai->Prop}
theorem getattr_ok {b:Bool} {Q:ae->ai->Prop} (I:Inv X pins σ H s) (e:H a=some (.ins C dx fs)) (c:Cls X.K C) (n:NoAttr X.K C f) (l:fs.lookup f=some v)
  (h:∀ u s',Inv X pins σ H s'->RelV v u->Q u s'):ax (aC X.prog X.w) A (getAttr (.ref a) f b) Q E s:=by
 obtain⟨mA,O,r,_,_,_⟩:=ins_get I.hok e;obtain⟨u,hu,ru⟩:=RelO.some_of (v:=v) (o:=mA f) (by rw[<- l];exact r f)
 exact get_map I.kIn O (c.get f) c.hd n hu (handed_of ru) (h u _ (I.tok _) ru)
theorem getmeth_ok {m:Str} {g:Addr} {pl:Sem Bool} {Q:ae × List ae->ai->Prop} (I:Inv X pins σ H s) (e:H a=some (.ins C dx fs)) (c:Cls X.K C) (k:Meth X.K C m g) (l:fs.lookup m=none)
  (h:Q (.ref g,[.ref a]) s):ax (aC X.prog X.w) A (jq (.ref a) m pl) Q E s:=by
 obtain⟨mA,O,r,_,_,_⟩:=ins_get I.hok e;have hn:mA m=none:=RelO.none_of (by rw[<- l];exact r m)
 exact get_meth I.kIn O (c.get m) k.at_ k.fn hn h
theorem setattr_ok {y:V} {u:ae} {Q:Unit->ai->Prop} (I:Inv X pins σ H s) (e:H a=some (.ins C dx fs)) (c:Cls X.K C) (n:NoAttr X.K C f) (hl:fs.length < 1000) (ry:RelV y u)
  (h:∀ s',Inv X pins σ (upd H a (.ins C dx (putF f y fs))) s'->Q () s'):ax (aC X.prog X.w) A (setAttr (.ref a) f u) Q E s:=by
 obtain⟨mA,O,r,wi,_,ho⟩:=ins_get I.hok e;have hz:(fs.map (·.1)).length<=sizeLine:=by rw[aj,bu];omega
 refine set_map I.kIn O c.sa c.po n.taker c.hd wi hz fun h' O' sb=>h _ ?_;have hd:∃ o,h'.get? dx=some o:=let ⟨o,_,_,e',_⟩:=O'.ns;⟨o,e'⟩
 refine I.write (x:=a) (e:=dx) (by rw[e];exact True.intro) (.inr ho) (fun b q hb z=>(sb.2 b hb).trans z) hd ?_
 refine⟨by rw[upd_ne O.ne];exact ho,?_,O.ne,O'.obj,_,O'.ns,fun g=>?_,fun g hg=>?_⟩
 ·have:=length_putF f y fs;omega
 ·show RelO ((putF f y fs).lookup g) (if g=f then some u else mA g)
  rw[lookup_putF]
  by_cases q:g=f
  ·rw[if_pos q,if_pos q];exact ry
  ·rw[if_neg q,if_neg q];exact r g
 ·by_cases q:g=f
  ·rw[q];exact(keys_putF f y fs).1
  ·refine(keys_putF f y fs).2 g (wi g fun z=>hg ?_);show(if g=f then some u else mA g)=none
   rw[if_neg q];exact z
theorem Inv.made (I:Inv X pins σ H s):Inv X pins σ (upd (upd H s.heap.objs.size (.own (s.heap.objs.size + 1))) (s.heap.objs.size + 1) (.ins C s.heap.objs.size []))
  { s with heap:=(s.heap.push cR).push (dO C s.heap.objs.size) }:=by
 have e1:(s.heap.push cR).get? s.heap.objs.size=some cR:=aw s.heap rfl;have e2:((s.heap.push cR).push (dO C s.heap.objs.size)).get? (s.heap.objs.size + 1)=some (dO C s.heap.objs.size):=by
  have:=aw (s.heap.push cR) (o:=dO C s.heap.objs.size) rfl
  rwa [bR] at this
 have e3:(s.heap.push cR).Ns s.heap.objs.size (fun _=>none):=⟨cR,#[],_,e1,rfl,(fun e he=>absurd he (by simp)),fun _=>rfl⟩
 have I1:=I.laid (a:=s.heap.objs.size) (o:=.own (s.heap.objs.size + 1)) (h':=s.heap.push cR) (t':=s.toks) (fun b u q=>ah _ q) (ar _) ⟨_,e1⟩;refine I1.laid (a:=s.heap.objs.size + 1) (o:=.ins C s.heap.objs.size []) (t':=s.toks) (fun b u q=>ah _ q) (Nat.le_of_eq (bR _ _)) ?_;have ne:s.heap.objs.size≠s.heap.objs.size + 1:=aH (du _);refine⟨by rw[upd_ne ne,upd_same],bA _,ne,e2,fun _=>none,(aW.Ns1.of_empty e3).at fun o q=>ah _ q,fun _=>True.intro,fun y hy=>absurd rfl hy⟩
theorem attr_of {prog:aD} {w:aK} {env:Env} {e:Expr} {f:Str} {pos:Pos} {s:ai} {Q:ae->ai->Prop} (hb:cJ e f env (eval e env)=eval e env)
  (h:ax (aC prog w) A (eval e env) (fun o s₁=>ax (aC prog w) A (getAttr o f true) Q E s₁) E s):ax (aC prog w) A (eval (.Attribute e f pos) env) Q E s :=
 Attribute_any_ h (by rw[arm_eval_Attribute,hb])
end
def tFld (K:ao) (ta:TE) (f:Str):TE:=fun σ H Q=>ta σ H fun x H1=>∃ a C dx fs v,x=.ref a/\H1 a=some (.ins C dx fs)/\Cls K C/\NoAttr K C f/\fs.lookup f=some v/\Q v H1
def sFld (K:ao) (ta tv:TE) (f:Str):TS:=fun D σ H=>tv σ H fun y H1=>ta σ H1 fun x H2=>∃ a C dx fs,x=.ref a/\H2 a=some (.ins C dx fs)/\Cls K C/\NoAttr K C f/\fs.length < 1000 /\
 D.nx σ (upd H2 a (.ins C dx (putF f y fs)))
section
variable {X:Cx} {o e value:Expr} {f:Str} {pos pos' tpos:Pos} {ta tv:TE}
theorem pe_fld (he:PE X e ta) (hb:cJ e f X.env (eval e X.env)=eval e X.env):PE X (.Attribute e f pos) (tFld X.K ta f):=by
 intro pins s σ H Q I h;refine attr_of hb (thn (he pins s σ H _ I h) fun u s1 ⟨x,H1,I1,rx,a,C,dx,fs,v,ex,ea,c,n,l,q⟩=>?_);subst ex;obtain rfl:u=dr a:=rx;exact getattr_ok I1 ea c n l fun u' s2 I2 ru=>⟨v,H1,I2,ru,q⟩
theorem ps_fld (ha:PE X o ta) (hv:PE X value tv) (hs:gI value (some (.Attribute o f pos')) pos.line X.env=pure false):PS X (.Assign [.Attribute o f pos'] value pos) (sFld X.K ta tv f):=by
 intro pins s σ H D I h;refine plainObj_wpAny_Assign_Attribute (thn (hv pins s σ H _ I h) fun u s1 ⟨y,H1,I1,ry,q⟩=>thn (ha pins s1 σ H1 _ I1 q) fun ov s2 ⟨x,H2,I2,rx,a,C,dx,fs,ex,ea,c,n,l,q2⟩=>?_) hs;subst ex;obtain rfl:ov=dr a:=rx;exact setattr_ok I2 ea c n l ry fun s3 I3=>⟨σ,_,I3,q2⟩
end
structure Room (k:Nat) (A:aQ):Prop where
 hd:A.handled=none
 dp:A.depth + 3 * k + 5 < recursionLimit
 un:A.units + 16 * k + 200 < bK
theorem Room.mono {j k:Nat} {A:aQ} (r:Room k A) (h:j<=k):Room j A:=⟨r.hd,by have:=r.dp;omega,by have:=r.un;omega⟩
theorem Room.deeper {k:Nat} {A:aQ} (r:Room (k + 1) A) (env:Env):Room k (A.deeper env) :=
 ⟨r.hd,by have:=r.dp;show A.depth + 1 + 3 * k + 5 < _;omega,by have:=r.un;show A.units + 3 + 16 * k + 200 < _;omega⟩
theorem make_depth {A:aQ} {C:Addr} {us:List ae} {kw:List (Str × ae)}:(A.under (.builtin "type.__call__" ⟨.ref C::us,kw⟩)).depth=A.depth + 1:=by
 first | rfl | simp[jK,Code.weight,Code.isCreation,Code.isGuard,Code.isCaller,Code.frames,Code.isFrame,guardIds]
theorem make_units {A:aQ} {C:Addr} {us:List ae} {kw:List (Str × ae)}:(A.under (.builtin "type.__call__" ⟨.ref C::us,kw⟩)).units=A.units + 1:=by
 first | rfl | simp[jK,Code.cUnits,Code.frames,Code.isFrame]
theorem Room.make {k:Nat} {A:aQ} (r:Room (k + 1) A) (C:Addr) (us:List ae) (kw:List (Str × ae)):Room k (A.under (.builtin "type.__call__" ⟨.ref C::us,kw⟩)) :=
 ⟨r.hd,by have:=r.dp;rw[make_depth];omega,by have:=r.un;rw[make_units];omega⟩
theorem Room.depth {k:Nat} {A:aQ} (r:Room k A):A.depth < recursionLimit:=by have:=r.dp;omega
theorem Room.units {k:Nat} {A:aQ} (r:Room k A):A.units + 64 < bK:=by have:=r.un;omega
theorem Room.units0 {k:Nat} {A:aQ} (r:Room k A):A.units < bK:=by have:=r.un;omega
def tNil:TA:=fun _ H Q=>Q [] H
def tCons (ta:TE) (tr:TA):TA:=fun σ H Q=>ta σ H fun x H1=>tr σ H1 fun xs H2=>Q (x::xs) H2
section
variable {X:Cx} {e:Expr} {es:List Expr} {te:TE} {t:TA} {pos:Pos}
theorem pa_nil:PA X [] tNil:=fun _ _ _ _ H Q I h=>Calls.spliced_nil ⟨[],H,I,.nil,h⟩
theorem pa_cons (ha:PE X e te) (hr:PA X es t) (hs:au (e::es) X.env=(false,eval e X.env)::au es X.env:=by rfl):PA X (e::es) (tCons te t):=by
 intro pos pins s σ H Q I h;rw[hs];show ax _ _ (spliced ((false,eval e X.env)::bD pos (au es X.env))) _ _ s;refine Calls.spliced_cons (thn (ha pins s σ H _ I h) fun u s1 ⟨x,H1,I1,r1,q1⟩=>?_);exact thn (hr pos pins s1 σ H1 _ I1 q1) fun us s2 ⟨xs,H2,I2,r2,q2⟩=>⟨x::xs,H2,I2,.cons r1 r2,q2⟩
def tTup (t:TA):TE:=fun σ H Q=>t σ H fun xs H1=>xs.length<=sizeLine/\∀ p,H1 p=none->Q (.ref p) (upd H1 p (.tup xs))
def tLst (t:TA):TE:=fun σ H Q=>t σ H fun xs H1=>xs.length<=sizeLine/\∀ p,H1 p=none->Q (.ref p) (upd H1 p (.lst xs))
theorem pe_tup {x1} (h:PA X es t):PE X (.Tuple es x1 pos) (tTup t):=by
 intro pins s σ H Q I hq;refine wpAny_Tuple_spliced (thn (h pos pins s σ H _ I hq) fun us s1 ⟨xs,H1,I1,r,z,q⟩=>⟨by rw[<- r.length];exact z,?_⟩)
 have hf:H1 s1.heap.objs.size=none:=I1.hok.fresh (ar _);refine⟨.ref s1.heap.objs.size,upd H1 s1.heap.objs.size (.tup xs),I1.laid (t':=s1.toks) (fun b u e=>ah _ e) (ar _) ?_,rfl,q _ hf⟩;exact⟨z,us,r,⟨_,aw _ rfl,rfl,_,rfl⟩,nd_new⟩
theorem pe_lst (h:PA X es t):PE X (.List es pos) (tLst t):=by
 intro pins s σ H Q I hq;refine wpAny_List_spliced (thn (h pos pins s σ H _ I hq) fun us s1 ⟨xs,H1,I1,r,z,q⟩=>⟨by rw[<- r.length];exact z,?_⟩)
 have hf:H1 s1.heap.objs.size=none:=I1.hok.fresh (ar _);refine⟨.ref s1.heap.objs.size,upd H1 s1.heap.objs.size (.lst xs),I1.laid (t':=s1.toks) (fun b u e=>ah _ e) (ar _) ?_,rfl,q _ hf⟩;exact⟨z,us,0,r,aw _ rfl⟩
end
abbrev Sp:=List V->Hp->VK->XK->Prop
abbrev CXT:=List Env->Hp->ai->XK->ae->ai->Prop
structure Env0 (P:aD) (w:aK) (K:ao) (mg:Str->Option ae) (base:aW) (A:aQ) (outer:List Env) (s:ai) (H:Hp):Prop where
 frames:A.frames=some outer
 gd:A.guards=some []
 mod:Mod K mg base
 bs:∀ b o,base.get? b=some o->s.heap.get? b=some o/\H b=none
 bsz:base.objs.size<=s.heap.objs.size
 funs:s.heap.FunFrames base outer
 frf:∀ b∈frs outer,H b=none
 hok:HOk P w H s.heap
 bare:ik s.gens
def CE (outer:List Env) (P:aD) (w:aK) (H:Hp) (s:ai) (Q:VK) (u:ae) (s':ai):Prop :=
 ∃ v H',s'.os=s.os/\ik s'.gens/\Un (frs outer) [] H H' s.heap s'.heap/\HOk P w H' s'.heap/\RelV v u/\Q v H'
def CR (CX:CXT) (outer:List Env) (P:aD) (w:aK) (H:Hp) (s:ai) (Q:VK) (E:XK) (r:Result) (s':ai):Prop :=
 match r with
 | .ok (.ret u)=>CE outer P w H s Q u s'
 | .ok _=>False
 | .error e=>CX outer H s E e s'
structure FnOk (P:aD) (w:aK) (K:ao) (mg:Str->Option ae) (base:aW) (CX:CXT) (k:Nat) (f:Addr) (fd:cC) (ps:List Str) (sp:Sp):Prop where
 len:∀ vs H Q E,sp vs H Q E->vs.length=ps.length
 run:∀ (A:aQ) (outer:List Env) (s:ai) (H:Hp) (args:Args) (us:List ae) (vs:List V) (Q:VK) (E:XK),Room k A->Env0 P w K mg base A outer s H->BindsTo s fd args (ps.zip us)->Vals vs us->sp vs H Q E ->
  eT (aC P w) A (.call (.ref f) args) (CR CX outer P w H s Q E) s
theorem FnOk.mono {P:aD} {w:aK} {K:ao} {mg:Str->Option ae} {base:aW} {CX:CXT} {j k:Nat} {f:Addr} {fd:cC} {ps:List Str} {sp:Sp} (F:FnOk P w K mg base CX j f fd ps sp) (h:j<=k) :
  FnOk P w K mg base CX k f fd ps sp:=⟨F.len,fun A outer s H args us vs Q E hr=>F.run A outer s H args us vs Q E (hr.mono h)⟩
theorem Env0.make {P:aD} {w:aK} {K:ao} {mg:Str->Option ae} {base:aW} {A:aQ} {outer:List Env} {s:ai} {H:Hp} (e:Env0 P w K mg base A outer s H) (C:Addr) (us:List ae) (kw:List (Str × ae)) :
  Env0 P w K mg base (A.under (.builtin "type.__call__" ⟨.ref C::us,kw⟩)) outer s H:=⟨by first | exact e.frames | (simpa [jK,Code.envs,Code.isFrame,pushEnvs] using e.frames),by first | exact e.gd | (simpa [jK,Code.guards,Code.isGuard,pushGuards,guardIds] using e.gd),e.mod,e.bs,e.bsz,e.funs,e.frf,e.hok,e.bare⟩
section
variable {X:Cx} {pins:List (Addr × Obj)} {σ:St} {H:Hp} {s s':ai}
theorem Inv.env0 (I:Inv X pins σ H s):Env0 X.prog X.w X.K X.mg X.base X.A X.stack s H :=
 ⟨I.ok.frames,I.ok.gd,I.ok.mod,I.bs,aV I.ok.bsz I.sz,I.stack,I.stkFree,I.hok,I.bare⟩
theorem Inv.after {Q:VK} {u:ae} (I:Inv X pins σ H s) (h:CE X.stack X.prog X.w H s Q u s'):EP X pins σ Q u s':=by
 obtain⟨v,H',os,bare,un,hok,r,q⟩:=h;obtain⟨hh,g,d,t,os'⟩:=s';obtain rfl:os'=s.os:=os;exact⟨v,H',I.call (h':=hh) (g':=g) (d':=d) (t':=t) (ch:=[]) un hok bare (fun b z=>absurd z (by simp)),r,q⟩
end
def tCall (sp:Sp) (dvs:List V) (E:XK) (t:TA):TE:=fun σ H Q=>t σ H fun vs H1=>sp (vs++dvs) H1 Q E
def tMeth (C:Addr) (m:Str) (sp:Sp) (dvs:List V) (E:XK) (ta:TE) (t:TA):TE:=fun σ H Q=>ta σ H fun x H1=>∃ a dx fs,x=.ref a/\H1 a=some (.ins C dx fs)/\fs.lookup m=none /\
 t σ H1 fun vs H2=>sp (x::(vs++dvs)) H2 Q E
def tMake (C:Addr) (sp:Sp) (dvs:List V) (E:XK) (t:TA):TE:=fun σ H Q=>t σ H fun vs H1=>∀ x dx,H1 x=none->H1 dx=none->dx≠x ->
 sp (.ref x::(vs++dvs)) (upd (upd H1 dx (.own x)) x (.ins C dx [])) (fun v H2=>v=.non/\Q (.ref x) H2) E
def Binds (K:ao) (fd:cC) (ps:List Str) (ds:List ae):Prop :=
 ∀ (s:ai) (us:List ae),K.In s.heap->(us++ds).length=ps.length->BindsTo s fd ⟨us,[]⟩ (ps.zip (us++ds))
theorem Binds.all {K:ao} {fd:cC} {ps:List Str} (h:∀ us:List ae,us.length=ps.length->bindArgs fd ⟨us,[]⟩=pure (ps.zip us)):Binds K fd ps []:=fun s us _ hl=>by
 rw[bI] at hl ⊢;exact .of_eq (h us hl)
def Passes (CX:CXT) (X:Cx) (E:XK):Prop:=∀ (pins:List (Addr × Obj)) (σ:St) (H:Hp) (s:ai) (e:ae) (s':ai),Inv X pins σ H s->CX X.stack H s E e s'->X.xe e s'
section
variable {X:Cx} {CX:CXT} {k:Nat} {f C:Addr} {fd:cC} {ps:List Str} {sp:Sp} {dvs:List V} {ds:List ae} {E:XK} {x m:Str} {p pos apos:Pos} {e o:Expr} {es:List Expr} {ta:TE} {t:TA}
theorem run_fn {pins:List (Addr × Obj)} {σ:St} {H:Hp} {s:ai} {Q:VK} {us:List ae} {vs:List V} (F:FnOk X.prog X.w X.K X.mg X.base CX k f fd ps sp) (hr:Room k X.A) (hb:Binds X.K fd ps ds) (hd:Vals dvs ds) (hx:Passes CX X E)
  (I:Inv X pins σ H s) (r:Vals vs us) (h:sp (vs++dvs) H Q E):ax (aC X.prog X.w) X.A (call (.ref f) us) (EP X pins σ Q) X.xe s:=by
 have r2:Vals (vs++dvs) (us++ds):=r.append hd;have hl:(us++ds).length=ps.length:=by rw[<- r2.length];exact F.len _ _ _ _ h
 refine wpAny_call (eB (F.run X.A X.stack s H ⟨us,[]⟩ (us++ds) (vs++dvs) Q E hr I.env0 (hb s us I.kIn hl) r2 h) fun r s' hq=>?_);cases r with
 | error e=>exact hx pins σ H s e s' I hq
 | ok fl =>
  cases fl with
  | ret u=>exact I.after hq
  | next=>exact cN hq
  | brk=>exact cN hq
  | cont=>exact cN hq
theorem pe_call (F:FnOk X.prog X.w X.K X.mg X.base CX k f fd ps sp) (hr:Room k X.A) (hg:Gl X x) (hm:X.mg x=some (.ref f)) (hk:cF X.K (.ref f)=true) (hb:Binds X.K fd ps ds) (hd:Vals dvs ds) (hx:Passes CX X E)
  (ha:PA X (e::es) t) (hdb:(x == ("__debug__" : Str))=false:=by decide) (he:au (e::es) X.env=(false,eval e X.env)::au es X.env:=by rfl) (hpl:(bD pos (au es X.env)).any (·.1)=false:=by rfl) :
  PE X (.Call (.Name x p) (e::es) [] pos) (tCall sp dvs E t):=by
 intro pins s σ H Q I h;refine eU (ld_glob I hg hm ?_ hdb);refine iF (h₀:=X.base) I.ok.mod.kin hk (thn (ha pos pins s σ H _ I h) fun us s1 ⟨vs,H1,I1,r,q⟩=>⟨I1.kIn,?_⟩) he hpl;exact run_fn F hr hb hd hx I1 r q
theorem pe_meth {pl:Sem Bool} (he:PE X o ta) (c:Cls X.K C) (hm:Meth X.K C m f) (F:FnOk X.prog X.w X.K X.mg X.base CX k f fd ps sp) (hr:Room k X.A) (hb:Binds X.K fd ps ds) (hd:Vals dvs ds) (hx:Passes CX X E) (ha:PA X (e::es) t)
  (hst:au (e::es) X.env=(false,eval e X.env)::au es X.env:=by rfl) (hpl:(bD pos (au es X.env)).any (·.1)=false:=by rfl)
  (ht:eval (.Call (.Attribute o m apos) (e::es) [] pos) X.env=(do
   let ov <- eval o X.env
   fI apos.atName
   let (f,first) <- eO [ov] (jq ov m pl)
   callWith pos f first (bD pos (au (e::es) X.env)) (fg pos (di [] X.env))):=by rfl) :
  PE X (.Call (.Attribute o m apos) (e::es) [] pos) (tMeth C m sp dvs E ta t):=by
 intro pins s σ H Q I h;refine j7 (pl:=pl) (thn (he pins s σ H _ I h) fun u s1 ⟨x,H1,I1,rx,a,dx,fs,ex,ea,l,q⟩=>?_) ht;subst ex;obtain rfl:u=dr a:=rx;refine getmeth_ok I1 ea c hm l ?_;refine iF (first:=[.ref a]) (h₀:=X.base) I.ok.mod.kin hm.kp (thn (ha pos pins s1 σ H1 _ I1 q) fun us s2 ⟨vs,H2,I2,r,q2⟩=>⟨I2.kIn,?_⟩) hst hpl;exact run_fn (us:=.ref a::us) (vs:=.ref a::vs) F hr hb hd hx I2 (.cons rfl r) q2
theorem pe_meth0 {pl:Sem Bool} (he:PE X o ta) (c:Cls X.K C) (hm:Meth X.K C m f) (F:FnOk X.prog X.w X.K X.mg X.base CX k f fd ps sp) (hr:Room k X.A) (hb:Binds X.K fd ps ds) (hd:Vals dvs ds) (hx:Passes CX X E)
  (ht:eval (.Call (.Attribute o m apos) [] [] pos) X.env=(do
   let ov <- eval o X.env
   fI apos.atName
   let (f,first) <- eO [ov] (jq ov m pl)
   callWith pos f first (bD pos (au [] X.env)) (fg pos (di [] X.env))):=by rfl) :
  PE X (.Call (.Attribute o m apos) [] [] pos) (tMeth C m sp dvs E ta tNil):=by
 intro pins s σ H Q I h;refine j7 (pl:=pl) (thn (he pins s σ H _ I h) fun u s1 ⟨x,H1,I1,rx,a,dx,fs,ex,ea,l,q⟩=>?_) ht;subst ex;obtain rfl:u=dr a:=rx;refine getmeth_ok I1 ea c hm l ?_;exact PySem.W.callWith_K0 (first:=[.ref a]) I1.kIn hm.kp (run_fn (us:=[.ref a]) (vs:=[.ref a]) F hr hb hd hx I1 (.cons rfl .nil) q)
structure Mk (K:ao) (C f:Addr):Prop where
 makes:fX K C=true
 init:c7 K (.ref C) "__init__" = some (some (.ref f))
 fn:jJ K (.ref f)=true
 kp:cF K (.ref C)=true
theorem run_make {pins:List (Addr × Obj)} {σ:St} {H:Hp} {s:ai} {Q:VK} {us:List ae} {vs:List V} (M:Mk X.K C f) (F:FnOk X.prog X.w X.K X.mg X.base CX k f fd ps sp) (hr:Room (k + 1) X.A) (hb:Binds X.K fd ps ds) (hd:Vals dvs ds)
  (hx:Passes CX X E) (I:Inv X pins σ H s) (r:Vals vs us)
  (h:∀ x dx,H x=none->H dx=none->dx≠x->sp (.ref x::(vs++dvs)) (upd (upd H dx (.own x)) x (.ins C dx [])) (fun v H2=>v=.non/\Q (.ref x) H2) E) :
  ax (aC X.prog X.w) X.A (call (.ref C) us) (EP X pins σ Q) X.xe s:=by
 have hq:=h (s.heap.objs.size + 1) s.heap.objs.size (I.hok.fresh (dE _)) (I.hok.fresh (ar _)) (aH (du _));have I2:=Inv.made (C:=C) I;have r2:Vals (V.ref (s.heap.objs.size + 1)::(vs++dvs)) (dr (s.heap.objs.size + 1)::(us++ds)):=.cons rfl (r.append hd);have hl:(dr (s.heap.objs.size + 1)::us++ds).length=ps.length:=by
  have e:=r2.length;rw[F.len _ _ _ _ hq] at e;exact e.symm
 refine wpAny_call (make_map (f:=f) I.kIn M.makes M.init (beq_iff_eq.mp M.fn) (eB (F.run _ X.stack _ _ ⟨dr (s.heap.objs.size + 1)::us,[]⟩ (dr (s.heap.objs.size + 1)::(us++ds)) _ _ E (hr.make C us [])
  (I2.env0.make C us []) (hb _ (dr (s.heap.objs.size + 1)::us) I2.kIn hl) r2 hq) fun r s' hq'=>?_))
 cases r with
 | error e=>exact hx pins σ _ _ e s' I2 hq'
 | ok fl =>
  cases fl with
  | ret u =>
   obtain⟨v,H',I3,rv,ev,q3⟩:=I2.after hq';subst ev;exact⟨rv,⟨V.ref (s.heap.objs.size + 1),H',I3,rfl,q3⟩⟩
  | next=>exact cN hq'
  | brk=>exact cN hq'
  | cont=>exact cN hq'
theorem pe_make (M:Mk X.K C f) (F:FnOk X.prog X.w X.K X.mg X.base CX k f fd ps sp) (hr:Room (k + 1) X.A) (hg:Gl X x) (hm:X.mg x=some (.ref C)) (hb:Binds X.K fd ps ds) (hd:Vals dvs ds) (hx:Passes CX X E)
  (ha:PA X (e::es) t) (hdb:(x == ("__debug__" : Str))=false:=by decide) (he:au (e::es) X.env=(false,eval e X.env)::au es X.env:=by rfl) (hpl:(bD pos (au es X.env)).any (·.1)=false:=by rfl) :
  PE X (.Call (.Name x p) (e::es) [] pos) (tMake C sp dvs E t):=by
 intro pins s σ H Q I h;refine eU (ld_glob I hg hm ?_ hdb);refine iF (h₀:=X.base) I.ok.mod.kin M.kp (thn (ha pos pins s σ H _ I h) fun us s1 ⟨vs,H1,I1,r,q⟩=>⟨I1.kIn,?_⟩) he hpl;exact run_make M F hr hb hd hx I1 r q
end
structure FnScope (N P:List Str) (sc:Scope):Prop where
 kind:sc.kind=.function
 co:sc.isCoroutine=false
 gen:sc.isGenerator=false
 nd:N.Nodup
 pre:N.take P.length=P
 par:∀ x∈P,sc.names.lookup x=some .local\/sc.names.lookup x=some .cell
 nofree:∀ y∈sc.names,y.2≠.free
theorem bindL_out {kindOf:Str->Option fh} {x:Str}:∀ {binds:List (Str × ae)} {m:Str->Option ae},(∀ v,(x,v)∉binds)->bindL kindOf binds m x=m x
 | [],_,_=>rfl
 | (n,v)::r,m,h=>by
  unfold bindL;rw[bindL_out fun w hw=>h w (aq _ hw)]
  split
  ·have:x≠n:=by rintro rfl;exact h v am
   simp[this]
  ·rfl
theorem bindC_out {kindOf:Str->Option fh} {x:Str}:∀ {binds:List (Str × ae)} {m:Str->Option ae},(∀ v,(x,v)∉binds)->bindC kindOf binds m x=m x
 | [],_,_=>rfl
 | (n,v)::r,m,h=>by
  unfold bindC;rw[bindC_out fun w hw=>h w (aq _ hw)]
  split
  ·rfl
  ·have:x≠n:=by rintro rfl;exact h v am
   simp[this]
theorem bindL_get {kindOf:Str->Option fh} {x:Str} {v:ae}:∀ {P:List Str} {vs:List ae} {i:Nat} {m:Str->Option ae},P.Nodup->P[i]?=some x->vs[i]?=some v->kindOf x=some .local ->
  bindL kindOf (P.zip vs) m x=some v
 | [],_,_,_,_,h,_,_=>by simp at h
 | _::_,[],_,_,_,_,h,_=>by simp at h
 | p::P,w::vs,0,m,nd,h1,h2,hk=>by
  simp at h1 h2;subst h1;subst h2;show bindL kindOf ((p,w)::P.zip vs) m p=_;unfold bindL;rw[bindL_out fun v hv=>(bX.mp nd).1 (jZ hv).1,if_pos hk];simp
 | p::P,w::vs,i + 1,m,nd,h1,h2,hk=>by
  show bindL kindOf ((p,w)::P.zip vs) m x=_;unfold bindL;exact bindL_get (i:=i) (bX.mp nd).2 (by simpa using h1) (by simpa using h2) hk
theorem bindC_get {kindOf:Str->Option fh} {x:Str} {v:ae}:∀ {P:List Str} {vs:List ae} {i:Nat} {m:Str->Option ae},P.Nodup->P[i]?=some x->vs[i]?=some v->kindOf x≠some .local ->
  bindC kindOf (P.zip vs) m x=some v
 | [],_,_,_,_,h,_,_=>by simp at h
 | _::_,[],_,_,_,_,h,_=>by simp at h
 | p::P,w::vs,0,m,nd,h1,h2,hk=>by
  simp at h1 h2;subst h1;subst h2;show bindC kindOf ((p,w)::P.zip vs) m p=_;unfold bindC;rw[bindC_out fun v hv=>(bX.mp nd).1 (jZ hv).1,if_neg hk];simp
 | p::P,w::vs,i + 1,m,nd,h1,h2,hk=>by
  show bindC kindOf ((p,w)::P.zip vs) m x=_;unfold bindC;exact bindC_get (i:=i) (bX.mp nd).2 (by simpa using h1) (by simpa using h2) hk
def start (N:List Str) (vs:List V):St:=vs.map some++iG (N.length - vs.length) none
def cxOf (CX:CXT) (P:aD) (w:aK) (K:ao) (mg:Str->Option ae) (base:aW) (N:List Str) (qual:Str) (scope:Scope) (f:Addr) (cd:ae) (A:aQ) (outer:List Env) (s:ai) (H:Hp) (E:XK):Cx where
 prog:=P
 w:=w
 K:=K
 mg:=mg
 base:=base
 A:=A.deeper (envOfC qual scope s.heap.objs.size f cd)
 N:=N
 s₀:=s
 H₀:=H
 env:=envOfC qual scope s.heap.objs.size f cd
 outer:=outer
 stack:=envOfC qual scope s.heap.objs.size f cd::outer
 ex:=[]
 calm:=true
 fn:=fun _=>true
 pn:=[]
 xe:=fun e s'=>ax (aC P w) (A.deeper (envOfC qual scope s.heap.objs.size f cd)) (leaving (envOfC qual scope s.heap.objs.size f cd) e) (fun _ s''=>CX outer H s E e s'') (fun e' s''=>CX outer H s E e' s'') s'
theorem cell_has {sc:Scope} {n:Nat} {x:Str} (h:sc.names.lookup x=some .cell):∃ c,(f8 n sc.names []).lookup x=some c:=by
 have q:=jL sc.names n [] (.inl h);exact b5.mp q
theorem inv_start {CX:CXT} {P:aD} {w:aK} {K:ao} {mg:Str->Option ae} {base:aW} {N ps:List Str} {qual:Str} {scope:Scope} {f:Addr} {cd:ae} {A:aQ} {outer:List Env} {s s1:ai} {H:Hp} {E:XK} {us:List ae} {vs:List V}
  (S:FnScope N ps scope) (hd:A.handled=none) (e0:Env0 P w K mg base A outer s H) (hl:vs.length=ps.length) (r:Vals vs us)
  (x:InCallC s s.heap.objs.size (bindL (envOfC qual scope s.heap.objs.size f cd).kindOf (ps.zip us) fun _=>none) (f8 (s.heap.objs.size + 1) scope.names []) (bindC (envOfC qual scope s.heap.objs.size f cd).kindOf (ps.zip us) fun _=>none) s1) :
  Inv (cxOf CX P w K mg base N qual scope f cd A outer s H E) [] (start N vs) H s1:=by
 have hpl:ps.length<=N.length:=by have:=congrArg f9 S.pre;rw[bw] at this;omega
 obtain⟨h1,tk,rfl,hk⟩:=x.done;have noA:∀ b:Addr,b∉(cxOf CX P w K mg base N qual scope f cd A outer s H E).ex:=fun b z=>absurd (show b∈([]:List Addr) from z) (by simp)
 refine⟨⟨e0.mod,S.kind,rfl,rfl,ar _,fun y z c h1 h2=>?_,fun y hy=>?_,fun y c _ h=>?_,fun _=>hd,aQ.frames_deeper e0.frames,e0.gd,.inr ⟨rfl,rfl⟩,fun b z=>absurd z (noA b),e0.bs,e0.bsz,fun b _ _=>noA b,fun b z=>absurd z (noA b),e0.funs,e0.frf⟩,
  rfl,e0.bare,Un.kept hk,⟨_,x.toInCall.ns,fun i y v h1 h2 h3=>?_⟩,fun y c h=>⟨_,x.cell y c h⟩,e0.hok.fresh (ar _),fun y c h=>?_,fun p hp=>absurd (show p∈([]:List (Addr × Obj)) from hp) (by simp),e0.hok.kept hk,?_⟩
 ·exact name_of_addr x.apart (eP h1) (eP h2)
 ·have hy:scope.names.lookup y=some .cell\/scope.names.lookup y=some .free:=hy;rcases hy with hy | hy
  ·exact cell_has hy
  ·exact absurd rfl (S.nofree _ (eP hy))
 ·exact io (x.above y c (eP h))
 ·have hi:i < vs.length:=by
   unfold start at h2
   by_cases hi:i < vs.length
   ·exact hi
   ·rw[d4 (by simpa using hi)] at h2
    rw[List.getElem?_replicate] at h2
    split at h2 <;> cases h2
  have ha:vs[i]?=some v:=by
   unfold start at h2;rw[d7 (by simpa using hi),bv] at h2
   cases e:vs[i]? with
   | none=>rw[e] at h2;cases h2
   | some a=>rw[e] at h2;cases h2;rfl
  obtain⟨u,hu,rv⟩:=r.get ha;have hp:ps[i]?=some y:=by
   rw[<- S.pre,jf (by omega)];exact h1
  have ndP:ps.Nodup:=by rw[<- S.pre];exact S.nd.sublist (dH _ _)
  refine⟨u,rv,?_⟩;rcases S.par y (bz hp) with k | k
  ·exact .inl ⟨k,bindL_get ndP hp hu k⟩
  ·obtain⟨c,e⟩:=cell_has (n:=s.heap.objs.size + 1) k;refine .inr ⟨.inl k,c,e,?_⟩;have q:=x.cell y c e;rw[bindC_get ndP hp hu (by show scope.names.lookup y≠_;rw[k];decide)] at q
   exact q
 ·exact e0.hok.fresh (io (x.above y c (eP h)))
 ·unfold start;show _=N.length;rw[av,aj,List.length_replicate];omega
theorem fn_of {CX:CXT} {P:aD} {w:aK} {K:ao} {mg:Str->Option ae} {base:aW} {k:Nat} {f:Addr} {name qual:Str} {params:Arguments} {body:List Stmt} {scope:Scope} {dV kV doc pm cdv ct oc:ae} {an od:Option Addr}
  {osl:Array (Option ae)} {N ps:List Str} {sp:Sp} (lk:K.lookup f=some ⟨oc,od,.func (dU name qual params body scope dV kV doc pm an cdv ct),osl⟩) (hcd:fE K cdv qual=true) (S:FnScope N ps scope)
  (len:∀ vs H Q E,sp vs H Q E->vs.length=ps.length)
  (hbody:∀ (A:aQ) (outer:List Env) (s:ai) (H:Hp) (vs:List V) (Q:VK) (E:XK),Room k (A.deeper (envOfC qual scope s.heap.objs.size f cdv))->sp vs H Q E ->
   ∃ t,PSs (cxOf CX P w K mg base N qual scope f cdv A outer s H E) body t/\t { nx:=fun _ H'=>Q .non H',rt:=Q } (start N vs) H) :
  FnOk P w K mg base CX (k + 1) f (dU name qual params body scope dV kV doc pm an cdv ct) ps sp:=by
 refine⟨len,fun A outer s H args us vs Q E hr e0 hb r hsp=>?_⟩;have hl:=len _ _ _ _ hsp;have KX:K.In s.heap:=e0.mod.kin.keeps fun b o e=>(e0.bs b o e).1;have lim:s.heap.NoLimit:=e0.mod.nolimit.keeps fun b o e=>(e0.bs b o e).1;have hkind:∀ y∈ps.zip us,scope.names.lookup y.1=some .local\/(scope.names.lookup y.1=some .cell/\((f8 (s.heap.objs.size + 1) scope.names []).lookup y.1).isSome=true):=fun⟨n,v⟩ hy=>by
  rcases S.par n (jZ hy).1 with q | q
  ·exact .inl q
  ·exact .inr ⟨q,jL _ _ _ (.inl q)⟩
 refine codeAny_call_function hr.depth (KX _ _ lk) rfl S.co S.gen rfl (PySem.W.codeRec_of KX hcd) (hb _ _ _ _ ?_);refine wpAny_newFunctionEnv_cells S.kind hkind fun env he s1 x=>?_;subst he;refine⟨lim.keeps x.toInCall.keep,codeAny_func ?_⟩;obtain⟨t,ht,hq⟩:=hbody A outer s H vs Q E (hr.deeper _) hsp;have I:Inv (cxOf CX P w K mg base N qual scope f cdv A outer s H E) [] (start N vs) H s1:=inv_start S hr.hd e0 hl r x;refine dP (ht [] s1 (start N vs) H _ I hq) (fun fl s' hs=>?_) fun e s' hs=>hs;have fin:∀ {σ':St} {H':Hp} {v:V} {u:ae},Inv (cxOf CX P w K mg base N qual scope f cdv A outer s H E) [] σ' H' s'->RelV v u->Q v H'->CE outer P w H s Q u s' :=
  fun {σ' H' v u} J rv q=>⟨v,H',J.os,J.bare,J.base,J.hok,rv,q⟩
 cases fl with
 | ret u =>
  obtain⟨v,σ',H',J,rv,q⟩:=hs;exact fin J rv q
 | next =>
  obtain⟨σ',H',J,q⟩:=hs;exact fin (v:=V.non) (u:=ci) J rfl q
 | brk =>
  obtain⟨_,_,_,q⟩:=hs;exact cN q
 | cont =>
  obtain⟨_,_,_,q⟩:=hs;exact cN q
section
variable {X:Cx} {x:Str} {p pos:Pos} {e:Expr} {es:List Expr} {t:TA} {id T:String} {r:List V->Hp->VK->Prop}
def tCB (r:List V->Hp->VK->Prop) (t:TA):TE:=fun σ H Q=>t σ H fun vs H1=>r vs H1 Q
theorem pe_callB (hc:CallR X (.builtin id) r) (hg:Gl X x) (hm:X.mg x=none) (hv:bY x=some (.builtin id)) (ha:PA X (e::es) t) (hn:x ≠ "__name__":=by decide) (hdb:(x == ("__debug__" : Str))=false:=by decide)
  (he:au (e::es) X.env=(false,eval e X.env)::au es X.env:=by rfl) (hpl:(bD pos (au es X.env)).any (·.1)=false:=by rfl):PE X (.Call (.Name x p) (e::es) [] pos) (tCB r t):=by
 intro pins s σ H Q I h;refine eU (ld_blt I hg hm hv ?_ hn hdb);exact PyProof.Rows.callWith_builtin1 (thn (ha pos pins s σ H _ I h) fun us s1 ⟨vs,H1,I1,r1,q1⟩=>hc pins s1 σ H1 vs us Q I1 r1 q1) he hpl
theorem pe_callTy (hc:CallR X (.type T) r) (hg:Gl X x) (hm:X.mg x=none) (hv:bY x=some (.type T)) (ha:PA X (e::es) t) (hn:x ≠ "__name__":=by decide) (hdb:(x == ("__debug__" : Str))=false:=by decide)
  (he:au (e::es) X.env=(false,eval e X.env)::au es X.env:=by rfl) (hpl:(bD pos (au es X.env)).any (·.1)=false:=by rfl):PE X (.Call (.Name x p) (e::es) [] pos) (tCB r t):=by
 intro pins s σ H Q I h;refine eU (ld_blt I hg hm hv ?_ hn hdb);exact dR (thn (ha pos pins s σ H _ I h) fun us s1 ⟨vs,H1,I1,r1,q1⟩=>hc pins s1 σ H1 vs us Q I1 r1 q1) he hpl
end
end L2
namespace HT
open PySem PyProof.Rows
section
variable {prog:aD} {w:aK} {A:aQ} {E:ae->ai->Prop} {s:ai}
theorem cat_tup {t b:Addr} {vs ws:List ae} {Q:ae->ai->Prop} (ht:gX s.heap t vs.toArray) (hb:gX s.heap b ws.toArray) (hv:vs≠[])
  (h1:ws=[]->Q (.ref t) s) (h2:ws≠[]->Q (.ref s.heap.objs.size) { s with heap:=s.heap.push { cls:=.type "tuple",data:=.seq (vs++ws).toArray } })
  (hsz:vs.length + ws.length<=sizeLine):ax (aC prog w) A (eR .Add (.ref t) (.ref b)) Q E s:=by
 obtain⟨⟨cls,dd,data,sl⟩,ho,hc,n,hd⟩:=id ht;obtain⟨⟨cls2,dd2,data2,sl2⟩,ho2,hc2,n2,hd2⟩:=id hb;simp only at hc hd hc2 hd2;subst hc hd hc2 hd2;have e:vs.toArray++ws.toArray=(vs++ws).toArray:=by simp
 by_cases hw:ws=[]
 ·exact jM ⟨_,ho,rfl⟩ ⟨_,ho2,rfl⟩ jr seq_tuple_add gh ga (fQ _ _)
   (tuple_addW1 t b vs.toArray ws.toArray n n2 dd dd2 sl sl2 (by simpa using hv) (by simp[hw])) ⟨ho,ho2,h1 hw⟩
 ·refine jM ⟨_,ho,rfl⟩ ⟨_,ho2,rfl⟩ jr seq_tuple_add gh ga (fQ _ _)
   (tuple_addW2 t b vs.toArray ws.toArray n n2 dd dd2 sl sl2 (by simpa using hv) (by simpa using hw) (by rw[ak,ak];exact hsz)) ⟨ho,ho2,?_⟩
  rw[e];exact h2 hw
def sIx (n d:Nat):Option Int->Nat
 | none=>d
 | some v=>if v < 0 then (v + (n:Int)).toNat else min v.toNat n
theorem sIx_none (n d:Nat):sIx n d none=d:=rfl
theorem sIx_nat (n d k:Nat):sIx n d (some (k:Int))=min k n:=by
 show(if (k:Int) < 0 then ((k:Int) + (n:Int)).toNat else min (k:Int).toNat n)=min k n
 rw[if_neg (by omega),bF]
theorem sIx_le (n d:Nat) (hd:d<=n) (o:Option Int):sIx n d o<=n:=by
 cases o with
 | none=>exact hd
 | some v =>
  show(if v < 0 then (v + (n:Int)).toNat else min v.toNat n)<=n
  by_cases hv:v < 0
  ·rw[if_pos hv];omega
  ·rw[if_neg hv];exact Nat.min_le_right _ _
theorem clip_eq (v:Int) (n d:Nat):(if v < 0 then max (v + (n:Int)) 0 else min v (n:Int))=((sIx n d (some v):Nat):Int):=by
 show(if v < 0 then max (v + (n:Int)) 0 else min v (n:Int))=(((if v < 0 then (v + (n:Int)).toNat else min v.toNat n):Nat):Int)
 by_cases hv:v < 0
 ·simp only[if_pos hv];omega
 ·simp only[if_neg hv];omega
theorem adjust_gen (lo hi:Option Int) (n:Nat):fO lo hi 1 (n:Int)=(((sIx n 0 lo:Nat):Int),((sIx n n hi:Nat):Int)):=by
 have h1:¬ ((1:Int) < 0):=by omega
 unfold fO;simp only[h1,if_false];refine Prod.ext ?_ ?_
 ·cases lo with
  | none=>rfl
  | some v=>exact clip_eq v n 0
 ·cases hi with
  | none=>rfl
  | some v=>exact clip_eq v n n
theorem places_gen (i j:Nat):cr (i:Int) (j:Int) 1=j - i:=by
 unfold cr;have h1:(1:Int) > 0:=by omega
 simp only[h1,if_true,jN]
 split <;> omega
theorem slicePart_ {v:ae} {o:Option Int} {Q:Option Int->ai->Prop} (p:jO v o) (h:Q o s):ax (aC prog w) A (cP.Slice.slicePartIndex v) Q E s:=by
 cases p with
 | none=>exact iH h
 | int i t=>exact slicePart_int h
theorem sliceApplied_gen {sl:Addr} {vl vu:ae} {lo hi:Option Int} {n:Nat} {Q:Int × Int × Nat->ai->Prop} (hs:s.heap.IsSliceOf sl vl vu .none) (pl:jO vl lo) (pu:jO vu hi)
  (h:Q (((sIx n 0 lo:Nat):Int),1,sIx n n hi - sIx n 0 lo) s):ax (aC prog w) A (c8 (.ref sl) (pure (n:Int))) Q E s:=by
 obtain⟨os,hos,hcs,hds⟩:=id hs;unfold c8 iV;refine ad (ad (dY hos hds (x:=vl) rfl (ad (dY hos hds (x:=vu) rfl (ad (dY hos hds (x:=.none) rfl (af ?_)))))));refine ad (iH ?_);show ax _ _ (if ((1:Int) == 0)=true then _ else _) _ _ s
 rw[if_neg (by decide)]
 refine ad (slicePart_ pl (ad (slicePart_ pu (ad (af ?_)))));show ax _ _ (match fO lo hi 1 (n:Int) with | (lo,hi)=>pure (lo,(1:Int),cr lo hi 1)) _ _ s
 rw[adjust_gen lo hi n];show ax _ _ (pure (((sIx n 0 lo:Nat):Int),(1:Int),cr ((sIx n 0 lo:Nat):Int) ((sIx n n hi:Nat):Int) 1)) _ _ s;rw[places_gen];exact af h
theorem pick_gen (xs:Array ae) (i k:Nat):((aP k).filterMap fun(m:Nat)=>xs[((i:Int) + (m:Int) * 1).toNat]?).toArray=((xs.toList.drop i).take k).toArray:=by
 have e:(fun(m:Nat)=>xs[((i:Int) + (m:Int) * 1).toNat]?)=fun m=>xs[i + m]?:=by
  funext m
  have:((i:Int) + (m:Int) * 1).toNat=i + m:=by omega
  rw[this]
 rw[e]
 have:=pick_run xs i k
 rw[iI] at this;have e2:((fun x=>xs[x]?) ∘ fun x=>i + x)=fun m=>xs[i + m]?:=rfl;rw[e2] at this;rw[this]
theorem getItem_tuple_cut {t sl:Addr} {items:Array ae} {vl vu:ae} {lo hi:Option Int} {Q:ae->ai->Prop} (ht:gX s.heap t items) (hs:s.heap.IsSliceOf sl vl vu .none) (pl:jO vl lo) (pu:jO vu hi)
  (hw:¬ (sIx items.size 0 lo=0/\sIx items.size items.size hi=items.size))
  (h:Q (.ref s.heap.objs.size) { s with heap:=s.heap.push { cls:=.type "tuple",data:=.seq ((items.toList.drop (sIx items.size 0 lo)).take (sIx items.size items.size hi - sIx items.size 0 lo)).toArray } })
  (hsz:items.size<=sizeLine):ax (aC prog w) A (i7 (.ref t) (.ref sl)) Q E s:=by
 have htake:sizeOk (.seq ((items.toList.drop (sIx items.size 0 lo)).take (sIx items.size items.size hi - sIx items.size 0 lo)).toArray):=by
  show((items.toList.drop (sIx items.size 0 lo)).take (sIx items.size items.size hi - sIx items.size 0 lo)).toArray.size<=sizeLine;rw[ak,bw,dw,b9];omega
 have hj:sIx items.size items.size hi<=items.size:=sIx_le _ _ (ar _) hi;obtain⟨os,hos,hcs,hds⟩:=id hs;have hTs:s.TypeIs (.ref sl) "slice":=⟨os,hos,hcs⟩;unfold i7
 try with_reducible refine bB ?_
 first | refine ad (af ?_) | skip
 refine ad (wpAny_sequenceKey ht.typeIs (by decide) ?_)
 refine ad (cY (name:=aM "__getitem__") ht.typeIs bM
  (cZ bM ht.typeIs entry_tuple_getitem ?_ (args_tuple_getitem _ _)))
 show ax _ _ (iJ (.ref t) >>= _) _ _ s;refine ad (tupleItemsOf_ ht ?_);refine ad (gi hTs ?_);rw[if_pos (by decide)]
 refine ad (sliceApplied_gen hs pl pu ?_);have hno:¬ ((((sIx items.size 0 lo:Nat):Int) == 0 && (1:Int) == 1 && (sIx items.size items.size hi - sIx items.size 0 lo) == items.size)=true):=by
  intro q;rw[aG,aG] at q;have q1:((sIx items.size 0 lo:Nat):Int)=0:=fJ q.1.1;have q2:sIx items.size items.size hi - sIx items.size 0 lo=items.size:=fJ q.2;exact hw ⟨by omega,by omega⟩
 show ax _ _ (if (((sIx items.size 0 lo:Nat):Int) == 0 && (1:Int) == 1 && (sIx items.size items.size hi - sIx items.size 0 lo) == items.size)=true then _ else _) _ _ s
 rw[if_neg hno,pick_gen]
 first
  | exact ad (m:=b7 _) (bh (af ⟨_,rfl,af h⟩) htake)
  | exact ad (m:=b7 _) (bh (ad (af (af ⟨_,rfl,af h⟩))) htake)
  | exact ad (ad (m:=b7 _) (bh (af (af ⟨_,rfl,af h⟩)) htake))
  | exact ad (ad (m:=b7 _) (bh (af ⟨_,rfl,af h⟩) htake))
end
end HT
namespace L2
open PySem PySem.Spec PyProof.Rows
abbrev TO:=St->Hp->(Option Int->Hp->Prop)->Prop
def PO (X:Cx) (e:Option Expr) (t:TO):Prop :=
 ∀ (pins:List (Addr × Obj)) (s:ai) (σ:St) (H:Hp) (Q:Option Int->Hp->Prop),Inv X pins σ H s->t σ H Q ->
  ax (aC X.prog X.w) X.A (evalPart e X.env) (fun u s'=>∃ o H',Inv X pins σ H' s'/\jO u o/\Q o H') X.xe s
def tNoPart:TO:=fun _ H Q=>Q none H
def tPart (t:TE):TO:=fun σ H Q=>t σ H fun x H1=>∃ i,x=.int i/\Q (some i) H1
theorem intsAre_of {ns:List Int}:∀ {us:List ae},Vals (ns.map V.int) us->jP us ns:=by
 induction ns with
 | nil=>intro us r;rw[da] at r;cases r;exact .nil
 | cons n ns ih =>
  intro us r;rw[aY] at r;cases r with
  | cons r1 r2 =>
   obtain⟨t,e⟩:=r1;subst e;exact .cons n t (ih r2)
section
variable {X:Cx} {e:Expr} {te:TE} {lo hi:Option Expr} {tl th:TO} {pos p2:Pos}
theorem po_none:PO X none tNoPart:=by
 intro pins s σ H Q I h;rw[evalPart_none];exact af ⟨none,H,I,.none,h⟩
theorem po_some (h:PE X e te):PO X (some e) (tPart te):=by
 intro pins s σ H Q I hw;rw[evalPart_some];refine thn (h pins s σ H _ I hw) fun u s1 ⟨x,H1,I1,r1,q1⟩=>?_;obtain⟨i,rfl,q⟩:=q1;obtain⟨t,rfl⟩:=r1;exact⟨some i,H1,I1,.int i t,q⟩
def SlR (X:Cx) (r:V->Option Int->Option Int->Hp->VK->Prop):Prop :=
 ∀ (pins:List (Addr × Obj)) (s:ai) (σ:St) (H:Hp) (x:V) (v vl vu:ae) (lo hi:Option Int) (sl:Addr) (Q:VK),Inv X pins σ H s->RelV x v->s.heap.IsSliceOf sl vl vu .none->jO vl lo->jO vu hi->r x lo hi H Q ->
  ∃ T id,typeLookup (.type T) "__getitem__" = pure (some (.builtin id))/\s.TypeIs v T/\ax (aC X.prog X.w) X.A (i7 v (.ref sl)) (EP X pins σ Q) X.xe s
theorem SlR.or {r r':V->Option Int->Option Int->Hp->VK->Prop} (h:SlR X r) (h':SlR X r'):SlR X (fun x lo hi H Q=>r x lo hi H Q\/r' x lo hi H Q):=by
 intro pins s σ H x v vl vu lo hi sl Q I rx hs pl pu q;rcases q with q | q
 ·exact h pins s σ H x v vl vu lo hi sl Q I rx hs pl pu q
 ·exact h' pins s σ H x v vl vu lo hi sl Q I rx hs pl pu q
def tSl (r:V->Option Int->Option Int->Hp->VK->Prop) (te:TE) (tl th:TO):TE:=fun σ H Q=>te σ H fun x H1=>tl σ H1 fun l H2=>th σ H2 fun u H3=>r x l u H3 Q
theorem pe_slice {r:V->Option Int->Option Int->Hp->VK->Prop} (hr:SlR X r) (he:PE X e te) (hl:PO X lo tl) (hu:PO X hi th):PE X (.Subscript e (.Slice lo hi none p2) pos) (tSl r te tl th):=by
 intro pins s σ H Q I h;refine Subscript_ (thn (he pins s σ H _ I h) fun v s1 ⟨x,H1,I1,r1,q1⟩=>?_);refine wpAny_Slice (thn (hl pins s1 σ H1 _ I1 q1) fun vl s2 ⟨l,H2,I2,pl,q2⟩=>thn (hu pins s2 σ H2 _ I2 q2) fun vu s3 ⟨u,H3,I3,pu,q3⟩=>?_);rw[evalPart_none];refine af ?_;have I4:Inv X pins σ H3 { s3 with heap:=s3.heap.push { cls:=.type "slice",data:=.fields #[vl,vu,.none] } }:=I3.kept (t':=s3.toks) fun b ob q=>ah _ q
 obtain⟨T,id,hT,ht,hg⟩:=hr pins { s3 with heap:=s3.heap.push { cls:=.type "slice",data:=.fields #[vl,vu,.none] } } σ H3 x v vl vu l u s3.heap.objs.size Q I4 r1 (kB ..) pl pu q3;show ax (aC X.prog X.w) X.A (subscriptTail e (.Slice lo hi none p2) v (.ref s3.heap.objs.size)) (EP X pins σ Q) X.xe { s3 with heap:=s3.heap.push { cls:=.type "slice",data:=.fields #[vl,vu,.none] } }
 exact tail_any (ops:=[.ref s3.heap.objs.size,v]) ht hT hg (by with_unfolding_all rfl)
def cutV (xs:List V) (lo hi:Option Int):List V:=(xs.drop (HT.sIx xs.length 0 lo)).take (HT.sIx xs.length xs.length hi - HT.sIx xs.length 0 lo)
theorem cutV_length (xs:List V) (lo hi:Option Int):(cutV xs lo hi).length<=xs.length:=by
 unfold cutV;rw[bw,dw];omega
def rSlT (K:ao):V->Option Int->Option Int->Hp->VK->Prop:=fun x lo hi H Q=>∃ a xs,x=.ref a/\SqT K H a xs /\
 ¬ (HT.sIx xs.length 0 lo=0/\HT.sIx xs.length xs.length hi=xs.length)/\∀ p,H p=none->Q (.ref p) (upd H p (.tup (cutV xs lo hi)))
theorem sl_tup:SlR X (rSlT X.K):=by
 intro pins s σ H x v vl vu lo hi sl Q I rx hs pl pu h;obtain⟨a,xs,rfl,hx,hw,q⟩:=h;cases rx;obtain⟨its,r,ht,hz⟩:=I.tuple hx;have hlen:its.toArray.size=xs.length:=by rw[ak];exact r.length.symm
 refine⟨"tuple",_,bM.lookup,ht.typeIs,?_⟩;refine HT.getItem_tuple_cut ht hs pl pu (by rw[hlen];exact hw) ?_ (by rw[hlen];exact hz)
 rw[hlen];refine⟨.ref s.heap.objs.size,_,I.laid (t':=s.toks) (o:=.tup (cutV xs lo hi)) (fun b ob q=>ah _ q) (ar _) ?_,rfl,q _ (I.hok.fresh (ar _))⟩;exact⟨aV (cutV_length xs lo hi) hz,_,(r.drop (HT.sIx xs.length 0 lo)).take (HT.sIx xs.length xs.length hi - HT.sIx xs.length 0 lo),gX.new _ _,nd_new⟩
def rCatT (K:ao):R2:=fun x y H Q=>∃ a b xs ys,x=.ref a/\y=.ref b/\SqT K H a xs/\SqT K H b ys/\xs≠[]/\xs.length + ys.length<=sizeLine /\
 (ys=[]->Q (.ref a) H)/\(ys≠[]->∀ p,H p=none->Q (.ref p) (upd H p (.tup (xs++ys))))
theorem Vals.nil_iff {xs:List V} {us:List ae} (r:Vals xs us):us=[]↔xs=[]:=by
 cases r with
 | nil=>simp
 | cons _ _=>simp
theorem op_catT:OpR X (eR .Add) (rCatT X.K):=by
 intro pins s σ H x y v u Q I rx ry h;obtain⟨a,b,xs,ys,rfl,rfl,ha,hb,hx,hz,q1,q2⟩:=h;cases rx;cases ry;obtain⟨its,r1,p1,_⟩:=I.tuple ha;obtain⟨its2,r2,p2,_⟩:=I.tuple hb;refine HT.cat_tup p1 p2 (fun z=>hx (r1.nil_iff.mp z)) (fun z=>⟨.ref a,H,I,rfl,q1 (r2.nil_iff.mp z)⟩) (fun z=>?_) (by rw[<- r1.length,<- r2.length];exact hz)
 refine⟨.ref s.heap.objs.size,_,I.laid (t':=s.toks) (o:=.tup (xs++ys)) (fun b ob q=>ah _ q) (ar _) ?_,rfl,q2 (fun w=>z (r2.nil_iff.mpr w)) _ (I.hok.fresh (ar _))⟩;exact⟨by rw[av];exact hz,_,r1.append r2,gX.new _ _,nd_new⟩
end
def ixN (n:Nat) (i:Int):Option Nat:=if 0<=i then (if i < n then some i.toNat else none) else if -(n:Int)<=i then some (i + n).toNat else none
def atI {α:Type} (xs:List α) (i:Int):Option α:=(ixN xs.length i).bind fun j=>xs[j]?
theorem ixN_seq {n:Nat} {i:Int} {j:Nat} (h:ixN n i=some j):seqIndex? i n=some j/\j < n/\-(n:Int)<=i/\i < n:=by
 unfold ixN at h
 by_cases h0:0<=i
 ·rw[if_pos h0] at h
  by_cases h1:i < n
  ·rw[if_pos h1] at h;have e:i.toNat=j:=aJ h;exact⟨by rw[seqIndex_of h0 h1,e],by omega,by omega,h1⟩
  ·rw[if_neg h1] at h;cases h
 ·rw[if_neg h0] at h
  by_cases h1:-(n:Int)<=i
  ·rw[if_pos h1] at h;have e:(i + n).toNat=j:=aJ h;exact⟨by rw[seqIndex_neg (by omega) h1,e],by omega,h1,by omega⟩
  ·rw[if_neg h1] at h;cases h
theorem atI_get {α:Type} {xs:List α} {i:Int} {v:α} (h:atI xs i=some v):∃ j,seqIndex? i xs.length=some j/\xs[j]?=some v/\j < xs.length/\-(xs.length:Int)<=i/\i < xs.length:=by
 unfold atI at h;cases e:ixN xs.length i with
 | none=>rw[e] at h;cases h
 | some j =>
  rw[e] at h;obtain⟨h1,h2,h3,h4⟩:=ixN_seq e;exact⟨j,h1,h,h2,h3,h4⟩
theorem atI_nat {α:Type} {xs:List α} {j:Nat} {v:α} (h:xs[j]?=some v):atI xs (j:Int)=some v:=by
 have hj:j < xs.length:=(bi.mp h).1;have e:ixN xs.length (j:Int)=some j:=by
  unfold ixN;rw[if_pos (by omega),if_pos (by omega)];simp
 unfold atI;rw[e];exact h
theorem atI_last {α:Type} (xs:List α) (v:α):atI (xs++[v]) (-1)=some v:=by
 have hl:(xs++[v]).length=xs.length + 1:=by simp
 have e:ixN (xs++[v]).length (-1)=some xs.length:=by
  unfold ixN;rw[hl,if_neg (by decide),if_pos (by omega)]
  congr 1
  omega
 unfold atI;rw[e];show(xs++[v])[xs.length]?=some v;simp
def PlainIx (b:Expr):Prop:=∀ o i,subscripted b false o i=operate [o,i] (i7 o i)
def IxR (X:Cx) (r:R2):Prop :=
 ∀ (value slice:Expr) (pins:List (Addr × Obj)) (s:ai) (σ:St) (H:Hp) (x y:V) (v u:ae) (Q:VK),Inv X pins σ H s->RelV x v->RelV y u->r x y H Q ->
  subscripted slice false v u=operate [v,u] (i7 v u)->ax (aC X.prog X.w) X.A (subscriptTail value slice v u) (EP X pins σ Q) X.xe s
def MtR (X:Cx) (id:String) (r:V->List V->Hp->VK->Prop):Prop :=
 ∀ (pins:List (Addr × Obj)) (s:ai) (σ:St) (H:Hp) (x:V) (xs:List V) (v:ae) (us:List ae) (Q:VK),Inv X pins σ H s->RelV x v->Vals xs us->r x xs H Q ->
  ax (aC X.prog X.w) X.A (call (.builtin id) (v::us)) (EP X pins σ Q) X.xe s
section
variable {X:Cx} {a b:Expr} {ta tb:TE} {pos:Pos}
theorem IxR.or {r r':R2} (h:IxR X r) (h':IxR X r'):IxR X (fun x y H Q=>r x y H Q\/r' x y H Q):=by
 intro value slice pins s σ H x y v u Q I rx ry q hs;rcases q with q | q
 ·exact h value slice pins s σ H x y v u Q I rx ry q hs
 ·exact h' value slice pins s σ H x y v u Q I rx ry q hs
theorem pe_ix {r:R2} (hr:IxR X r) (ha:PE X a ta) (hb:PE X b tb) (hs:PlainIx b):PE X (.Subscript a b pos) (tOp r ta tb):=by
 intro pins s σ H Q I h;exact Subscript_ (binT ha hb I h fun v u s2 x y H2 I2 rx ry q=>hr a b pins s2 σ H2 x y v u Q I2 rx ry q (hs _ _))
def rIxL (K:ao):R2:=fun x y H Q=>∃ p xs i v,x=.ref p/\y=.int i/\SqL K H p xs/\atI xs i=some v/\Q v H
def rIxT (K:ao):R2:=fun x y H Q=>∃ p xs i v,x=.ref p/\y=.int i/\SqT K H p xs/\atI xs i=some v/\Q v H
def rIxS:R2:=fun x y H Q=>∃ z i c,x=.str z/\y=.int i/\z.length<=sizeLine/\atI z.cps.toList i=some c/\Q (.str ⟨#[c]⟩) H
theorem ix_list:IxR X (rIxL X.K):=by
 intro value slice pins s σ H x y v u Q I rx ry h hs;obtain⟨p,xs,i,z,rfl,rfl,hq,he,q⟩:=h;cases rx;obtain⟨t,rfl⟩:=ry;obtain⟨its,r,pl,hz⟩:=I.list hq;obtain⟨j,h1,h2,h3,h4,h5⟩:=atI_get he;obtain⟨w,ew,rw'⟩:=r.get h2;have hl:=r.length;have hn:=line63;have fin:EP X pins σ Q w s:=⟨z,H,I,rw',q⟩
 by_cases h0:0<=i
 ·have hj:i.toNat=j:=by
   rw[seqIndex_of h0 h5] at h1;exact aJ h1
  exact item_listR pl.isList h0 (by omega) (by rw[hj];simpa using ew) fin hs
 ·have hj:(i + (its.toArray.size:Int)).toNat=j:=by
   rw[seqIndex_neg (by omega) h4] at h1
   rw[ak,<- hl];exact aJ h1
  exact subscriptTail_builtinR (x:=w) pl.isList.typeIs i8.lookup
   (wpAny_getItem_list_neg (Q:=fun r s'=>r=w/\EP X pins σ Q r s') pl.isList (by omega) (by rw[ak] <;> omega) (by omega) (by rw[hj];simpa using ew) ⟨rfl,fin⟩) hs
theorem ix_tup:IxR X (rIxT X.K):=by
 intro value slice pins s σ H x y v u Q I rx ry h hs;obtain⟨p,xs,i,z,rfl,rfl,hq,he,q⟩:=h;cases rx;obtain⟨t,rfl⟩:=ry;obtain⟨its,r,pl,hz⟩:=I.tuple hq;obtain⟨j,h1,h2,h3,h4,h5⟩:=atI_get he;obtain⟨w,ew,rw'⟩:=r.get h2;have hl:=r.length;have hn:=line63;have fin:EP X pins σ Q w s:=⟨z,H,I,rw',q⟩;exact subscriptTail_builtinR (x:=w) pl.typeIs slot_tuple_getitem.lookup
  (getItem_tuple (j:=j) (Q:=fun r s'=>r=w/\EP X pins σ Q r s') pl (by omega) (by omega) (by rw[ak,<- hl];exact h1) (by simpa using ew) ⟨rfl,fin⟩) hs
theorem ix_str:IxR X rIxS:=by
 intro value slice pins s σ H x y v u Q I rx ry h hs;obtain⟨z,i,c,rfl,rfl,hz,he,q⟩:=h;obtain⟨t,rfl⟩:=rx;obtain⟨t',rfl⟩:=ry;obtain⟨j,h1,h2,h3,h4,h5⟩:=atI_get he;have hl:z.cps.toList.length=z.length:=by simp[Str.length]
 rw[hl] at h1 h4 h5;have hn:=line63;exact tail_any (typeIs_str s z t) slot_str_getitem.lookup (getItem_str (c:=c) (by
  have e1:decide (i < -(2 ^ 63:Int))=false:=decide_eq_false (by omega)
  have e2:decide (i >= 2 ^ 63)=false:=decide_eq_false (by omega)
  rw[e1,e2,Bool.or_false]) (by rw[h1];simpa using h2) ⟨.str ⟨#[c]⟩,H,I.tok _,⟨_,rfl⟩,q⟩) hs
def rIx (K:ao):R2:=fun x y H Q=>rIxL K x y H Q\/rIxT K x y H Q\/rIxS x y H Q
theorem ix_seq:IxR X (rIx X.K):=ix_list.or (ix_tup.or ix_str)
theorem mapSeq_set (its:List ae) (n j:Nat) (u:ae):bW (·.setIfInBounds j u) { cls:=.type "list",data:=.seq its.toArray n }={ cls:=.type "list",data:=.seq (its.set j u).toArray n }:=by
 simp[bW]
theorem Inv.lst {pins:List (Addr × Obj)} {σ:St} {H:Hp} {s:ai} {p:Addr} {xs:List V} (I:Inv X pins σ H s) (h:H p=some (.lst xs)) :
  ∃ (its:List ae) (n:Nat),Vals xs its/\s.heap.get? p=some { cls:=.type "list",data:=.seq its.toArray n }/\xs.length<=sizeLine:=by
 obtain⟨z,its,n,r,e⟩:=I.hok p _ h;exact⟨its,n,r,e,z⟩
theorem Inv.lstUpd {pins:List (Addr × Obj)} {σ:St} {H:Hp} {s:ai} {p:Addr} {xs ys:List V} {its its':List ae} {n n':Nat} {f:Obj->Obj} (I:Inv X pins σ H s) (h:H p=some (.lst xs))
  (ho:s.heap.get? p=some { cls:=.type "list",data:=.seq its.toArray n }) (hf:f { cls:=.type "list",data:=.seq its.toArray n }={ cls:=.type "list",data:=.seq its'.toArray n' }) (r:Vals ys its') (hz:ys.length<=sizeLine) (t:Nat) :
  Inv X pins σ (upd H p (.lst ys)) { s with heap:=s.heap.update p f,toks:=t }:=by
 have e:(s.heap.update p f).get? p=some { cls:=.type "list",data:=.seq its'.toArray n' }:=by
  rw[b8 f ho (by rw[hf] <;> rfl),hf]
 refine I.write (x:=p) (e:=p) (by rw[h];trivial) (.inl rfl) (fun b u hb q=>(be _ _ (aZ hb)).trans q) ⟨_,e⟩ ?_
 exact⟨hz,its',n',r,e⟩
def rSetL:V->V->V->Hp->(Hp->Prop)->Prop:=fun o i v H Q=>∃ p xs k j,o=.ref p/\i=.int k/\H p=some (.lst xs)/\ixN xs.length k=some j/\Q (upd H p (.lst (xs.set j v)))
theorem set_list:PSet X rSetL:=by
 intro pins s σ H o i v ov iv u Q I ro ri rv h;obtain⟨p,xs,k,j,rfl,rfl,hp,hj,q⟩:=h;cases ro;obtain⟨t,rfl⟩:=ri;obtain⟨its,n,r,ho,hz⟩:=I.lst hp;obtain⟨h1,h2,h3,h4⟩:=ixN_seq hj;have hl:=r.length;have hn:=line63;have I':Inv X pins σ (upd H p (.lst (xs.set j v))) { s with heap:=s.heap.update p (bW (·.setIfInBounds j u)) } :=
  I.lstUpd hp ho (mapSeq_set its n j u) (r.set rv j) (by rw[fY];exact hz) s.toks
 by_cases h0:0<=k
 ·have hk:k.toNat=j:=by
   rw[seqIndex_of h0 h4] at h1;exact aJ h1
  exact PySem.W.ki_setAt ho h0 (by omega) (by rw[ak,<- hl];exact h4) (by rw[hk];exact⟨_,I',q⟩)
 ·have hk:(k + (its.toArray.size:Int)).toNat=j:=by
   rw[seqIndex_neg (by omega) h3] at h1
   rw[ak,<- hl];exact aJ h1
  exact PySem.W.ki_setBack ho (by omega) (by rw[ak,<- hl];exact h3) (by omega) (by rw[hk];exact⟨_,I',q⟩)
theorem slice_bounds (lo hi:Option Int) (n:Nat):(eC lo hi none n).1=((HT.sIx n 0 lo:Nat):Int)/\(eC lo hi none n).2.1=((HT.sIx n n hi:Nat):Int)/\(eC lo hi none n).2.2=1:=by
 refine⟨?_,?_,rfl⟩
 ·cases lo with
  | none=>simp[eC,HT.sIx]
  | some i =>
   simp only[eC,HT.sIx,js,show(1:Int) > 0 by decide,if_true]
   by_cases h:i < 0
   ·simp only[h,if_true] <;> omega
   ·simp only[h,if_false] <;> omega
 ·cases hi with
  | none=>simp[eC,HT.sIx]
  | some i =>
   simp only[eC,HT.sIx,js,show(1:Int) > 0 by decide,if_true]
   by_cases h:i < 0
   ·simp only[h,if_true] <;> omega
   ·simp only[h,if_false] <;> omega
theorem slicePick_cut (its:List ae) (lo hi:Option Int):slicePick its.toArray lo hi none=((its.drop (HT.sIx its.length 0 lo)).take (HT.sIx its.length its.length hi - HT.sIx its.length 0 lo)).toArray:=by
 obtain⟨h1,h2,h3⟩:=slice_bounds lo hi its.toArray.size;unfold slicePick;rw[h1,h2,h3];simp only[sliceRange_one,pick_run,ak] <;> rfl
def rSlL (K:ao):V->Option Int->Option Int->Hp->VK->Prop:=fun x lo hi H Q=>∃ a xs,x=.ref a/\SqL K H a xs/\∀ p,H p=none->Q (.ref p) (upd H p (.lst (cutV xs lo hi)))
theorem sl_list:SlR X (rSlL X.K):=by
 intro pins s σ H x v vl vu lo hi sl Q I rx hs pl pu h;obtain⟨a,xs,rfl,hx,q⟩:=h;cases rx;obtain⟨its,r,ht,hz⟩:=I.list hx;have hlen:=r.length;refine⟨"list",_,i8.lookup,ht.isList.typeIs,?_⟩;refine wpAny_getItem_list_slice ht.isList hs pl pu .none (by simp) ?_ (by rw[ak] <;> omega)
 rw[slicePick_cut,<- hlen];refine⟨.ref s.heap.objs.size,_,I.laid (t':=s.toks) (o:=.lst (cutV xs lo hi)) (fun b ob q=>ah _ q) (ar _) ?_,rfl,q _ (I.hok.fresh (ar _))⟩;exact⟨aV (cutV_length xs lo hi) hz,_,0,(r.drop (HT.sIx xs.length 0 lo)).take (HT.sIx xs.length xs.length hi - HT.sIx xs.length 0 lo),aw _ rfl⟩
theorem CallR.or {f:ae} {r r':List V->Hp->VK->Prop} (h:CallR X f r) (h':CallR X f r'):CallR X f (fun xs H Q=>r xs H Q\/r' xs H Q):=by
 intro pins s σ H xs us Q I rs q;rcases q with q | q
 ·exact h pins s σ H xs us Q I rs q
 ·exact h' pins s σ H xs us Q I rs q
theorem call_list_of:CallR X (.type "list") (fun xs H Q=>∃ p ys,xs=[.ref p]/\(SqL X.K H p ys\/SqT X.K H p ys)/\∀ l,H l=none->Q (.ref l) (upd H l (.lst ys))):=by
 intro pins s σ H xs us Q I r h;obtain⟨p,ys,rfl,hq,q⟩:=h;obtain⟨u,rfl,rx⟩:=vals1 r;cases rx;have fin:∀ (its:List ae),Vals ys its->ys.length<=sizeLine->∀ (h':aW) (c':Nat),(∀ b o',s.heap.get? b=some o'->h'.get? b=some o') ->
   h'.get? s.heap.objs.size=some { cls:=.type "list",dict:=none,data:=.seq its.toArray c',slots:=#[] }->EP X pins σ Q (.ref s.heap.objs.size) { s with heap:=h' }:=fun its r' hz h' c' kp e =>
  ⟨.ref s.heap.objs.size,_,I.laid (t':=s.toks) kp (ar _) (show ObjOk X.prog X.w _ h' _ (.lst ys) from⟨hz,its,c',r',e⟩),rfl,q _ (I.hok.fresh (ar _))⟩
 rcases hq with hq | hq
 ·obtain⟨its,r',pl,hz⟩:=I.list hq;have hlen:=r'.length;obtain⟨o,ho,hc,n,hd⟩:=pl.isList;exact call_list_seq p (.inl rfl) ho hc hd (fun h' c' kp e=>fin its r' hz h' c' kp e) (by simp only[ak] <;> omega)
 ·obtain⟨its,r',pl,hz⟩:=I.tuple hq;have hlen:=r'.length;obtain⟨o,ho,hc,n,hd⟩:=pl;exact call_list_seq p (.inr rfl) ho hc hd (fun h' c' kp e=>fin its r' hz h' c' kp e) (by simp only[ak] <;> omega)
theorem call_tuple_of:CallR X (.type "tuple") (fun xs H Q=>∃ p ys,xs=[.ref p]/\((SqL X.K H p ys/\∀ l,H l=none->Q (.ref l) (upd H l (.tup ys)))\/(SqT X.K H p ys/\Q (.ref p) H))):=by
 intro pins s σ H xs us Q I r h;obtain⟨p,ys,rfl,h⟩:=h;obtain⟨u,rfl,rx⟩:=vals1 r;cases rx;rcases h with⟨hq,q⟩ | ⟨hq,q⟩
 ·obtain⟨its,r',pl,hz⟩:=I.list hq;have hlen:=r'.length;refine call_tuple_list pl.isList (fun h' kp=>?_) (by simp only[ak] <;> omega)
  have I1:Inv X pins σ H { s with heap:=h' }:=I.kept (t':=s.toks) kp
  have I2:Inv X pins σ (upd H h'.objs.size (.tup ys)) { s with heap:=h'.push { cls:=.type "tuple",data:=.seq its.toArray } } :=
   I1.laid (t':=s.toks) (fun b o e=>ah _ e) (ar _) (show ObjOk X.prog X.w _ _ _ (.tup ys) from⟨hz,its,r',gX.new _ _,nd_new⟩)
  exact⟨.ref h'.objs.size,_,I2,rfl,q _ (I1.hok.fresh (ar _))⟩
 ·obtain⟨its,r',pl,hz⟩:=I.tuple hq;exact call_tuple_same pl ⟨.ref p,H,I,rfl,q⟩
def tyV (K:ao) (T:String) (x:V) (H:Hp):Prop:=match x with
 | .str _=>T = "str"
 | .int _=>T = "int"
 | .ref p=>(T = "list"/\∃ xs,SqL K H p xs)\/(T = "tuple"/\∃ o,K.lookup p=some o/\o.cls=.type "tuple"/\o.dict=none) \/
   (T = "dict"/\((∃ kvs,H p=some (.dK kvs))\/∃ kvs,H p=some (.dT kvs)))\/(T = "set"/\∃ S n,H p=some (.set S n))
 | _=>False
theorem tyV_is {pins:List (Addr × Obj)} {σ:St} {H:Hp} {s:ai} {T:String} {x:V} {v:ae} (I:Inv X pins σ H s) (r:RelV x v) (ty:tyV X.K T x H) :
  s.TypeIs v T/\∀ a,v=.ref a->∃ ob,s.heap.get? a=some ob/\ob.dict=none:=by
 cases x with
 | str z =>
  obtain⟨t,rfl⟩:=r;cases (show T = "str" from ty)
  exact⟨typeIs_str s z t,fun _ e=>nomatch e⟩
 | int i =>
  obtain⟨t,rfl⟩:=r;cases (show T = "int" from ty)
  exact⟨typeIs_int s i t,fun _ e=>nomatch e⟩
 | ref p =>
  cases r;rcases ty with⟨rfl,xs,hq⟩ | ⟨rfl,o,hk,hc,hd⟩ | ⟨rfl,hk⟩ | ⟨rfl,S,n,hk⟩
  ·obtain⟨its,_,pl,_⟩:=I.list hq;refine⟨pl.isList.typeIs,fun a e=>?_⟩;cases e;obtain⟨o,n,e,c,hd,_⟩:=pl;exact⟨o,e,hd⟩
  ·refine⟨⟨o,I.kIn p o hk,hc⟩,fun a e=>?_⟩;cases e;exact⟨o,I.kIn _ o hk,hd⟩
  ·have z:∃ o,s.heap.get? p=some o/\o.ExactDict:=by
    rcases hk with⟨kvs,hk⟩ | ⟨kvs,hk⟩
    ·obtain⟨_,_,_,_,o,_,_,e,ex,_⟩:=I.hok p _ hk;exact⟨o,e,ex⟩
    ·obtain⟨_,_,_,_,o,_,_,e,ex,_⟩:=I.hok p _ hk;exact⟨o,e,ex⟩
   obtain⟨o,e,ex⟩:=z;refine⟨⟨o,e,ex.1⟩,fun a e2=>?_⟩;cases e2;exact⟨o,e,ex.2.1⟩
  ·obtain⟨o,_,_,_,e,ex,_⟩:=I.hok p _ hk;refine⟨⟨o,e,ex.1⟩,fun a e2=>?_⟩;cases e2;exact⟨o,e,ex.2.1⟩
 | _=>exact cN ty
def tBM0 (K:ao) (T:String) (r:V->List V->Hp->VK->Prop) (to:TE):TE:=fun σ H Q=>to σ H fun x H1=>tyV K T x H1/\r x [] H1 Q
def tBM (K:ao) (T:String) (r:V->List V->Hp->VK->Prop) (to:TE) (t:TA):TE:=fun σ H Q=>to σ H fun x H1=>tyV K T x H1/\t σ H1 fun xs H2=>r x xs H2 Q
variable {o e:Expr} {es:List Expr} {to:TE} {t:TA} {name:Str} {apos cpos:Pos} {T id:String} {r:V->List V->Hp->VK->Prop}
theorem pe_bm0 (pa:PlainAttrs T) (slot:Slot T name id) (hty:typeOf (.builtin id)=pure (.type "method_descriptor")) (hm:MtR X id r) (ho:PE X o to)
  (hbase:cJ o name X.env (eval o X.env)=eval o X.env:=by rfl) (hline:(apos.endLine == cpos.line)=true:=by rfl):PE X (.Call (.Attribute o name apos) [] [] cpos) (tBM0 X.K T r to):=by
 intro pins s σ H Q I h;refine wpAny_Call_method0_late hbase hline (thn (ho pins s σ H _ I h) fun v s1 ⟨x,H1,I1,r1,ty,q1⟩=>?_);obtain⟨h1,h2⟩:=tyV_is I1 r1 ty;exact⟨T,id,pa,slot,hty,h1,h2,jQ rfl (PySem.evalArgs_none (hm pins s1 σ H1 x [] v [] Q I1 r1 .nil q1))⟩
theorem pe_bm (pa:PlainAttrs T) (slot:Slot T name id) (hty:typeOf (.builtin id)=pure (.type "method_descriptor")) (hm:MtR X id r) (ho:PE X o to) (ha:PA X (e::es) t)
  (hbase:cJ o name X.env (eval o X.env)=eval o X.env:=by rfl)
  (hfew:((bD cpos (au (e::es) X.env)).all (fun x=>!x.1) && (fg cpos (di [] X.env)).all (fun x=>x.1.isSome)
   && decide ((e::es).length + ([]:List fK).length + (if ([]:List fK).isEmpty then 0 else 1) < 30))=true:=by rfl)
  (hline:(apos.endLine == cpos.line)=true:=by rfl) (hs:au (e::es) X.env=(false,eval e X.env)::au es X.env:=by rfl) (hplain:(bD cpos (au es X.env)).any (·.1)=false:=by rfl) :
  PE X (.Call (.Attribute o name apos) (e::es) [] cpos) (tBM X.K T r to t):=by
 intro pins s σ H Q I h;refine wpAny_Call_method_late hbase hfew hline rfl (thn (ho pins s σ H _ I h) fun v s1 ⟨x,H1,I1,r1,ty,q1⟩=>?_);obtain⟨h1,h2⟩:=tyV_is I1 r1 ty;refine⟨T,id,pa,slot,hty,h1,h2,?_⟩;have hA:=ha cpos pins s1 σ H1 _ I1 q1;rw[hs] at hA ⊢;refine jQ (by show(false || (bD cpos (au es X.env)).any (·.1))=false;rw[hplain] <;> rfl) (Calls.evalArgs_plain ?_)
 exact thn hA fun us s2 ⟨vs,H2,I2,r2,q2⟩=>hm pins s2 σ H2 x vs v us Q I2 r1 r2 q2
end
def MtM (X:Cx) (id:String) (r:V->List V->Hp->VK->Prop):Prop :=
 ∀ (pins:List (Addr × Obj)) (s:ai) (σ:St) (H:Hp) (x:V) (xs:List V) (v:ae) (us:List ae) (Q:VK),Inv X pins σ H s->RelV x v->Vals xs us->r x xs H Q ->
  ax (aC X.prog X.w) X.A (call (.builtin id) (v::us)) (EP X pins σ Q) X.xe s
theorem Vals.one:∀ {x:V} {us:List ae},Vals [x] us->∃ u,us=[u]/\RelV x u:=by
 intro x us h;cases h with
 | cons r t=>cases t;exact⟨_,rfl,r⟩
theorem Vals.zero:∀ {us:List ae},Vals [] us->us=[]
 | _,.nil=>rfl
theorem Vals.dropLast {xs:List V} {us:List ae} (h:Vals xs us):Vals xs.dropLast us.dropLast:=by
 induction h with
 | nil=>exact .nil
 | cons r t ih =>
  cases t with
  | nil=>exact .nil
  | cons q t'=>exact .cons r ih
theorem Vals.eraseIdx:∀ {xs:List V} {us:List ae} (i:Nat),Vals xs us->Vals (xs.eraseIdx i) (us.eraseIdx i)
 | _,_,_,.nil=>.nil
 | _,_,0,.cons _ t=>t
 | _,_,i + 1,.cons r t=>.cons r (Vals.eraseIdx i t)
theorem Vals.reverse {xs:List V} {us:List ae} (h:Vals xs us):Vals xs.reverse us.reverse:=by
 induction h with
 | nil=>exact .nil
 | cons r t ih=>rw[gk,gk];exact Vals.append ih (.cons r .nil)
theorem erase_last {α:Type} (l:List α):l.eraseIdx (l.length - 1)=l.dropLast:=by
 induction l with
 | nil=>rfl
 | cons a r ih =>
  cases r with
  | nil=>rfl
  | cons b r =>
   have e:(a::b::r).length - 1=((b::r).length - 1) + 1:=by
    have h1:(a::b::r).length=r.length + 2:=rfl;have h2:(b::r).length=r.length + 1:=rfl;omega
   rw[e,List.eraseIdx_cons_succ,ih]
   all_goals rfl
theorem len_erase {α:Type}:∀ (l:List α) (i:Nat),(l.eraseIdx i).length<=l.length
 | [],_=>ar _
 | _::_,0=>dE _
 | _::r,i + 1=>gK (len_erase r i)
section
variable {X:Cx} {pins:List (Addr × Obj)} {σ:St} {H:Hp} {s:ai} {l b:Addr} {xs ys zs:List V}
theorem Inv.lset {its its':List ae} {n:Nat} {f:Array ae->Array ae} {t':Nat} (I:Inv X pins σ H s) (hH:H l=some (.lst xs))
  (e:s.heap.get? l=some { cls:=.type "list",data:=.seq its.toArray n }) (hf:f its.toArray=its'.toArray) (hv:Vals ys its') (hz:ys.length<=sizeLine) :
  Inv X pins σ (upd H l (.lst ys)) { s with heap:=s.heap.update l (bW f),toks:=t' }:=by
 have q:=PySem.IsL.update e f;rw[hf] at q;refine I.write (x:=l) (e:=l) (by rw[hH];exact trivial) (.inl rfl) (fun b' u hb hu=>(be s.heap (bW f) (aZ hb)).trans hu) ⟨_,q⟩ ?_
 exact⟨hz,its',_,hv,q⟩
theorem Inv.lnew {its:List ae} {t':Nat} (I:Inv X pins σ H s) (hv:Vals ys its) (hz:ys.length<=sizeLine) :
  Inv X pins σ (upd H s.heap.objs.size (.lst ys)) { s with heap:=s.heap.push { cls:=.type "list",data:=.seq its.toArray },toks:=t' } :=
 I.laid (fun _ _ q=>ah _ q) (ar _) ⟨hz,its,0,hv,aw _ rfl⟩
theorem Inv.fresh (I:Inv X pins σ H s):H s.heap.objs.size=none:=I.hok.fresh (ar _)
theorem Inv.lstM (I:Inv X pins σ H s) (hH:H l=some (.lst xs)):xs.length<=sizeLine/\∃ (its:List ae) (n:Nat),Vals xs its/\xs.length=its.length/\s.heap.get? l=some { cls:=.type "list",data:=.seq its.toArray n }:=by
 obtain⟨z,its,n,r,e⟩:=I.hok l _ hH;exact⟨z,its,n,r,r.length,e⟩
theorem notLongL {n:Nat} (h:n<=sizeLine):fR n=false:=by
 unfold fR;exact decide_eq_false (by omega)
end
section
variable {X:Cx}
def rAppend:V->List V->Hp->VK->Prop:=fun x vs H Q=>∃ l xs y,x=.ref l/\vs=[y]/\H l=some (.lst xs)/\xs.length < sizeLine/\Q .non (upd H l (.lst (xs++[y])))
theorem mt_append:MtM X "list.append" rAppend:=by
 intro pins s σ H x vs v us Q I rx rv h;obtain⟨l,xs,y,rfl,rfl,hH,hz,q⟩:=h;cases rx;obtain⟨u,rfl,ru⟩:=rv.one;obtain⟨z,its,n,r,hl,e⟩:=I.lstM hH;refine iK F.slot_list_append ⟨_,e,rfl⟩ F.entry_list_append (F.args_list_append_2 _ _) (PySem.list_append l its.toArray n u (by rw[ak];omega)) ⟨e,?_⟩
 refine⟨.non,_,I.lset (its':=its++[u]) hH e (by simp) (r.append (.cons ru .nil)) ?_,rfl,q⟩
 rw[av,ft];omega
def rExtend:V->List V->Hp->VK->Prop:=fun x vs H Q=>∃ l b xs zs,x=.ref l/\vs=[.ref b]/\H l=some (.lst xs)/\H b=some (.lst zs)/\xs.length + zs.length<=sizeLine/\Q .non (upd H l (.lst (xs++zs)))
theorem mt_extend:MtM X "list.extend" rExtend:=by
 intro pins s σ H x vs v us Q I rx rv h;obtain⟨l,b,xs,zs,rfl,rfl,hH,hB,hz,q⟩:=h;cases rx;obtain⟨u,rfl,ru⟩:=rv.one;cases ru;obtain⟨z,its,n,r,hl,e⟩:=I.lstM hH;obtain⟨z2,its2,n2,r2,hl2,e2⟩:=I.lstM hB;have hsz:its.toArray.size + its2.toArray.size<=sizeLine:=by rw[ak,ak];omega
 have hlong:¬ (!its.toArray.isEmpty && fR (its.toArray.size + its2.toArray.size))=true:=by
  rw[notLongL hsz,Bool.and_false];exact aS
 refine iK F.slot_list_extend ⟨_,e,rfl⟩ F.entry_list_extend (F.args_list_extend_2 _ _)
  (AutoSeq1.list_extend_list_list_0 l its.toArray n b its2.toArray n2 hlong (by rw[ak];omega) (by omega)) ⟨e,e2,?_⟩
 refine⟨.non,_,I.lset (its':=its++its2) hH e (by simp) (r.append r2) ?_,rfl,q⟩
 rw[av];omega
def rPop:V->List V->Hp->VK->Prop:=fun x vs H Q=>∃ l xs y,x=.ref l/\vs=[]/\H l=some (.lst xs)/\xs[xs.length - 1]?=some y/\Q y (upd H l (.lst xs.dropLast))
theorem mt_pop:MtM X "list.pop" rPop:=by
 intro pins s σ H x vs v us Q I rx rv h;obtain⟨l,xs,y,rfl,rfl,hH,hy,q⟩:=h;cases rx;have hus:=rv.zero;subst hus;obtain⟨z,its,n,r,hl,e⟩:=I.lstM hH;obtain⟨u,hu,ru⟩:=r.get hy;have hy':its.toArray[its.toArray.size - 1]?=some u:=by
  show its.toArray[its.length - 1]?=some u;rw[<- bS,<- hl];exact hu
 refine iK F.slot_list_pop ⟨_,e,rfl⟩ F.entry_list_pop (F.args_list_pop_1 _) (MeetsSeq.list_pop_last l its.toArray n u hy' (by rw[ak];omega)) ⟨e,?_⟩
 refine⟨y,_,I.lset (its':=its.dropLast) hH e ?_ r.dropLast ?_,ru,q⟩
 ·show its.toArray.eraseIdxIfInBounds (its.toArray.size - 1)=its.dropLast.toArray;rw[ak,gD,erase_last]
 ·rw[List.length_dropLast];omega
def rPopAt:V->List V->Hp->VK->Prop:=fun x vs H Q=>∃ l xs i k y,x=.ref l/\vs=[.int i]/\H l=some (.lst xs)/\-(2 ^ 63)<=i/\i < 2 ^ 63/\seqIndex? i xs.length=some k/\xs[k]?=some y/\Q y (upd H l (.lst (xs.eraseIdx k)))
theorem mt_popAt:MtM X "list.pop" rPopAt:=by
 intro pins s σ H x vs v us Q I rx rv h;obtain⟨l,xs,i,k,y,rfl,rfl,hH,h1,h2,hk,hy,q⟩:=h;cases rx;obtain⟨u,rfl,ru⟩:=rv.one;obtain⟨t,rfl⟩:=ru;obtain⟨z,its,n,r,hl,e⟩:=I.lstM hH;obtain⟨w,hw,rw'⟩:=r.get hy;refine iK F.slot_list_pop ⟨_,e,rfl⟩ F.entry_list_pop (F.args_list_pop_2 _ _)
  (MeetsSeq.list_pop_at l its.toArray n i t k w (fitsIndex_both h1 h2) (by rw[ak,<- hl];exact hk) (by rw[<- bS];exact hw) (by rw[ak];omega)) ⟨e,?_⟩
 refine⟨y,_,I.lset (its':=its.eraseIdx k) hH e ?_ (r.eraseIdx k) ?_,rw',q⟩
 ·show its.toArray.eraseIdxIfInBounds k=(its.eraseIdx k).toArray;rw[gD]
 ·have:=len_erase xs k
  omega
end
section
variable {prog:aD} {w:aK} {A:aQ} {E:ae->ai->Prop} {s:ai}
set_option maxRecDepth 100000 in
end
end L2
namespace Att
open PySem PySem.W PySem.Calls PyProof.Rows
theorem ints_of_wellAll {P:Params} {h:aW}:∀ (ns:List Int) (vs:List ae),WellAll P h vs (ns.map WData.int)->jP vs ns:=by
 intro ns
 induction ns with
 | nil =>
  intro vs w;rw[da] at w;cases w;exact .nil
 | cons n ns ih =>
  intro vs w;rw[aY] at w;cases w with
  | cons a b =>
   cases a;exact .cons _ _ (ih _ b)
theorem script_of {l:OpenLaw} {n:Nat} (hn:l.most=some n) {P:Params} {h:aW} {args:List WData} {vals:List ae}
  (hpre:l.row.toRowW.claim.pre args=true) (hwl:WellAll P h vals args) :
  ∃ a vs ns,vals=[dr a]/\args=[WData.list (ns.map WData.int)]/\h.get? a=some { cls:=.type "list",data:=.seq vs.toArray }/\jP vs ns/\ns.length<=n:=by
 have hsh:WShape.hasAll [] args [.list .int]=true:=(pre_splitW hpre).1;have hc:l.pre.holds [] { args:=args }=true:=(pre_splitW hpre).2;obtain⟨d,r,rfl,h1,h2⟩:=hasAllW_cons hsh;obtain rfl:=hasAllW_nil h2;obtain⟨xs,rfl,h3⟩:=hasW_list h1;obtain⟨ns,rfl⟩:=items_int h3;have hlen:ns.length<=n:=by
  unfold OpenLaw.pre at hc;have h4:(WTm.not (.lt (.lit (.int (n:Int))) (.len (.arg 0)))).holds [] { args:=[.list (ns.map .int)] }=true:=by
   have h4:=(holds_andW hc).1;rw[hn] at h4;exact h4
  have h5:=condW_of h4 (w_not (w_lt w_lit (w_len_list (w_arg rfl))));rw[aj] at h5;refine Nat.le_of_not_lt fun q=>?_;have q':(n:Int) < ((ns.length:Nat):Int):=by omega
  first
   | (rw[decide_eq_true q'] at h5;exact absurd h5 (by decide))
   | (simp at h5;omega)
 cases hwl with
 | cons w1 w2 =>
  cases w2;cases w1 with
  | list ho hall=>exact⟨_,_,ns,rfl,rfl,ho,ints_of_wellAll ns _ hall,hlen⟩
theorem post_true (l:OpenLaw) (args:List WData):l.row.toRowW.claim.post args (.bool true) args=true :=
 postW_of (r:=l.row.toRowW) (X:=(true == true))
  (show WShape.has [] (.bool true) .bool=true by first | rfl | decide | simp[WShape.has,WShape.arms,WShape.armsAll])
  (show(WTm.eq .res (.lit (.bool true))).value [] { args:=args,res:=some (.bool true),after:=args }=some (.bool (true == true)) from w_eq_bool (w_res rfl) w_lit) rfl
theorem attach_call {l:OpenLaw} {n:Nat} {q:aD} {loose:List Str} {XP:(Str->Option ae)->aW->Prop} {YP:aK->aW->Prop} {d:DefRec}
  (hn:l.most=some n) (hdf:d.params.defaults=[])
  (call:∀ (w:aK) (s₀ s₁:ai) (mg mb:Str->Option ae) (fa:Addr) (o:Obj) (pm cd doc:ae) (a:Addr) (vs:List ae) (ns:List Int),
   Ground q loose [] XP w s₀ mg mb s₁.heap->YP w s₁.heap ->
   s₁.heap.get? fa=some o->o.data=.func (docDef d.name d.params d.body d.scope pm cd doc)->s₁.heap.CodeRec cd d.name->mg d.name=some (.ref fa) ->
   s₁.heap.get? a=some { cls:=.type "list",data:=.seq vs.toArray }->jP vs ns->ns.length<=n->s₁.gens=#[] ->
   eT (aC l.prog w) callerA (.call (.ref fa) ⟨[.ref a],[]⟩) (fun r s'=>r=.ok (.ret (.bool true))/\OldK s₁.heap s'.heap/\s'.os=s₁.os/\ik s'.gens) s₁) :
  WalkO q loose XP YP l.row.toRowW d [] (fun f vs=>PySem.call f vs):=by
 intro w s₀ s₁ mg mb G Y fa o pm cd doc dV kV ho hd hcd hD hmg hg args vals as hpre hlay hrd hwl hlo;obtain rfl:dV=.none:=Dflts.none hD hdf;obtain rfl:kV=.none:=Dflts.noKw hD;obtain⟨a,vs,ns,rfl,rfl,hobj,hints,hlen⟩:=script_of hn hpre hwl;refine enter_call (eB (call w s₀ s₁ mg mb fa o pm cd doc a vs ns G Y ho (fd_plain hd) hcd hmg hobj hints hlen hg) fun r s' hq=>?_);obtain⟨rfl,h2,h3,h4⟩:=hq;exact⟨.inl ⟨.bool true,.bool true,[],rfl,fun _=>rfl,.bool true,post_true l _,fun _=>⟨kE,fun _ hm=>(nomatch hm)⟩⟩,h2,h3,h4⟩
end Att
namespace L2
open PySem PySem.Spec PyProof.Rows
theorem vals_ints:∀ {vs:List ae} {ns:List Int},jP vs ns->Vals (ns.map V.int) vs
 | _,_,.nil=>.nil
 | _,_,.cons n t h=>.cons ⟨t,rfl⟩ (vals_ints h)
def Only (H:Hp):Prop:=∀ b,H b=none\/∃ o xs,H b=some (.frz o (.lst xs))
theorem law_call {P:aD} {w:aK} {K:ao} {mg mb:Str->Option ae} {CX:CXT} {k:Nat} {fa a:Addr} {fd:cC} {x:Str} {sp:Sp} {s₁:ai} {vs:List ae} {ns:List Int}
  (KX:K.In s₁.heap) (hns:s₁.heap.Ns aO mg) (hb:s₁.heap.Ns builtinsNs mb) (hbb:∀ x:Str,x ≠ "__name__"->mb x=bY x) (hlim:s₁.heap.NoLimit) (hg:s₁.gens=#[])
  (ha:s₁.heap.get? a=some { cls:=.type "list",data:=.seq vs.toArray }) (hi:jP vs ns) (hl:ns.length<=sizeLine) (hr:Room k callerA)
  (F:∀ base:aW,K.In base->base.Ns aO mg->FnOk P w K mg base CX k fa fd [x] sp) (hbind:∀ (s:ai) (u:ae),BindsTo s fd ⟨[u],[]⟩ [(x,u)])
  (hsp:∀ H:Hp,Only H->SqL K H a (ns.map V.int)->sp [.ref a] H (fun v _=>v=.bl true) fun _ _ _=>False)
  (hCX:∀ H e s',CX [] H s₁ (fun _ _ _=>False) e s'->False) :
  eT (aC P w) callerA (.call (.ref fa) ⟨[.ref a],[]⟩) (fun r s'=>r=.ok (.ret (.bool true))/\OldK s₁.heap s'.heap/\s'.os=s₁.os/\ik s'.gens) s₁:=by
 have rv:=vals_ints hi;have lenV:=hi.length;have core:∀ H:Hp,Only H->SqL K H a (ns.map V.int)->HOk P w H s₁.heap->(∀ b,H b≠none->b=a)->(H a≠none->K.lookup a=none) ->
   eT (aC P w) callerA (.call (.ref fa) ⟨[.ref a],[]⟩) (fun r s'=>r=.ok (.ret (.bool true))/\OldK s₁.heap s'.heap/\s'.os=s₁.os/\ik s'.gens) s₁:=by
  intro H hO hS hok hA hK;have base_of:∀ {b:Addr} {o:Obj},s₁.heap.get? b=some o->H b=none->(hidT s₁.heap H).get? b=some o:=fun e n=>hidT_get e n;have noA:∀ {b:Addr} {o:Obj} {es:Array DictEntry} {ep:Nat},s₁.heap.get? b=some o->o.data=.dict es ep->H b=none:=fun {b o es ep} e d=>by
   cases q:H b with
   | none=>rfl
   | some u =>
    have e':b=a:=hA b (by rw[q];simp)
    subst e';rw[ha] at e;cases e;have d':Data.seq vs.toArray _=Data.dict es ep:=d;cases d'
  have nsK:∀ {b:Addr} {m:Str->Option ae},s₁.heap.Ns b m->(hidT s₁.heap H).Ns b m:=fun {b m} ⟨o,es,ep,e,d,r⟩=>⟨o,es,ep,base_of e (noA e d),d,r⟩;have hKb:K.In (hidT s₁.heap H):=fun b o e=>base_of (KX b o e) (by
   cases q:H b with
   | none=>rfl
   | some u =>
    have e':b=a:=hA b (by rw[q];simp)
    subst e';rw[hK (by rw[q];simp)] at e;cases e)
  have hM:Mod K mg (hidT s₁.heap H):=⟨hKb,nsK hns,⟨mb,nsK hb,hbb⟩,let ⟨mc,h1,h2⟩:=hlim;⟨mc,nsK h1,h2⟩⟩
  have e0:Env0 P w K mg (hidT s₁.heap H) callerA [] s₁ H:=⟨rfl,rfl,hM,fun b o e=>of_hidT e,Nat.le_of_eq (hidT_size _ _),trivial,fun b hb=>absurd (show b∈([]:List Addr) from hb) (by simp),hok,.of_eq hg⟩
  refine eB ((F _ hKb (nsK hns)).run callerA [] s₁ H ⟨[.ref a],[]⟩ [.ref a] [.ref a] _ _ hr e0 (hbind s₁ (.ref a)) (.cons rfl .nil) (hsp H hO hS)) fun r s' h=>?_;cases r with
  | error e=>exact(hCX H e s' h).elim
  | ok fl =>
   cases fl with
   | next=>exact cN h
   | brk=>exact cN h
   | cont=>exact cN h
   | ret u =>
    obtain⟨v,H',os,bare,un,hok',r',q⟩:=h;have q':v=.bl true:=q;subst q';obtain rfl:u=gG true:=r';refine⟨rfl,OldK.of_keep fun b o e=>?_,os,bare⟩;cases q:H b with
    | none=>exact un.keep b o e q (by intro z;exact absurd (show b∈([]:List Addr) from z) (by simp)) (by simp)
    | some u =>
     rcases hO b with z | ⟨ob,xs,z⟩
     ·rw[q] at z;cases z
     ·have z2:=un.frzs b ob _ z;obtain⟨e1,_⟩:=hok b _ z;obtain⟨e2,_⟩:=hok' b _ z2;rw[e] at e1;cases e1;exact e2
 cases hk:K.lookup a with
 | some o =>
  have e:=KX a o hk;rw[ha] at e;cases e;refine core (fun _=>none) (fun _=>.inl rfl) (.inr ⟨_,vs.toArray,_,hk,rfl,rfl,rfl,by rw[ak,lenV];exact hl,by simpa using rv⟩) (fun b u z=>by have z':(none:Option HO)=some u:=z;cases z') (fun b z=>absurd rfl z) fun z=>absurd rfl z
 | none =>
  refine core (fun b=>if b=a then some (.frz { cls:=.type "list",data:=.seq vs.toArray } (.lst (ns.map V.int))) else none) (fun b=>?_) (.inl (.inr ⟨{ cls:=.type "list",data:=.seq vs.toArray },if_pos rfl⟩)) (fun b u z=>?_) (fun b z=>?_) fun _=>hk
  ·by_cases hb:b=a
   ·exact .inr ⟨_,_,if_pos hb⟩
   ·exact .inl (if_neg hb)
  ·by_cases hb:b=a
   ·have z':=(if_pos hb).symm.trans z;cases z';subst hb;exact⟨ha,by rw[aj];exact hl,vs,_,rv,ha⟩
   ·have z':=(if_neg hb).symm.trans z;cases z'
  ·by_cases hb:b=a
   ·exact hb
   ·exact absurd (if_neg hb) z
abbrev KOf {K:ao} {h:aW} (_:K.In h):ao:=K
theorem walk_of {l:j0} {n k:Nat} {q:aD} {loose:List Str} {XP:(Str->Option ae)->aW->Prop} {YP:aK->aW->Prop} {d:DefRec} {K:Params->ao} {CX:aK->CXT} {sp:aK->Sp} {x:Str}
  (hn:l.most=some n) (hn2:n<=sizeLine) (hdf:d.params.defaults=[]) (hr:Room k callerA)
  (hY:∀ (w:aK) (h:aW),YP w h->(K w.params).In h)
  (F:∀ (w:aK) (mg:Str->Option ae) (fa:Addr) (h:aW),(K w.params).In h->h.Ns aO mg->mg d.name=some (.ref fa) ->
   ∃ fd:cC,(∀ (s:ai) (u:ae),BindsTo s fd ⟨[u],[]⟩ [(x,u)]) /\
    ∀ base:aW,(K w.params).In base->base.Ns aO mg->FnOk l.prog w (K w.params) mg base (CX w) k fa fd [x] (sp w))
  (hsp:∀ (w:aK) (H:Hp) (a:Addr) (ns:List Int),ns.length<=n->Only H->SqL (K w.params) H a (ns.map V.int)->sp w [.ref a] H (fun v _=>v=.bl true) fun _ _ _=>False)
  (hCX:∀ (w:aK) (H:Hp) (s:ai) (e:ae) (s':ai),CX w [] H s (fun _ _ _=>False) e s'->False) :
  PySem.W.WalkO q loose XP YP l.row.toRowW d [] (fun f vs=>PySem.call f vs):=by
 refine Att.attach_call hn hdf fun w s₀ s₁ mg mb fa o pm cd doc a vs ns G Y ho hd hcd hmg hobj hints hlen hg=>?_;have KX:=hY w _ Y;obtain⟨fd,hb,hF⟩:=F w mg fa _ KX G.T.g hmg;exact law_call KX G.T.g G.T.b G.T.builtins G.T.nolimit hg hobj hints (aV hlen hn2) hr hF hb (fun H hO hS=>hsp w H a ns hlen hO hS) fun H e s'=>hCX w H s₁ e s'
def defArgs (s:Stmt):Arguments:=match s with
 | .FunctionDef _ a _ _ _ _ _ _ _ _=>a
 | _=>{ posonlyargs:=[],args:=[],vararg:=none,kwonlyargs:=[],kw_defaults:=[],kwarg:=none,defaults:=[] }
def defBody (s:Stmt):List Stmt:=match s with
 | .FunctionDef _ _ b _ _ _ _ _ _ _=>b
 | _=>[]
def defScope (s:Stmt):Scope:=match s with
 | .FunctionDef _ _ _ _ _ _ sc _ _ _=>sc
 | _=>{ kind:=.function,names:=[],isGenerator:=false,isCoroutine:=false }
abbrev CX0:CXT:=fun _ _ _ _ _ _=>False
abbrev E0:XK:=fun _ _ _=>False
theorem pass0 {X:Cx}:Passes CX0 X E0:=fun _ _ _ _ _ _ _ h=>h.elim
structure Fun (K:ao) (x qual:Str) (st:Stmt) (f:Addr) (fd:cC):Prop where
 ex:∃ (oc:ae) (od:Option Addr) (kV doc pm:ae) (an:Option Addr) (cdv ct:ae) (osl:Array (Option ae)),
  fd=dU x qual (defArgs st) (defBody st) (defScope st) .none kV doc pm an cdv ct/\K.lookup f=some ⟨oc,od,.func fd,osl⟩/\fE K cdv qual=true
 kp:cF K (.ref f)=true
section
variable {P:aD} {w:aK} {K:ao} {mg:Str->Option ae} {base:aW}
theorem Fun.ok {x qual:Str} {st:Stmt} {f:Addr} {fd:cC} {N ps:List Str} {k:Nat} {sp:Sp} (F:Fun K x qual st f fd) (S:FnScope N ps (defScope st)) (len:∀ vs H Q E,sp vs H Q E->vs.length=ps.length)
  (hbody:∀ (cdv:ae) (A:aQ) (outer:List Env) (s:ai) (H:Hp) (vs:List V) (Q:VK) (E:XK),Room k (A.deeper (envOfC qual (defScope st) s.heap.objs.size f cdv))->sp vs H Q E ->
   ∃ t,PSs (cxOf CX0 P w K mg base N qual (defScope st) f cdv A outer s H E).nox (defBody st) t/\t { nx:=fun _ H'=>Q .non H',rt:=Q } (start N vs) H):FnOk P w K mg base CX0 (k + 1) f fd ps sp:=by
 obtain⟨oc,od,kV,doc,pm,an,cdv,ct,osl,rfl,lk,hcd⟩:=F.ex;refine fn_of lk hcd S len fun A outer s H vs Q E hr hsp=>?_;obtain⟨t,h,q⟩:=hbody cdv A outer s H vs Q E hr hsp;exact⟨t,h.nox,q⟩
theorem Fun.binds {x qual:Str} {st:Stmt} {f:Addr} {fd:cC} {ps:List Str} (F:Fun K x qual st f fd)
  (h:∀ (kV doc pm:ae) (an:Option Addr) (cdv ct:ae) (us:List ae),us.length=ps.length->bindArgs (dU x qual (defArgs st) (defBody st) (defScope st) .none kV doc pm an cdv ct) ⟨us,[]⟩=pure (ps.zip us)):Binds K fd ps []:=by
 obtain⟨oc,od,kV,doc,pm,an,cdv,ct,osl,rfl,lk,hcd⟩:=F.ex;exact .all (h kV doc pm an cdv ct)
theorem fun_mk {x qual:Str} {st:Stmt} {f:Addr} {oc:ae} {od an:Option Addr} {osl:Array (Option ae)} {kV doc pm cdv ct:ae} (l:K.lookup f=some ⟨oc,od,.func (dU x qual (defArgs st) (defBody st) (defScope st) .none kV doc pm an cdv ct),osl⟩)
  (c:fE K cdv qual=true) (k:cF K (.ref f)=true):Fun K x qual st f (dU x qual (defArgs st) (defBody st) (defScope st) .none kV doc pm an cdv ct):=⟨⟨oc,od,kV,doc,pm,an,cdv,ct,osl,rfl,l,c⟩,k⟩
end
theorem ite2 {c A B:Prop} [Decidable c] (h1:c->A) (h2:¬ c->B):if c then A else B:=by
 by_cases h:c
 ·rw[if_pos h];exact h1 h
 ·rw[if_neg h];exact h2 h
def Same (H H':Hp):Prop:=∀ b o,H b=some o->H' b=some o
end L2
set_option autoImplicit false
theorem hd {g:Prop} (h:∀ G:Prop,(g->G)->G):g:=h g id
set_option maxHeartbeats 4000000
namespace L2
open PySem PySem.Spec PyProof.Rows
theorem closure_of (env:Env):∀ (names:List (Str × fh)) (acc:List (Str × Addr)),(∀ x,(x,aT)∈names->∃ c,env.cells.lookup x=some c)->(∀ x c,acc.lookup x=some c->env.cells.lookup x=some c) ->
  ∃ cl,(forIn names acc fun(y:Str × fh) (cs:List (Str × Addr))=>(if (y.2 == aT)=true then do let a <- cellOf env y.1;pure (cg ((y.1,a)::cs)) else pure (cg cs):Sem (ForInStep (List (Str × Addr)))))=pure cl /\
   (∀ x c,cl.lookup x=some c->env.cells.lookup x=some c)/\(∀ x,((x,aT)∈names\/(acc.lookup x).isSome=true)->(cl.lookup x).isSome=true)
 | [],acc,_,ha=>⟨acc,by rfl,ha,fun x h=>by
   rcases h with h | h
   ·cases h
   ·exact h⟩
 | (n,k)::rest,acc,hn,ha=>by
  by_cases hk:(k == aT)=true
  ·have hk':k=aT:=by cases k <;> first | rfl | cases hk
   subst hk';refine hd fun Gq kq=>?_;obtain⟨c,hc⟩:=hn n am;refine kq ?_;obtain⟨cl,e,h1,h2⟩:=closure_of env rest ((n,c)::acc) (fun x hx=>hn x (aq _ hx)) (fun x d hx=>by
    simp only[cL] at hx
    by_cases hxn:(x == n)=true
    ·rw[hxn] at hx;cases hx;rw[fJ hxn];exact hc
    ·rw[eD.mpr hxn] at hx;exact ha x d hx)
   refine⟨cl,?_,h1,fun x hx=>h2 x ?_⟩
   ·rw[fZ];have ec:cellOf env n=pure c:=by unfold cellOf;rw[hc]
    simp only[hk,if_true,ec,jt];exact e
   ·rcases hx with hx | hx
    ·rcases aA.mp hx with hx | hx
     ·cases hx;right;simp
     ·exact .inl hx
    ·right
     simp only[cL];cases x == n <;> simp[hx]
  ·refine hd fun Gq kq=>?_;obtain⟨cl,e,h1,h2⟩:=closure_of env rest acc (fun x hx=>hn x (aq _ hx)) ha;refine kq ?_;refine⟨cl,?_,h1,fun x hx=>h2 x ?_⟩
   ·rw[fZ];simp only[hk,if_false,jt,aF];exact e
   ·rcases hx with hx | hx
    ·rcases aA.mp hx with hx | hx
     ·cases hx;exact absurd rfl hk
     ·exact .inl hx
    ·exact .inr hx
inductive Cap (N:List Str) (sc:Scope):List Str->List (Option Nat)->Prop
 | nil:Cap N sc [] []
 | own {x xs is}:Cap N sc xs is->Cap N sc (x::xs) (none::is)
 | cap {x xs is i}:N[i]?=some x->(x,aT)∈sc.names->Cap N sc xs is->Cap N sc (x::xs) (some i::is)
theorem Cap.length {N:List Str} {sc:Scope} {xs:List Str} {is:List (Option Nat)} (c:Cap N sc xs is):xs.length=is.length:=by
 induction c with
 | nil=>rfl
 | own _ ih=>simp[ih]
 | cap _ _ _ ih=>simp[ih]
theorem Cap.get {N:List Str} {sc:Scope} {xs:List Str} {is:List (Option Nat)} (c:Cap N sc xs is):∀ {j i:Nat} {x:Str},xs[j]?=some x->is[j]?=some (some i)->N[i]?=some x/\(x,aT)∈sc.names:=by
 induction c with
 | nil=>intro j i x h;simp at h
 | own _ ih =>
  intro j i x h1 h2;cases j with
  | zero=>simp at h2
  | succ j=>exact ih (by simpa using h1) (by simpa using h2)
 | cap hN hf _ ih =>
  intro j i x h1 h2;cases j with
  | zero=>simp at h1 h2;subst h1;subst h2;exact⟨hN,hf⟩
  | succ j=>exact ih (by simpa using h1) (by simpa using h2)
def capt (is:List (Option Nat)) (σ:St):St:=is.map fun o=>o.bind fun i=>(σ[i]?).join
theorem relabel_free {sc:Scope} {env:Env}:∀ {names:List (Str × fh)} {x:Str},(names.lookup x=some .cell\/names.lookup x=some .free)->((names.map fun(n,k)=>if (k == aT && env.scope.kind == .function && env.kindOf n == some .cell) then (n,gT) else (n,k)).lookup x=some .cell\/(names.map fun(n,k)=>if (k == aT && env.scope.kind == .function && env.kindOf n == some .cell) then (n,gT) else (n,k)).lookup x=some .free)
 | [],x,h=>by simp at h
 | (n,k)::r,x,h=>by
  simp only[aY]
  by_cases hc:(k == aT && env.scope.kind == .function && env.kindOf n == some .cell)=true
  ·rw[if_pos hc];simp only[cL] at h ⊢;cases hx:x == n with
   | true=>exact .inl rfl
   | false=>rw[hx] at h;exact relabel_free (sc:=sc) h
  ·rw[if_neg hc];simp only[cL] at h ⊢;cases hx:x == n with
   | true=>rw[hx] at h;exact h
   | false=>rw[hx] at h;exact relabel_free (sc:=sc) h
theorem of_relabel {sc:Scope} {env:Env}:∀ {names:List (Str × fh)} {x:Str},((names.map fun(n,k)=>if (k == aT && env.scope.kind == .function && env.kindOf n == some .cell) then (n,gT) else (n,k)).lookup x=some .cell\/(names.map fun(n,k)=>if (k == aT && env.scope.kind == .function && env.kindOf n == some .cell) then (n,gT) else (n,k)).lookup x=some .free)->names.lookup x=some .cell\/names.lookup x=some .free
 | [],x,h=>by simp at h
 | (n,k)::r,x,h=>by
  simp only[aY] at h
  by_cases hc:(k == aT && env.scope.kind == .function && env.kindOf n == some .cell)=true
  ·rw[if_pos hc] at h;simp only[cL] at h ⊢;cases hx:x == n with
   | true =>
    right
    have:k == aT:=by
     simp only[aG] at hc;exact hc.1.1
    cases k <;> first | rfl | cases this
   | false=>rw[hx] at h;exact of_relabel (sc:=sc) h
  ·rw[if_neg hc] at h;simp only[cL] at h ⊢;cases hx:x == n with
   | true=>rw[hx] at h;exact h
   | false=>rw[hx] at h;exact of_relabel (sc:=sc) h
theorem mem_of_lk {α β:Type} [BEq α] [LawfulBEq α]:∀ {l:List (α × β)} {x:α} {k:β},l.lookup x=some k->(x,k)∈l
 | (n,k')::r,x,k,h=>by
  simp only[cL] at h;cases hx:x == n with
  | true=>rw[hx] at h;cases h;rw[fJ hx];exact am
  | false=>rw[hx] at h;exact aq _ (mem_of_lk h)
def PTs (X:Cx) (ifs:List Expr) (t:TT):Prop :=
 ∀ (pins:List (Addr × Obj)) (s:ai) (σ:St) (H:Hp) (Q:Bool->Hp->Prop),Inv X pins σ H s->t σ H Q ->
  ax (aC X.prog X.w) X.A (forIn ifs true fun c r=>if r=true then do let ok <- isTrue c X.env (eval c X.env);pure (cg ok) else pure (cg r)) (TP X pins σ Q) X.xe s
def tYes:TT:=fun _ H Q=>Q true H
theorem pts_nil {X:Cx}:PTs X [] tYes:=fun pins s σ H Q I h=>wpAny_tests_nil ⟨H,I,h⟩
theorem pts_one {X:Cx} {c:Expr} {t:TT} (h:PT X c t):PTs X [c] t:=fun pins s σ H Q I q=>wpAny_tests_one (h pins s σ H Q I q)
def Wk (σ0 σ2:St):Prop:=σ2.length=σ0.length/\∀ (j:Nat) v,σ0[j]?=some (some v)->σ2[j]?=some (some v)
def okV (names outer:List (Str × fh)):Bool:=names.all fun y=>match y.2 with
 | .free=>match outer.lookup y.1 with
  | some .cell=>true
  | some .free=>true
  | _=>false
 | _=>true
theorem okV_ok {names:List (Str × fh)} {sc:Scope} (h:okV names sc.names=true):∀ y∈names,y.2=.free->Vis sc y.1/\sc.names.lookup y.1≠some .local:=fun y hy hf=>by
 have:=bn.mp h y hy
 rw[hf] at this;unfold Vis;cases q:sc.names.lookup y.1 with
 | none=>rw[q] at this;cases this
 | some k=>rw[q] at this;cases k <;> first | (simp;done) | cases this
structure Bs (mg:Str->Option ae):Prop where
 len:mg "len" = none
 range:mg "range" = none
 sorted:mg "sorted" = none
 tuple:mg "tuple" = none
 list:mg "list" = none
 set:mg "set" = none
 sum:mg "sum" = none
 min:mg "min" = none
 max:mg "max" = none
 all:mg "all" = none
 any:mg "any" = none
 isinstance:mg "isinstance" = none
 int:mg "int" = none
 str:mg "str" = none
 bool:mg "bool" = none
 zip:mg "zip" = none
 enumerate:mg "enumerate" = none
theorem bt_len:bY "len" = some (.builtin "len"):=by decide +kernel
theorem bt_sorted:bY "sorted" = some (.builtin "sorted"):=by decide +kernel
theorem bt_sum:bY "sum" = some (.builtin "sum"):=by decide +kernel
theorem bt_min:bY "min" = some (.builtin "min"):=by decide +kernel
theorem bt_all:bY "all" = some (.builtin "all"):=by decide +kernel
theorem bt_tuple:bY "tuple" = some (.type "tuple"):=by decide +kernel
theorem bt_list:bY "list" = some (.type "list"):=by decide +kernel
theorem bt_set:bY "set" = some (.type "set"):=by decide +kernel
theorem bt_int:bY "int" = some (.type "int"):=by decide +kernel
structure Df (P:aD) (w:aK) (K:ao) (mg:Str->Option ae) (base:aW) (k:Nat) (x:Str) (ps:List Str) (sp:Sp):Prop where
 ex:∃ (f:Addr) (fd:cC),FnOk P w K mg base CX0 k f fd ps sp/\Binds K fd ps []/\cF K (.ref f)=true/\mg x=some (.ref f)
theorem Df.mono {P:aD} {w:aK} {K:ao} {mg:Str->Option ae} {base:aW} {j k:Nat} {x:Str} {ps:List Str} {sp:Sp} (D:Df P w K mg base j x ps sp) (h:j<=k):Df P w K mg base k x ps sp:=by
 obtain⟨f,fd,a,b,c,d⟩:=D.ex;exact⟨f,fd,a.mono h,b,c,d⟩
theorem pe_callD {X:Cx} {k:Nat} {x:Str} {ps:List Str} {sp:Sp} {p pos:Pos} {e:Expr} {es:List Expr} {t:TA} (D:Df X.prog X.w X.K X.mg X.base k x ps sp) (hr:Room k X.A) (hg:Gl X x) (ha:PA X (e::es) t)
  (hdb:(x == ("__debug__" : Str))=false:=by decide) (he:au (e::es) X.env=(false,eval e X.env)::au es X.env:=by rfl) (hpl:(bD pos (au es X.env)).any (·.1)=false:=by rfl) :
  PE X (.Call (.Name x p) (e::es) [] pos) (tCall sp [] E0 t):=by
 obtain⟨f,fd,F,hb,hk,hm⟩:=D.ex;exact pe_call F hr hg hm hk hb .nil pass0 ha hdb he hpl
structure Tx (K:ao) (mg:Str->Option ae) (x:Str) (st:Stmt):Prop where
 ex:∃ (f:Addr) (fd:cC),Fun K x x st f fd/\mg x=some (.ref f)
theorem Tx.df {P:aD} {w:aK} {K:ao} {mg:Str->Option ae} {base:aW} {k:Nat} {x:Str} {st:Stmt} {ps:List Str} {sp:Sp} (T:Tx K mg x st)
  (b:∀ {f:Addr} {fd:cC},Fun K x x st f fd->Binds K fd ps []) (h:∀ {f:Addr} {fd:cC},Fun K x x st f fd->FnOk P w K mg base CX0 k f fd ps sp):Df P w K mg base k x ps sp:=by
 obtain⟨f,fd,F,m⟩:=T.ex;exact⟨f,fd,h F,b F,F.kp,m⟩
theorem tx_mk {K:ao} {h:aW} {mg:Str->Option ae} {x:Str} {st:Stmt} {f:Addr} {od an:Option Addr} {sl:Array (Option ae)} {oc kV dc pm cd ct:ae} (X:K.In h) (G:h.Ns aO mg)
  (a:bq K aO x=some (some (.ref f))) (l:K.lookup f=some ⟨oc,od,.func (dU x x (defArgs st) (defBody st) (defScope st) .none kV dc pm an cd ct),sl⟩) (c:fE K cd x=true) (k:cF K (.ref f)=true):Tx K mg x st :=
 ⟨f,_,fun_mk (st:=st) l c k,gU X G a⟩
theorem bs_mk {K:ao} {h:aW} {mg:Str->Option ae} (X:K.In h) (G:h.Ns aO mg) (a:∀ x∈(["len", "range", "sorted", "tuple", "list", "set", "sum", "min", "max", "all", "any", "isinstance", "int", "str", "bool", "zip", "enumerate"]:List Str),bq K aO x=some none):Bs mg:=by
 have q:∀ x∈(["len", "range", "sorted", "tuple", "list", "set", "sum", "min", "max", "all", "any", "isinstance", "int", "str", "bool", "zip", "enumerate"]:List Str),mg x=none:=fun x hx=>PySem.W.mg_none_of X G (a x hx);constructor <;> exact q _ (by decide +kernel)
theorem bs_all {K:ao} (z1:bq K aO "len" = some none) (z2:bq K aO "range" = some none) (z3:bq K aO "sorted" = some none) (z4:bq K aO "tuple" = some none) (z5:bq K aO "list" = some none) (z6:bq K aO "set" = some none)
  (z7:bq K aO "sum" = some none) (z8:bq K aO "min" = some none) (z9:bq K aO "max" = some none) (z10:bq K aO "all" = some none) (z11:bq K aO "any" = some none) (z12:bq K aO "isinstance" = some none)
  (z13:bq K aO "int" = some none) (z14:bq K aO "str" = some none) (z15:bq K aO "bool" = some none) (z16:bq K aO "zip" = some none) (z17:bq K aO "enumerate" = some none) :
  ∀ x∈(["len", "range", "sorted", "tuple", "list", "set", "sum", "min", "max", "all", "any", "isinstance", "int", "str", "bool", "zip", "enumerate"]:List Str),bq K aO x=some none:=fun x hx=>by
 simp only[aA,ju,or_false] at hx;rcases hx with rfl | rfl | rfl | rfl | rfl | rfl | rfl | rfl | rfl | rfl | rfl | rfl | rfl | rfl | rfl | rfl | rfl <;> assumption
end L2
set_option maxHeartbeats 1000000
namespace L2
open PySem PySem.Spec PyProof.Rows
def testsOf (ifs:List Expr) (env:Env):Sem Bool:=forIn ifs true fun c r=>if r=true then do let ok <- isTrue c env (eval c env);pure (cg ok) else pure (cg r)
def turnOf (target:Expr) (ifs:List Expr) (at0:Pos) (m:Sem Unit) (c:Code) (it:ae) (env:Env):Sem Fin :=
 fI at0 >>= fun _=>fq it >>= fun r=>match r with
  | none=>pure (.done .next)
  | some v=>ff target it v >>= fun _=>jI target env v >>= fun _=>testsOf ifs env >>= fun ok=>if ok=true then m >>= fun _=>again c else again c
def emitOf (elt:Expr) (acc:ae) (env:Env):Sem Unit:=eval elt env >>= fun x=>call (.builtin "list.append") [acc,x] >>= fun _=>pure ()
def innerOf (e:Expr) (iter:Expr) (acc:ae) (env:Env):Sem Unit:=eval iter env >>= fun x=>fI iter.pos >>= fun _=>cQ iter env x >>= fun x=>eO [x] (je x) >>= fun it=>runOwn (.compStart e 1 it acc env) env >>= fun _=>pure ()
theorem turn_one (elt target iter:Expr) (ifs:List Expr) (scope:Scope) (pos:Pos) (it acc:ae) (env:Env) :
  fS (.ListComp elt [⟨target,iter,ifs,0⟩] scope pos) 0 it acc env=turnOf target ifs iter.pos (emitOf elt acc env) (.compLoop (.ListComp elt [⟨target,iter,ifs,0⟩] scope pos) 0 it acc env) it env:=by
 rw[compTurn_list];unfold turnOf testsOf emitOf;refine congrArg _ (funext fun _=>congrArg _ (funext fun r=>?_));cases r with
 | none=>rfl
 | some v =>
  refine congrArg _ (funext fun _=>congrArg _ (funext fun _=>congrArg _ (funext fun ok=>?_)));cases ok <;> rfl
theorem turn_two0 (elt target iter t2 i2:Expr) (ifs ifs2:List Expr) (scope:Scope) (pos:Pos) (it acc:ae) (env:Env) :
  fS (.ListComp elt [⟨target,iter,ifs,0⟩,⟨t2,i2,ifs2,0⟩] scope pos) 0 it acc env=turnOf target ifs iter.pos (innerOf (.ListComp elt [⟨target,iter,ifs,0⟩,⟨t2,i2,ifs2,0⟩] scope pos) i2 acc env) (.compLoop (.ListComp elt [⟨target,iter,ifs,0⟩,⟨t2,i2,ifs2,0⟩] scope pos) 0 it acc env) it env:=by
 unfold turnOf testsOf innerOf;show(fI iter.pos >>= fun _=>fq it >>= fun r=>_)=_;refine bind_congr fun _=>bind_congr fun r=>?_;cases r with
 | none=>rfl
 | some v =>
  show(ff target it v >>= fun _=>jI target env v >>= fun _=>(forIn ifs true _ >>= fun ok=>_))=_;refine bind_congr fun _=>bind_congr fun _=>bind_congr fun ok=>?_;cases ok with
  | false=>rfl
  | true =>
   simp only[bind_assoc,jt]
   rfl
theorem turn_two1 (elt target iter t2 i2:Expr) (ifs ifs2:List Expr) (scope:Scope) (pos:Pos) (it acc:ae) (env:Env) :
  fS (.ListComp elt [⟨target,iter,ifs,0⟩,⟨t2,i2,ifs2,0⟩] scope pos) 1 it acc env=turnOf t2 ifs2 i2.pos (emitOf elt acc env) (.compLoop (.ListComp elt [⟨target,iter,ifs,0⟩,⟨t2,i2,ifs2,0⟩] scope pos) 1 it acc env) it env:=by
 unfold turnOf testsOf emitOf;show(fI i2.pos >>= fun _=>fq it >>= fun r=>_)=_;refine bind_congr fun _=>bind_congr fun r=>?_;cases r with
 | none=>rfl
 | some v =>
  show(ff t2 it v >>= fun _=>jI t2 env v >>= fun _=>(forIn ifs2 true _ >>= fun ok=>_))=_;refine bind_congr fun _=>bind_congr fun _=>bind_congr fun ok=>?_;cases ok <;> rfl
abbrev TB:=St->Hp->(Hp->Prop)->Prop
def PB (X:Cx) (m:Sem Unit) (t:TB):Prop :=
 ∀ (pins:List (Addr × Obj)) (s:ai) (σ:St) (H:Hp) (N:Hp->Prop),Inv X pins σ H s->t σ H N ->
  ax (aC X.prog X.w) X.A m (fun _ s'=>∃ σ' H',Inv X pins σ' H' s'/\Wk σ σ'/\N H') (fun _ _=>False) s
def tEmit (D:Addr) (te:TE):TB:=fun σ H N=>te σ H fun y H4=>∃ zs,H4 D=some (.lst zs)/\zs.length < sizeLine/\N (upd H4 D (.lst (zs++[y])))
def LoopW (J:It) (σ0:St) (g:TG) (tt:TT) (tb:TB) (Q:Hp->Prop) (H:Hp):Prop :=
 ∃ W:Nat->Nat->Hp->Prop,(∃ m,W 0 m H)/\∀ i m H,W i m H ->
  (J.stop i H/\Q H)\/(J.go i H/\∃ N:Hp->Prop,(∀ H',N H'->∃ m',m' < m/\W (i + 1) m' H') /\
   ∀ x H',J.yld i H x H'->g x σ0 H' fun σ2 H2=>Wk σ0 σ2/\tt σ2 H2 fun b H3=>if b=true then tb σ2 H3 N else N H3)
def tInner (wi:TI) (g:TG) (tt:TT) (tb:TB):TB:=fun σ H N=>wi σ H fun J H1=>LoopW J σ g tt tb N H1
def tComp2 (is:List (Option Nat)) (wi:TI) (g:TG) (tt:TT) (tb:Addr->TB):TE:=fun σ H Q=>wi σ H fun J H1=>∀ D,H1 D=none->LoopW J (capt is σ) g tt (tb D) (Q (.ref D)) (upd H1 D (.lst []))
theorem Wk.refl (σ:St):Wk σ σ:=⟨rfl,fun _ _ h=>h⟩
theorem Wk.trans {a b c:St} (h:Wk a b) (k:Wk b c):Wk a c:=⟨k.1.trans h.1,fun j v e=>k.2 j v (h.2 j v e)⟩
theorem wk_of {σ:St} {i:Nat} {v:V} (h:σ[i]?=some none):Wk σ (σ.set i (some v)):=by
 refine⟨fY,fun j u e=>?_⟩
 by_cases hj:j=i
 ·subst hj;rw[h] at e;cases e
 ·rw[fC (aZ hj)];exact e
section
variable {X:Cx}
theorem pb_emit {elt:Expr} {te:TE} {D:Addr} (hxe:X.xe=fun _ _=>False) (he:PE X elt te):PB X (emitOf elt (.ref D) X.env) (tEmit D te):=by
 intro pins s σ H N I h;unfold emitOf;have h1:=he pins s σ H _ I h;rw[hxe] at h1;refine ad (thn h1 fun y s1 ⟨v,H1,I1,r1,zs,hz,hlt,n⟩=>ad ?_);have h2:=mt_append pins s1 σ H1 (.ref D) [v] (.ref D) [y] (fun u Hx=>u=.non/\N Hx) I1 rfl (.cons r1 .nil) ⟨D,zs,v,rfl,rfl,hz,hlt,rfl,n⟩;rw[hxe] at h2;exact thn h2 fun _ s2 ⟨u,H2,I2,_,_,n2⟩=>af ⟨σ,H2,I2,Wk.refl σ,n2⟩
theorem loop_run {e target:Expr} {ifs:List Expr} {at0:Pos} {d:Nat} {acc:ae} {it:Addr} {m:Sem Unit} {g:TG} {tt:TT} {tb:TB} {J:It} {fp:List Addr} {tn:Nat->aW->Prop} {Q:Hp->Prop} {R:Result->ai->Prop} {pins:List (Addr × Obj)} {s:ai} {σ:St} {H:Hp}
  (hcalm:X.calm=true) (hxe:X.xe=fun _ _=>False) (hturn:fS e d (.ref it) acc X.env=turnOf target ifs at0 m (.compLoop e d (.ref it) acc X.env) (.ref it) X.env)
  (hfr:(gV e d (.ref it) acc X.env).isFrame=false) (hA:X.A.under (gV e d (.ref it) acc X.env)=X.A)
  (T:Turn X.prog X.w X.K target J fp it tn) (hg:PG X target g) (ht:PTs X ifs tt) (hb:PB X m tb)
  (I:Inv X pins σ H s) (st:tn 0 s.heap) (f:∀ b∈fp,FpOk X pins H b) (h:LoopW J σ g tt tb Q H)
  (fin:∀ H' s',Inv X pins σ H' s'->(∀ b∈fp,FpOk X pins H' b)->Q H'->R (.ok .next) s') :
  eT (aC X.prog X.w) X.A (.compLoop e d (.ref it) acc X.env) R s:=by
 obtain⟨W,⟨m0,w0⟩,turn⟩:=h;have stat:∀ {H':Hp},(∀ b∈fp,H' b=none)->∀ b∈fp,FpOk X pins H' b:=fun hn b hb=>⟨hn b hb,(f b hb).2⟩;refine codeAny_loop rfl (fun n s'=>∃ i H',Inv X pins σ H' s'/\tn i s'.heap/\(∀ b∈fp,H' b=none)/\W i n H') ?_ m0 ⟨0,H,I,st,fun b hb=>(f b hb).1,w0⟩;rintro n s3 ⟨i,H3,I3,st3,fr3,w3⟩;have eden:(aC X.prog X.w).den (.compLoop e d (.ref it) acc X.env)=(fS e d (.ref it) acc X.env).onRaise (fun x=>do noteFrame x X.env;theTreesLotGoes x):=by
  show(if (gV e d (.ref it) acc X.env).isFrame=true then _ else _)=_
  rw[hfr];rfl
 rw[eden,hturn,hA];refine wpAny_noted ?_;unfold turnOf;refine ad (gS ?_);rcases turn i n H3 w3 with⟨stop,qn⟩ | ⟨go,N,hN,step⟩
 ·refine ad (thn (T.done X rfl rfl rfl hcalm i pins s3 σ H3 _ I3 (stat fr3) st3 stop) fun r s4 zq0=>?_);obtain⟨hr,I4⟩:=zq0;subst hr;exact af (fin H3 s4 I4 (stat fr3) qn)
 ·refine ad (thn (T.item X rfl rfl rfl hcalm i pins s3 σ H3 _ I3 (stat fr3) st3 go) fun r s4 zq0=>?_);obtain⟨u,hr,h4⟩:=zq0;subst hr;refine ad (thn h4 fun _ s5 zq0=>?_);obtain⟨x,H5,I5,r5,y5,st5,fr5⟩:=zq0;have I5':=I5.pinned (stat fr5) (T.obj _ _ st5);have q5:=hg _ s5 σ H5 x u _ I5' r5 (step x H5 y5);rw[hxe] at q5;refine ad (dP q5 (fun _ s6 ⟨σ6,H6,I6,wk6,q6⟩=>?_) fun _ _ z=>z.elim);have q7:=ht _ s6 σ6 H6 _ I6 q6;rw[hxe] at q7;refine ad (dP q7 (fun ok s7 ⟨H7,I7,q7⟩=>?_) fun _ _ z=>z.elim);have again':∀ {σ8:St} {H8:Hp} {s8:ai},Inv X (pins++pinsAt fp s5.heap) σ8 H8 s8->Wk σ σ8->N H8->∃ m,m < n/\∃ i H',Inv X pins σ H' s8/\tn i s8.heap/\(∀ b∈fp,H' b=none)/\W i m H':=fun {σ8 H8 s8} I8 wk n8=>by
   obtain⟨m',hm,w8⟩:=hN H8 n8;refine⟨m',hm,i + 1,H8,I8.unpinned.weak wk.1.symm wk.2,T.keep _ _ _ st5 fun b hb o e=>(I8.pin (b,o) (aL _ (aL _ (mem_pinsAt hb e)))).1,fun b hb=>?_,w8⟩;obtain⟨o,e,_⟩:=T.obj _ _ st5 b hb;exact(I8.pin (b,o) (aL _ (aL _ (mem_pinsAt hb e)))).2.1
  cases ok with
  | false=>exact af ⟨rfl,again' I7 wk6 q7⟩
  | true =>
   refine ad (dP (hb _ s7 σ6 H7 N I7 q7) (fun _ s8 ⟨σ8,H8,I8,wk8,n8⟩=>?_) fun _ _ z=>z.elim);exact af ⟨rfl,again' I8 (wk6.trans wk8) n8⟩
end
section
variable {X:Cx}
theorem start_one {e target iter:Expr} {ifs:List Expr} {it acc:ae} {env:Env} {A:aQ} {prog:aD} {w:aK} {R:Result->ai->Prop} {s:ai} (hc:(clausesOf e)[1]?=some ⟨target,iter,ifs,0⟩) (hfr:(gn e 1 it acc env).isFrame=false) (hA:A.under (gn e 1 it acc env)=A)
  (h0:eT (aC prog w) A (.compLoop e 1 it acc env) R s)
  (h:ax (aC prog w) A (je it) (fun it' s'=>eT (aC prog w) A (.compLoop e 1 it' acc env) R s') (notedBy (aC prog w) A env fun x s'=>R (.error x) s') s) :
  eT (aC prog w) A (.compStart e 1 it acc env) R s:=by
 refine g9 ?_;have eden:(aC prog w).den (.compStart e 1 it acc env)=(compStart e 1 it acc env).onRaise (fun x=>do noteFrame x env;fI theWindowsPlace):=by
  show(if (gn e 1 it acc env).isFrame=true then _ else _)=_
  rw[hfr];rfl
 rw[eden,hA];refine wpAny_notedAt ?_;unfold compStart;rw[hc];simp only[Option.elim,bne_self_eq_false,aF,if_false];refine ad (dZ (wpAny_ite ?_))
 split
 ·first
   | exact ad (af (af (And.intro rfl h0)))
   | exact af (And.intro rfl h0)
 ·refine ad (f7 ?_);refine ad (gS (ad (dP h (fun it' s' h'=>af (And.intro rfl h')) fun _ _ x=>x)))
theorem pb_inner {e t2 i2:Expr} {ifs2:List Expr} {acc:ae} {m:ae->Sem Unit} {wi:TI} {g:TG} {tt:TT} {tb:TB} (hcalm:X.calm=true) (hxe:X.xe=fun _ _=>False) (hc:(clausesOf e)[1]?=some ⟨t2,i2,ifs2,0⟩)
  (hturn:∀ it,fS e 1 (.ref it) acc X.env=turnOf t2 ifs2 i2.pos (m acc) (.compLoop e 1 (.ref it) acc X.env) (.ref it) X.env)
  (hi:PI X t2 i2 wi) (hg:PG X t2 g) (ht:PTs X ifs2 tt) (hb:PB X (m acc) tb)
  (hs:∀ x,cQ i2 X.env x=pure x) (hfr:∀ it,(gn e 1 it acc X.env).isFrame=false) (hfr2:∀ it,(gV e 1 it acc X.env).isFrame=false)
  (hA:∀ it,X.A.under (gn e 1 it acc X.env)=X.A) (hA2:∀ it,X.A.under (gV e 1 it acc X.env)=X.A) :
  PB X (innerOf e i2 acc X.env) (tInner wi g tt tb):=by
 intro pins s σ H N I h;unfold innerOf;have h1:=hi pins s σ H _ I h;rw[hxe] at h1;refine ad (thn h1 fun v s1 q1=>ad (gS (ad (i9 (hs v) (ad (bB (thn q1 fun itv s2 q2=>?_)))))));obtain⟨it,fp,tn,J,H2,rfl,I2,T,st2,f2,q2⟩:=q2;refine ad (wpAny_runOwn ?_);have loop:eT (aC X.prog X.w) X.A (.compLoop e 1 (.ref it) acc X.env) (fun r s'=>match r with
   | .ok f=>ax (aC X.prog X.w) X.A (pure ()) (fun _ s'=>∃ σ' H',Inv X pins σ' H' s'/\Wk σ σ'/\N H') (fun _ _=>False) s'
   | .error x=>cameBackBy (aC X.prog X.w) X.A X.env (fun _ _=>False) x s') s2 :=
  loop_run hcalm hxe (hturn it) (hfr2 _) (hA2 _) T hg ht hb I2 st2 f2 q2 fun H' s' I' _ n=>af ⟨σ,H',I',Wk.refl σ,n⟩
 exact start_one hc (hfr _) (hA _) loop (T.self _ 0 _ _ _ st2 loop)
end
theorem closure_fr (env:Env):∀ (names:List (Str × fh)) (acc:List (Str × Addr)),(∀ x,(x,aT)∈names->∃ c,env.cells.lookup x=some c) ->
  ∃ cl,(forIn names acc fun(y:Str × fh) (cs:List (Str × Addr))=>(if (y.2 == aT)=true then do let a <- cellOf env y.1;pure (cg ((y.1,a)::cs)) else pure (cg cs):Sem (ForInStep (List (Str × Addr)))))=pure cl /\
   (∀ x c,cl.lookup x=some c->(x,aT)∈names\/acc.lookup x=some c)
 | [],acc,_=>⟨acc,by rfl,fun _ _ h=>.inr h⟩
 | (n,k)::rest,acc,hn=>by
  by_cases hk:(k == aT)=true
  ·have hk':k=aT:=by cases k <;> first | rfl | cases hk
   subst hk';obtain⟨c,hc⟩:=hn n am;obtain⟨cl,e,h1⟩:=closure_fr env rest ((n,c)::acc) (fun x hx=>hn x (aq _ hx));refine⟨cl,?_,fun x d hx=>?_⟩
   ·rw[fZ];have ec:cellOf env n=pure c:=by unfold cellOf;rw[hc]
    simp only[hk,if_true,ec,jt];exact e
   ·rcases h1 x d hx with z | z
    ·exact .inl (aq _ z)
    ·simp only[cL] at z;cases hxn:x == n with
     | true=>rw[fJ hxn];exact .inl am
     | false=>rw[hxn] at z;exact .inr z
  ·obtain⟨cl,e,h1⟩:=closure_fr env rest acc (fun x hx=>hn x (aq _ hx));refine⟨cl,?_,fun x d hx=>?_⟩
   ·rw[fZ];simp only[hk,if_false,jt,aF];exact e
   ·rcases h1 x d hx with z | z
    ·exact .inl (aq _ z)
    ·exact .inr z
theorem closureFor_of' {env:Env} {scope:Scope} (hn:∀ x,(x,aT)∈scope.names->∃ c,env.cells.lookup x=some c) :
  ∃ cl,closureFor scope env=pure cl/\(∀ x c,cl.lookup x=some c->env.cells.lookup x=some c)/\(∀ x,(x,aT)∈scope.names->(cl.lookup x).isSome=true)/\∀ x c,cl.lookup x=some c->(x,aT)∈scope.names:=by
 obtain⟨cl,e,h1,h2⟩:=closure_of env scope.names [] hn (fun x c h=>by cases h)
 obtain⟨cl',e',h3⟩:=closure_fr env scope.names [] hn;have ee:cl=cl':=by
  have:=e.symm.trans e'
  injection this
 subst ee;refine⟨cl,?_,h1,fun x hx=>h2 x (.inl hx),fun x c hx=>(h3 x c hx).elim id fun z=>by cases z⟩
 have q:closureFor scope env=(forIn scope.names ([]:List (Str × Addr)) fun(y:Str × fh) (cs:List (Str × Addr))=>(if (y.2 == aT)=true then do let a <- cellOf env y.1;pure (cg ((y.1,a)::cs)) else pure (cg cs):Sem (ForInStep (List (Str × Addr))))):=by
  unfold closureFor;exact bind_pure _
 rw[q,e]
def ocl (oc:Option Str) (c:Addr) (cl:List (Str × Addr)):List (Str × Addr):=match oc with
 | none=>cl
 | some x=>(x,c)::cl
def ohp (oc:Option Str) (h:aW):aW:=match oc with
 | none=>h
 | some _=>h.push { cls:=.type "cell",data:=.cell none }
theorem ocl_lk {oc:Option Str} {c d:Addr} {cl:List (Str × Addr)} {x:Str} (h:(ocl oc c cl).lookup x=some d):(oc=some x/\d=c)\/cl.lookup x=some d:=by
 cases oc with
 | none=>exact .inr h
 | some z =>
  unfold ocl at h;simp only[cL] at h;cases hx:x == z with
  | true=>rw[hx] at h;cases h;rw[fJ hx];exact .inl ⟨rfl,rfl⟩
  | false=>rw[hx] at h;exact .inr h
theorem ocl_some {oc:Option Str} {c:Addr} {cl:List (Str × Addr)} {x:Str} (h:(cl.lookup x).isSome=true):∃ d,(ocl oc c cl).lookup x=some d:=by
 cases oc with
 | none=>exact b5.mp h
 | some z =>
  unfold ocl;simp only[cL];cases hx:x == z with
  | true=>exact⟨_,rfl⟩
  | false=>exact b5.mp h
theorem ocl_own {c:Addr} {cl:List (Str × Addr)} {x:Str}:(ocl (some x) c cl).lookup x=some c:=by unfold ocl;simp
theorem ohp_keep {oc:Option Str} {h:aW} {b:Addr} {o:Obj} (e:h.get? b=some o):(ohp oc h).get? b=some o:=by
 cases oc with
 | none=>exact e
 | some _=>exact ah _ e
def cxComp2 (X:Cx) (N':List Str) (scope:Scope) (cl:List (Str × Addr)) (C:Addr) (fp:List Addr) (s:ai) (H:Hp) (oc:Option Str):Cx :=
 { X with N:=N',s₀:=s,H₀:=H,env:=kd scope cl C X.env,outer:=X.stack,ex:=fp,fn:=fun x=>decide (oc=some x),pn:=[],xe:=fun _ _=>False }
theorem env_new {scope:Scope} {env:Env} {cl:List (Str × Addr)} {M:Model} {A:aQ} {E:ae->ai->Prop} {s:ai} {Q:Env->ai->Prop}
  (h:Q { scope:=scope,locals:=s.heap.objs.size,globals:=env.globals,cells:=f8 (s.heap.objs.size + 1) scope.names cl,qual:=env.qual,func:=none,code:=env.code,frame:=env.frame,builtins:=env.builtins } { s with heap:=jv (s.heap.push { cls:=.type "dict",data:=.dict #[] }) scope.names }) :
  ax M A (newFunctionEnv scope env.globals cl [] env.qual none .none (some env)) Q E s:=by
 unfold newFunctionEnv;simp only[Option.isSome_some,if_true];refine ad (wpAny_alloc ?_);refine ad (wpAny_layCells _ (fun name kind cells=>by cases hkc:kind == gT <;> simp[hkc]) _ _ _ _ ?_)
 rw[show({ s with heap:=s.heap.push { cls:=.type "dict",data:=.dict #[] } }:ai).heap.objs.size=s.heap.objs.size + 1 from bR ..]
 exact ad (af (af h))
section
variable {X:Cx} {pins:List (Addr × Obj)} {σ:St} {H H':Hp} {s s2:ai}
theorem cxComp2_ok {N':List Str} {scope:Scope} {cl:List (Str × Addr)} {fp:List Addr} {oc:Option Str} (I:Inv X pins σ H s) (hf:∀ b∈fp,FpOk X pins H b) (hfl:∀ b∈fp,b < s.heap.objs.size) (hkind:scope.kind=.function)
  (c1:∀ x c,cl.lookup x=some c->X.env.cells.lookup x=some c) (c2:∀ x,(x,aT)∈scope.names->(cl.lookup x).isSome=true) (hcell:∀ y∈scope.names,y.2=.cell->oc=some y.1) (hun:∀ x,oc=some x->cl.lookup x=none) :
  (cxComp2 X N' scope (ocl oc (s.heap.objs.size + 1) cl) s.heap.objs.size fp s H oc).Ok where
 mod:=I.ok.mod
 kind:=hkind
 glob:=I.ok.glob
 blt:=I.ok.blt
 above:=ar _
 inj:=fun x y c h1 h2=>by
  have old:∀ z,cl.lookup z=some (s.heap.objs.size + 1)->False:=fun z e=>by
   obtain⟨v,q⟩:=I.cell z _ (c1 z _ e);exact absurd (show s.heap.objs.size + 1 < s.heap.objs.size from q.lt) (gL.mpr (dE _))
  rcases ocl_lk h1 with⟨e1,rfl⟩ | e1 <;> rcases ocl_lk h2 with⟨e2,e⟩ | e2
  ·rw[e1] at e2;exact aJ e2
  ·exact(old y e2).elim
  ·subst e;exact(old x e1).elim
  ·exact I.ok.inj x y c (c1 x c e1) (c1 y c e2)
 has:=fun x hx=>by
  have hx':scope.names.lookup x=some .cell\/scope.names.lookup x=some .free:=of_relabel (sc:=scope) hx;rcases hx' with hx' | hx'
  ·have e:=hcell _ (mem_of_lk hx') rfl;subst e;exact⟨_,ocl_own⟩
  ·exact ocl_some (c2 x (mem_of_lk hx'))
 cab:=fun x c h hc=>by
  have h':oc=some x:=of_decide_eq_true h;rcases ocl_lk hc with⟨_,rfl⟩ | e
  ·exact dE _
  ·rw[hun x h'] at e;cases e
 hd:=I.ok.hd
 frames:=I.ok.frames
 gd:=I.ok.gd
 stk:=.inl rfl
 exf:=fun b hb=>⟨aH (hfl b hb),fun x c e=>by
  rcases ocl_lk e with⟨_,rfl⟩ | e
  ·intro z;exact absurd (show s.heap.objs.size + 1 < s.heap.objs.size from z ▸ hfl b hb) (gL.mpr (dE _))
  ·exact(hf b hb).2.2.2.2.1 x c (c1 x c e)⟩
 bs:=I.bs
 bsz:=aV I.ok.bsz I.sz
 noex:=fun b o e hb=>by
  rcases(hf b hb).2.2.2.1 with z | z
  ·exact I.ok.noex b o e z
  ·have q:=I.ok.bs b o e;exact absurd (a8 (ay q.1) z) (cy _)
 exfs:=fun b hb z=>by
  rcases aA.mp (I.stkSub b z) with e | e
  ·exact(hf b hb).2.1 e
  ·exact(hf b hb).2.2.1 e
 funs:=I.stack
 frf:=I.stkFree
theorem comp2_start {N':List Str} {is:List (Option Nat)} {scope:Scope} {cl:List (Str × Addr)} {fp:List Addr} {oc:Option Str} (I:Inv X pins σ H s) (ok:(cxComp2 X N' scope (ocl oc (s.heap.objs.size + 1) cl) s.heap.objs.size fp s H oc).Ok) (hN:X.N.Nodup)
  (c1:∀ x c,cl.lookup x=some c->X.env.cells.lookup x=some c) (c2:∀ x,(x,aT)∈scope.names->(cl.lookup x).isSome=true) (hu:∀ x,(x,aT)∈scope.names->scope.names.lookup x=some .free) (cp:Cap X.N scope N' is)
  (hV:∀ x,(x,aT)∈scope.names->Vis X.env.scope x/\X.env.scope.names.lookup x≠some .local) (hun:∀ x,oc=some x->cl.lookup x=none) :
  Inv (cxComp2 X N' scope (ocl oc (s.heap.objs.size + 1) cl) s.heap.objs.size fp s H oc) [] (capt is σ) H { s with heap:=ohp oc (s.heap.push { cls:=.type "dict",data:=.dict #[] }) }:=by
 have kp:∀ b o,s.heap.get? b=some o->(ohp oc (s.heap.push { cls:=.type "dict",data:=.dict #[] })).get? b=some o:=fun b o e=>ohp_keep (ah _ e);exact {
 ok:=ok
 os:=rfl
 bare:=I.bare
 base:=Un.kept kp
 loc:=by
  refine⟨_,(aW.Ns.new s.heap (.type "dict")).keeps fun b o e=>ohp_keep e,fun j x v e1 e2 e3=>?_⟩;have e1':N'[j]?=some x:=e1;unfold capt at e2;rw[bv] at e2;cases hi:is[j]? with
  | none=>rw[hi] at e2;cases e2
  | some o =>
   rw[hi] at e2;cases o with
   | none=>cases e2
   | some i =>
    obtain⟨hx,hfree⟩:=cp.get e1' hi;have e2':(σ[i]?).join=some v:=aJ e2;have e4:σ[i]?=some (some v):=by
     cases q:σ[i]? with
     | none=>rw[q] at e2';cases e2'
     | some z=>rw[q] at e2';cases z with
      | none=>cases e2'
      | some z=>cases e2';rfl
    obtain⟨m,hn,hl⟩:=I.loc;obtain⟨hvis,hnl⟩:=hV x hfree;obtain⟨u,r,l⟩:=hl i x v hx e4 hvis;refine⟨u,r,.inr ⟨relabel_free (sc:=scope) (.inr (hu x hfree)),?_⟩⟩;rcases l with⟨k,_⟩ | ⟨k,c,e,z⟩
    ·exact absurd k hnl
    ·obtain⟨c',e'⟩:=ocl_some (oc:=oc) (c:=s.heap.objs.size + 1) (c2 x hfree);have ee:c'=c:=by
      rcases ocl_lk e' with⟨z1,_⟩ | z1
      ·have:=c2 x hfree;rw[hun x z1] at this;cases this
      ·have:=c1 x c' z1;rw[e] at this;exact(aJ this).symm
     subst ee;obtain⟨oc',hoc,hd⟩:=z;exact⟨c',e',oc',kp c' oc' hoc,hd⟩
 cell:=fun x c e=>by
  rcases ocl_lk (show(ocl oc (s.heap.objs.size + 1) cl).lookup x=some c from e) with⟨z,rfl⟩ | e
  ·subst z;refine⟨none,{ cls:=.type "cell",data:=.cell none },?_,rfl⟩;show((s.heap.push _).push _).get? _=_;rw[<- bR s.heap { cls:=.type "dict",data:=.dict #[] }];exact aw _ rfl
  ·obtain⟨v,o,ho,hd⟩:=I.cell x c (c1 x c e);exact⟨v,o,kp c o ho,hd⟩
 free:=I.hok.fresh (ar _)
 freeC:=fun x c e=>by
  rcases ocl_lk (show(ocl oc (s.heap.objs.size + 1) cl).lookup x=some c from e) with⟨z,rfl⟩ | e
  ·exact I.hok.fresh (dE _)
  ·exact I.freeC x c (c1 x c e)
 pin:=fun p hp=>absurd (show p∈([]:List (Addr × Obj)) from hp) (by simp)
 hok:=I.hok.kept kp
 len:=by
  show(capt is σ).length=N'.length;unfold capt;rw[aj,cp.length] }
def FrC (X:Cx) (pins:List (Addr × Obj)) (C:Addr) (H:Hp):Prop:=H C=none/\C≠X.env.locals/\X.s₀.heap.objs.size<=C/\(∀ x c,X.env.cells.lookup x=some c->c≠C)/\∀ p∈X.pn++pins,p.1≠C
theorem FrC.gone {C:Addr} {h':aW} (f:FrC X pins C H) (I:Inv X pins σ H s) (sb:dz C s.heap h'):Inv X pins σ H { s with heap:=h' } :=
 I.turned (t':=s.toks) (fun b o hb e=>(sb.2 b hb).trans e) f.1 f.2.1 (.inr f.2.2.1) f.2.2.2.1 f.2.2.2.2
theorem comp_gen {elt target iter:Expr} {ifs:List Expr} {gs:List jg} {scope:Scope} {pos:Pos} {N':List Str} {is:List (Option Nat)} {wi:TI} {g:TG} {tt:TT} {tb:Addr->TB} {oc:Option Str} {m:ae->Env->Sem Unit} (hcalm:X.calm=true) (hN:X.N.Nodup)
  (hturn:∀ it acc env,fS (.ListComp elt (⟨target,iter,ifs,0⟩::gs) scope pos) 0 it acc env=turnOf target ifs iter.pos (m acc env) (.compLoop (.ListComp elt (⟨target,iter,ifs,0⟩::gs) scope pos) 0 it acc env) it env)
  (cp:Cap X.N scope N' is) (hi:PI X target iter wi)
  (hg:∀ cl C fp s H,PG (cxComp2 X N' scope cl C fp s H oc) target g) (ht:∀ cl C fp s H,PTs (cxComp2 X N' scope cl C fp s H oc) ifs tt) (hb:∀ cl C fp s H D,PB (cxComp2 X N' scope cl C fp s H oc) (m (.ref D) (kd scope cl C X.env)) (tb D))
  (hcf:∀ n acc,f8 n scope.names acc=ocl oc n acc) (hpc:∀ h,jv h scope.names=ohp oc h)
  (hkind:scope.kind=.function) (hcell:∀ y∈scope.names,y.2=.cell->oc=some y.1)
  (hu:∀ y∈scope.names,scope.names.lookup y.1=some y.2) (hoc:∀ x,oc=some x->scope.names.lookup x=some .cell)
  (hVb:okV scope.names X.env.scope.names=true)
  (hs:∀ x,cQ iter X.env x=pure x)
  {use:Option (ae->Sem Unit)} {Q:VK} {Qv:ae->ai->Prop} (I:Inv X pins σ H s) (h:tComp2 is wi g tt tb σ H Q)
  (fin:∀ D C H5 s6,Inv X pins σ H5 s6->(∃ m,s6.heap.Ns C m)->FrC X pins C H5->Q (.ref D) H5->compPost (aC X.prog X.w) X.A X.xe use Qv (.ref D) C (.ok .next) s6) :
  ax (aC X.prog X.w) X.A (comprehension (.ListComp elt (⟨target,iter,ifs,0⟩::gs) scope pos) scope X.env (firstIterPos (⟨target,iter,ifs,0⟩::gs) pos) (newList []) (firstAsync (⟨target,iter,ifs,0⟩::gs)) (firstIter (⟨target,iter,ifs,0⟩::gs) X.env) use) Qv X.xe s:=by
 have hV:=okV_ok hVb;have hV':∀ x,(x,aT)∈scope.names->Vis X.env.scope x/\X.env.scope.names.lookup x≠some .local:=fun x hx=>hV (x,.free) hx rfl;have hu':∀ x,(x,aT)∈scope.names->scope.names.lookup x=some .free:=fun x hx=>hu (x,.free) hx;have hnames:∀ x∈scope.names,x.2=.local->scope.names.lookup x.1=some .local:=fun x hx hl=>by rw[hu x hx,hl]
 obtain⟨cl,hclos,c1,c2,c3⟩:=closureFor_of' (env:=X.env) (scope:=scope) fun x hx=>I.ok.has x (by
  obtain⟨v,n⟩:=hV' x hx;rcases v with v | v | v
  ·exact absurd v n
  ·exact .inl v
  ·exact .inr v)
 have hun:∀ x,oc=some x->cl.lookup x=none:=fun x hx=>by
  cases e:cl.lookup x with
  | none=>rfl
  | some c =>
   have:=hu' x (c3 x c e)
   rw[hoc x hx] at this;cases this
 refine wpAny_comprehension_free (use:=use) rfl hs hclos hkind hnames (thn (hi pins s σ H _ I h) fun v s1 h1=>thn h1 fun itv s2 h2=>?_);obtain⟨it,fp,tn,J,H2,rfl,I2,T,st2,f2,q2⟩:=h2;refine bh ?_;have hD:H2 s2.heap.objs.size=none:=I2.hok.fresh (ar _);have fpl:∀ b∈fp,b < s2.heap.objs.size:=fun b hb=>by obtain⟨o,e,_⟩:=T.obj _ _ st2 b hb;exact ay e
 have I3:Inv X pins σ (upd H2 s2.heap.objs.size (.lst [])) { s2 with heap:=s2.heap.push { cls:=.type "list",dict:=none,data:=.seq ([]:List ae).toArray } } :=
  I2.laid (t':=s2.toks) (fun b u e=>ah _ e) (ar _) ⟨bA _,[],0,.nil,aw _ rfl⟩
 have st3:tn 0 (s2.heap.push { cls:=.type "list",dict:=none,data:=.seq ([]:List ae).toArray }):=T.keep _ _ _ st2 fun b hb o e=>ah _ e;have f3:∀ b∈fp,FpOk X pins (upd H2 s2.heap.objs.size (.lst [])) b:=fun b hb=>⟨by rw[upd_ne (aH (fpl b hb))];exact(f2 b hb).1,(f2 b hb).2⟩
 have fpl3:∀ b∈fp,b < (s2.heap.push { cls:=.type "list",dict:=none,data:=.seq ([]:List ae).toArray }).objs.size:=fun b hb=>by rw[bR];exact cS (fpl b hb)
 have q3:=q2 _ hD;generalize hDe:s2.heap.objs.size=D at *
 generalize hs3:({ s2 with heap:=s2.heap.push { cls:=.type "list",dict:=none,data:=.seq ([]:List ae).toArray } }:ai)=s3 at *
 have hsh:s3.heap=s2.heap.push { cls:=.type "list",dict:=none,data:=.seq ([]:List ae).toArray }:=by rw[<- hs3]
 rw[<- hsh] at st3 fpl3;have ok:=cxComp2_ok (N':=N') (cl:=cl) (oc:=oc) I3 f3 fpl3 hkind c1 c2 hcell hun;have I4:=comp2_start I3 ok hN c1 c2 hu' cp hV' hun;refine env_new ?_;rw[hcf,hpc];have kp:∀ b o,s3.heap.get? b=some o->(ohp oc (s3.heap.push { cls:=.type "dict",data:=.dict #[] })).get? b=some o:=fun b o e=>ohp_keep (ah _ e);have st4:tn 0 (ohp oc (s3.heap.push { cls:=.type "dict",data:=.dict #[] })):=T.keep _ _ _ st3 fun b _ o e=>kp b o e;have f4:∀ b∈fp,FpOk (cxComp2 X N' scope (ocl oc (s3.heap.objs.size + 1) cl) s3.heap.objs.size fp s3 (upd H2 D (.lst [])) oc) [] (upd H2 D (.lst [])) b:=fun b hb =>
  ⟨(f3 b hb).1,(ok.exf b hb).1,ok.exfs b hb,.inl hb,(ok.exf b hb).2,fun p hp=>absurd (show p∈([]:List (Addr × Obj)) from hp) (by simp)⟩
 have loop:=loop_run (X:=cxComp2 X N' scope (ocl oc (s3.heap.objs.size + 1) cl) s3.heap.objs.size fp s3 (upd H2 D (.lst [])) oc) (e:=.ListComp elt (⟨target,iter,ifs,0⟩::gs) scope pos) (d:=0) (acc:=.ref D)
  (R:=compPost (aC X.prog X.w) X.A X.xe use Qv (.ref D) s3.heap.objs.size) hcalm rfl (hturn _ _ _) rfl rfl T (hg _ _ _ _ _) (ht _ _ _ _ _) (hb _ _ _ _ _ D) I4 st4 f4 q3 (by
   intro H5 s6 I6 _ qn;obtain⟨m6,n6,_⟩:=id I6.loc;have un:Un (frs X.stack) fp (upd H2 D (.lst [])) H5 s3.heap s6.heap:=I6.base;have hok':HOk X.prog X.w H5 s6.heap:=I6.hok;refine fin D s3.heap.objs.size H5 s6 (I3.call' (s':=s6) (ch:=fp) I6.os un hok' I6.bare fun b hb=>⟨(f3 b hb).2.2.2.1,(f3 b hb).2.1,(f3 b hb).2.2.2.2.1,(f3 b hb).2.2.2.2.2⟩) ⟨m6,n6⟩ ⟨I6.free,ip I3.lt,I3.sz,fun x c e z=>?_,fun p hp z=>?_⟩ qn
   ·obtain⟨v,q⟩:=I3.cell x c e;exact absurd q.lt (by rw[z];exact cy _)
   ·exact absurd (ay (I3.pin p hp).1) (by rw[z];exact cy _))
 exact codeAny_compStart_list loop (T.self _ 0 _ _ _ st4 loop)
theorem pe_compG {elt target iter:Expr} {ifs:List Expr} {gs:List jg} {scope:Scope} {pos:Pos} {N':List Str} {is:List (Option Nat)} {wi:TI} {g:TG} {tt:TT} {tb:Addr->TB} {oc:Option Str} {m:ae->Env->Sem Unit} (hcalm:X.calm=true) (hN:X.N.Nodup)
  (hturn:∀ it acc env,fS (.ListComp elt (⟨target,iter,ifs,0⟩::gs) scope pos) 0 it acc env=turnOf target ifs iter.pos (m acc env) (.compLoop (.ListComp elt (⟨target,iter,ifs,0⟩::gs) scope pos) 0 it acc env) it env)
  (cp:Cap X.N scope N' is) (hi:PI X target iter wi)
  (hg:∀ cl C fp s H,PG (cxComp2 X N' scope cl C fp s H oc) target g) (ht:∀ cl C fp s H,PTs (cxComp2 X N' scope cl C fp s H oc) ifs tt) (hb:∀ cl C fp s H D,PB (cxComp2 X N' scope cl C fp s H oc) (m (.ref D) (kd scope cl C X.env)) (tb D))
  (hcf:∀ n acc,f8 n scope.names acc=ocl oc n acc:=by intro _ _;rfl) (hpc:∀ h,jv h scope.names=ohp oc h:=by intro _;rfl)
  (hkind:scope.kind=.function:=by rfl) (hcell:∀ y∈scope.names,y.2=.cell->oc=some y.1:=by decide +kernel)
  (hu:∀ y∈scope.names,scope.names.lookup y.1=some y.2:=by decide +kernel) (hoc:∀ x,oc=some x->scope.names.lookup x=some .cell:=by intro x h;cases h <;> rfl)
  (hVb:okV scope.names X.env.scope.names=true:=by first | rfl | kernel_rfl)
  (hs:∀ x,cQ iter X.env x=pure x:=by intro _;rfl) :
  PE X (.ListComp elt (⟨target,iter,ifs,0⟩::gs) scope pos) (tComp2 is wi g tt tb):=by
 intro pins s σ H Q I h;rw[eval_ListComp];refine comp_gen hcalm hN hturn cp hi hg ht hb hcf hpc hkind hcell hu hoc hVb hs I h fun D C H5 s6 I6 ⟨m,n⟩ fc qn=>?_;exact⟨m,n,fun h' sb=>⟨.ref D,H5,fc.gone I6 sb,rfl,qn⟩⟩
theorem ps_setC {x:Str} {i:Nat} {pos' spos:Pos} (hix:X.N[i]?=some x) (hx:Loc X.env.scope x) {elt target iter:Expr} {ifs:List Expr} {gs:List jg} {scope:Scope} {pos:Pos} {N':List Str} {is:List (Option Nat)} {wi:TI} {g:TG} {tt:TT} {tb:Addr->TB} {oc:Option Str} {m:ae->Env->Sem Unit} (hcalm:X.calm=true) (hN:X.N.Nodup)
  (hturn:∀ it acc env,fS (.ListComp elt (⟨target,iter,ifs,0⟩::gs) scope pos) 0 it acc env=turnOf target ifs iter.pos (m acc env) (.compLoop (.ListComp elt (⟨target,iter,ifs,0⟩::gs) scope pos) 0 it acc env) it env)
  (cp:Cap X.N scope N' is) (hi:PI X target iter wi)
  (hg:∀ cl C fp s H,PG (cxComp2 X N' scope cl C fp s H oc) target g) (ht:∀ cl C fp s H,PTs (cxComp2 X N' scope cl C fp s H oc) ifs tt) (hb:∀ cl C fp s H D,PB (cxComp2 X N' scope cl C fp s H oc) (m (.ref D) (kd scope cl C X.env)) (tb D))
  (hcf:∀ n acc,f8 n scope.names acc=ocl oc n acc:=by intro _ _;rfl) (hpc:∀ h,jv h scope.names=ohp oc h:=by intro _;rfl)
  (hkind:scope.kind=.function:=by rfl) (hcell:∀ y∈scope.names,y.2=.cell->oc=some y.1:=by decide +kernel)
  (hu:∀ y∈scope.names,scope.names.lookup y.1=some y.2:=by decide +kernel) (hoc:∀ x,oc=some x->scope.names.lookup x=some .cell:=by intro x h;cases h <;> rfl)
  (hVb:okV scope.names X.env.scope.names=true:=by first | rfl | kernel_rfl)
  (hs:∀ x,cQ iter X.env x=pure x:=by intro _;rfl)
  (hsw:gI (.ListComp elt (⟨target,iter,ifs,0⟩::gs) scope pos) (some (.Name x pos')) spos.line X.env=pure true:=by first | rfl | kernel_rfl) (hf:X.fn x=true\/X.env.scope.names.lookup x=some .local:=by first | exact .inl rfl | exact .inr rfl | assumption) :
  PS X (.Assign [.Name x pos'] (.ListComp elt (⟨target,iter,ifs,0⟩::gs) scope pos) spos) (tAsg (tComp2 is wi g tt tb) (gName i)):=by
 intro pins s σ H D I h;rw[exec_Assign_Name_used _ _ _ _ hsw];refine ad (gS (ad ?_));show ax _ _ (comprehension _ _ _ _ _ _ _ (some _) >>= fun _=>pure ()) _ _ _;refine ad (comp_gen (Qv:=fun _ s'=>ax (aC X.prog X.w) X.A (pure ()) _ X.xe s') hcalm hN hturn cp hi hg ht hb hcf hpc hkind hcell hu hoc hVb hs I h fun E C H5 s6 I6 ⟨m,n⟩ fc qn=>?_);refine wpAny_assign_Name (store_ok2 I6 hN hix hx (show RelV (.ref E) (.ref E) from rfl) (fun s7 I7 ⟨a,sb,ha⟩=>?_) hf)
 have hca:C≠a:=by
  rintro rfl;rcases ha with z | z
  ·exact fc.2.1 z
  ·exact fc.2.2.2.1 x C z rfl
 refine⟨m,n.sameBut sb hca,fun h' sb'=>af (af ?_)⟩;exact⟨_,H5,fc.gone I7 sb',qn⟩
end
end L2
set_option maxHeartbeats 4000000
namespace L2
open PySem PySem.Spec PyProof.Rows
abbrev Dn (α:Type):=Hp->V->α->Prop
abbrev Fg:=ao
def dS:Dn Str:=fun _ v x=>v=.str x
def dB:Dn Bool:=fun _ v b=>v=.bl b
def dT {α:Type} (K:Fg) (R:Dn α):Dn (List α):=fun H v ds=>∃ a xs,v=.ref a/\SqT K H a xs/\a7 (R H) xs ds
def dL {α:Type} (K:Fg) (R:Dn α):Dn (List α):=fun H v ds=>∃ a xs,v=.ref a/\SqL K H a xs/\a7 (R H) xs ds
def SameT (H H':Hp):Prop:=∀ a xs,Rd H a (.tup xs)->Rd H' a (.tup xs)
theorem Same.t {H H':Hp} (h:Same H H'):SameT H H':=fun a xs r=>by
 rcases r with r | ⟨o,r⟩
 ·exact .inl (h _ _ r)
 ·exact .inr ⟨o,h _ _ r⟩
theorem same_upd {H:Hp} {p:Addr} {o:HO} (h:H p=none):Same H (upd H p o):=fun b o' e=>by
 rw[upd_ne (by rintro rfl;rw[h] at e;cases e)];exact e
theorem SqT.stay {K:Fg} {H H':Hp} {a:Addr} {xs:List V} (h:SqT K H a xs) (s:SameT H H'):SqT K H' a xs:=h.elim (fun r=>.inl (s a xs r)) .inr
class Im {α:Type} (R:Dn α):Prop where
 im:∀ {H H' v d},SameT H H'->R H v d->R H' v d
class Mo {α:Type} (R:Dn α):Prop where
 mo:∀ {H H' v d},Same H H'->R H v d->R H' v d
instance (priority:=low) {α:Type} {R:Dn α} [Im R]:Mo R:=⟨fun s r=>Im.im s.t r⟩
theorem Paired.imp {α β:Type} {F G:α->β->Prop} (h:∀ a b,F a b->G a b):∀ {l:List α} {m:List β},a7 F l m->a7 G l m
 | _,_,.nil=>.nil
 | _,_,.cons p q=>.cons (h _ _ p) (Paired.imp h q)
instance:Im dS:=⟨fun _ h=>h⟩
instance {α:Type} {K:Fg} {R:Dn α} [Im R]:Im (dT K R):=⟨fun s ⟨a,xs,e,q,p⟩=>⟨a,xs,e,q.stay s,Paired.imp (fun _ _ r=>Im.im s r) p⟩⟩
theorem beq_dec {α:Type} [DecidableEq α] [BEq α] [LawfulBEq α] (a b:α):(a == b)=decide (a=b):=by
 by_cases h:a=b
 ·subst h;simp
 ·simp[h]
theorem Paired.get' {α β:Type} {F:α->β->Prop}:∀ {l:List α} {m:List β} {i:Nat} {a:α},a7 F l m->l[i]?=some a->∃ b,m[i]?=some b/\F a b
 | _,_,_,_,.nil,h=>by simp at h
 | _,_,0,_,.cons p _,h=>by simp at h;subst h;exact⟨_,rfl,p⟩
 | _,_,i + 1,a,.cons _ q,h=>by
  obtain⟨b,e,f⟩:=Paired.get' (i:=i) (a:=a) q (by simpa using h)
  exact⟨b,by simpa using e,f⟩
theorem all_eq {α:Type} [DecidableEq α]:∀ (ds es:List α),((aP (min ds.length es.length)).all fun j=>decide (ds[j]?=es[j]?))=true->ds.length=es.length->ds=es:=fun ds es h hl=>by
 apply List.ext_getElem?;intro i
 by_cases hi:i < ds.length
 ·have:=bn.mp h i (bj.mpr (by lia))
  exact of_decide_eq_true this
 ·rw[br (by lia),br (by lia)]
theorem seq_ans {α:Type} [DecidableEq α] (ds es:List α) (n m:Nat) (hn:n=ds.length) (hm:m=es.length):((aP (min n m)).all (fun j=>decide (ds[j]?=es[j]?)) && (n == m))=decide (ds=es):=by
 subst hn;subst hm
 by_cases h:ds=es
 ·subst h;simp
 ·rw[decide_eq_false h,Bool.and_eq_false_iff]
  by_cases hl:ds.length=es.length
  ·left
   cases q:(aP (min ds.length es.length)).all fun j=>decide (ds[j]?=es[j]?) with
   | false=>rfl
   | true=>exact absurd (all_eq ds es q hl) h
  ·right;simpa using hl
variable {α β γ:Type}
end L2
namespace ST
open PySem PySem.SetTable
def step (mask:Nat) (p:Probe):Probe :=
 if p.more > 0 then { p with j:=p.j + 1,more:=p.more - 1 } else
 { p with j:=(leap mask p.i p.perturb).1,more:=runEnd mask (leap mask p.i p.perturb).1 - (leap mask p.i p.perturb).1,i:=(leap mask p.i p.perturb).1,perturb:=(leap mask p.i p.perturb).2 }
theorem advance_eq (t:aI) (p:Probe):t.advance p=step t.mask p:=by
 unfold aI.advance step
 split <;> rfl
def road (mask:Nat):Nat->Probe->Probe
 | 0,p=>p
 | m + 1,p=>road mask m (step mask p)
theorem road_succ (mask:Nat):∀ (m:Nat) (p:Probe),road mask (m + 1) p=step mask (road mask m p)
 | 0,_=>rfl
 | m + 1,p=>by
  show road mask (m + 1) (step mask p)=step mask (road mask m (step mask p));exact road_succ mask m (step mask p)
theorem road_add (mask:Nat):∀ (a b:Nat) (p:Probe),road mask (a + b) p=road mask b (road mask a p)
 | 0,b,p=>by rw[jR];rfl
 | a + 1,b,p=>by
  rw[iL];show road mask (a + b) (step mask p)=road mask b (road mask a (step mask p));exact road_add mask a b _
theorem step_dummy (mask:Nat) (p:Probe):(step mask p).dummy=p.dummy:=by unfold step;split <;> rfl
theorem runEnd_le (mask i:Nat) (h:i<=mask):i<=runEnd mask i/\runEnd mask i<=mask/\runEnd mask i<=i + 9:=by
 unfold runEnd;split <;> lia
structure PV (mask:Nat) (p:Probe):Prop where
 more:p.more<=9
 i:p.i<=mask
 j:p.j + p.more<=mask
 pt:p.perturb < 2 ^ 64
theorem leap_le (mask i pt:Nat):(leap mask i pt).1<=mask:=by
 unfold leap
 have:=kC (i * 5 + 1 + pt / 32) (show 0 < mask + 1 by lia)
 show(i * 5 + 1 + pt / 32) % (mask + 1)<=mask;lia
theorem PV.step {mask:Nat} {p:Probe} (v:PV mask p):PV mask (ST.step mask p):=by
 unfold ST.step;have h1:=v.more;have h2:=v.i;have h3:=v.j;have h4:=v.pt
 split
 ·exact⟨by dsimp only;lia,h2,by dsimp only;lia,h4⟩
 ·have l:=leap_le mask p.i p.perturb;have r:=runEnd_le mask _ l;refine⟨by dsimp only;lia,l,by dsimp only;lia,?_⟩
  show p.perturb / 32 < 2 ^ 64;exact eV (Nat.div_le_self _ _) h4
theorem PV.road {mask:Nat}:∀ (m:Nat) {p:Probe},PV mask p->PV mask (ST.road mask m p)
 | 0,_,v=>v
 | m + 1,_,v=>PV.road m v.step
theorem bits_lt (h:Int):bits h < 2 ^ 64:=by
 unfold bits;have h1:=Int.emod_nonneg h (show(2 ^ 64:Int)≠0 by decide)
 have h2:=Int.emod_lt_of_pos h (show(0:Int) < 2 ^ 64 by decide)
 have:(2:Int) ^ 64=18446744073709551616:=by decide
 have:(2:Nat) ^ 64=18446744073709551616:=by decide
 lia
def start (mask:Nat) (h:Int):Probe:={ j:=bits h % (mask + 1),more:=runEnd mask (bits h % (mask + 1)) - bits h % (mask + 1),i:=bits h % (mask + 1),perturb:=bits h,dummy:=none }
theorem start_pv (mask:Nat) (h:Int):PV mask (start mask h):=by
 have l:bits h % (mask + 1)<=mask:=db (kC _ (iq mask));have r:=runEnd_le mask _ l;exact⟨by show _ - _<=9;lia,l,by show bits h % (mask + 1) + (runEnd mask (bits h % (mask + 1)) - bits h % (mask + 1))<=mask;lia,bits_lt h⟩
theorem in_run (mask:Nat):∀ (k:Nat) (p:Probe),k<=p.more->road mask k p={ p with j:=p.j + k,more:=p.more - k }
 | 0,p,_=>rfl
 | k + 1,p,h=>by
  show road mask k (step mask p)=_;have e:step mask p={ p with j:=p.j + 1,more:=p.more - 1 }:=by unfold step;rw[if_pos (by lia)]
  rw[e,in_run mask k _ (by show k<=p.more - 1;lia)]
  show({ j:=p.j + 1 + k,more:=p.more - 1 - k,i:=p.i,perturb:=p.perturb,dummy:=p.dummy }:Probe)={ j:=p.j + (k + 1),more:=p.more - (k + 1),i:=p.i,perturb:=p.perturb,dummy:=p.dummy };rw[show p.j + 1 + k=p.j + (k + 1) by lia,show p.more - 1 - k=p.more - (k + 1) by lia]
theorem to_leap (mask:Nat) (p:Probe):road mask (p.more + 1) p={ p with j:=(leap mask p.i p.perturb).1,more:=runEnd mask (leap mask p.i p.perturb).1 - (leap mask p.i p.perturb).1,i:=(leap mask p.i p.perturb).1,perturb:=(leap mask p.i p.perturb).2 }:=by
 rw[road_succ,in_run mask p.more p (ar _)];unfold step;rw[if_neg (by show ¬ p.more - p.more > 0;lia)]
def leaps (mask:Nat):Nat->Nat × Nat->Nat × Nat
 | 0,s=>s
 | l + 1,s=>leaps mask l (leap mask s.1 s.2)
theorem leaps_succ (mask:Nat):∀ (l:Nat) (s:Nat × Nat),leaps mask (l + 1) s=leap mask (leaps mask l s).1 (leaps mask l s).2
 | 0,_=>rfl
 | l + 1,s=>by
  show leaps mask (l + 1) (leap mask s.1 s.2)=_;exact leaps_succ mask l _
theorem leaps_pt (mask:Nat):∀ (l:Nat) (s:Nat × Nat),(leaps mask l s).2=s.2 / 32 ^ l
 | 0,s=>by simp[leaps]
 | l + 1,s=>by
  rw[leaps_succ];show(leaps mask l s).2 / 32=_;rw[leaps_pt mask l s,Nat.div_div_eq_div_mul,Nat.pow_succ]
theorem far (mask:Nat):∀ (l:Nat) (p:Probe),PV mask p->∃ m,m<=10 * l/\(road mask m p).i=(leaps mask l (p.i,p.perturb)).1/\(road mask m p).perturb=(leaps mask l (p.i,p.perturb)).2/\(0 < l->(road mask m p).j=(road mask m p).i)
 | 0,p,_=>⟨0,ar _,rfl,rfl,fun h=>absurd h (cy _)⟩
 | l + 1,p,v=>by
  obtain⟨m,h1,h2,h3,h4⟩:=far mask l p v;have v':=PV.road m v;refine⟨m + ((road mask m p).more + 1),?_,?_⟩
  ·have:=v'.more;lia
  ·rw[road_add,to_leap,leaps_succ,<- h2,<- h3];exact⟨rfl,rfl,fun _=>rfl⟩
def f5 (N x:Nat):Nat:=(x * 5 + 1) % N
def f5s (N:Nat):Nat->Nat->Nat
 | 0,x=>x
 | a + 1,x=>f5s N a (f5 N x)
theorem f5s_add (N:Nat):∀ (a b x:Nat),f5s N (a + b) x=f5s N b (f5s N a x)
 | 0,b,x=>by rw[jR];rfl
 | a + 1,b,x=>by rw[iL];exact f5s_add N a b _
def orbit (N:Nat):Nat->Nat->List Nat->List Nat
 | 0,_,acc=>acc
 | a + 1,x,acc=>orbit N a (f5 N x) (x::acc)
theorem mem_orbit (N:Nat):∀ (a x:Nat) (acc:List Nat) (y:Nat),y∈orbit N a x acc->y∈acc\/∃ b,b < a/\f5s N b x=y
 | 0,_,_,_,h=>.inl h
 | a + 1,x,acc,y,h=>by
  rcases mem_orbit N a (f5 N x) (x::acc) y h with h | ⟨b,hb,e⟩
  ·rcases aA.mp h with h | h
   ·exact .inr ⟨0,iq _,h.symm⟩
   ·exact .inl h
  ·exact .inr ⟨b + 1,Nat.succ_lt_succ hb,e⟩
def Full (N:Nat):Prop:=f5s N N 0=0/\∀ y,y < N->∃ b,b < N/\f5s N b 0=y
theorem full_of {N:Nat} (h:(f5s N N 0 == 0 && (aP N).all fun y=>(orbit N N 0 []).contains y)=true):Full N:=by
 simp only[aG,beq_iff_eq,bn,bj] at h;refine⟨h.1,fun y hy=>?_⟩;have q:=h.2 y hy;rcases mem_orbit N N 0 [] y (by simpa using q) with z | z
 ·cases z
 ·exact z
theorem Full.from {N:Nat} (F:Full N) {x y:Nat} (hx:x < N) (hy:y < N):∃ a,a < N/\f5s N a x=y:=by
 obtain⟨b,hb,eb⟩:=F.2 x hx;obtain⟨c,hc,ec⟩:=F.2 y hy
 by_cases h:b<=c
 ·refine⟨c - b,by lia,?_⟩
  rw[<- eb,<- f5s_add,show b + (c - b)=c by lia,ec]
 ·refine⟨N - b + c,by lia,?_⟩
  rw[<- eb,<- f5s_add,show b + (N - b + c)=N + c by lia,f5s_add,F.1,ec]
theorem full8:Full 8:=full_of (by decide +kernel)
theorem full32:Full 32:=full_of (by decide +kernel)
theorem full128:Full 128:=full_of (by decide +kernel)
theorem full512:Full 512:=full_of (by decide +kernel)
def Mask (mask:Nat):Prop:=mask=7\/mask=31\/mask=127\/mask=511
theorem Mask.full {mask:Nat} (h:Mask mask):Full (mask + 1):=by
 rcases h with rfl | rfl | rfl | rfl
 ·exact full8
 ·exact full32
 ·exact full128
 ·exact full512
theorem leaps_f5 {mask:Nat}:∀ (a:Nat) (s:Nat × Nat),s.2 < 32->(leaps mask a s).1=f5s (mask + 1) a s.1
 | 0,_,_=>rfl
 | a + 1,s,h=>by
  show(leaps mask a (leap mask s.1 s.2)).1=f5s (mask + 1) a (f5 (mask + 1) s.1);have e:s.2 / 32=0:=Nat.div_eq_of_lt h;have e1:(leap mask s.1 s.2).1=f5 (mask + 1) s.1:=by
   show(s.1 * 5 + 1 + s.2 / 32) % (mask + 1)=_;rw[e];rfl
  rw[leaps_f5 a _ (by show s.2 / 32 < 32;lia),e1]
theorem leaps_add (mask:Nat):∀ (a b:Nat) (s:Nat × Nat),leaps mask (a + b) s=leaps mask b (leaps mask a s)
 | 0,b,s=>by rw[jR];rfl
 | a + 1,b,s=>by rw[iL];exact leaps_add mask a b _
theorem cover {mask:Nat} (hm:Mask mask) {p:Probe} (v:PV mask p) {y:Nat} (hy:y<=mask):∃ m,m < 10 * (mask + 15)/\(road mask m p).j=y:=by
 have h12:(leaps mask 12 (p.i,p.perturb)).1 < mask + 1:=by
  rw[leaps_succ mask 11];exact dI (leap_le _ _ _)
 have hp:(leaps mask 12 (p.i,p.perturb)).2 < 32:=by
  rw[leaps_pt]
  have:=v.pt
  show p.perturb / 32 ^ 12 < 32;have e:(2:Nat) ^ 64=18446744073709551616:=by decide
  have e2:(32:Nat) ^ 12=1152921504606846976:=by decide
  rw[e2];lia
 obtain⟨a,ha,ea⟩:=hm.full.from h12 (dI hy)
 obtain⟨m,h1,h2,_,h4⟩:=far mask (12 + a) p v;refine⟨m,by lia,?_⟩
 rw[h4 (by lia),h2,leaps_add,leaps_f5 a _ hp,ea]
def Ris (xs:List Nat):Prop:=xs.Pairwise (· < ·)
theorem below_go (xs:Array Nat) (j:Nat) (hr:Ris xs.toList):∀ (fuel lo hi:Nat),hi - lo<=fuel->lo<=hi->hi<=xs.size->(∀ i,i < lo->xs.getD i j < j)->(∀ i,hi<=i->i < xs.size->j<=xs.getD i j) ->
  below.go xs j fuel lo hi<=xs.size/\(∀ i,i < below.go xs j fuel lo hi->xs.getD i j < j)/\∀ i,below.go xs j fuel lo hi<=i->i < xs.size->j<=xs.getD i j
 | 0,lo,hi,hf,hl,hs,h1,h2=>by
  have e:lo=hi:=by lia
  subst e;exact⟨hs,h1,h2⟩
 | fuel + 1,lo,hi,hf,hl,hs,h1,h2=>by
  unfold below.go
  by_cases hlt:lo < hi
  ·rw[if_pos hlt];have mlt:(lo + hi) / 2 < xs.size:=by lia
   have mono:∀ a b,a<=b->b < xs.size->xs.getD a j<=xs.getD b j:=fun a b hab hb=>by
    rcases d5 hab with h | h
    ·have q:=(cM.mp hr) a b (by simpa using eW h hb) (by simpa using hb) h
     simp only[cB,hb,eW h hb,dif_pos];simpa using io q
    ·subst h;exact ar _
   show(if xs.getD ((lo + hi) / 2) j < j then _ else _)<=_/\_
   by_cases hc:xs.getD ((lo + hi) / 2) j < j
   ·simp only[hc,if_true];exact below_go xs j hr fuel _ hi (by lia) (by lia) hs (fun i hi'=>eV (mono i ((lo + hi) / 2) (by lia) mlt) hc) h2
   ·simp only[hc,if_false];exact below_go xs j hr fuel lo _ (by lia) (by lia) (by lia) h1 (fun i hi' hs'=>aV (Nat.le_of_not_lt hc) (mono _ i hi' hs'))
  ·rw[if_neg hlt];have e:lo=hi:=by lia
   subst e;exact⟨hs,h1,h2⟩
theorem below_spec {xs:Array Nat} (hr:Ris xs.toList) (j:Nat):below xs j<=xs.size/\(∀ i,i < below xs j->xs.getD i j < j)/\∀ i,below xs j<=i->i < xs.size->j<=xs.getD i j :=
 below_go xs j hr xs.size 0 xs.size (by lia) (by lia) (ar _) (fun i h=>absurd h (cV _)) (fun i h h'=>absurd h' (gL.mpr h))
theorem below_at {xs:Array Nat} (hr:Ris xs.toList) {i j:Nat} (h:xs[i]?=some j):below xs j=i:=by
 obtain⟨hi,e⟩:=cG.mp h;obtain⟨b1,b2,b3⟩:=below_spec hr j;have eg:∀ k,k < xs.size->xs.getD k j=xs.getD k 0:=fun k hk=>by simp[cB,hk]
 have ei:xs.getD i j=j:=by simp[cB,hi,e]
 have inc:∀ a b,a < b->b < xs.size->xs.getD a j < xs.getD b j:=fun a b hab hb=>by
  have q:=(cM.mp hr) a b (by simpa using eW hab hb) (by simpa using hb) hab
  simp only[cB,hb,eW hab hb,dif_pos];simpa using q
 rcases gp (below xs j) i with h | h | h
 ·have q1:=inc _ _ h hi;have q2:=b3 _ (ar _) (eW h hi);lia
 ·exact h
 ·have q:=b2 i h;lia
structure Tab (t:aI):Prop where
 mask:Mask t.mask
 nodum:t.dummies=#[]
 ris:Ris t.place.toList
 top:∀ j∈t.place.toList,j<=t.mask
theorem slot_of {t:aI} (T:Tab t) {j i:Nat} (h:t.place[i]?=some j):t.slot j=.live i:=by
 unfold kv;dsimp only;rw[below_at T.ris h,h];simp
theorem slot_free {t:aI} (T:Tab t) {j:Nat} (h:j∉t.place.toList):t.slot j=.empty:=by
 unfold kv;dsimp only;have e:(t.place[below t.place j]? == some j)=false:=by
  cases q:t.place[below t.place j]? == some j with
  | false=>rfl
  | true =>
   have:=fJ q
   obtain⟨hi,e⟩:=cG.mp this;exact absurd (by rw[<- e];simp) h
 rw[e];simp only[aF,if_false];have e2:has t.dummies j=false:=by rw[T.nodum];unfold has;simp
 rw[e2];simp
theorem slot_cases {t:aI} (T:Tab t) (j:Nat):(∃ i,t.slot j=.live i/\t.place[i]?=some j)\/(t.slot j=.empty/\j∉t.place.toList):=by
 by_cases h:j∈t.place.toList
 ·obtain⟨i,hi,e⟩:=bV h;have q:t.place[i]?=some j:=by
   rw[cG];exact⟨by simpa using hi,by simpa using e⟩
  exact .inl ⟨i,slot_of T q,q⟩
 ·exact .inr ⟨slot_free T h,h⟩
theorem go_spec {t : aI} (T : Tab t) (hashAt : Nat -> Int) (h : Int) : ∀ (fuel : Nat) (p : Probe), p.dummy = none -> (∃ m, m < fuel /\ (road t.mask m p).j ∉ t.place.toList) ->
    ∃ m, m < fuel /\ (∀ m', m' < m -> ∃ i, t.place[i]? = some (road t.mask m' p).j /\ hashAt i ≠ h) /\
      (((road t.mask m p).j ∉ t.place.toList /\ probe.go t hashAt h fuel p = some (.empty (road t.mask m p).j none)) \/
       ∃ i, t.place[i]? = some (road t.mask m p).j /\ t.slot (road t.mask m p).j = .live i /\ hashAt i = h /\ probe.go t hashAt h fuel p = some (.candidate (road t.mask m p).j i (road t.mask (m + 1) p)))
  | 0, p, _, ⟨m, hm, _⟩ => absurd hm (cV _)
  | fuel + 1, p, hd, ⟨m, hm, hf⟩ => by
    unfold probe.go;rcases slot_cases T p.j with⟨i, e, q⟩ | ⟨e, q⟩
    · rw [e]
      dsimp only
      by_cases hh : hashAt i = h
      · refine⟨0, iq _, fun _ h' => absurd h' (cV _), .inr ⟨i, q, e, hh, ?_⟩⟩
        rw [if_pos (by simpa using hh), advance_eq]
        rfl
      · rw [if_neg (by simpa using hh), advance_eq]
        cases m with
        | zero => exact absurd (cX.mpr (fu q)) hf
        | succ m =>
          obtain⟨m1, h1, h2, h3⟩ := go_spec T hashAt h fuel (step t.mask p) (by rw [step_dummy]; exact hd) ⟨m, by lia, hf⟩
          refine⟨m1 + 1, by lia, fun m' hm' => ?_, h3⟩
          cases m' with
          | zero => exact⟨i, q, hh⟩
          | succ m' => exact h2 m' (by lia)
    · rw [e]
      exact⟨0, iq _, fun _ h' => absurd h' (cV _), .inl ⟨q, by rw [hd]; rfl⟩⟩
theorem free_place {t:aI} (T:Tab t) (hn:t.place.size<=t.mask):∃ y,y<=t.mask/\y∉t.place.toList:=by
 apply aX;intro hno;have all:∀ y,y < t.mask + 1->y∈t.place.toList:=fun y hy=>aX fun h=>hno ⟨y,db hy,h⟩;have hl:(aP (t.mask + 1)).length<=t.place.toList.length:=by
  apply List.Nodup.length_le_of_subset jw;intro y hy;exact all y (bj.mp hy)
 rw[eE] at hl
 have:t.place.toList.length=t.place.size:=by simp
 lia
theorem probe_spec {t : aI} (T : Tab t) (hn : t.place.size <= t.mask) (hashAt : Nat -> Int) (h : Int) {p : Probe} (v : PV t.mask p) (hd : p.dummy = none) :
    ∃ m, (∀ m', m' < m -> ∃ i, t.place[i]? = some (road t.mask m' p).j /\ hashAt i ≠ h) /\
      (((road t.mask m p).j ∉ t.place.toList /\ t.probe hashAt h p = some (.empty (road t.mask m p).j none)) \/
       ∃ i, t.place[i]? = some (road t.mask m p).j /\ t.slot (road t.mask m p).j = .live i /\ hashAt i = h /\ t.probe hashAt h p = some (.candidate (road t.mask m p).j i (road t.mask (m + 1) p))) := by
  obtain⟨y, hy, hf⟩ := free_place T hn;obtain⟨m, hm, e⟩ := cover T.mask v hy;obtain⟨m1, _, h2, h3⟩ := go_spec T hashAt h (10 * turns t.mask) p hd ⟨m, hm, by rw [e]; exact hf⟩
  exact⟨m1, h2, h3⟩
theorem insertAt_list {α:Type} (xs:Array α) (p:Nat) (x:α) (h:p<=xs.size):(insertAt xs p x).toList=xs.toList.take p++x::xs.toList.drop p:=by
 unfold insertAt;simp only[Array.toList_append,ja,Array.toList_extract,bG,fv];simp only[List.extract,d6,fL];rw[bZ (l:=List.drop p xs.toList) (by simp)]
theorem insert_get {α:Type} {l:List α} {p i:Nat} {x y:α} (hp:p<=l.length) (h:(l.take p++x::l.drop p)[i]?=some y):(i < p/\l[i]?=some y)\/(i=p/\y=x)\/(p < i/\l[i - 1]?=some y):=by
 have hl:(l.take p).length=p:=by rw[bw];lia
 rcases gp i p with c | c | c
 ·left
  rw[d7 (by lia),jf c] at h
  exact⟨c,h⟩
 ·right;left
  subst c;rw[d4 (by lia),hl,iu] at h
  simp at h;exact⟨rfl,h.symm⟩
 ·right;right
  rw[d4 (by lia),hl] at h
  rw[show i - p=(i - 1 - p) + 1 by lia,gc,List.getElem?_drop] at h
  rw[show p + (i - 1 - p)=i - 1 by lia] at h
  exact⟨c,h⟩
structure SetI (es:Array (Int × ae)) (t:aI):Prop where
 tab:Tab t
 size:t.place.size=es.size
 room:es.size * 5 < t.mask * 3
 reach:∀ (i j:Nat) (e:Int × ae),t.place[i]?=some j->es[i]?=some e->∃ r,(road t.mask r (start t.mask e.1)).j=j/\∀ r',r' < r->(road t.mask r' (start t.mask e.1)).j∈t.place.toList
theorem SetI.le {es:Array (Int × ae)} {t:aI} (I:SetI es t):t.place.size<=t.mask:=by have:=I.size;have:=I.room;lia
theorem SetI.fits {es:Array (Int × ae)} {t:aI} (I:SetI es t):t.fits es.size=true:=by
 unfold kx ky;rw[I.tab.nodum,I.size]
 have:=I.room
 simp only[aG,beq_iff_eq,decide_eq_true_eq];refine⟨trivial,?_⟩;simp;lia
theorem SetI.way {es:Array (Int × ae)} {t:aI} (I:SetI es t):t.gaveWay=false:=by
 unfold aI.gaveWay;rcases I.tab.mask with e | e | e | e <;> rw[e] <;> rfl
theorem fresh_ok (f m:Nat) (led:Bool):SetI #[] (ke f m led) where
 tab:=⟨.inl rfl,rfl,.nil,fun j h=>by simp[ke] at h⟩
 size:=rfl
 room:=by show 0 * 5 < 7 * 3;decide
 reach:=fun i j e h=>by simp[ke] at h
structure Put (t t':aI) (j p:Nat):Prop where
 tab:Tab t'
 mask:t'.mask=t.mask
 le:p<=t.place.size
 place:t'.place.toList=t.place.toList.take p++j::t.place.toList.drop p
theorem put_ok {t : aI} (T : Tab t) {j : Nat} (hj : j <= t.mask) (hf : j ∉ t.place.toList) : Put t (t.put j).1 j (t.put j).2 := by
  obtain⟨b1, b2, b3⟩ := below_spec T.ris j;have e : (t.put j).1.place.toList = t.place.toList.take (below t.place j) ++ j :: t.place.toList.drop (below t.place j) := insertAt_list _ _ _ b1;have e2 : (t.put j).1.dummies = #[] := by
    show(if has t.dummies j = true then _ else t.dummies) = #[]
    have q : has t.dummies j = false := by rw [T.nodum]; unfold has; simp
    rw [q]; simp [T.nodum]
  refine⟨⟨T.mask, e2, ?_, ?_⟩, rfl, b1, e⟩
  · unfold Ris
    rw [e, eF, a9];have hr := T.ris;unfold Ris at hr;have lt1 : ∀ a ∈ t.place.toList.take (below t.place j), a < j := fun a ha => by
      obtain⟨i, hi, ea⟩ := bV ha;rw [bw] at hi
      have hi' : i < t.place.size := by have : t.place.toList.length = t.place.size := by simp
                                        lia
      have q := b2 i (by lia)
      simp only [cB, hi', dif_pos] at q;rw [List.getElem_take] at ea;rw [<- ea];simpa using q
    have gt1 : ∀ a ∈ t.place.toList.drop (below t.place j), j < a := fun a ha => by
      obtain⟨i, hi, ea⟩ := bV ha;rw [dw] at hi;have hl : t.place.toList.length = t.place.size := by simp
      have hi' : below t.place j + i < t.place.size := by lia
      have q := b3 (below t.place j + i) (by lia) hi'
      simp only [cB, hi', dif_pos] at q;rw [List.getElem_drop] at ea;have ne : a ≠ j := fun z => hf (by rw [<- z]; exact gY ha)
      have q' : j <= a := by rw [<- ea]; simpa using q
      lia
    refine⟨hr.sublist (dH _ _), ⟨gt1, hr.sublist (List.drop_sublist _ _)⟩, fun a ha b hb => ?_⟩;rcases aA.mp hb with rfl | hb
    · exact lt1 a ha
    · exact eW (lt1 a ha) (gt1 b hb)
  · intro a ha
    rw [e] at ha;rcases aU.mp ha with ha | ha
    · exact T.top a (dF ha)
    · rcases aA.mp ha with rfl | ha
      · exact hj
      · exact T.top a (gY ha)
theorem put_set {es:Array (Int × ae)} {t:aI} (I:SetI es t) {j r:Nat} {h:Int} {x:ae} (hj:j<=t.mask) (hf:j∉t.place.toList) (e:(road t.mask r (start t.mask h)).j=j) (hr:∀ r',r' < r->(road t.mask r' (start t.mask h)).j∈t.place.toList) :
  ∀ b,(insertAt es (t.put j).2 (h,x)).toList=es.toList.take (t.put j).2++(h,x)::es.toList.drop (t.put j).2/\(insertAt es (t.put j).2 (h,x)).size=es.size + 1 /\
   Tab { (t.put j).1 with plain:=b }/\(t.put j).1.place.size=es.size + 1/\(t.put j).1.mask=t.mask /\
   ∀ (i j':Nat) (e':Int × ae),(t.put j).1.place[i]?=some j'->(insertAt es (t.put j).2 (h,x))[i]?=some e'->∃ r,(road t.mask r (start t.mask e'.1)).j=j'/\∀ r',r' < r->(road t.mask r' (start t.mask e'.1)).j∈(t.put j).1.place.toList:=by
 intro b;have P:=put_ok I.tab hj hf;have hle:(t.put j).2<=es.size:=by rw[<- I.size];exact P.le
 have el:=insertAt_list es (t.put j).2 (h,x) hle;have sz:(insertAt es (t.put j).2 (h,x)).size=es.size + 1:=by
  have q:=congrArg f9 el;rw[av,aE,bw,dw] at q
  have:es.toList.length=es.size:=by simp
  rw[show(insertAt es (t.put j).2 (h,x)).toList.length=(insertAt es (t.put j).2 (h,x)).size by simp] at q
  lia
 have szp:(t.put j).1.place.size=es.size + 1:=by
  have q:=congrArg f9 P.place;rw[av,aE,bw,dw] at q
  have:t.place.toList.length=t.place.size:=by simp
  have:=I.size
  have:=P.le
  rw[show(t.put j).1.place.toList.length=(t.put j).1.place.size by simp] at q
  lia
 refine⟨el,sz,⟨P.tab.mask,P.tab.nodum,P.tab.ris,P.tab.top⟩,szp,P.mask,fun i j' e' h1 h2=>?_⟩;have sub:∀ a∈t.place.toList,a∈(t.put j).1.place.toList:=fun a ha=>by
  rw[P.place];rw[<- fw (t.put j).2 t.place.toList] at ha;rcases aU.mp ha with ha | ha
  ·exact bd _ ha
  ·exact aL _ (aq _ ha)
 have old:∀ i0,t.place.toList[i0]?=some j'->es.toList[i0]?=some e'->∃ r,(road t.mask r (start t.mask e'.1)).j=j'/\∀ r',r' < r->(road t.mask r' (start t.mask e'.1)).j∈(t.put j).1.place.toList:=fun i0 a b=>by
  obtain⟨r,q1,q2⟩:=I.reach i0 j' e' (by rw[<- bS];exact a) (by rw[<- bS];exact b)
  exact⟨r,q1,fun r' hr'=>sub _ (q2 r' hr')⟩
 have h1':(t.place.toList.take (t.put j).2++j::t.place.toList.drop (t.put j).2)[i]?=some j':=by rw[<- P.place];simpa using h1
 have h2':(es.toList.take (t.put j).2++(h,x)::es.toList.drop (t.put j).2)[i]?=some e':=by rw[<- el];simpa using h2
 rcases insert_get (by simpa using P.le) h1' with⟨c1,q1⟩ | ⟨c1,q1⟩ | ⟨c1,q1⟩
 ·rcases insert_get (by simpa using hle) h2' with⟨c2,q2⟩ | ⟨c2,q2⟩ | ⟨c2,q2⟩
  ·exact old i q1 q2
  ·lia
  ·lia
 ·rcases insert_get (by simpa using hle) h2' with⟨c2,q2⟩ | ⟨c2,q2⟩ | ⟨c2,q2⟩
  ·lia
  ·subst q1 q2;exact⟨r,e,fun r' hr'=>sub _ (hr r' hr')⟩
  ·lia
 ·rcases insert_get (by simpa using hle) h2' with⟨c2,q2⟩ | ⟨c2,q2⟩ | ⟨c2,q2⟩
  ·lia
  ·lia
  ·exact old (i - 1) q1 q2
abbrev Own:=Array (Option Nat)
def liveOf (mask:Nat) (owner:Own):List (Nat × Nat):=(aP (mask + 1)).filterMap fun j=>(owner.getD j none).map (j,·)
theorem filterMap_congr' {α β:Type} {f g:α->Option β}:∀ {l:List α},(∀ a∈l,f a=g a)->l.filterMap f=l.filterMap g
 | [],_=>rfl
 | a::l,h=>by
  rw[bU,bU,h a am,filterMap_congr' fun b hb=>h b (aq _ hb)]
theorem live_set {mask:Nat} {owner:Own} {j k:Nat} (hs:owner.size=mask + 1) (hj:j<=mask) (hn:owner.getD j none=none):(liveOf mask (owner.setIfInBounds j (some k))).Perm ((j,k)::liveOf mask owner):=by
 unfold liveOf;obtain⟨s,u,e⟩:=List.append_of_mem (bj.mpr (dI hj));have nd:(aP (mask + 1)).Nodup:=jw;rw[e] at nd ⊢;have h1:j∉s:=fun h=>by
  have:=b0.mp nd
  exact absurd rfl (this.2.2 j h j am)
 have h2:j∉u:=fun h=>by
  have:=b0.mp nd
  exact(bX.mp this.2.1).1 h
 have g:∀ a,a≠j->(owner.setIfInBounds j (some k)).getD a none=owner.getD a none:=fun a ha=>by
  rw[bN,bN,gE (aZ ha)]
 have gj:(owner.setIfInBounds j (some k)).getD j none=some k:=by
  rw[bN,fB (by lia)];rfl
 rw[gF,gF,bU,bU,gj,hn];simp only[Option.map_some,Option.map_none];rw[filterMap_congr' (l:=s) (g:=fun j=>(owner.getD j none).map (j,·)) fun a ha=>by rw[g a fun z=>h1 (z ▸ ha)],filterMap_congr' (l:=u) (g:=fun j=>(owner.getD j none).map (j,·)) fun a ha=>by rw[g a fun z=>h2 (z ▸ ha)]]
 exact List.perm_middle
theorem own_getD {owner:Own} {j:Nat} (h:j < owner.size) (d:Option Nat):owner.getD j d=owner[j]:=by simp[cB,h]
theorem free_spec {mask:Nat} {owner:Own} (hs:owner.size=mask + 1):∀ (fuel:Nat) (p:Probe),PV mask p->p.j=p.i->p.more=runEnd mask p.i - p.i->(∃ l,l < fuel/\owner.getD (leaps mask l (p.i,p.perturb)).1 none=none) ->
  ∃ r j,layClean.free mask owner fuel p.i p.perturb=some j/\(road mask r p).j=j/\j<=mask/\owner.getD j none=none/\∀ r',r' < r->(owner.getD (road mask r' p).j none).isSome=true
 | 0,p,_,_,_,⟨l,h,_⟩=>absurd h (cV _)
 | fuel + 1,p,v,hj,hm,⟨l,hl,hf⟩=>by
  have re:=runEnd_le mask p.i v.i;have jm:=v.j;have inb:∀ k,k<=p.more->p.i + k<=mask:=fun k hk=>by lia
  have gd:∀ k,k<=p.more->owner.getD (p.i + k) (some 0)=owner.getD (p.i + k) none:=fun k hk=>by
   have:p.i + k < owner.size:=by have:=inb k hk;lia
   rw[own_getD this,own_getD this]
  have rd:∀ k,k<=p.more->(road mask k p).j=p.i + k:=fun k hk=>by rw[in_run mask k p hk,<- hj]
  unfold layClean.free;have en:runEnd mask p.i + 1 - p.i=p.more + 1:=by lia
  rw[en];cases hq:(aP (p.more + 1)).find? fun k=>(owner.getD (p.i + k) (some 0)).isNone with
  | some k =>
   rw[List.find?_range_eq_some] at hq;obtain⟨h1,h2,h3⟩:=hq;have hk:k<=p.more:=db (bj.mp h2);refine⟨k,p.i + k,rfl,rd k hk,inb k hk,?_,fun r' hr'=>?_⟩
   ·rw[gd k hk] at h1;exact Option.isNone_iff_eq_none.mp h1
   ·have q:=h3 r' hr';rw[gd r' (by lia)] at q
    rw[rd r' (by lia)]
    cases e:owner.getD (p.i + r') none with
    | none=>rw[e] at q;cases q
    | some z=>rfl
  | none =>
   rw[List.find?_eq_none] at hq;have taken:∀ k,k<=p.more->(owner.getD (p.i + k) none).isSome=true:=fun k hk=>by
    have q:=hq k (bj.mpr (dI hk));rw[gd k hk] at q;cases e:owner.getD (p.i + k) none with
    | none=>rw[e] at q;exact absurd rfl q
    | some z=>rfl
   cases l with
   | zero =>
    have q:=taken 0 (bA _);have hf':owner.getD p.i none=none:=hf;rw[Nat.add_zero,hf'] at q;cases q
   | succ l =>
    have e:=to_leap mask p;have v':PV mask (road mask (p.more + 1) p):=PV.road _ v;obtain⟨r,j,f1,f2,f3,f4,f5⟩:=free_spec hs fuel (road mask (p.more + 1) p) v' (by rw[e]) (by rw[e]) ⟨l,by lia,by rw[e];exact hf⟩
    refine⟨p.more + 1 + r,j,?_,by rw[road_add];exact f2,f3,f4,fun r' hr'=>?_⟩
    ·rw[e] at f1;exact f1
    ·by_cases c:r'<=p.more
     ·rw[rd r' c];exact taken r' c
     ·have q:=f5 (r' - (p.more + 1)) (by lia)
      rw[<- road_add,show p.more + 1 + (r' - (p.more + 1))=r' by lia] at q
      exact q
structure OwnI (mask:Nat) (owner:Own) (hs:List Int):Prop where
 size:owner.size=mask + 1
 perm:((liveOf mask owner).map (·.2)).Perm (aP hs.length)
 reach:∀ (j k:Nat),owner.getD j none=some k->∃ h,hs[k]?=some h/\∃ r,(road mask r (start mask h)).j=j/\∀ r',r' < r->(owner.getD (road mask r' (start mask h)).j none).isSome=true
theorem OwnI.free {mask:Nat} (hm:Mask mask) {owner:Own} {hs:List Int} (I:OwnI mask owner hs) (hl:hs.length<=mask):∃ y,y<=mask/\owner.getD y none=none:=by
 apply aX;intro hno;have all:∀ y,y < mask + 1->(owner.getD y none).isSome=true:=fun y hy=>by
  cases e:owner.getD y none with
  | none=>exact absurd ⟨y,db hy,e⟩ hno
  | some z=>rfl
 have len:((aP (mask + 1)).filterMap fun j=>(owner.getD j none).map (j,·)).length=mask + 1:=by
  have gen:∀ l:List Nat,(∀ y∈l,(owner.getD y none).isSome=true)->(l.filterMap fun j=>(owner.getD j none).map (j,·)).length=l.length:=by
   intro l
   induction l with
   | nil=>intro _;rfl
   | cons a l ih =>
    intro h;obtain⟨z,e⟩:=b5.mp (h a am);rw[bU,e];simp only[Option.map_some,aE];rw[ih fun y hy=>h y (aq _ hy)]
  rw[gen _ fun y hy=>all y (bj.mp hy),eE]
 have q:=I.perm.length_eq;rw[aj,eE] at q;unfold liveOf at q;lia
theorem head_free {mask:Nat} (hm:Mask mask) {owner:Own} {y:Nat} (hy:y<=mask) (hf:owner.getD y none=none) (p:Probe) (v:PV mask p):∃ l,l < turns mask/\owner.getD (leaps mask l (p.i,p.perturb)).1 none=none:=by
 have h12:(leaps mask 12 (p.i,p.perturb)).1 < mask + 1:=by rw[leaps_succ mask 11];exact dI (leap_le _ _ _)
 have hp:(leaps mask 12 (p.i,p.perturb)).2 < 32:=by
  rw[leaps_pt]
  have:=v.pt
  show p.perturb / 32 ^ 12 < 32;have e:(2:Nat) ^ 64=18446744073709551616:=by decide
  have e2:(32:Nat) ^ 12=1152921504606846976:=by decide
  rw[e2];lia
 obtain⟨a,ha,ea⟩:=hm.full.from h12 (dI hy)
 refine⟨12 + a,by unfold turns;lia,?_⟩
 rw[leaps_add,leaps_f5 a _ hp,ea];exact hf
def layStep (mask:Nat) (acc:Option (Own × Nat)) (h:Int):Option (Own × Nat):=do
 let (owner,k) <- acc
 let j <- layClean.free mask owner (turns mask) (bits h % (mask + 1)) (bits h)
 pure (owner.setIfInBounds j (some k),k + 1)
theorem lay_fold {mask:Nat} (hm:Mask mask):∀ (hs done:List Int) (owner:Own),OwnI mask owner done->done.length + hs.length<=mask ->
  ∃ owner',hs.foldl (layStep mask) (some (owner,done.length))=some (owner',(done++hs).length)/\OwnI mask owner' (done++hs)
 | [],done,owner,I,_=>⟨owner,by rw[bI];rfl,by rw[bI];exact I⟩
 | h::hs,done,owner,I,hl=>by
  rw[aE] at hl;obtain⟨y,hy,hf⟩:=I.free hm (by lia)
  have v:=start_pv mask h;obtain⟨r,j,f1,f2,f3,f4,f5⟩:=free_spec I.size (turns mask) (start mask h) v rfl rfl (head_free hm hy hf _ v);have hjs:j < owner.size:=by have:=I.size;lia
  have gne:∀ a,a≠j->(owner.setIfInBounds j (some done.length)).getD a none=owner.getD a none:=fun a ha=>by
   rw[bN,bN,gE (aZ ha)]
  have gj:(owner.setIfInBounds j (some done.length)).getD j none=some done.length:=by
   rw[bN,fB hjs];rfl
  have more:∀ a,(owner.getD a none).isSome=true->((owner.setIfInBounds j (some done.length)).getD a none).isSome=true:=fun a ha=>by
   by_cases c:a=j
   ·rw[c,gj];rfl
   ·rw[gne a c];exact ha
  have I':OwnI mask (owner.setIfInBounds j (some done.length)) (done++[h]):=by
   refine⟨by rw[Array.size_setIfInBounds];exact I.size,?_,fun a k e=>?_⟩
   ·have q:=(live_set (k:=done.length) I.size f3 f4).map (·.2);rw[aY] at q;refine q.trans ?_;rw[av,ft,List.range_succ];exact(I.perm.cons _).trans (iM _ _).symm
   ·by_cases c:a=j
    ·subst c;rw[gj] at e;cases e;refine⟨h,by simp,r,f2,fun r' hr'=>more _ (f5 r' hr')⟩
    ·rw[gne a c] at e;obtain⟨h',e1,r',e2,e3⟩:=I.reach a k e;exact⟨h',by rw[d7 (bi.mp e1).1];exact e1,r',e2,fun x hx=>more _ (e3 x hx)⟩
  obtain⟨owner',e1,e2⟩:=lay_fold hm hs (done++[h]) _ I' (by rw[av,ft];lia)
  refine⟨owner',?_,by rw[bG] at e2;exact e2⟩
  rw[List.foldl_cons];have es:layStep mask (some (owner,done.length)) h=some (owner.setIfInBounds j (some done.length),done.length + 1):=by
   show(do let j <- layClean.free mask owner (turns mask) (bits h % (mask + 1)) (bits h);pure (owner.setIfInBounds j (some done.length),done.length + 1))=_
   have f1':layClean.free mask owner (turns mask) (bits h % (mask + 1)) (bits h)=some j:=f1;rw[f1']
   rfl
  rw[es];rw[av,ft,bG] at e1;exact e1
theorem own_start (mask:Nat):OwnI mask (f6 (mask + 1) none) [] where
 size:=by simp
 perm:=by
  have e:liveOf mask (f6 (mask + 1) none)=[]:=by
   unfold liveOf;rw[List.filterMap_eq_nil_iff];intro a ha
   have:(f6 (mask + 1) (none:Option Nat)).getD a none=none:=by
    rw[bN,jh];split <;> rfl
   rw[this];rfl
  rw[e];exact gq _
 reach:=fun j k e=>by
  have:(f6 (mask + 1) (none:Option Nat)).getD j none=none:=by
   rw[bN,jh];split <;> rfl
  rw[this] at e;cases e
theorem layClean_ok {mask:Nat} (hm:Mask mask) (hs:Array Int) (hl:hs.size<=mask):∃ owner,layClean mask hs=some owner/\OwnI mask owner hs.toList:=by
 obtain⟨owner,e1,e2⟩:=lay_fold hm hs.toList [] _ (own_start mask) (by simpa using hl)
 refine⟨owner,?_,by simpa using e2⟩
 unfold layClean
 have:hs.foldl (init:=some (f6 (mask + 1) (none:Option Nat),0)) (fun acc h=>do
  let (owner,k) <- acc
  let j <- layClean.free mask owner (turns mask) (bits h % (mask + 1)) (bits h)
  pure (owner.setIfInBounds j (some k),k + 1))=some (owner,hs.size):=by
  rw[<- Array.foldl_toList];have q:=e1;simp only[bQ,dj] at q;rw[show hs.toList.length=hs.size by simp] at q
  exact q
 rw[this]
 rfl
theorem fm_all {α β:Type} {f:α->Option β}:∀ {l:List α},(∀ a∈l,(f a).isSome=true)->(l.filterMap f).length=l.length/\∀ i:Nat,(l.filterMap f)[i]?=(l[i]?).bind f
 | [],_=>⟨rfl,fun i=>by simp⟩
 | a::l,h=>by
  obtain⟨z,e⟩:=b5.mp (h a am);obtain⟨h1,h2⟩:=fm_all (l:=l) (f:=f) fun b hb=>h b (aq _ hb);rw[bU,e];refine⟨by simp[h1],fun i=>?_⟩
  cases i with
  | zero=>simp[e]
  | succ i=>simpa using h2 i
theorem mem_live {mask:Nat} {owner:Own} {j k:Nat} (h:(j,k)∈liveOf mask owner):j<=mask/\owner.getD j none=some k:=by
 unfold liveOf at h;obtain⟨a,ha,e⟩:=cW.mp h;cases q:owner.getD a none with
 | none=>rw[q] at e;cases e
 | some z=>rw[q] at e;cases e;exact⟨db (bj.mp ha),q⟩
theorem live_mem {mask:Nat} {owner:Own} {j k:Nat} (h1:j<=mask) (h2:owner.getD j none=some k):(j,k)∈liveOf mask owner :=
 cW.mpr ⟨j,bj.mpr (dI h1),by rw[h2];rfl⟩
theorem live_ris (mask:Nat) (owner:Own):Ris ((liveOf mask owner).map (·.1)):=by
 unfold Ris liveOf;rw[gu];refine List.Pairwise.filterMap _ ?_ (gv (n:=mask + 1));intro a a' haa b hb b' hb';cases q:owner.getD a none with
 | none=>rw[q] at hb;cases hb
 | some z =>
  rw[q] at hb;cases hb;cases q':owner.getD a' none with
  | none=>rw[q'] at hb';cases hb'
  | some z'=>rw[q'] at hb';cases hb';exact haa
theorem range_fm {α:Type} (es:Array α):((aP es.size).filterMap fun k=>es[k]?)=es.toList:=by
 apply List.ext_getElem?;intro i;have h:=fm_all (l:=aP es.size) (f:=fun k=>es[k]?) (fun a ha=>by
  have:=bj.mp ha
  simp[this])
 rw[h.2 i]
 by_cases c:i < es.size
 ·rw[List.getElem?_range c];simp
 ·rw[br (by simpa using c)];simp[c]
theorem relaid_ok {es:Array (Int × ae)} {mask' wanted:Nat} (t:aI) (hm:Mask mask') (hw:sizeAbove wanted - 1=mask') (hsz:es.size * 5 < mask' * 3) :
  ∃ t' order,t.relaid (es.map (·.1)) wanted=some (t',order)/\(order.filterMap (es[·]?)).size=es.size/\SetI (order.filterMap (es[·]?)) t'/\(order.filterMap (es[·]?)).toList.Perm es.toList:=by
 obtain⟨owner,e1,I⟩:=layClean_ok hm (es.map (·.1)) (by rw[Array.size_map];lia)
 have el:(es.map (·.1)).toList.length=es.size:=by simp
 have hp:=I.perm;rw[el] at hp;have ks:∀ k∈(liveOf mask' owner).map (·.2),(es[k]?).isSome=true:=fun k hk=>by
  have:=bj.mp (hp.mem_iff.mp hk)
  simp[this]
 obtain⟨f1,f2⟩:=fm_all (f:=fun k=>es[k]?) ks;have etl:(j2 (es[·]?) ((liveOf mask' owner).map (·.2)).toArray).toList=((liveOf mask' owner).map (·.2)).filterMap (fun k=>es[k]?):=by simp
 have perm:(j2 (es[·]?) ((liveOf mask' owner).map (·.2)).toArray).toList.Perm es.toList:=by
  rw[etl,<- range_fm es];exact hp.filterMap _
 have size:(j2 (es[·]?) ((liveOf mask' owner).map (·.2)).toArray).size=es.size:=by
  have:=perm.length_eq
  simpa using this
 refine⟨{ mask:=mask',place:=((liveOf mask' owner).map (·.1)).toArray,dummies:=#[],finger:=t.finger,led:=t.led,moves:=t.movedTo mask',plain:=t.plain },((liveOf mask' owner).map (·.2)).toArray,?_,size,?_,perm⟩
 ·unfold relaid laid;rw[hw,e1]
  rfl
 ·refine⟨⟨hm,rfl,?_,fun j hj=>?_⟩,?_,?_,fun i j e h1 h2=>?_⟩
  ·show Ris ((liveOf mask' owner).map (·.1)).toArray.toList;exact live_ris _ _
  ·have hj':j∈(liveOf mask' owner).map (·.1):=hj;obtain⟨⟨a,k⟩,h,rfl⟩:=b4.mp hj';exact(mem_live h).1
  ·rw[size];show((liveOf mask' owner).map (·.1)).toArray.size=es.size
   have:=hp.length_eq
   simpa using this
  ·rw[size];exact hsz
  ·have h1':((liveOf mask' owner).map (·.1))[i]?=some j:=by simpa using h1
   have h2':(((liveOf mask' owner).map (·.2)).filterMap (fun k=>es[k]?))[i]?=some e:=by
    rw[<- etl,bS];exact h2
   rw[f2 i] at h2';rw[bv] at h1' h2';cases q:(liveOf mask' owner)[i]? with
   | none=>rw[q] at h1';cases h1'
   | some jk =>
    obtain⟨a,k⟩:=jk;rw[q] at h1' h2';have ea:a=j:=aJ h1';subst ea;have ek:es[k]?=some e:=h2';obtain⟨_,ow⟩:=mem_live (bz q);obtain⟨h,eh,r,r1,r2⟩:=I.reach a k ow;have eh':e.1=h:=by
     have:(es.map (·.1)).toList[k]?=some e.1:=by
      rw[bS,Array.getElem?_map,ek];rfl
     rw[this] at eh;exact aJ eh
    rw[eh'];refine⟨r,r1,fun r' hr'=>?_⟩;obtain⟨z,ez⟩:=b5.mp (r2 r' hr');have pv:=PV.road r' (start_pv mask' h)
    have:=pv.j
    show _∈((liveOf mask' owner).map (·.1)).toArray.toList;exact b4.mpr ⟨_,live_mem (by lia) ez,rfl⟩
theorem grow {mask n:Nat} (hm:Mask mask) (h1:n * 5 < mask * 3) (h2:(n + 1) * 5 >= mask * 3) (hn:n + 1<=300):∃ mask',Mask mask'/\sizeAbove (grown (n + 1)) - 1=mask'/\(n + 1) * 5 < mask' * 3/\¬ sizeAbove (grown (n + 1)) > sizeLine:=by
 rcases hm with rfl | rfl | rfl | rfl
 ·have e:n=4:=by lia
  subst e;exact⟨31,.inr (.inl rfl),by decide +kernel,by decide,by decide +kernel⟩
 ·have e:n=18:=by lia
  subst e;exact⟨127,.inr (.inr (.inl rfl)),by decide +kernel,by decide,by decide +kernel⟩
 ·have e:n=76:=by lia
  subst e;exact⟨511,.inr (.inr (.inr rfl)),by decide +kernel,by decide,by decide +kernel⟩
 ·lia
end ST
set_option maxHeartbeats 1000000
namespace ST
open PySem PySem.SetTable
def JT (t:aI):Prop:=Ris t.place.toList/\t.dummies=#[]
theorem ris_range (n:Nat):Ris (Array.range n).toList:=by
 rw[Array.toList_range];exact gv
theorem jt_stand (t:aI) (n:Nat):JT (t.standIn n):=⟨ris_range n,rfl⟩
theorem jt_or {t:aI} (h:JT t) (n:Nat):JT (t.orStandIn n):=by
 unfold SetTable.orStandIn
 split
 ·exact h
 ·exact jt_stand t n
theorem ris_put {xs:Array Nat} {j:Nat} (hr:Ris xs.toList) (hf:j∉xs.toList):Ris (insertAt xs (below xs j) j).toList:=by
 obtain⟨b1,b2,b3⟩:=below_spec hr j;have hl:xs.toList.length=xs.size:=by simp
 unfold Ris at *
 rw[insertAt_list _ _ _ b1,eF,a9];have lo:∀ a∈xs.toList.take (below xs j),a < j:=fun a ha=>by
  obtain⟨i,hi,rfl⟩:=bV ha;rw[bw] at hi;have q:=b2 i (by lia)
  rw[cB,dif_pos (show i < xs.size by lia)] at q
  simpa [List.getElem_take] using q
 have up:∀ a∈xs.toList.drop (below xs j),j < a:=fun a ha=>by
  have ne:a≠j:=fun z=>hf (by rw[<- z];exact gY ha)
  obtain⟨i,hi,rfl⟩:=bV ha;rw[dw] at hi;have q:=b3 (below xs j + i) (by lia) (by lia)
  rw[cB,dif_pos (show below xs j + i < xs.size by lia)] at q
  have q':j<=(xs.toList.drop (below xs j))[i]:=by simpa [List.getElem_drop] using q
  lia
 refine⟨hr.sublist (dH _ _),⟨up,hr.sublist (List.drop_sublist _ _)⟩,fun a ha b hb=>?_⟩;rcases aA.mp hb with rfl | hb
 ·exact lo a ha
 ·exact eW (lo a ha) (up b hb)
theorem jt_slot {t:aI} (h:JT t) (j:Nat):t.slot j≠.dummy/\(t.slot j=.empty->j∉t.place.toList):=by
 have hd:has t.dummies j=false:=by rw[h.2];unfold has;simp
 unfold kv;dsimp only;rw[hd]
 by_cases e:(t.place[below t.place j]? == some j)=true
 ·rw[if_pos e];exact⟨nofun,nofun⟩
 ·rw[if_neg e];refine⟨nofun,fun _ hj=>e ?_⟩;obtain⟨i,hi,q⟩:=bV hj;have q:t.place[i]?=some j:=cG.mpr ⟨by simpa using hi,by simpa using q⟩
  rw[below_at h.1 q,q];simp
theorem jt_go {t:aI} (h:JT t) (f:Nat->Int) (x:Int):∀ (n:Nat) (p:Probe) (j:Nat) (d:Option Nat),p.dummy=none->probe.go t f x n p=some (.empty j d)->j∉t.place.toList/\d=none
 | 0,p,j,d,_,e=>by unfold probe.go at e;cases e
 | n + 1,p,j,d,hp,e=>by
  have ha:(t.advance p).dummy=none:=by rw[advance_eq,step_dummy];exact hp
  unfold probe.go at e;obtain⟨s1,s2⟩:=jt_slot h p.j;cases hs:t.slot p.j with
  | empty=>rw[hs] at e;cases e;exact⟨s2 hs,hp⟩
  | dummy=>exact absurd hs s1
  | live i =>
   rw[hs] at e;dsimp only at e
   split at e
   ·cases e
   ·exact jt_go h f x n _ j d ha e
theorem jt_new {t:aI} (h:JT t) (es:Array (Int × ae)) (x:Int) (v:ae):JT (layNew t es x v).2.1:=by
 unfold layNew;cases hf:t.freeSlot x with
 | none=>exact jt_stand _ _
 | some q =>
  obtain⟨j,b⟩:=q;dsimp only;refine jt_or ?_ _;unfold aI.freeSlot at hf
  split at hf
  ·rename_i j' d hp;obtain⟨h1,h2⟩:=jt_go h _ _ _ _ _ _ rfl hp;subst h2;cases hf;have hd:has t.dummies j'=false:=by rw[h.2];unfold has;simp
   refine⟨ris_put h.1 h1,?_⟩;show(if has t.dummies j'=true then _ else t.dummies)=#[]
   rw[hd,if_neg aS];exact h.2
  ·cases hf
theorem jt_all (t:aI) (es:Array (Int × ae)) (n:Nat):JT (gZ t es n).2.1:=by
 unfold gZ
 split
 ·rename_i t' order hq;dsimp only
  split
  ·unfold relaid laid at hq;cases hc:layClean (sizeAbove n - 1) (Array.map (·.1) es) with
   | none=>rw[hc] at hq;cases hq
   | some ow =>
    rw[hc] at hq;cases hq;refine⟨?_,rfl⟩
    have:=live_ris (sizeAbove n - 1) ow
    simpa [liveOf] using this
  ·exact jt_stand _ _
 ·exact jt_stand _ _
theorem jt_fresh (led:Bool):JT (.fresh 0 0 led):=⟨.nil,rfl⟩
end ST
set_option maxHeartbeats 4000000
namespace ST
open PySem PySem.SetTable PySem.Spec PyProof.Rows
section
variable {prog:aD} {w:aK} {A:aQ} {E:ae->ai->Prop} {s:ai}
def TK (prog:aD) (w:aK) (h:aW) (k:List Str) (v:ae):Prop:=∃ b,v=.ref b/\IsTupleKey (strKind prog w) h k b
theorem TK.inj {h:aW} {k k':List Str} {v:ae} (a:TK prog w h k v) (b:TK prog w h k' v):k=k':=by
 obtain⟨b1,rfl,h1⟩:=a;obtain⟨b2,e,h2⟩:=b;cases e;exact h1.inj h2
abbrev hashT (prog:aD) (w:aK) (k:List Str):Int:=tupleKeyHash (strKind prog w) k
theorem itemsAre_strs {k:List Str} {vs:List ae} (h:ItemsAre (strKind prog w) k vs):∀ v∈vs,∃ x t,v=iA x t:=by
 induction h with
 | nil=>intro v hv;cases hv
 | cons h1 _ ih =>
  intro v hv;rcases aA.mp hv with rfl | hv
  ·obtain⟨t,e⟩:=eM h1;exact⟨_,t,e⟩
  ·exact ih v hv
theorem notClass {k:List Str} {v:ae} {Q:Bool->ai->Prop} (hk:TK prog w s.heap k v) (h:Q false s):ax (aC prog w) A (fy 8 v) Q E s:=by
 obtain⟨b,rfl,hk⟩:=hk;have hT:=hk.typeIs;obtain⟨o,items,n,ho,_,hd,hi⟩:=hk;unfold fy;refine ad (gi hT ?_);dsimp only;simp only[beq_self_eq_true,if_true];refine ad (af ?_);simp only[fT,aF,if_false];refine ad (dG ho hd ?_);dsimp only;refine ad ?_;show ax _ _ (forIn items _ _) _ _ s;rw[<- Array.forIn_toList];refine fM _ (fun rest r s'=>r.1=none/\s'=s/\∀ v∈rest,∃ x t,v=iA x t) _ ?_ ?_ _ _ ⟨rfl,rfl,itemsAre_strs hi⟩
 ·rintro x rest r s' ⟨hr,rfl,hall⟩;obtain⟨y,t,rfl⟩:=hall x am;unfold fy;refine ad (af ?_);simp only[aF,if_false];exact af ⟨rfl,rfl,fun u hu=>hall u (aq _ hu)⟩
 ·rintro⟨r1,r2⟩ s' ⟨hr,rfl,_⟩;simp only at hr;subst hr;exact af h
theorem quietT {k:List Str} {v:ae} {Q:Bool->ai->Prop} (hk:TK prog w s.heap k v) (h:Q true s):ax (aC prog w) A (eqIsQuiet 8 v) Q E s:=by
 obtain⟨b,rfl,hk⟩:=hk;exact wpAny_eqIsQuiet_tuple hk h
theorem notSeen {k:List Str} {x:ae} {stored:List ae} {Q:Bool->ai->Prop} (hx:TK prog w s.heap k x) (hs:∀ y∈stored,∃ k',TK prog w s.heap k' y) (h:Q false s) :
  ax (aC prog w) A (searchCouldBeSeen x stored) Q E s:=by
 unfold searchCouldBeSeen;refine ad (fM _ (fun rest r s'=>r.1=none/\s'=s/\∀ y∈rest,∃ k',TK prog w s.heap k' y) _ ?_ ?_ _ _ ⟨rfl,rfl,hs⟩)
 ·rintro y rest r s' ⟨hr,rfl,hall⟩;obtain⟨k',hy⟩:=hall y am;have fin:∀ y∈rest,∃ k',TK prog w s'.heap k' y:=fun z hz=>hall z (aq _ hz);obtain⟨bx,ex,_⟩:=id hx;obtain⟨by',ey,_⟩:=id hy
  have main:∀ c:Bool,ax (aC prog w) A (if c=true then pure (cg ((none,()):Option Bool × Unit)) else do
    if !(<- eqIsQuiet 8 x) then pure (gw (some true,())) else
    if !(<- eqIsQuiet 8 y) then pure (gw (some true,())) else
    if <- fy 8 x then pure (gw (some true,())) else
    if <- fy 8 y then pure (gw (some true,())) else pure (cg (none,())))
    (fun r s'_1=>match r with
     | cg b'=>b'.fst=none/\s'_1=s'/\∀ (y:ae),y∈rest->∃ k',TK prog w s'.heap k' y
     | gw b'=>False) E s':=by
   intro c;cases c with
   | true=>exact af ⟨rfl,rfl,fin⟩
   | false =>
    simp only[aF,if_false];refine ad (quietT hx ?_);simp only[fT,aF,if_false];refine ad (quietT hy ?_);simp only[fT,aF,if_false];refine ad (notClass hx ?_);simp only[aF,if_false];refine ad (notClass hy ?_);simp only[aF,if_false];exact af ⟨rfl,rfl,fin⟩
  rw[ex,ey] at main ⊢;dsimp only;refine dP (main ((bx == by') || (carriedByValue (.ref bx) && carriedByValue (.ref by')))) (fun r s1 h=>?_) (fun _ _ e=>e)
  cases r with
  | yield b'=>exact h
  | done b'=>exact h.elim
 ·rintro⟨r1,r2⟩ s' ⟨hr,rfl,_⟩;simp only at hr;subst hr;exact af h
def ElT (prog:aD) (w:aK) (h:aW) (es:List (Int × ae)):Prop:=∀ e∈es,∃ k,TK prog w h k e.2/\e.1=hashT prog w k
structure SetAt (h:aW) (a:Addr) (es:Array (Int × ae)) (ep:Nat) (t:aI):Prop where
 obj:h.get? a=some { cls:=.type "set",dict:=none,data:=.set es ep t }
 inv:SetI es t
theorem SetAt.state {a:Addr} {es:Array (Int × ae)} {ep:Nat} {t:aI} {Q:(Array (Int × ae) × Nat × aI)->ai->Prop} (S:SetAt s.heap a es ep t) (h:Q (es,ep,t) s):ax (aC prog w) A (setState a) Q E s :=
 de S.obj rfl S.inv.fits h
theorem searchT {a:Addr} {es:Array (Int × ae)} {ep:Nat} {t:aI} {k:List Str} {x:ae} {adding:Bool} (S:SetAt s.heap a es ep t) (hu:A.units < bK) (hel:ElT prog w s.heap es.toList) (hx:TK prog w s.heap k x)
  {M0:Nat} (hM:(road t.mask M0 (start t.mask (hashT prog w k))).j∉t.place.toList) {Q:SetFound->ai->Prop}
  (hfound:∀ i?,(adding=true\/i?.isSome=true)->(∃ e∈es.toList,TK prog w s.heap k e.2)->Q (.there i?) s)
  (hfree:∀ j r,j<=t.mask->j∉t.place.toList->(road t.mask r (start t.mask (hashT prog w k))).j=j->(∀ r',r' < r->(road t.mask r' (start t.mask (hashT prog w k))).j∈t.place.toList)->(¬ ∃ e∈es.toList,TK prog w s.heap k e.2)->Q (.free j false) s) :
  ∀ (fuel m:Nat) (stand:Option Probe),M0 < fuel + m->stand.getD (t.probeStart (hashT prog w k))=road t.mask m (start t.mask (hashT prog w k)) ->
   (∀ m',m' < m->∃ (i:Nat) (e:Int × ae),t.place[i]?=some (road t.mask m' (start t.mask (hashT prog w k))).j/\es[i]?=some e/\¬ TK prog w s.heap k e.2)->m<=M0 ->
   ax (aC prog w) A (setSearchFrom a x (hashT prog w k) adding fuel stand) Q E s
 | 0,m,stand,hf,_,_,hm=>by lia
 | fuel + 1,m,stand,hf,hst,hpast,hm=>by
  unfold setSearchFrom;refine ad (S.state ?_);dsimp only;rw[S.inv.way];simp only[aF,if_false];have v:=PV.road m (start_pv t.mask (hashT prog w k));have dn:∀ m,(road t.mask m (start t.mask (hashT prog w k))).dummy=none:=fun m=>by
   induction m with
   | zero=>rfl
   | succ m ih=>rw[road_succ,step_dummy];exact ih
  obtain⟨m1,p1,p2⟩:=probe_spec S.inv.tab S.inv.le (fun i=>(es[i]?.map (·.1)).getD 0) (hashT prog w k) v (dn m);rw[hst];have ahead:∀ r,r < m + m1->∃ (i:Nat) (e:Int × ae),t.place[i]?=some (road t.mask r (start t.mask (hashT prog w k))).j/\es[i]?=some e/\¬ TK prog w s.heap k e.2:=fun r hr=>by
   by_cases c:r < m
   ·exact hpast r c
   ·obtain⟨i,q1,q2⟩:=p1 (r - m) (by lia)
    rw[<- road_add,show m + (r - m)=r by lia] at q1
    obtain⟨hi,_⟩:=cG.mp q1;have hi':i < es.size:=by rw[<- S.inv.size];exact hi
    have ee:es[i]?=some es[i]:=by simp[hi']
    refine⟨i,es[i],q1,ee,fun z=>q2 ?_⟩;obtain⟨k',z',eh⟩:=hel es[i] (by simp)
    rw[ee];show es[i].1=_;rw[eh,z'.inj z]
  have inplace:∀ r,r < m + m1->(road t.mask r (start t.mask (hashT prog w k))).j∈t.place.toList:=fun r hr=>by
   obtain⟨i,e,q,_⟩:=ahead r hr;exact cX.mpr (fu q)
  have hmM:m + m1<=M0:=by
   rcases bH M0 (m + m1) with c | c
   ·exact absurd (inplace M0 c) hM
   ·exact c
  rcases p2 with⟨q1,q2⟩ | ⟨i,q1,q2,q3,q4⟩
  ·generalize hP:aI.probe t _ (hashT prog w k) (road t.mask m (start t.mask (hashT prog w k)))=pr;have e2:pr=some (.empty (road t.mask m1 (road t.mask m (start t.mask (hashT prog w k)))).j none):=by rw[<- hP];exact q2
   rw[e2];dsimp only;rw[<- road_add] at q1 ⊢;have pv:=(PV.road (m + m1) (start_pv t.mask (hashT prog w k))).j;refine af (hfree _ (m + m1) (by lia) q1 rfl inplace ?_)
   rintro⟨e,he,hke⟩;obtain⟨i,hi,ei⟩:=bV he;have ee:es[i]?=some e:=by
    have h2:i < es.size:=by simpa using hi
    rw[<- ei];simp[h2]
   have hi':i < t.place.size:=by rw[S.inv.size];simpa using hi
   obtain⟨r,r1,r2⟩:=S.inv.reach i t.place[i] e (by simp[hi']) ee
   obtain⟨k',z',eh⟩:=hel e he;have hk':k'=k:=z'.inj hke;rw[eh,hk'] at r1 r2;rcases bH r (m + m1) with c | c
   ·obtain⟨i',e',a1,a2,a3⟩:=ahead r c;rw[r1] at a1;have s1:=slot_of S.inv.tab a1;have s2:=slot_of (j:=t.place[i]) (i:=i) S.inv.tab (by simp[hi'])
    rw[s1] at s2;cases s2;rw[ee] at a2;cases a2;exact a3 hke
   ·rcases d5 c with c | c
    ·exact q1 (r2 _ c)
    ·rw[c,r1] at q1;exact q1 (by simp)
  ·generalize hP:aI.probe t _ (hashT prog w k) (road t.mask m (start t.mask (hashT prog w k)))=pr;have e2:pr=some (.candidate (road t.mask m1 (road t.mask m (start t.mask (hashT prog w k)))).j i (road t.mask (m1 + 1) (road t.mask m (start t.mask (hashT prog w k))))):=by rw[<- hP];exact q4
   rw[e2];dsimp only;have hi':i < es.size:=by
    obtain⟨hi,_⟩:=cG.mp q1;rw[<- S.inv.size];exact hi
   have ee:es[i]?=some es[i]:=by simp[hi']
   obtain⟨k',hy,eh⟩:=hel es[i] (by simp)
   by_cases hled:t.led=true
   ·rw[hled];simp only[fT,aF,if_false];rw[ee];obtain⟨b,eb,hb⟩:=hy;obtain⟨bx,ex,hbx⟩:=id hx;have hpair:es[i]=(es[i].1,dr b):=by rw[<- eb]
    rw[hpair];dsimp only;refine ad (bB ?_);rw[ex];refine wpAny_eqBool_tuple hu hb hbx ?_;refine ad (S.state ?_);dsimp only;have yes:k'=k->∃ e∈es.toList,TK prog w s.heap k e.2:=fun c=>⟨es[i],by simp,⟨b,eb,c ▸ hb⟩⟩
    by_cases hadd:(adding && decide (k'=k))=true
    ·rw[if_pos hadd];have c:k'=k:=by
      simp only[aG,decide_eq_true_eq] at hadd;exact hadd.2
     exact af (hfound none (.inl (by simp only[aG] at hadd;exact hadd.1)) (yes c))
    ·rw[if_neg hadd];have sm:t.sameMemory t.moves t.mask=some true:=by unfold sameMemory;rw[if_pos (by simp)]
     rw[sm];dsimp only;rw[if_pos rfl,q2];dsimp only;rw[ee,hpair];dsimp only;refine ad (wpAny_isSame_ref_self ?_);rw[if_pos rfl];refine ad (af ?_);dsimp only
     by_cases c:k'=k
     ·rw[decide_eq_true c,if_pos rfl];exact af (hfound _ (.inr rfl) (yes c))
     ·rw[decide_eq_false c,if_neg aS];rw[<- ex];refine searchT S hu hel hx hM hfound hfree fuel (m + m1 + 1) _ (by lia) ?_ (fun r hr=>?_) ?_
      ·show road t.mask (m1 + 1) (road t.mask m _)=_;rw[<- road_add,Nat.add_assoc]
      ·rcases d5 (db hr) with d | d
       ·exact ahead r d
       ·rw[d];rw[<- road_add] at q1;refine⟨i,es[i],q1,ee,fun z=>c ?_⟩;exact TK.inj ⟨b,eb,hb⟩ z
      ·rcases d5 hmM with d | d
       ·exact d
       ·rw[<- road_add] at q1;rw[d] at q1;exact absurd (cX.mpr (fu q1)) hM
   ·have hled':t.led=false:=eD.mpr hled;rw[hled'];simp only[kf,if_true];refine ad (notSeen hx (fun y hy'=>?_) ?_)
    ·obtain⟨e,he,rfl⟩:=b4.mp hy';have he':e∈es.toList:=by
      have:=cX.mp he
      exact cX.mpr (Array.mem_filter.mp this).1
     obtain⟨k',z,_⟩:=hel e he';exact⟨k',z⟩
    ·simp only[aF,if_false];rw[ee];obtain⟨b,eb,hb⟩:=hy;obtain⟨bx,ex,hbx⟩:=id hx;have hpair:es[i]=(es[i].1,dr b):=by rw[<- eb]
     rw[hpair];dsimp only;refine ad (bB ?_);rw[ex];refine wpAny_eqBool_tuple hu hb hbx ?_;refine ad (S.state ?_);dsimp only;have yes:k'=k->∃ e∈es.toList,TK prog w s.heap k e.2:=fun c=>⟨es[i],by simp,⟨b,eb,c ▸ hb⟩⟩
     by_cases hadd:(adding && decide (k'=k))=true
     ·rw[if_pos hadd];have c:k'=k:=by
       simp only[aG,decide_eq_true_eq] at hadd;exact hadd.2
      exact af (hfound none (.inl (by simp only[aG] at hadd;exact hadd.1)) (yes c))
     ·rw[if_neg hadd];have sm:t.sameMemory t.moves t.mask=some true:=by unfold sameMemory;rw[if_pos (by simp)]
      rw[sm];dsimp only;rw[if_pos rfl,q2];dsimp only;rw[ee,hpair];dsimp only;refine ad (wpAny_isSame_ref_self ?_);rw[if_pos rfl];refine ad (af ?_);dsimp only
      by_cases c:k'=k
      ·rw[decide_eq_true c,if_pos rfl];exact af (hfound _ (.inr rfl) (yes c))
      ·rw[decide_eq_false c,if_neg aS];rw[<- ex];refine searchT S hu hel hx hM hfound hfree fuel (m + m1 + 1) _ (by lia) ?_ (fun r hr=>?_) ?_
       ·show road t.mask (m1 + 1) (road t.mask m _)=_;rw[<- road_add,Nat.add_assoc]
       ·rcases d5 (db hr) with d | d
        ·exact ahead r d
        ·rw[d];rw[<- road_add] at q1;refine⟨i,es[i],q1,ee,fun z=>c ?_⟩;exact TK.inj ⟨b,eb,hb⟩ z
       ·rcases d5 hmM with d | d
        ·exact d
        ·rw[<- road_add] at q1;rw[d] at q1;exact absurd (cX.mpr (fu q1)) hM
end
section
variable {prog:aD} {w:aK} {A:aQ} {E:ae->ai->Prop} {s:ai}
theorem setRelay_eq (a:Addr) (wanted:Nat):setRelay a wanted=(do
 let (es,_,t) <- setState a
 if aI.sizeAbove wanted > sizeLine then g6 "set:memory"
 let (es,t) <- (do
  let some (t,order):=t.relaid (es.map (·.1)) wanted | g6 "internal:set-table-without-room"
  let es':=order.filterMap (es[·]?)
  if es'.size != es.size then g6 "internal:set-table-lost-an-element"
  pure (es',t))
 storeSet a es t):=by rfl
theorem hbvT {k:List Str} {v:ae} {Q:Bool->ai->Prop} (hk:TK prog w s.heap k v) (h:Q (decide (k=[])) s):ax (aC prog w) A (hashByValue 8 v) Q E s:=by
 obtain⟨b,rfl,hk⟩:=hk;have hT:=hk.typeIs;refine hd fun Gq kq=>?_;obtain⟨o,items,n,ho,_,hd,hi⟩:=hk;refine kq ?_;unfold hashByValue;refine ad (wpAny_specialOf hT PySem.F.slot_tuple_hash.lookup ?_);dsimp only;refine ad (dG ho hd ?_);refine ad ?_;show ax _ _ (forIn items _ _) _ _ s;rw[<- Array.forIn_toList];generalize hits:items.toList=its at hi;cases hi with
 | nil =>
  rw[List.forIn_nil];exact af (af h)
 | cons h1 h2 =>
  obtain⟨t,e⟩:=eM h1;subst e;rw[fZ];have e2:∀ n x t,hashByValue n (iA x t)=pure false:=fun n x t=>by unfold hashByValue;rfl
  rw[e2];refine ad (ad (af ?_));simp only[kf,if_true];refine af ?_;exact af (af (by simpa using h))
def PlainT (prog:aD) (w:aK) (h:aW) (es:List (Int × ae)) (t:aI):Prop:=t.plain=true->∀ e∈es,TK prog w h [] e.2
theorem addT {a:Addr} {es:Array (Int × ae)} {ep:Nat} {t:aI} {k:List Str} {x:ae} (S:SetAt s.heap a es ep t) (hu:A.units < bK) (hel:ElT prog w s.heap es.toList) (hpl:PlainT prog w s.heap es.toList t) (hx:TK prog w s.heap k x) (hn:es.size + 1<=300) {Q:Bool->ai->Prop}
  (h:∀ h' es' ep' t' added,SetAt h' a es' ep' t'->dz a s.heap h'->PlainT prog w s.heap es'.toList t'->t'.led=t.led ->
   ((added=false/\es'=es/\∃ e∈es.toList,TK prog w s.heap k e.2)\/(added=true/\es'.toList.Perm ((hashT prog w k,x)::es.toList)/\¬ ∃ e∈es.toList,TK prog w s.heap k e.2))->Q added { s with heap:=h' }) :
  ax (aC prog w) A (jS a x (hashT prog w k)) Q E s:=by
 unfold jS setAddHashedIn;refine bB (ad (S.state ?_));dsimp only;have hbs:byScan x es=false:=by
  obtain⟨b,rfl,_⟩:=hx
  rfl
 rw[hbs];simp only[aF,if_false];refine hd fun Gq kq=>?_;obtain⟨y,hy,hf⟩:=free_place S.inv.tab S.inv.le;refine kq ?_;refine hd fun Gq kq=>?_;obtain⟨m,hm,e⟩:=cover S.inv.tab.mask (start_pv t.mask (hashT prog w k)) hy;refine kq ?_;have hm':m < 100000 + 0:=by
  have:=S.inv.tab.mask
  have:t.mask<=511:=by rcases this with z | z | z | z <;> lia
  lia
 refine ad ?_;unfold setSearch;refine searchT S hu hel hx (M0:=m) (by rw[e];exact hf) (fun i? _ hyes=>?_) (fun j r hj hfj ej hrj hno=>?_) 100000 0 none hm' rfl (fun m' h'=>absurd h' (cV _)) (bA _)
 ·dsimp only;have q:=h s.heap es ep t false S (kF a s.heap) hpl rfl (.inl ⟨rfl,rfl,hyes⟩);exact af q
 ·dsimp only;refine ad (S.state ?_);dsimp only;have P:=put_set (x:=x) S.inv hj hfj ej hrj true;refine hd fun Gq kq=>?_;obtain⟨p1,p2,p3,p4,p5,p6⟩:=P;refine kq ?_;have p3d:(t.put j).1.dummies=#[]:=p3.nodum;have p3r:Ris (t.put j).1.place.toList:=p3.ris;have p3t:∀ a∈(t.put j).1.place.toList,a<=(t.put j).1.mask:=p3.top;generalize hes:aI.insertAt es (t.put j).2 (hashT prog w k,x)=es1 at p1 p2 p6 ⊢;have hperm:es1.toList.Perm ((hashT prog w k,x)::es.toList):=by
   rw[p1];refine List.perm_middle.trans ?_;rw[fw]
  have rest:∀ tt:aI,tt.place=(t.put j).1.place->tt.dummies=#[]->tt.mask=t.mask->tt.led=t.led->(tt.plain=true->t.plain=true/\k=[])->ax (aC prog w) A (do
    storeSet a es1 tt
    if (!false && tt.tooFull)=true then do
     setRelay a (cT (es.size + 1))
     pure true
    else pure true) Q E s:=by
   intro tt h1 h2 h3 h4 h5;have T':Tab tt:=⟨by rw[h3];exact S.inv.tab.mask,h2,by rw[h1];exact p3r,fun a ha=>by rw[h1] at ha;rw[h3,<- p5];exact p3t a ha⟩
   have hplain:∀ es'':List (Int × ae),es''.Perm ((hashT prog w k,x)::es.toList)->∀ t2:aI,t2.plain=tt.plain->PlainT prog w s.heap es'' t2:=by
    intro es'' hp t2 ht2 hpt ee hee;rw[ht2] at hpt;refine hd fun Gq kq=>?_;obtain⟨q1,q2⟩:=h5 hpt;refine kq ?_;rcases aA.mp (hp.mem_iff.mp hee) with q | q
    ·rw[q,<- q2];exact hx
    ·exact hpl q1 ee q
   have hz:es1.size<=sizeLine:=by rw[p2,bu];lia
   refine ad (gx S.obj rfl ?_ hz);have ho1:(s.heap.update a (dy es1 tt)).get? a=some { cls:=.type "set",dict:=none,data:=.set es1 (ep + 1) tt }:=by
    have:=b8 (dy es1 tt) S.obj (by rw[gM _ _ rfl];rfl)
    rw[gM _ _ rfl] at this;exact this
   have hsb1:=ce s.heap a (dy es1 tt);have tf:tt.tooFull=decide ((es.size + 1) * 5 >= t.mask * 3):=by
    unfold aI.tooFull ky;rw[h2,h1,p4,h3]
    rfl
   have room:=S.inv.room
   by_cases hfull:(es.size + 1) * 5 >= t.mask * 3
   ·rw[tf,decide_eq_true hfull];simp only[kf,Bool.and_self,if_true];refine hd fun Gq kq=>?_;obtain⟨mask',hm1,hm2,hm3,hm4⟩:=grow S.inv.tab.mask room hfull hn;refine kq ?_;refine hd fun Gq kq=>?_;obtain⟨t',order,r1,r2,r3,r4⟩:=relaid_ok (es:=es1) tt hm1 hm2 (by rw[p2];exact hm3);refine kq ?_
    have hled:t'.led=tt.led/\t'.plain=tt.plain:=by
     unfold relaid laid at r1;cases hq:layClean (sizeAbove (grown (es.size + 1)) - 1) (Array.map (·.1) es1) with
     | none=>rw[hq] at r1;cases r1
     | some ow=>rw[hq] at r1;cases r1;exact⟨rfl,rfl⟩
    have hfit1:tt.fits es1.size=true:=by
     unfold kx ky
     have:t.mask >= 7:=by rcases S.inv.tab.mask with z | z | z | z <;> lia
     simp only[aG,beq_iff_eq,decide_eq_true_eq];rw[h2,h1,p4,p2,h3];refine⟨rfl,?_⟩;show es.size + 1 + 0<=t.mask;lia
    refine ad ?_;rw[setRelay_eq];refine ad (de ho1 rfl hfit1 ?_);dsimp only;rw[if_neg hm4,r1];dsimp only;rw[r2];simp only[bne_self_eq_false,aF,if_false,jt];have hz2:(order.filterMap (es1[·]?)).size<=sizeLine:=by rw[r2];exact hz
    refine gx ho1 rfl ?_ hz2;have ho2:((s.heap.update a (dy es1 tt)).update a (dy (order.filterMap (es1[·]?)) t')).get? a=some { cls:=.type "set",dict:=none,data:=.set (order.filterMap (es1[·]?)) (ep + 1 + 1) t' }:=by
     have:=b8 (dy (order.filterMap (es1[·]?)) t') ho1 (by rw[gM _ _ rfl];rfl)
     rw[gM _ _ rfl] at this;exact this
    have hsb2:=hsb1.trans (ce (s.heap.update a (dy es1 tt)) a (dy (order.filterMap (es1[·]?)) t'));exact af (h _ _ _ _ true ⟨ho2,r3⟩ hsb2 (hplain _ (r4.trans hperm) _ hled.2) (hled.1.trans h4) (.inr ⟨rfl,r4.trans hperm,hno⟩))
   ·rw[tf,decide_eq_false hfull];simp only[Bool.and_false,aF,if_false];have I':SetI es1 tt:=by
     refine⟨T',by rw[h1,p4,p2],by rw[h3,p2];lia,fun i j' e' q1 q2=>?_⟩
     rw[h1] at q1;refine hd fun Gq kq=>?_;obtain⟨r,r1,r2⟩:=p6 i j' e' q1 q2;refine kq ?_;rw[h3,h1];exact⟨r,r1,r2⟩
    exact af (h _ _ (ep + 1) _ true ⟨ho1,I'⟩ hsb1 (hplain _ hperm _ rfl) h4 (.inr ⟨rfl,hperm,hno⟩))
  by_cases hp:t.plain=true
  ·have hp':(t.put j).1.plain=true:=hp;rw[hp'];simp only[if_true];refine ad (hbvT hx ?_)
   by_cases hk:k=[]
   ·rw[decide_eq_true hk];simp only[if_true];exact rest (t.put j).1 rfl p3d p5 rfl (fun _=>⟨hp,hk⟩)
   ·rw[decide_eq_false hk];simp only[aF,if_false];exact rest { (t.put j).1 with plain:=false } rfl p3d p5 rfl (fun z=>nomatch z)
  ·have hp':(t.put j).1.plain=false:=eD.mpr hp;rw[hp'];simp only[aF,if_false];refine ad (af ?_);simp only[if_true];exact rest (t.put j).1 rfl p3d p5 rfl (fun z=>by rw[hp'] at z;cases z)
theorem setAddT {a:Addr} {es:Array (Int × ae)} {ep:Nat} {t:aI} {k:List Str} {x:ae} (S:SetAt s.heap a es ep t) (hu:A.units < bK) (hel:ElT prog w s.heap es.toList) (hpl:PlainT prog w s.heap es.toList t) (hx:TK prog w s.heap k x) (hn:es.size + 1<=300) {Q:Bool->ai->Prop}
  (h:∀ h' tk es' ep' t' added,SetAt h' a es' ep' t'->dz a s.heap h'->PlainT prog w s.heap es'.toList t'->t'.led=t.led->s.toks<=tk ->
   ((added=false/\es'=es/\∃ e∈es.toList,TK prog w s.heap k e.2)\/(added=true/\es'.toList.Perm ((hashT prog w k,x)::es.toList)/\¬ ∃ e∈es.toList,TK prog w s.heap k e.2))->Q added { s with heap:=h',toks:=tk }) :
  ax (aC prog w) A (setAdd a x) Q E s:=by
 obtain⟨b,rfl,hk⟩:=id hx;unfold setAdd;refine bB (ad (wpAny_pyHash_tuple hu hk ?_));exact addT (s:={ s with toks:=s.toks + (k.length + 1) }) S hu hel hpl hx hn fun h' es' ep' t' added h1 h2 h3 h4 h5=>h h' _ es' ep' t' added h1 h2 h3 h4 (Nat.le_add_right _ _) h5
end
def TupKeep (h h':aW):Prop:=∀ b o,h.get? b=some o->o.cls=.type "tuple"->h'.get? b=some o
theorem TupKeep.trans {a b c:aW} (x:TupKeep a b) (y:TupKeep b c):TupKeep a c:=fun d o e h=>y d o (x d o e h) h
def setOb (es:Array (Int × ae)) (ep:Nat) (t:aI):Obj:={ cls:=.type "set",dict:=none,data:=.set es ep t }
structure SetKd (prog:aD) (w:aK) (κ:Type) where
 pk:Bool
 is:aW->κ->ae->Prop
 I:aW->Addr->Array (Int × ae)->Nat->aI->Prop
 inj:∀ {h:aW} {k k':κ} {v:ae},is h k v->is h k' v->k=k'
 obj:∀ {h:aW} {a:Addr} {es:Array (Int × ae)} {ep:Nat} {t:aI},I h a es ep t->h.get? a=some (setOb es ep t)
 fits:∀ {h:aW} {a:Addr} {es:Array (Int × ae)} {ep:Nat} {t:aI},I h a es ep t->t.fits es.size=true
 few:pk=false->∀ {h:aW} {a:Addr} {es:Array (Int × ae)} {ep:Nat} {t:aI} {ks:List κ},I h a es ep t->a7 (fun(e:Int × ae) k=>is h k e.2) es.toList ks->ks.Nodup->t.plain=true->es.size<=1
 fresh:∀ {h:aW} {a:Addr} {led:Bool},h.get? a=some (setOb #[] 0 (.fresh 0 0 led))->I h a #[] 0 (.fresh 0 0 led)
 keepIs:∀ {h h':aW} {k:κ} {v:ae},is h k v->TupKeep h h'->is h' k v
 keepI:∀ {h h':aW} {a:Addr} {es:Array (Int × ae)} {ep:Nat} {t:aI},I h a es ep t->h'.get? a=h.get? a->TupKeep h h'->I h' a es ep t
 add:∀ {A:aQ} {E:ae->ai->Prop} {s:ai} {a:Addr} {es:Array (Int × ae)} {ep:Nat} {t:aI} {k:κ} {x:ae} {Q:Bool->ai->Prop},A.units < bK->I s.heap a es ep t->is s.heap k x->es.size + 1<=300 ->
  (∀ h' tk es' ep' t' added,I h' a es' ep' t'->dz a s.heap h'->t'.led=t.led->s.toks<=tk ->
   ((added=false/\es'=es/\∃ e∈es.toList,is s.heap k e.2)\/(added=true/\(∃ hh,es'.toList.Perm ((hh,x)::es.toList))/\¬ ∃ e∈es.toList,is s.heap k e.2))->Q added { s with heap:=h',toks:=tk }) ->
  ax (aC prog w) A (setAdd a x) Q E s
theorem sameBut_tup {h h':aW} {a:Addr} {es:Array (Int × ae)} {ep:Nat} {t:aI} (ho:h.get? a=some (setOb es ep t)) (sb:dz a h h'):TupKeep h h':=fun b o e c=>by
 refine(sb.2 b ?_).trans e;rintro rfl;rw[ho] at e;have e':o=setOb es ep t:=(aJ e).symm;rw[e'] at c;have c':cE "set" = cE "tuple":=c;injection c' with c''
 exact absurd c'' (by decide)
section
variable {prog:aD} {w:aK}
theorem TK.keep {h h':aW} {k:List Str} {v:ae} (x:TK prog w h k v) (kp:TupKeep h h'):TK prog w h' k v:=by
 obtain⟨b,rfl,o,items,n,ho,hc,hd,hi⟩:=x;exact⟨b,rfl,o,items,n,kp b o ho hc,hc,hd,hi⟩
theorem paired_mem {α β:Type} {R:α->β->Prop}:∀ {l:List α} {m:List β},a7 R l m->∀ a∈l,∃ b∈m,R a b
 | _,_,.nil,a,h=>nomatch h
 | _,_,.cons r t,a,h=>by
  rcases aA.mp h with rfl | h
  ·exact⟨_,am,r⟩
  ·obtain⟨b,hb,q⟩:=paired_mem t a h;exact⟨b,aq _ hb,q⟩
theorem paired_mem' {α β:Type} {R:α->β->Prop}:∀ {l:List α} {m:List β},a7 R l m->∀ b∈m,∃ a∈l,R a b
 | _,_,.nil,a,h=>nomatch h
 | _,_,.cons r t,a,h=>by
  rcases aA.mp h with rfl | h
  ·exact⟨_,am,r⟩
  ·obtain⟨b,hb,q⟩:=paired_mem' t a h;exact⟨b,aq _ hb,q⟩
theorem paired_perm {α β:Type} {R:α->β->Prop} {l l':List α} (p:l'.Perm l):∀ {m:List β},a7 R l m->∃ m',m'.Perm m/\a7 R l' m':=by
 have gen:∀ {l l':List α},l.Perm l'->∀ {m:List β},a7 R l m->∃ m',m'.Perm m/\a7 R l' m':=by
  intro l l' p
  induction p with
  | nil=>intro m h;cases h;exact⟨[],gq _,.nil⟩
  | cons x _ ih =>
   intro m h;cases h with
   | cons r t =>
    obtain⟨m',h1,h2⟩:=ih t;exact⟨_,h1.cons _,.cons r h2⟩
  | swap x y l =>
   intro m h;cases h with
   | cons r t =>
    cases t with
    | cons r2 t2=>exact⟨_,List.Perm.swap _ _ _,.cons r2 (.cons r t2)⟩
  | trans _ _ ih1 ih2 =>
   intro m h;obtain⟨m1,a1,b1⟩:=ih1 h;obtain⟨m2,a2,b2⟩:=ih2 b1;exact⟨m2,a2.trans a1,b2⟩
 intro m h;exact gen p.symm h
theorem few_aux {α β:Type} {R:α->β->Prop} {k0:β} {l:List α} {m:List β} (hp:a7 R l m) (h0:∀ a∈l,R a k0) (inj:∀ a b b',R a b->R a b'->b=b') (nd:m.Nodup):l.length<=1:=by
 cases hp with
 | nil=>exact bA _
 | cons r1 t1 =>
  cases t1 with
  | nil=>exact ar _
  | cons r2 t2 =>
   have k1:=inj _ _ _ (h0 _ am) r1;have k2:=inj _ _ _ (h0 _ (aq _ am)) r2
   have:=(bX.mp nd).1
   exact absurd (by rw[<- k1,k2];exact am) this
theorem empty_el {P:Int × ae->Prop}:∀ e∈(#[]:Array (Int × ae)).toList,P e:=fun e he=>absurd he (by simp)
def tupKd (prog:aD) (w:aK):SetKd prog w (List Str) where
 pk:=false
 is:=TK prog w
 I:=fun h a es ep t=>SetAt h a es ep t/\ElT prog w h es.toList/\PlainT prog w h es.toList t
 inj:=fun a b=>a.inj b
 obj:=fun x=>x.1.obj
 fits:=fun x=>x.1.inv.fits
 few:=fun _ {h a es ep t ks} x hp nd hpl=>by
  have q:=few_aux hp (x.2.2 hpl) (fun _ _ _ r1 r2=>r1.inj r2) nd;simpa using q
 fresh:=fun ho=>⟨⟨ho,fresh_ok _ _ _⟩,empty_el,fun _=>empty_el⟩
 keepIs:=fun x kp=>x.keep kp
 keepI:=fun x e kp=>⟨⟨by rw[e];exact x.1.obj,x.1.inv⟩,fun e he=>by
  obtain⟨k,q1,q2⟩:=x.2.1 e he;exact⟨k,q1.keep kp,q2⟩,fun hp e he=>(x.2.2 hp e he).keep kp⟩
 add:=fun {A E s a es ep t k x Q} hu hI hx hn h=>by
  obtain⟨S,hel,hpl⟩:=hI;refine setAddT S hu hel hpl hx hn fun h' tk es' ep' t' added h1 h2 h3 h4 h5 h6=>?_;have kp:=sameBut_tup S.obj h2;refine h h' tk es' ep' t' added ⟨h1,?_,fun hp e he=>(h3 hp e he).keep kp⟩ h2 h4 h5 ?_
  ·intro e he;rcases h6 with⟨_,rfl,_⟩ | ⟨_,hp,_⟩
   ·obtain⟨k,q1,q2⟩:=hel e he;exact⟨k,q1.keep kp,q2⟩
   ·rcases aA.mp (hp.mem_iff.mp he) with q | q
    ·rw[q];exact⟨k,hx.keep kp,rfl⟩
    ·obtain⟨k,q1,q2⟩:=hel e q;exact⟨k,q1.keep kp,q2⟩
  ·rcases h6 with q | ⟨q1,q2,q3⟩
   ·exact .inl q
   ·exact .inr ⟨q1,⟨_,q2⟩,q3⟩
theorem standIn_led (t:aI) (n:Nat):(t.orStandIn n).led=t.led:=by unfold SetTable.orStandIn;split <;> rfl
theorem addS {κ : Type} [DecidableEq κ] (kn : kr prog w κ) (sc : ∀ {k : κ} {x : ae}, kn.is k x = true -> x.scannable = true) {A : aQ} {E : ae -> ai -> Prop} {s : ai} {a : Addr} {es : Array (Int × ae)} {ep : Nat} {t : aI} {k : κ} {x : ae} {Q : Bool -> ai -> Prop} (ho : s.heap.get? a = some (setOb es ep t)) (hf : t.fits es.size = true) (hel : ElemsOf kn es.toList)
    (hpl : iB x = false -> t.plain = true -> es = #[]) (hx : kn.is k x = true) (hn : es.size + 1 <= 300)
    (h : ∀ h' es' ep' t' added, h'.get? a = some (setOb es' ep' t') -> t'.fits es'.size = true -> ElemsOf kn es'.toList -> (iB x = false -> t'.plain = true -> es' = #[]) -> dz a s.heap h' -> (t'.led = t.led /\ (JT t -> JT t')) ->
      ((added = false /\ es' = es /\ ∃ e ∈ es.toList, kn.is k e.2 = true) \/ (added = true /\ es'.toList.Perm ((kn.hash k, x) :: es.toList) /\ ¬ ∃ e ∈ es.toList, kn.is k e.2 = true)) -> Q added { s with heap := h' }) :
    ax (aC prog w) A (jS a x (kn.hash k)) Q E s := by
  have hb : es.size < scanBound := by unfold scanBound; lia
  unfold jS setAddHashedIn;refine bB (ad (de ho rfl hf ?_));dsimp only;rw [byScan_of (sc hx) hb hel];simp only [↓reduceIte];unfold setAddByScan;refine ad ?_;refine ad (f7 ?_);refine ad (wpAny_setScan_of hx ho rfl hf hel ?_);cases hr : List.findIdx? (fun e => kn.is k e.2) es.toList with
  | some j =>
    dsimp only;obtain⟨hj, hpj, _⟩ := List.findIdx?_eq_some_iff_getElem.mp hr;refine af (af ?_);exact h s.heap es ep t false ho hf hel hpl (kF a s.heap) ⟨rfl, id⟩ (.inl ⟨rfl, rfl, es.toList[j], d0 hj, hpj⟩)
  | none =>
    dsimp only;have hno : ¬ ∃ e ∈ es.toList, kn.is k e.2 = true := by
      rintro⟨e, he, hp⟩;have := List.findIdx?_eq_none_iff.mp hr e he;rw [hp] at this; exact jx this
    have hgw : ∀ (b : Bool) {s1 : ai} {Q' : Unit -> ai -> Prop}, Q' () s1 -> ax (aC prog w) A (match b with | true => rule "set.scan.the-table-gave-way" | false => pure ()) Q' E s1 :=
      fun b s1 Q' hq => by cases b <;> first | exact af hq | exact f7 hq
    have hperm := layNew_perm t es (kn.hash k) x;have hfits := layNew_fits t es (kn.hash k) x;have hJ : JT t -> JT (layNew t es (kn.hash k) x).2.1 := fun z => jt_new z es (kn.hash k) x;have hled : (layNew t es (kn.hash k) x).2.1.led = t.led := by
      unfold layNew
      split
      · exact standIn_led _ _
      · rfl
    generalize hL : layNew t es (kn.hash k) x = L at hperm hfits hled hJ ⊢;obtain⟨es1, t1, wasDummy, gave⟩ := L;dsimp only at hperm hfits hled hJ ⊢;rw [ja] at hperm;have hperm' : es1.toList.Perm ((kn.hash k, x) :: es.toList) := hperm.trans (iM _ _);have hel1 : ElemsOf kn es1.toList := (hel.push hx (sc hx)).perm hperm;have hsz1 : es1.size = es.size + 1 := by
      have := hperm'.length_eq;simpa using this
    have hz1 : es1.size <= sizeLine := by rw [hsz1, bu]; lia
    refine ad (hgw _ ?_)
    have rest : ∀ t2 : aI, t2.fits es1.size = true -> (iB x = false -> t2.plain = false) -> (t2.led = t.led /\ (JT t -> JT t2)) -> ax (aC prog w) A (do
        storeSet a es1 t2
        if (!wasDummy && t2.tooFull) = true then do
            (match (gZ t2 es1 (cT es1.size)).2.2 with | true => rule "set.scan.the-table-gave-way" | false => pure ())
            storeSet a (gZ t2 es1 (cT es1.size)).1 (gZ t2 es1 (cT es1.size)).2.1
            pure (some true)
          else pure (some true)) (fun r s' => ax (aC prog w) A (match r with | some added => pure added | none => setAddHashedIn a x (kn.hash k) 99999) Q E s') E s := by
      intro t2 q1 q2 q3;refine ad (gx ho rfl ?_ hz1);have ho1 : (s.heap.update a (dy es1 t2)).get? a = some (setOb es1 (ep + 1) t2) := by
        have := b8 (dy es1 t2) ho (by rw [gM _ _ rfl]; rfl)
        rw [gM _ _ rfl] at this; exact this
      have hsb1 := ce s.heap a (dy es1 t2)
      split
      · have hp := relayAll_perm t2 es1 (cT es1.size)
        have hfr := relayAll_fits t2 es1 (cT es1.size);have hJ2 := jt_all t2 es1 (cT es1.size);have hkk : (gZ t2 es1 (cT es1.size)).2.1.led = t2.led /\ (iB x = false -> (gZ t2 es1 (cT es1.size)).2.1.plain = false) := by
          unfold gZ
          split
          · rename_i t' order hq
            have : t'.led = t2.led /\ t'.plain = t2.plain := by
              unfold relaid laid at hq;cases hc : layClean (sizeAbove (cT es1.size) - 1) (Array.map (·.1) es1) with
              | none => rw [hc] at hq; cases hq
              | some ow => rw [hc] at hq; cases hq; exact⟨rfl, rfl⟩
            dsimp only
            split
            · exact⟨this.1, fun z => this.2.trans (q2 z)⟩
            · exact⟨rfl, fun _ => rfl⟩
          · exact⟨rfl, fun _ => rfl⟩
        generalize hRl : gZ t2 es1 (cT es1.size) = Rl at hp hfr hkk hJ2 ⊢;obtain⟨es2, t3, gave2⟩ := Rl;dsimp only at hp hfr hkk hJ2 ⊢;have hsz2 : es2.size = es1.size := by
          have := hp.length_eq;simpa using this
        refine ad (hgw _ ?_);refine ad (gx ho1 rfl ?_ (by rw [hsz2]; exact hz1))
        have ho2 : ((s.heap.update a (dy es1 t2)).update a (dy es2 t3)).get? a = some (setOb es2 (ep + 1 + 1) t3) := by
          have := b8 (dy es2 t3) ho1 (by rw [gM _ _ rfl]; rfl)
          rw [gM _ _ rfl] at this; exact this
        refine af (af ?_);exact h _ es2 _ t3 true ho2 hfr (hel1.perm hp) (fun y z => by rw [hkk.2 y] at z; cases z) (hsb1.trans (ce _ a _)) ⟨hkk.1.trans q3.1, fun _ => hJ2⟩ (.inr ⟨rfl, hp.trans hperm', hno⟩)
      · refine af (af ?_)
        exact h _ es1 _ t2 true ho1 q1 hel1 (fun y z => by rw [q2 y] at z; cases z) hsb1 q3 (.inr ⟨rfl, hperm', hno⟩)
    split
    · refine ad ?_
      rw [hashByValue_scannable 8 (sc hx)];refine af ?_;cases hk : iB x with
      | true =>
        simp only [↓reduceIte];exact rest _ hfits (fun z => by rw [hk] at z; cases z) ⟨hled, hJ⟩
      | false =>
        simp only [aF, ↓reduceIte];exact rest _ (aI.fits_plain_off hfits) (fun _ => rfl) ⟨hled, hJ⟩
    · rename_i hnp
      refine ad (af ?_);simp only [↓reduceIte];exact rest t1 hfits (fun _ => eD.mpr hnp) ⟨hled, hJ⟩
end
section
variable {prog:aD} {w:aK}
def kindKd {κ:Type} [DecidableEq κ] (prog:aD) (w:aK) (kn:kr prog w κ) (sc:∀ {k:κ} {x:ae},kn.is k x=true->x.scannable=true) (pk:Bool) (hkp:∀ {k:κ} {x:ae},kn.is k x=true->pk=false->iB x=false) (hpk:∀ {k:κ} {x:ae},kn.is k x=true->iB x=false->pk=false):SetKd prog w κ where
 pk:=pk
 is:=fun _ k v=>kn.is k v=true
 I:=fun h a es ep t=>h.get? a=some (setOb es ep t)/\t.fits es.size=true/\ElemsOf kn es.toList/\(pk=false->t.plain=true->es=#[])/\JT t
 inj:=fun a b=>kn.inj _ _ _ a b
 obj:=fun x=>x.1
 fits:=fun x=>x.2.1
 few:=fun z _ _ _ _ _ _ x _ _ hp=>by rw[x.2.2.2.1 z hp];exact bA _
 fresh:=fun ho=>⟨ho,rfl,empty_el,fun _ _=>rfl,jt_fresh _⟩
 keepIs:=fun x _=>x
 keepI:=fun x e _=>⟨by rw[e];exact x.1,x.2⟩
 add:=fun {A E s a es ep t k x Q} hu hI hx hn h=>by
  obtain⟨ho,hf,hel,hpl,hJ⟩:=hI;unfold setAdd;refine bB (ad (kn.pyHash hx ?_));exact addS kn sc (s:={ s with toks:=s.toks + 1 }) ho hf hel (fun z=>hpl (hpk hx z)) hx hn fun h' es' ep' t' added h1 h2 h3 h4 h5 h6 h7=>h h' _ es' ep' t' added ⟨h1,h2,h3,fun z=>h4 (hkp hx z),h6.2 hJ⟩ h5 h6.1 (dE _) (by
   rcases h7 with q | ⟨q1,q2,q3⟩
   ·exact .inl q
   ·exact .inr ⟨q1,⟨_,q2⟩,q3⟩)
abbrev strKd (prog:aD) (w:aK):SetKd prog w Str:=kindKd prog w (fo prog w) (fun h=>by obtain⟨t,rfl⟩:=eM h;rfl) false (fun h _=>by obtain⟨t,rfl⟩:=eM h;rfl) fun _ _=>rfl
structure Mem {κ:Type} (D:SetKd prog w κ) (h:aW) (a:Addr) (done:List κ) (led:Bool) (ks:List κ):Prop where
 ex:∃ es ep t,D.I h a es ep t/\t.led=led/\a7 (fun(e:Int × ae) k=>D.is h k e.2) es.toList ks
 nd:ks.Nodup
 mem:∀ k,k∈ks↔k∈done
theorem Mem.keep {κ:Type} {D:SetKd prog w κ} {h h':aW} {a:Addr} {done:List κ} {led:Bool} {ks:List κ} (M:Mem D h a done led ks) (e:h'.get? a=h.get? a) (kp:TupKeep h h'):Mem D h' a done led ks:=by
 obtain⟨es,ep,t,h1,h2,h3⟩:=M.ex;exact⟨⟨es,ep,t,D.keepI h1 e kp,h2,L2.Paired.mapP h3 fun _ _ q=>D.keepIs q kp⟩,M.nd,M.mem⟩
theorem Mem.size {κ:Type} {D:SetKd prog w κ} {h:aW} {a:Addr} {done:List κ} {led:Bool} {ks:List κ} (M:Mem D h a done led ks):ks.length<=done.length :=
 M.nd.length_le_of_subset fun k hk=>(M.mem k).mp hk
theorem addM {κ:Type} [DecidableEq κ] (D:SetKd prog w κ) {A:aQ} {E:ae->ai->Prop} {s:ai} {a:Addr} {done:List κ} {led:Bool} {ks:List κ} {k:κ} {x:ae} {Q:Bool->ai->Prop} (hu:A.units < bK) (M:Mem D s.heap a done led ks) (hx:D.is s.heap k x) (hn:done.length + 1<=300)
  (h:∀ h' tk ks',Mem D h' a (done++[k]) led ks'->dz a s.heap h'->TupKeep s.heap h'->s.toks<=tk->Q (decide (k∉ks)) { s with heap:=h',toks:=tk }) :
  ax (aC prog w) A (setAdd a x) Q E s:=by
 have hsz:=M.size;obtain⟨es,ep,t,h1,h2,h3⟩:=M.ex;have hl:es.size=ks.length:=by have:=bT h3;simpa using this
 refine D.add hu h1 hx (by lia) fun h' tk es' ep' t' added q1 q2 q3 q4 q5=>?_
 have kp:=sameBut_tup (D.obj h1) q2;have h3':a7 (fun(e:Int × ae) k=>D.is h' k e.2) es.toList ks:=L2.Paired.mapP h3 fun _ _ q=>D.keepIs q kp;have isin:(∃ e∈es.toList,D.is s.heap k e.2)↔k∈ks:=by
  constructor
  ·rintro⟨e,he,q⟩;obtain⟨k',hk',q'⟩:=paired_mem h3 e he;rw[D.inj q q'];exact hk'
  ·intro hk;obtain⟨e,he,q⟩:=paired_mem' h3 k hk;exact⟨e,he,q⟩
 rcases q5 with⟨r1,r2,r3⟩ | ⟨r1,⟨hh,r2⟩,r3⟩
 ·have hk:=isin.mp r3;have q:=h h' tk ks ⟨⟨es',ep',t',q1,q3.trans h2,by rw[r2];exact h3'⟩,M.nd,fun k'=>by
   rw[M.mem k',aU,az];exact⟨.inl,fun z=>z.elim id fun z=>by rw[z];exact(M.mem k).mp hk⟩⟩ q2 kp q4
  rw[decide_eq_false (fun z=>z hk)] at q;rw[r1];exact q
 ·have hk:k∉ks:=fun z=>r3 (isin.mpr z);obtain⟨ks',p1,p2⟩:=paired_perm r2 (R:=fun(e:Int × ae) k=>D.is h' k e.2) (m:=k::ks) (.cons (D.keepIs hx kp) h3');have q:=h h' tk ks' ⟨⟨es',ep',t',q1,q3.trans h2,p2⟩,p1.nodup_iff.mpr (bX.mpr ⟨hk,M.nd⟩),fun k'=>by
   rw[p1.mem_iff,aA,aU,az,M.mem k'];exact⟨fun z=>z.symm,fun z=>z.symm⟩⟩ q2 kp q4
  rw[decide_eq_true hk] at q;rw[r1];exact q
theorem set_loop {κ:Type} [DecidableEq κ] (D:SetKd prog w κ) {A:aQ} {R:Result->ai->Prop} {I S l:Addr} {items:Array ae} {ks:List κ} {led:Bool} (hh:A.in1.handled=none) (hu:A.in1.units < bK) (hne:l≠I) (hSI:S≠I) (hSl:S≠l) (hn:items.size + 1<=300) :
  ∀ (j i:Nat) (s:ai),items.size - i=j->i<=items.size->s.heap.IsListIter I l i->s.heap.IsList l items->a7 (fun v k=>D.is s.heap k v) items.toList ks->(∃ ms,Mem D s.heap S (ks.take i) led ms) ->
   (∀ h' tk ms,Mem D h' S ks led ms->TupKeep s.heap h'->(∀ b o,b≠S->b≠I->s.heap.get? b=some o->h'.get? b=some o)->R (.ok (.ret .none)) { s with heap:=h',toks:=tk }) ->
   eT (aC prog w) A (.builtin "set.update.loop" ⟨[.ref S,.ref I],[]⟩) R s:=by
 have itk:∀ {h h':aW} {i:Nat},h.IsListIter I l i->(∀ b o,b≠I->h.get? b=some o->h'.get? b=some o)->TupKeep h h':=fun st k b o e c=>k b o (by
  rintro rfl;obtain⟨o',e',c',_⟩:=st;rw[e] at e';cases e';rw[c] at c';injection c' with c''
  exact absurd c'' (by decide)) e
 intro j
 induction j with
 | zero =>
  intro i s hj hi hst hl hp hM hR;have hin:i=items.size:=by lia
  subst hin;refine bJ cO ?_;rw[bo bL _];show ax _ A.in1 (fq (.ref I) >>= _) _ _ s;refine ad (wpAny_pyNext_list_end hh hst hl (by simp) fun h' eb=>?_)
  show ax _ A.in1 (ret ci) _ _ _;have kp:=itk hst fun b o hb e=>eb b o hb e;obtain⟨ms,M⟩:=hM;have hlen:ks.length=items.size:=by have:=bT hp;simpa using this.symm
  rw[bZ (by lia)] at M
  obtain⟨es,ep,t,h1,_⟩:=id M.ex;have hS:=D.obj h1;exact af (hR h' s.toks ms (M.keep (by rw[hS];exact eb S _ hSI hS) kp) kp fun b o _ hb e=>eb b o hb e)
 | succ j ih =>
  intro i s hj hi hst hl hp hM hR;have hlt:i < items.size:=by lia
  refine bJ cO ?_;rw[bo bL _];show ax _ A.in1 (fq (.ref I) >>= _) _ _ s;refine ad (wpAny_pyNext_list_item hst hl (x:=items[i]) (by simp[hlt]) fun h1 st1 sb1=>?_)
  have kp1:=itk hst fun b o hb e=>(sb1.2 b hb).trans e;obtain⟨ms,M⟩:=hM;obtain⟨es,ep,t,q1,_⟩:=id M.ex;have hS:=D.obj q1;have M1:=M.keep (h':=h1) (by rw[sb1.2 S hSI]) kp1
  have hlen:ks.length=items.size:=by have:=bT hp;simpa using this.symm
  have hki:ks[i]?=some ks[i]:=ag (by lia)
  have hx:D.is s.heap ks[i] items[i]:=by
   have gen:∀ {l:List ae} {m:List κ},a7 (fun v k=>D.is s.heap k v) l m->∀ (n:Nat) (v:ae) (k:κ),l[n]?=some v->m[n]?=some k->D.is s.heap k v:=by
    intro l m hp
    induction hp with
    | nil=>intro n v k h;simp at h
    | cons r _ ih =>
     intro n v k h1 h2;cases n with
     | zero=>simp at h1 h2;subst h1;subst h2;exact r
     | succ n=>exact ih n v k (by simpa using h1) (by simpa using h2)
   exact gen hp i _ _ (by simp[hlt]) hki
  show ax _ A.in1 (eO [items[i]] (setAdd S items[i]) >>= _) _ _ _;refine ad (bB ?_);refine addM D (s:={ s with heap:=h1 }) hu M1 (D.keepIs hx kp1) (by rw[bw];lia) fun h2 tk ms' M2 sb2 kp2 htk=>?_
  have hl2:h2.IsList l items:=by
   obtain⟨o,e,r⟩:=hl;exact⟨o,(sb2.2 l (aZ hSl)).trans ((sb1.2 l hne).trans e),r⟩
  have st2:h2.IsListIter I l (i + 1):=by
   obtain⟨o,e,r⟩:=st1;exact⟨o,(sb2.2 I (aZ hSI)).trans e,r⟩
  refine af ⟨cU bL _,ih (i + 1) _ (by lia) hlt st2 hl2 (L2.Paired.mapP hp fun _ _ q=>D.keepIs q (kp1.trans kp2)) ⟨ms',?_⟩ fun h' tk' ms'' a1 a2 a3=>?_⟩
  ·have et:ks.take (i + 1)=ks.take i++[ks[i]]:=by rw[dJ,hki];rfl
   rw[et];exact M2
  ·exact hR h' tk' ms'' a1 ((kp1.trans kp2).trans a2) fun b o hb1 hb2 e=>a3 b o hb1 hb2 ((sb2.2 b hb1).trans ((sb1.2 b hb2).trans e))
abbrev ledOf (w:aK):Bool:=!(w.params.followText "set-order")
theorem set_newT {A:aQ} {E:ae->ai->Prop} {s:ai} (a:ae) {Q1:ae->ai->Prop}
  (h:Q1 (.ref s.heap.objs.size) { s with heap:=s.heap.push (setOb #[] 0 (.fresh 0 0 (ledOf w))) }) :
  eT (aC prog w) A (.call (.builtin "set.__new__") ⟨[.type "set",a],[]⟩) (wants Q1 E) s:=by
 refine g9 ?_;show ax _ A.in1 (do checkBuiltinCall "set.__new__" ⟨[.type "set",a],[]⟩;again (.builtin "set.__new__" ⟨[.type "set",a],[]⟩)) _ _ s
 refine ad (i9 (PySem.F.newCall_set_1 a) (af ⟨cU j8 _,bJ PySem.F.entry_set_new ?_⟩));rw[bo j8 _];unfold cP.«set.__new__» cP.Frozenset.newClass;have hsub:=sub_set_self;obtain⟨hp,g,d,tk,os⟩:=s;dsimp only
 wp_walk
 refine dZ (af ?_);dsimp only;simp only[newObj];refine ad (wpAny_alloc (af ?_));exact af h
end
section
variable {prog:aD} {w:aK}
theorem call_setK {κ:Type} [DecidableEq κ] (D:SetKd prog w κ) {A:aQ} {E:ae->ai->Prop} {s:ai} {l:Addr} {items:Array ae} {ks:List κ} {Q:ae->ai->Prop}
  (hh:A.handled=none) (hu:A.units + 8 < bK) (hl:s.heap.IsList l items) (hi:a7 (fun v k=>D.is s.heap k v) items.toList ks) (hb:items.size + 1<=300)
  (h:∀ (h':aW) (tk:Nat) ms,Mem D h' s.heap.objs.size ks (ledOf w) ms->TupKeep s.heap h' ->
   (∀ b o,b < s.heap.objs.size->s.heap.get? b=some o->h'.get? b=some o)->Q (.ref s.heap.objs.size) { s with heap:=h',toks:=tk }) :
  ax (aC prog w) A (call (.type "set") [.ref l]) Q E s:=by
 obtain⟨c,tl,hmro⟩:=bf.mro;have hmade:=bf.made;have hsub:=bf.sub;refine wpAny_call (g9 ?_);show ax _ _ (callAny (.type "set") _) _ _ _;refine af ⟨Code.quiet_builtin _ (by decide +kernel),bJ jy ?_⟩
 rw[Around.under_plain (weight_type_call_type "set" [.ref l] []) rfl];have h1:=bf.notType;have h2:=bf.canCreate;have hct:=jT (.ref l)
 repeat (any_goals (first | assumption | wp_step))
 refine eB (set_newT (.ref l) (E:=E) (Q1:=fun obj s1=>obj=.ref s.heap.objs.size/\s1={ s with heap:=s.heap.push (setOb #[] 0 (.fresh 0 0 (ledOf w))) }) ⟨rfl,rfl⟩) fun r s1 hr=>?_
 cases r with
 | error e=>exact hr
 | ok fl =>
  cases fl with
  | ret obj =>
   obtain⟨rfl,rfl⟩:=hr;have hS:(s.heap.push (setOb #[] 0 (.fresh 0 0 (ledOf w)))).get? s.heap.objs.size=some (setOb #[] 0 (.fresh 0 0 (ledOf w))):=aw _ rfl;have hT:ai.TypeIs { s with heap:=s.heap.push (setOb #[] 0 (.fresh 0 0 (ledOf w))) } (.ref s.heap.objs.size) "set":=⟨_,hS,rfl⟩
   have hli:=bf.init.lookup;have hbi:=bf.init.bind (.ref s.heap.objs.size)
   repeat (any_goals (first | assumption | wp_step))
   refine eB (codeAny_call_builtin (R:=wants (fun r s2=>r=.none/\∃ h' tk ms,s2={ s with heap:=h',toks:=tk }/\Mem D h' s.heap.objs.size ks (ledOf w) ms/\TupKeep s.heap h' /\
     (∀ b o,b < s.heap.objs.size->s.heap.get? b=some o->h'.get? b=some o)) E) bf.init.plain jU (check_set_init_1 hT ?_)) fun r2 s2 hr2=>?_
   ·obtain⟨ol,hol,hcl,nl,hdl⟩:=hl;obtain⟨ocls,odict,odata,oslots⟩:=ol;simp only at hcl hdl;subst hcl;subst hdl;have hol':(s.heap.push (setOb #[] 0 (.fresh 0 0 (ledOf w)))).get? l=some { cls:=.type "list",dict:=odict,data:=.seq items nl,slots:=oslots }:=ah _ hol;have hsls:=PySem.F.sub_list_set;have hslf:=PySem.F.sub_list_frozenset;have hne:(cE "list" == cE "dict")=false:=by decide
    have hl1:(s.heap.push (setOb #[] 0 (.fresh 0 0 (ledOf w)))).IsList l items:=⟨_,hol',rfl,nl,rfl⟩;unfold cP.«set.__init__» noKeywords hU;generalize hPI:je=PI;unfold setOb at *
    wp_walk
    subst hPI;refine gy hl1 ?_;refine ad (wpAny_runValue ?_);have hlS:l < s.heap.objs.size:=ay hol;have hh3:A.in1.in1.in1.handled=none:=by simp[hh]
    have hu3:A.in1.in1.in1.units < bK:=by show A.units + 1 + 1 + 1 < bK;lia
    have hneI:l≠(s.heap.push { cls:=.type "set",dict:=none,data:=.set #[] 0 (.fresh 0 0 (ledOf w)) }).objs.size:=by
     rw[bR];exact aH (cS hlS)
    have hSI:s.heap.objs.size≠(s.heap.push { cls:=.type "set",dict:=none,data:=.set #[] 0 (.fresh 0 0 (ledOf w)) }).objs.size:=by
     rw[bR];exact aH (du _)
    have kp:TupKeep s.heap ((s.heap.push { cls:=.type "set",dict:=none,data:=.set #[] 0 (.fresh 0 0 (ledOf w)) }).push { cls:=.type "list_iterator",data:=.fields #[.ref l,.int 0 0] }):=fun b o e _=>ah _ (ah _ e)
    have hget:((s.heap.push { cls:=.type "set",dict:=none,data:=.set #[] 0 (.fresh 0 0 (ledOf w)) }).push { cls:=.type "list_iterator",data:=.fields #[.ref l,.int 0 0] }).get? s.heap.objs.size
       = some (setOb #[] 0 (.fresh 0 0 (ledOf w))):=ah _ hS
    refine set_loop D hh3 hu3 hneI hSI (aZ (aH hlS)) hb (items.size - 0) 0 _ (by lia) (bA _) ⟨_,aw _ rfl,rfl,rfl⟩ (hl1.push _) (L2.Paired.mapP hi fun _ _ q=>D.keepIs q kp)
     ⟨[],⟨⟨#[],0,.fresh 0 0 (ledOf w),D.fresh hget,rfl,.nil⟩,fF,fun k=>by simp⟩⟩ ?hR
    case hR =>
     intro h' tk' ms hM kp' hk';show ax _ _ _ _ _ _;refine af ?_;show ax _ _ (ret ci) _ _ _;refine af ⟨rfl,h',tk',ms,rfl,hM,kp.trans kp',fun b o hb e=>?_⟩;exact hk' b o (aH hb) (by rw[bR];exact aH (cS hb)) (ah _ (ah _ e))
   ·cases r2 with
    | error e=>exact hr2
    | ok fl2 =>
     cases fl2 with
     | ret r =>
      obtain⟨rfl,h',tk,ms,rfl,hM,kp',hk'⟩:=hr2
      repeat (any_goals (first | assumption | wp_step))
      exact h _ _ _ hM kp' hk'
     | _=>exact hr2.elim
  | _=>exact hr.elim
end
section
variable {prog:aD} {w:aK}
theorem set_loopT {κ:Type} [DecidableEq κ] (D:SetKd prog w κ) {A:aQ} {R:Result->ai->Prop} {I S l:Addr} {items:Array ae} {ks:List κ} {led:Bool} (hh:A.in1.handled=none) (hu:A.in1.units < bK) (hne:l≠I) (hSI:S≠I) (hSl:S≠l) (hn:items.size + 1<=300) :
  ∀ (j i:Nat) (s:ai),items.size - i=j->i<=items.size->s.heap.IsTupleIter I l i->s.heap.IsTuple l items->a7 (fun v k=>D.is s.heap k v) items.toList ks->(∃ ms,Mem D s.heap S (ks.take i) led ms) ->
   (∀ h' tk ms,Mem D h' S ks led ms->TupKeep s.heap h'->(∀ b o,b≠S->b≠I->s.heap.get? b=some o->h'.get? b=some o)->R (.ok (.ret .none)) { s with heap:=h',toks:=tk }) ->
   eT (aC prog w) A (.builtin "set.update.loop" ⟨[.ref S,.ref I],[]⟩) R s:=by
 have itk:∀ {h h':aW} {i:Nat},h.IsTupleIter I l i->(∀ b o,b≠I->h.get? b=some o->h'.get? b=some o)->TupKeep h h':=fun st k b o e c=>k b o (by
  rintro rfl;obtain⟨o',e',c',_⟩:=st;rw[e] at e';cases e';rw[c] at c';injection c' with c''
  exact absurd c'' (by decide)) e
 intro j
 induction j with
 | zero =>
  intro i s hj hi hst hl hp hM hR;have hin:i=items.size:=by lia
  subst hin;refine bJ cO ?_;rw[bo bL _];show ax _ A.in1 (fq (.ref I) >>= _) _ _ s;refine ad (wpAny_pyNext_tuple_end hh hst hl (by simp) fun h' eb=>?_)
  show ax _ A.in1 (ret ci) _ _ _;have kp:=itk hst fun b o hb e=>eb b o hb e;obtain⟨ms,M⟩:=hM;have hlen:ks.length=items.size:=by have:=bT hp;simpa using this.symm
  rw[bZ (by lia)] at M
  obtain⟨es,ep,t,h1,_⟩:=id M.ex;have hS:=D.obj h1;exact af (hR h' s.toks ms (M.keep (by rw[hS];exact eb S _ hSI hS) kp) kp fun b o _ hb e=>eb b o hb e)
 | succ j ih =>
  intro i s hj hi hst hl hp hM hR;have hlt:i < items.size:=by lia
  refine bJ cO ?_;rw[bo bL _];show ax _ A.in1 (fq (.ref I) >>= _) _ _ s;refine ad (wpAny_pyNext_tuple_item hst hl (x:=items[i]) (by simp[hlt]) fun h1 st1 sb1=>?_)
  have kp1:=itk hst fun b o hb e=>(sb1.2 b hb).trans e;obtain⟨ms,M⟩:=hM;obtain⟨es,ep,t,q1,_⟩:=id M.ex;have hS:=D.obj q1;have M1:=M.keep (h':=h1) (by rw[sb1.2 S hSI]) kp1
  have hlen:ks.length=items.size:=by have:=bT hp;simpa using this.symm
  have hki:ks[i]?=some ks[i]:=ag (by lia)
  have hx:D.is s.heap ks[i] items[i]:=by
   have gen:∀ {l:List ae} {m:List κ},a7 (fun v k=>D.is s.heap k v) l m->∀ (n:Nat) (v:ae) (k:κ),l[n]?=some v->m[n]?=some k->D.is s.heap k v:=by
    intro l m hp
    induction hp with
    | nil=>intro n v k h;simp at h
    | cons r _ ih =>
     intro n v k h1 h2;cases n with
     | zero=>simp at h1 h2;subst h1;subst h2;exact r
     | succ n=>exact ih n v k (by simpa using h1) (by simpa using h2)
   exact gen hp i _ _ (by simp[hlt]) hki
  show ax _ A.in1 (eO [items[i]] (setAdd S items[i]) >>= _) _ _ _;refine ad (bB ?_);refine addM D (s:={ s with heap:=h1 }) hu M1 (D.keepIs hx kp1) (by rw[bw];lia) fun h2 tk ms' M2 sb2 kp2 htk=>?_
  have hl2:h2.IsTuple l items:=by
   obtain⟨o,e,r⟩:=hl;exact⟨o,(sb2.2 l (aZ hSl)).trans ((sb1.2 l hne).trans e),r⟩
  have st2:h2.IsTupleIter I l (i + 1):=by
   obtain⟨o,e,r⟩:=st1;exact⟨o,(sb2.2 I (aZ hSI)).trans e,r⟩
  refine af ⟨cU bL _,ih (i + 1) _ (by lia) hlt st2 hl2 (L2.Paired.mapP hp fun _ _ q=>D.keepIs q (kp1.trans kp2)) ⟨ms',?_⟩ fun h' tk' ms'' a1 a2 a3=>?_⟩
  ·have et:ks.take (i + 1)=ks.take i++[ks[i]]:=by rw[dJ,hki];rfl
   rw[et];exact M2
  ·exact hR h' tk' ms'' a1 ((kp1.trans kp2).trans a2) fun b o hb1 hb2 e=>a3 b o hb1 hb2 ((sb2.2 b hb1).trans ((sb1.2 b hb2).trans e))
theorem call_setT {κ:Type} [DecidableEq κ] (D:SetKd prog w κ) {A:aQ} {E:ae->ai->Prop} {s:ai} {l:Addr} {items:Array ae} {ks:List κ} {Q:ae->ai->Prop}
  (hh:A.handled=none) (hu:A.units + 8 < bK) (hl:s.heap.IsTuple l items) (hi:a7 (fun v k=>D.is s.heap k v) items.toList ks) (hb:items.size + 1<=300)
  (h:∀ (h':aW) (tk:Nat) ms,Mem D h' s.heap.objs.size ks (ledOf w) ms->TupKeep s.heap h' ->
   (∀ b o,b < s.heap.objs.size->s.heap.get? b=some o->h'.get? b=some o)->Q (.ref s.heap.objs.size) { s with heap:=h',toks:=tk }) :
  ax (aC prog w) A (call (.type "set") [.ref l]) Q E s:=by
 obtain⟨c,tl,hmro⟩:=bf.mro;have hmade:=bf.made;have hsub:=bf.sub;refine wpAny_call (g9 ?_);show ax _ _ (callAny (.type "set") _) _ _ _;refine af ⟨Code.quiet_builtin _ (by decide +kernel),bJ jy ?_⟩
 rw[Around.under_plain (weight_type_call_type "set" [.ref l] []) rfl];have h1:=bf.notType;have h2:=bf.canCreate;have hct:=jT (.ref l)
 repeat (any_goals (first | assumption | wp_step))
 refine eB (set_newT (.ref l) (E:=E) (Q1:=fun obj s1=>obj=.ref s.heap.objs.size/\s1={ s with heap:=s.heap.push (setOb #[] 0 (.fresh 0 0 (ledOf w))) }) ⟨rfl,rfl⟩) fun r s1 hr=>?_
 cases r with
 | error e=>exact hr
 | ok fl =>
  cases fl with
  | ret obj =>
   obtain⟨rfl,rfl⟩:=hr;have hS:(s.heap.push (setOb #[] 0 (.fresh 0 0 (ledOf w)))).get? s.heap.objs.size=some (setOb #[] 0 (.fresh 0 0 (ledOf w))):=aw _ rfl;have hT:ai.TypeIs { s with heap:=s.heap.push (setOb #[] 0 (.fresh 0 0 (ledOf w))) } (.ref s.heap.objs.size) "set":=⟨_,hS,rfl⟩
   have hli:=bf.init.lookup;have hbi:=bf.init.bind (.ref s.heap.objs.size)
   repeat (any_goals (first | assumption | wp_step))
   refine eB (codeAny_call_builtin (R:=wants (fun r s2=>r=.none/\∃ h' tk ms,s2={ s with heap:=h',toks:=tk }/\Mem D h' s.heap.objs.size ks (ledOf w) ms/\TupKeep s.heap h' /\
     (∀ b o,b < s.heap.objs.size->s.heap.get? b=some o->h'.get? b=some o)) E) bf.init.plain jU (check_set_init_1 hT ?_)) fun r2 s2 hr2=>?_
   ·obtain⟨ol,hol,hcl,nl,hdl⟩:=hl;obtain⟨ocls,odict,odata,oslots⟩:=ol;simp only at hcl hdl;subst hcl;subst hdl;have hol':(s.heap.push (setOb #[] 0 (.fresh 0 0 (ledOf w)))).get? l=some { cls:=.type "tuple",dict:=odict,data:=.seq items nl,slots:=oslots }:=ah _ hol;have hsls:=PySem.F.sub_tuple_set;have hslf:=PySem.F.sub_tuple_frozenset;have hne:(cE "tuple" == cE "dict")=false:=by decide
    have hl1:(s.heap.push (setOb #[] 0 (.fresh 0 0 (ledOf w)))).IsTuple l items:=⟨_,hol',rfl,nl,rfl⟩;unfold cP.«set.__init__» noKeywords hU;generalize hPI:je=PI;unfold setOb at *
    wp_walk
    subst hPI;refine eX hl1 ?_;refine ad (wpAny_runValue ?_);have hlS:l < s.heap.objs.size:=ay hol;have hh3:A.in1.in1.in1.handled=none:=by simp[hh]
    have hu3:A.in1.in1.in1.units < bK:=by show A.units + 1 + 1 + 1 < bK;lia
    have hneI:l≠(s.heap.push { cls:=.type "set",dict:=none,data:=.set #[] 0 (.fresh 0 0 (ledOf w)) }).objs.size:=by
     rw[bR];exact aH (cS hlS)
    have hSI:s.heap.objs.size≠(s.heap.push { cls:=.type "set",dict:=none,data:=.set #[] 0 (.fresh 0 0 (ledOf w)) }).objs.size:=by
     rw[bR];exact aH (du _)
    have kp:TupKeep s.heap ((s.heap.push { cls:=.type "set",dict:=none,data:=.set #[] 0 (.fresh 0 0 (ledOf w)) }).push { cls:=.type "tuple_iterator",data:=.fields #[.ref l,.int 0 0] }):=fun b o e _=>ah _ (ah _ e)
    have hget:((s.heap.push { cls:=.type "set",dict:=none,data:=.set #[] 0 (.fresh 0 0 (ledOf w)) }).push { cls:=.type "tuple_iterator",data:=.fields #[.ref l,.int 0 0] }).get? s.heap.objs.size
       = some (setOb #[] 0 (.fresh 0 0 (ledOf w))):=ah _ hS
    refine set_loopT D hh3 hu3 hneI hSI (aZ (aH hlS)) hb (items.size - 0) 0 _ (by lia) (bA _) ⟨_,aw _ rfl,rfl,rfl⟩ (hl1.push _) (L2.Paired.mapP hi fun _ _ q=>D.keepIs q kp)
     ⟨[],⟨⟨#[],0,.fresh 0 0 (ledOf w),D.fresh hget,rfl,.nil⟩,fF,fun k=>by simp⟩⟩ ?hR
    case hR =>
     intro h' tk' ms hM kp' hk';show ax _ _ _ _ _ _;refine af ?_;show ax _ _ (ret ci) _ _ _;refine af ⟨rfl,h',tk',ms,rfl,hM,kp.trans kp',fun b o hb e=>?_⟩;exact hk' b o (aH hb) (by rw[bR];exact aH (cS hb)) (ah _ (ah _ e))
   ·cases r2 with
    | error e=>exact hr2
    | ok fl2 =>
     cases fl2 with
     | ret r =>
      obtain⟨rfl,h',tk,ms,rfl,hM,kp',hk'⟩:=hr2
      repeat (any_goals (first | assumption | wp_step))
      exact h _ _ _ hM kp' hk'
     | _=>exact hr2.elim
  | _=>exact hr.elim
end
end ST
namespace L2
open PySem PySem.Spec PyProof.Rows
variable {α β:Type}
theorem bool_at {H:Hp} {xs:List V} {us:List ae} {bs:List Bool} (p:a7 (dB H) xs bs) (r:Vals xs us) {i:Nat} {v:ae} (h:us[i]?=some v):∃ b,bs[i]?=some b/\v=.bool b:=by
 have hl:=r.length;have hi:i < xs.length:=by
  rcases bH i us.length with z | z
  ·lia
  ·rw[br z] at h;cases h
 refine hd fun Gq kq=>?_;obtain⟨b,e,rb⟩:=Paired.get' p (ag hi);refine kq ?_;refine hd fun Gq kq=>?_;obtain⟨u,eu,ru⟩:=r.get (ag hi);refine kq ?_;rw[h] at eu;cases eu;have rb':xs[i]=V.bl b:=rb;rw[rb'] at ru;exact⟨b,e,ru⟩
theorem walk_old {h h':aW} {o:Obj} (hk:∀ b x,b∉[h.objs.size]->(h.push o).get? b=some x->h'.get? b=some x):∀ b x,h.get? b=some x->h'.get? b=some x:=fun b x e =>
 hk b x (fun z=>by have:=az.mp z;subst this;exact cy _ (ay e)) (ah _ e)
theorem range_all' (bs:List Bool):∀ n,n=bs.length->((aP n).all fun i=>(bs[i]?).getD true)=bs.all id:=by
 rintro n rfl;rw[fj,bn,bn];refine⟨fun h b hb=>?_,fun h i hi=>?_⟩
 ·obtain⟨i,hi,rfl⟩:=bV hb
  have:=h i (bj.mpr hi)
  rwa [ag hi] at this
 ·have hi':=bj.mp hi;rw[ag hi'];exact h _ (d0 hi')
section
variable {X:Cx}
theorem call_allD (hc:X.calm=true):CallR X (.builtin "all") (fun xs H Q=>∃ x bs,xs=[x]/\dL X.K dB H x bs/\Q (.bl (bs.all id)) H):=by
 intro pins s σ H xs us Q I r h;obtain⟨x,bs,rfl,⟨a,ys,rfl,hq,p⟩,q⟩:=h;obtain⟨u,rfl,rx⟩:=vals1 r;cases rx;refine hd fun Gq kq=>?_;obtain⟨its,ri,pl,_⟩:=I.list hq;refine kq ?_;refine hd fun Gq kq=>?_;obtain⟨o,ho,_⟩:=id pl.isList;refine kq ?_;refine PySem.call_all_walk (gy pl.isList ⟨_,_,_,_,_,_,fun i=>(bs[i]?).getD true,rfl,PySem.Walks.list (A:=X.A.in1) (by have:=I.ok.hd hc;simp[this]) _ a (aH (ay ho)) its.toArray,⟨⟨_,aw _ rfl,rfl,rfl⟩,pl.isList.push _⟩,fun i v s' Q' E' hP hQ=>?_,fun h' tk hk=>?_⟩)
 ·obtain⟨b,e,rfl⟩:=bool_at p ri (show its[i]?=some v by simpa using hP)
  simp only[e,Option.getD_some] at hQ;exact c6 hQ
 ·rw[range_all' bs _ (by rw[ak,<- ri.length,p.length])]
  exact⟨.bl _,H,I.kept (t':=tk) (walk_old hk),rfl,q⟩
def szO (a:Addr) (n:Nat):HO:=.ext fun h=>∃ es ep t,h.get? a=some (ST.setOb es ep t)/\t.fits es.size=true/\es.size=n
def SzOk (ds:List α) (n:Nat):Prop:=n<=ds.length/\(n=ds.length↔ds.Nodup)
theorem nodup_of_len [DecidableEq α]:∀ (ds ms:List α),ms.Nodup->ms ⊆ ds->ds.length<=ms.length->ds.Nodup
 | [],_,_,_,_=>fF
 | x::xs,ms,nd,sub,le=>by
  have hx:x∉xs:=fun hx=>by
   have:ms ⊆ xs:=fun k hk=>by
    rcases aA.mp (sub hk) with rfl | z
    ·exact hx
    ·exact z
   have:=nd.length_le_of_subset this
   simp only[aE] at le;lia
  refine bX.mpr ⟨hx,nodup_of_len xs (ms.erase x) (nd.erase x) (fun k hk=>?_) ?_⟩
  ·have hk':=(List.Nodup.mem_erase_iff nd).mp hk;exact(aA.mp (sub hk'.2)).resolve_left hk'.1
  ·simp only[aE] at le
   have:=List.length_erase (a:=x) (l:=ms)
   split at this <;> lia
theorem szOk_of [DecidableEq α] {ds ms:List α} (nd:ms.Nodup) (h:∀ k,k∈ms↔k∈ds):SzOk ds ms.length:=by
 have sub:ms ⊆ ds:=fun k hk=>(h k).mp hk;have le:ms.length<=ds.length:=nd.length_le_of_subset sub;refine⟨le,fun e=>?_,fun nd'=>Nat.le_antisymm le (nd'.length_le_of_subset fun k hk=>(h k).mpr hk)⟩;exact nodup_of_len ds ms nd sub (by lia)
theorem tk_of {P:aD} {w:aK} {h:aW} {H:Hp} {K:Fg} {b:Addr} {xs:List V} {its:List ae} {k:List Str} (p:a7 (dS H) xs k) (r:Vals xs its) (t:gX h b its.toArray):ST.TK P w h k (.ref b):=by
 refine hd fun Gq kq=>?_;obtain⟨o,ho,hc,n,hd⟩:=t;refine kq ?_;refine⟨b,rfl,o,its.toArray,n,ho,hc,hd,?_⟩;show ItemsAre (fo P w) k its;have go:∀ {xs:List V} {its:List ae} {k:List Str},a7 (dS H) xs k->Vals xs its->ItemsAre (fo P w) k its:=by
  intro xs its k p r
  induction p generalizing its with
  | nil=>cases r;first | exact trivial | exact .nil
  | cons e _ ih =>
   cases r with
   | cons r t =>
    cases e;obtain⟨tk,rfl⟩:=r
    first
     | exact⟨by simp[fo,jd],ih t⟩
     | exact .cons (by simp[fo,jd]) (ih t)
 exact go p r
theorem keyed {P:aD} {w:aK} {pins:List (Addr × Obj)} {σ:St} {H:Hp} {s:ai} (I:Inv X pins σ H s):∀ {xs:List V} {us:List ae} {ds:List (List Str)},a7 (dT X.K dS H) xs ds->Vals xs us->a7 (fun v k=>ST.TK P w s.heap k v) us ds
 | _,_,_,.nil,.nil=>.nil
 | _,_,_,.cons p q,.cons r t=>by
  refine .cons ?_ (keyed I q t);obtain⟨b,ys,rfl,hq,pp⟩:=p;cases r;refine hd fun Gq kq=>?_;obtain⟨its,ri,tp,_⟩:=I.tuple hq;refine kq ?_;exact tk_of (K:=X.K) pp ri tp
theorem texted {P:aD} {w:aK} {H:Hp} {h:aW}:∀ {xs:List V} {us:List ae} {ds:List Str},a7 (dS H) xs ds->Vals xs us->a7 (fun v k=>(ST.strKd P w).is h k v) us ds
 | _,_,_,.nil,.nil=>.nil
 | _,_,_,.cons p q,.cons r t=>by
  refine .cons ?_ (texted q t);cases p;obtain⟨tk,rfl⟩:=r;exact(fun b=>(by simp[fo,jd]:(fo P w).is b (iA b tk)=true)) _
theorem sz_fin {κ:Type} [DecidableEq κ] {pins:List (Addr × Obj)} {σ:St} {H:Hp} {s:ai} {Q:VK} {D:ST.SetKd X.prog X.w κ} {ds:List κ} (I:Inv X pins σ H s) (q:∀ p n,H p=none->SzOk ds n->Q (.ref p) (upd H p (szO p n))) {h':aW} {tk:Nat} {ms:List κ} {led:Bool} (M:ST.Mem D h' s.heap.objs.size ds led ms)
  (hk:∀ b o,b < s.heap.objs.size->s.heap.get? b=some o->h'.get? b=some o):EP X pins σ Q (.ref s.heap.objs.size) { s with heap:=h',toks:=tk }:=by
 refine hd fun Gq kq=>?_;obtain⟨es,ep,t,hI,_,hp⟩:=M.ex;refine kq ?_;have hl:es.size=ms.length:=by have:=bT hp;simpa using this
 refine⟨.ref s.heap.objs.size,_,I.laid (t':=tk) (o:=szO s.heap.objs.size ms.length) (fun b o e=>hk b o (ay e) e) (ar _) ?_,rfl,q _ _ (I.hok.fresh (ar _)) (szOk_of M.nd M.mem)⟩;refine⟨⟨es,ep,t,D.obj hI,D.fits hI,hl⟩,⟨_,D.obj hI⟩,?_⟩;intro h1 h2 zq k;refine hd fun Gq kq=>?_;obtain⟨es',ep',t',g,f,z⟩:=zq;refine kq ?_;exact⟨es',ep',t',k _ g,f,z⟩
theorem call_setTT (hc:X.calm=true) (hu:X.A.units + 8 < bK):CallR X (.type "set") (fun xs H Q=>∃ x ds,xs=[x]/\dT X.K (dT X.K dS) H x ds/\ds.length + 1<=300/\∀ p n,H p=none->SzOk ds n->Q (.ref p) (upd H p (szO p n))):=by
 intro pins s σ H xs us Q I r h;obtain⟨x,ds,rfl,⟨a,ys,rfl,hq,p⟩,hn,q⟩:=h;obtain⟨u,rfl,rx⟩:=vals1 r;cases rx;refine hd fun Gq kq=>?_;obtain⟨its,ri,pl,_⟩:=I.tuple hq;refine kq ?_;exact ST.call_setT (ST.tupKd X.prog X.w) (I.ok.hd hc) hu pl (keyed I p ri) (by rw[ak,<- ri.length,p.length];exact hn) fun h' tk ms M _ hk=>sz_fin I q M hk
theorem call_setLS (hc:X.calm=true) (hu:X.A.units + 8 < bK):CallR X (.type "set") (fun xs H Q=>∃ x ds,xs=[x]/\dL X.K dS H x ds/\ds.length + 1<=300/\∀ p n,H p=none->SzOk ds n->Q (.ref p) (upd H p (szO p n))):=by
 intro pins s σ H xs us Q I r h;obtain⟨x,ds,rfl,⟨a,ys,rfl,hq,p⟩,hn,q⟩:=h;obtain⟨u,rfl,rx⟩:=vals1 r;cases rx;refine hd fun Gq kq=>?_;obtain⟨its,ri,pl,_⟩:=I.list hq;refine kq ?_;exact ST.call_setK (ST.strKd X.prog X.w) (I.ok.hd hc) hu pl.isList (texted p ri) (by rw[ak,<- ri.length,p.length];exact hn) fun h' tk ms M _ hk=>sz_fin I q M hk
theorem call_lenZ:CallR X (.builtin "len") (fun xs H Q=>∃ p n,xs=[.ref p]/\H p=some (szO p n)/\n < 1000000/\Q (.int n) H):=by
 intro pins s σ H xs us Q I r h;obtain⟨p,n,rfl,hp,hn,q⟩:=h;obtain⟨u,rfl,rx⟩:=vals1 r;cases rx;refine hd fun Gq kq=>?_;obtain⟨⟨es,ep,t,g,f,z⟩,_⟩:=I.hok p _ hp;refine kq ?_;refine call_len_set g ⟨rfl,rfl,rfl⟩ rfl f (by rw[z];lia) ⟨.int n,H,I.tok _,⟨_,by rw[z]⟩,q⟩
end
end L2
namespace L2
open PySem PySem.Spec PyProof.Rows
section
variable {prog:aD} {w:aK} {A:aQ} {E:ae->ai->Prop} {s:ai}
theorem nx_item {it t:Addr} {i:Nat} {items:Array ae} {x:ae} {Q:ae->ai->Prop} (hit:s.heap.IsTupleIter it t i) (ht:s.heap.IsTuple t items) (hx:items[i]?=some x)
  (hQ:∀ h',h'.IsTupleIter it t (i + 1)->dz it s.heap h'->Q x { s with heap:=h' }):ax (aC prog w) A (iW (.ref it)) Q E s:=by
 obtain⟨o,ho,hc,hd⟩:=id hit;obtain⟨ol,hol,_,nl,hdl⟩:=ht;have ne:¬ ((dr t == ci)=true):=aS;refine ad (cY (name:=aM "__next__") hit.typeIs F.slot_tuple_iterator_next (cZ F.slot_tuple_iterator_next hit.typeIs F.entry_tuple_iterator_next ?_ (F.args_tuple_iterator_next_1 _)));refine ad (m:=field (.ref it) 0) (dY ho hd (x:=.ref t) rfl ?_);refine(if_neg ne).symm ▸ (ad (m:=field (.ref it) 1) (dY ho hd (x:=.int i 0) rfl ?_));refine ad (m:=jz (.ref t)) (dG hol hdl ?_);simp only[bF,hx];refine ad (wpAny_setField ho hd (by simp) (af ⟨x,rfl,af (hQ _ ⟨_,b8 _ ho (Obj.isFreed_of_fields (Obj.data_mapFields hd _)),(Obj.cls_mapFields ..).trans hc,?_⟩ (ce ..))⟩))
 rw[Obj.data_mapFields hd];simp[fD]
theorem nx_end {it t:Addr} {i:Nat} {items:Array ae} {Q:ae->ai->Prop} (hh:A.handled=none) (hit:s.heap.IsTupleIter it t i) (ht:s.heap.IsTuple t items) (hx:items[i]?=none)
  (hE:∀ h' e,aW.ExtBut it s.heap h'->(∃ o,h'.get? e=some o/\o.cls=.type "StopIteration")->E (.ref e) { s with heap:=h' }):ax (aC prog w) A (iW (.ref it)) Q E s:=by
 obtain⟨o,ho,hc,hd⟩:=id hit;obtain⟨ol,hol,_,nl,hdl⟩:=ht;have ne:¬ ((dr t == ci)=true):=aS;refine ad (cY (name:=aM "__next__") hit.typeIs F.slot_tuple_iterator_next (cZ F.slot_tuple_iterator_next hit.typeIs F.entry_tuple_iterator_next ?_ (F.args_tuple_iterator_next_1 _)));refine ad (m:=field (.ref it) 0) (dY ho hd (x:=.ref t) rfl ?_);refine(if_neg ne).symm ▸ (ad (m:=field (.ref it) 1) (dY ho hd (x:=.int i 0) rfl ?_));refine ad (m:=jz (.ref t)) (dG hol hdl ?_);simp only[bF,hx];refine ad (f7 (ad (wpAny_setField ho hd (by simp) (ad (m:=newExc (.type "StopIteration") []) ?_))))
 simp only[newExc,newTuple];refine ad (bh (ad (m:=iO _ _) (i9 (a:=ci) (by first | rfl | (simp only[iO];rfl)) (bh ?_ (by size_fits)))) (by size_fits))
 simp only[raiseNew];refine ad (wpAny_handled ?_)
 first | rw[show A.in1.handled=none from hh] | rw[hh]
 exact ad (af (wpAny_throw (hE _ _ (((ce ..).extBut.push _).push _) ⟨_,aw _ rfl,rfl⟩)))
theorem draws_tup (hh:A.handled=none) (it l:Addr) (hne:l≠it) (items:Array ae):Draws prog w A it [it,l] items.size (fun i v=>items[i]?=some v) (fun i h=>h.IsTupleIter it l i/\h.IsTuple l items) where
 live:=fun _ _ st=>let ⟨o,ho,_⟩:=st.1;⟨o,ho⟩
 frame:=fun _ _ _ st hk=>⟨let ⟨o,ho,r⟩:=st.1;⟨o,hk it (by simp) o ho,r⟩,let ⟨o,ho,r⟩:=st.2;⟨o,hk l (by simp) o ho,r⟩⟩
 item:=fun i s Q E hi st hQ=>nx_item st.1 st.2 (x:=items[i]) (by simp[hi]) fun h' hit' hs'=>hQ _ h' s.toks (by simp[hi]) ⟨hit',st.2.extBut hs'.extBut hne⟩ hs'
 done:=fun s Q E st hE=>nx_end hh st.1 st.2 (by simp) hE
theorem en_new (l:Addr) (items:Array ae) (n:Nat) (dct:Option Addr) (sl:Array (Option ae)) :
  Meets (cP.«enumerate.__new__» ⟨[.type "enumerate",.ref l],[]⟩) (fun _ R s=>s.heap.get? l=some { cls:=.type "tuple",dict:=dct,data:=.seq items n,slots:=sl } /\
   R (.ok (.ret (.ref (s.heap.push { cls:=.type "tuple_iterator",data:=.fields #[.ref l,.int 0 0] }).objs.size)))
    { s with heap:=(s.heap.push { cls:=.type "tuple_iterator",data:=.fields #[.ref l,.int 0 0] }).push { cls:=.type "enumerate",data:=.fields #[.none,.bool false,.ref s.heap.objs.size,fD 0,.none,.none] } }) :=
 .of_wp fun prog w A R s h=>by
  obtain⟨hp,g,d,tk,os⟩:=s;obtain⟨hl,h⟩:=h;have hsub:=sub_enumerate;have hT:aW.IsTuple (ai.heap ⟨hp,g,d,tk,os⟩) l items:=⟨_,hl,rfl,n,rfl⟩
  wp_walk using bc hl
  refine wpAny_stack_any fun st=>af ?_
  split
  ·rename_i c _ _ _ _ _;cases (c == cE "enumerate") <;>
   ·wp_walk using bc hl,eX hT
    exact⟨_,rfl,h⟩
  ·wp_walk using bc hl,eX hT
   exact⟨_,rfl,h⟩
theorem call_en {l:Addr} {items:Array ae} {Q:ae->ai->Prop} (hT:s.heap.IsTuple l items)
  (h:∀ h',IsEnum h' (s.heap.objs.size + 1) s.heap.objs.size 0 .none->h'.IsTupleIter s.heap.objs.size l 0->(∀ b o,s.heap.get? b=some o->h'.get? b=some o)->Q (.ref (s.heap.objs.size + 1)) { s with heap:=h' }) :
  ax (aC prog w) A (call (.type "enumerate") [.ref l]) Q E s:=by
 obtain⟨⟨c,dct,dt,sl⟩,hl,hc,n,hd⟩:=hT;replace hc:c=.type "tuple":=hc;replace hd:dt=.seq items n:=hd;subst hc hd;refine callType_new F.called_enumerate (by decide) (F.typeCall_enumerate_1 _) (F.newCall_enumerate_1 _) (fun obj=>F.args_object_init_2 obj _) F.entry_enumerate_new (en_new l items n dct sl) ⟨hl,?_⟩
 generalize ho:({ cls:=.type "tuple_iterator",data:=.fields #[.ref l,.int 0 0] }:Obj)=o1;have hz:(s.heap.push o1).objs.size=s.heap.objs.size + 1:=bR ..;have he:=aw (s.heap.push o1) (o:={ cls:=.type "enumerate",data:=.fields #[.none,.bool false,.ref s.heap.objs.size,fD 0,.none,.none] }) rfl;have hi:(s.heap.push o1).get? s.heap.objs.size=some o1:=aw _ (by rw[<- ho];rfl)
 show _/\_;rw[hz] at he ⊢;exact⟨⟨_,he,rfl⟩,h _ he ⟨o1,ah _ hi,by rw[<- ho],by rw[<- ho];rfl⟩ fun b o x=>ah _ (ah _ x)⟩
end
def Ite (K:Fg) (a:Addr):It:=⟨fun i H=>∃ xs x,SqT K H a xs/\xs[i]?=some x,fun i H x H'=>∃ p y,H p=none/\x=.ref p/\H'=upd H p (.tup [.int i,y])/\∀ xs,SqT K H a xs->xs[i]?=some y,fun i H=>∃ xs,SqT K H a xs/\xs.length<=i⟩
theorem turn_en {P:aD} {w:aK} {K:Fg} {elts:List Expr} {x1:Nat} {pos:Pos} (a it e:Addr) (hei:e≠it) (hae:a≠e) (hai:a≠it):Turn P w K (.Tuple elts x1 pos) (Ite K a) [e,it] e (fun i h=>(∃ old,IsEnum h e it i old)/\h.IsTupleIter it a i) where
 mem:=by simp
 obj:=fun i h st b hb=>by
  obtain⟨⟨old,he⟩,o,ho,hc,hd⟩:=st;rcases aA.mp hb with rfl | hb
  ·exact⟨_,he,fun v z=>by cases z⟩
  ·have:=az.mp hb
   subst this;exact⟨o,ho,fun v z=>by rw[hd] at z;cases z⟩
 keep:=fun i h h' st k=>by
  obtain⟨⟨old,he⟩,o,ho,r⟩:=st;exact⟨⟨old,k e (by simp) _ he⟩,o,k it (by simp) _ ho,r⟩
 item:=by
  intro X hP hw hK hc i pins s σ H E I hf st hg;subst hP hw hK;obtain⟨xs,x,hq,hx⟩:=hg;obtain⟨its,rv,p,hz⟩:=I.tuple hq;obtain⟨u,hu,ru⟩:=rv.get hx;obtain⟨⟨old,he⟩,st2⟩:=st;have hi:i < its.toArray.size:=by
   rcases bH i its.toArray.size with z | z
   ·exact z
   ·rw[ak] at z;rw[br z] at hu;cases hu
  have hh:X.A.in1.handled=none:=by have:=I.ok.hd hc;simp[this]
  have hT:s.heap.IsTuple a its.toArray:=p;refine wpAny_pyNext_enum_itemD (draws_tup hh it a hai its.toArray) he ⟨st2,hT⟩ hi hei (by simp;exact⟨hei,fun z=>hae z.symm⟩) fun y h' tk hy ho hs' hT' hsz hk=>⟨_,rfl,?_⟩
  have hy':y=u:=by
   have:its[i]?=some y:=by simpa using hy
   rw[hu] at this;exact(aJ this).symm
  subst hy';refine wpAny_letOwnedTupleGo_enum ho fun h2 he2 hs2=>?_;have fe:=hf e (by simp)
  have fi:=hf it (by simp)
  have kk:∀ b o,b≠e->b≠it->s.heap.get? b=some o->h2.get? b=some o:=fun b o n1 n2 g=>(hs2.2 b n1).trans (hk b o n1 n2 g);have hel:e < s.heap.objs.size:=ay he;have hfresh:H s.heap.objs.size=none:=I.hok.fresh (ar _);have nT:∀ b o,s.heap.get? b=some o->b≠s.heap.objs.size:=fun b o g=>aH (ay g);have nH:∀ b u,H b=some u->b≠e/\b≠it:=fun b u g=>⟨fun z=>(by rw[z,fe.1] at g;cases g),fun z=>(by rw[z,fi.1] at g;cases g)⟩
  have tupT:h2.get? s.heap.objs.size=some { cls:=.type "tuple",data:=.seq #[.int i tk,y] }:=(hs2.2 _ (ip hel)).trans hT';have hok:HOk X.prog X.w (upd H s.heap.objs.size (.tup [.int i,x])) h2:=fun b ob g=>by
   by_cases hb:b=s.heap.objs.size
   ·subst hb;rw[upd_same] at g;cases g;refine⟨by rw[bu];show 2<=_;decide,[.int i tk,y],.cons ⟨tk,rfl⟩ (.cons ru .nil),⟨_,tupT,rfl,0,rfl⟩,fun o e=>by rw[tupT] at e;cases e;rfl⟩
   ·rw[upd_ne hb] at g;refine(I.hok b ob g).stay (fun c w' hc' q=>?_) (fun c q=>?_) fun c ys q=>?_
    ·rcases hc' with rfl | hc'
     ·exact kk _ _ (nH _ _ g).1 (nH _ _ g).2 q
     ·exact kk _ _ (nH _ _ hc').1 (nH _ _ hc').2 q
    ·rw[upd_ne (ne_of_none q hfresh)];exact q
    ·rw[upd_ne (ne_of_none q hfresh)];exact q
  have un:Un (frs X.stack) [e,it] H (upd H s.heap.objs.size (.tup [.int i,x])) s.heap h2:=by
   have ab:∀ {b:Addr},b∉[e,it]->b≠e/\b≠it:=fun hb=>⟨fun z=>hb (by simp[z]),fun z=>hb (by simp[z])⟩
   exact⟨fun b o g _ _ hb=>kk b o (ab hb).1 (ab hb).2 g,fun b o g _ _ hb=>⟨o.slots,kk b o (ab hb).1 (ab hb).2 g⟩,fun b o g n _=>by rw[upd_ne (nT b o g)];exact n,fun b o g hb=>⟨o,kk b o (ab hb).1 (ab hb).2 g⟩,
    fun b ys g=>by rw[upd_ne (ne_of_none g hfresh)];exact g,fun b o v g=>by rw[upd_ne (ne_of_none g hfresh)];exact g,fun b ps g=>⟨#[],by rw[upd_ne (ne_of_none g hfresh),g];simp⟩⟩
  have I2:Inv X pins σ (upd H s.heap.objs.size (.tup [.int i,x])) { s with heap:=h2,toks:=tk + 1 }:=I.call' (s':={ s with heap:=h2,toks:=tk + 1 }) rfl un hok I.bare fun b hb=>by
   rcases aA.mp hb with rfl | hb
   ·exact⟨fe.2.2.2.1,fe.2.1,fe.2.2.2.2.1,fe.2.2.2.2.2⟩
   ·have:=az.mp hb
    subst this;exact⟨fi.2.2.2.1,fi.2.1,fi.2.2.2.2.1,fi.2.2.2.2.2⟩
  refine⟨.ref s.heap.objs.size,_,I2,rfl,⟨_,x,hfresh,rfl,rfl,fun ys hy=>by rw[I.tuple_inj hy hq];exact hx⟩,⟨⟨_,by simpa using he2⟩,?_⟩,fun b hb=>?_⟩
  ·obtain⟨o,g,r⟩:=hs'.1;exact⟨o,(hs2.2 it (aZ hei)).trans g,r⟩
  ·have hb':b < s.heap.objs.size:=by
    rcases aA.mp hb with rfl | hb
    ·exact hel
    ·have:=az.mp hb
     subst this;obtain⟨o,g,_⟩:=st2;exact ay g
   rw[upd_ne (aH hb')];exact(hf b hb).1
 done:=by
  intro X hP hw hK hc i pins s σ H E I hf st hg;subst hP hw hK;obtain⟨xs,hq,hx⟩:=hg;obtain⟨its,rv,p,hz⟩:=I.tuple hq;obtain⟨⟨old,he⟩,st2⟩:=st;have hl:=rv.length;have hh:X.A.in1.handled=none:=by have:=I.ok.hd hc;simp[this]
  have hT:s.heap.IsTuple a its.toArray:=p;obtain⟨f0,f1,f2,f3,f4,f5⟩:=hf it (by simp)
  have hT2:s.TypeIs (.ref e) "enumerate":=⟨_,he,rfl⟩;unfold fq;refine ad (wpAny_attempt (cY (name:=aM "__next__") hT2 F.slot_enumerate_next (cZ F.slot_enumerate_next hT2 F.entry_enumerate_next ?_ (F.args_enumerate_next_1 _))));refine ad (m:=field (.ref e) 2) (dY he rfl (x:=.ref it) rfl (ad (nx_end hh st2 hT (by simp;lia) fun h' x he' hx'=>?_)))
  obtain⟨o,ho,hc'⟩:=hx';refine ad (jA (T := "StopIteration") (b:=true) ⟨o,ho,hc'⟩ isSubtype_stop ?_);exact af ⟨rfl,I.turned (t':=s.toks) (fun b o hb g=>he' b o hb g) f0 f1 f3 f4 f5⟩
 self:=fun A i s Q E st h=>by
  obtain⟨⟨old,he⟩,_⟩:=st;exact wpAny_pyIter_enum he h
section
variable {X:Cx}
def iEnT (K:Fg) (ta:TA):TI:=fun σ H R=>ta σ H fun vs H1=>∃ a,vs=[.ref a]/\(∃ xs,SqT K H1 a xs)/\R (Ite K a) H1
theorem pi_en {e:Expr} {ta:TA} {p pos:Pos} {elts:List Expr} {x1:Nat} {tpos:Pos} (hg:Gl X "enumerate") (hm:X.mg "enumerate" = none) (ha:PA X [e] ta) (hs:au [e] X.env=[(false,eval e X.env)]:=by rfl) :
  PI X (.Tuple elts x1 tpos) (.Call (.Name "enumerate" p) [e] [] pos) (iEnT X.K ta):=by
 intro pins s σ H R I h;refine Call_ (ld_blt I hg hm PyProof.Rows.boot_enumerate (dR (thn (ha pos pins s σ H _ I h) fun us s1 ⟨vs,H1,I1,r1,q1⟩=>?_) hs rfl));obtain⟨a,rfl,⟨xs,hq⟩,q⟩:=q1;obtain⟨u,rfl,rx⟩:=vals1 r1;cases rx;obtain⟨its,rv,pl,hz⟩:=I1.tuple hq;have hal:a < s1.heap.objs.size:=by obtain⟨o,e,_⟩:=id pl;exact ay e
 refine call_en (show s1.heap.IsTuple a its.toArray from pl) fun h' he hi hk=>wpAny_pyIter_enum he ?_
 refine⟨s1.heap.objs.size + 1,[s1.heap.objs.size + 1,s1.heap.objs.size],_,_,H1,rfl,I1.kept (t':=s1.toks) hk,turn_en a s1.heap.objs.size (s1.heap.objs.size + 1) (Nat.succ_ne_self _) (aH (cS hal)) (aH hal),⟨⟨_,he⟩,hi⟩,fun b hb=>?_,q⟩;rcases aA.mp hb with rfl | hb
 ·exact I1.fpOk (dE _) (I1.hok.fresh (dE _))
 ·have:=az.mp hb
  subst this;exact I1.fpOk (ar _) (I1.hok.fresh (ar _))
end
end L2
namespace HT
open PySem PyProof.Rows
def ltS (a b:Str):Bool:=decide (a.cps.toList < b.cps.toList)
def lexS:List Str->List Str->Bool
 | [],[]=>false
 | [],_::_=>true
 | _::_,[]=>false
 | x::xs,y::ys=>if x=y then lexS xs ys else ltS x y
theorem lexS_cons (x y:Str) (xs ys:List Str):lexS (x::xs) (y::ys)=if x=y then lexS xs ys else ltS x y:=rfl
theorem lexS_nil_nil:lexS [] []=false:=rfl
theorem lexS_nil_cons (y:Str) (ys:List Str):lexS [] (y::ys)=true:=rfl
theorem lexS_cons_nil (x:Str) (xs:List Str):lexS (x::xs) []=false:=rfl
abbrev SAre:List ae->List Str->Prop:=a7 fun v x=>∃ t,v=.str x t
theorem SAre.len {l:List ae} {m:List Str} (h:SAre l m):l.length=m.length:=bT h
theorem eqAt_st (A:aQ) (s:ai) (a:Str) (t:Tok) (c:Str) (u:Tok):∃ e,cA A s (.str a t) (.str c u) e/\(e=true↔a=c) :=
 ⟨(a == c),iP a t c u,by simp⟩
theorem rcLt_st (A:aQ) (s:ai) (a:Str) (t:Tok) (c:Str) (u:Tok) (prog:aD) (w:aK) (E:ae->ai->Prop) (Q:ae->ai->Prop) (h:Q (.bool (ltS a c)) s) :
  ax (aC prog w) A (richCompare .Lt (.str a t) (.str c u)) Q E s :=
 (kj h:ax (aC prog w) A (bE .Lt (.str a t) (.str c u)) Q E s)
section
open PySem.SeqAt
open PySem.AutoSeq1 (wpAny_loadPart')
open PySem.MeetsSeq PySem.MeetsSeq2 PySem.MeetsSeq3
theorem tuple_lt_strs (l b:Addr) (items items2:Array ae) (n n2:Nat) (dd dd2:Option Addr) (sl sl2:Array (Option ae)) (ns ms:List Str) (hi:SAre items.toList ns) (hj:SAre items2.toList ms) :
  Meets (cP.«tuple.__lt__» ⟨[.ref l,.ref b],[]⟩)
   (fun _ R s=>s.heap.get? l=some { cls:=.type "tuple",dict:=dd,data:=.seq items n,slots:=sl }/\s.heap.get? b=some { cls:=.type "tuple",dict:=dd2,data:=.seq items2 n2,slots:=sl2 } /\
    R (.ok (.ret (.bool (lexS ns ms)))) s) :=
 .of_wp fun prog w A R s h=>by
  obtain⟨hp,g,d,tk,os⟩:=s;obtain⟨hl,hb,h⟩:=h;have f2:=fU;have z1:items.size=ns.length:=by rw[<- hi.len];simp
  have z2:items2.size=ms.length:=by rw[<- hj.len];simp
  wp_walk using bc hl,bc hb,fM _ (fun rest b s'=>b.1=none/\s'=⟨hp,g,d,tk,os⟩/\∃ (vs ws:List ae) (ns' ms':List Str),rest=vs.zip ws /\
   SAre vs ns'/\SAre ws ms'/\ns'.length + items2.size=ms'.length + items.size/\R (.ok (.ret (.bool (lexS ns' ms')))) ⟨hp,g,d,tk,os⟩) _
  case turn =>
   rintro⟨y,x⟩ rest b s' ⟨hb',rfl,vs,ws,ns',ms',hz,hvi,hwi,hlen,hR⟩;cases hvi with
   | nil=>rw[fA] at hz;cases hz
   | @cons va a _ _ ha hvi' =>
    obtain⟨t,rfl⟩:=ha;cases hwi with
    | nil=>rw[cH] at hz;cases hz
    | @cons vc c _ _ hc hwi' =>
     obtain⟨u,rfl⟩:=hc;rw[cu] at hz;injection hz with hyx hrest
     injection hyx with hy hx
     subst hy hx;rw[lexS_cons] at hR;simp only[aE] at hlen;obtain⟨e,he,hiff⟩:=eqAt_st A.in1 ⟨hp,g,d,tk,os⟩ a t c u;refine ad (he prog w _ _ ?_);cases e with
     | true =>
      rw[if_pos (hiff.mp rfl)] at hR
      wp_walk
      exact⟨rfl,rfl,_,_,_,_,hrest,hvi',hwi',by lia,hR⟩
     | false =>
      rw[if_neg (fun q=>absurd (hiff.mpr q) aS)] at hR;have hri:=rcLt_st A.in1 ⟨hp,g,d,tk,os⟩ a t c u prog w
      wp_walk using hri
      exact⟨_,rfl,by simpa using hR⟩
  case fin =>
   rintro⟨b1,b2⟩ s' ⟨hb',rfl,vs,ws,ns',ms',hz,hvi,hwi,hlen,hR⟩;simp only at hb';subst hb';have hv:lexS ns' ms'=decide (items.size < items2.size):=by
    cases hvi with
    | nil =>
     cases hwi with
     | nil =>
      simp only[dj] at hlen;rw[lexS_nil_nil];exact(decide_eq_false (by lia)).symm
     | cons hc hw =>
      simp only[dj,aE] at hlen;rw[lexS_nil_cons];exact(decide_eq_true (by lia)).symm
    | cons ha hv =>
     cases hwi with
     | nil =>
      simp only[dj,aE] at hlen;rw[lexS_cons_nil];exact(decide_eq_false (by lia)).symm
     | cons hc hw =>
      rw[cu] at hz;cases hz
   rw[hv] at hR
   wp_walk
   exact⟨_,rfl,by simpa [eL] using hR⟩
  case h =>
   exact⟨rfl,rfl,items.toList,items2.toList,ns,ms,rfl,hi,hj,by lia,h⟩
end
section
variable {prog:aD} {w:aK} {A:aQ} {E:ae->ai->Prop} {s:ai}
theorem lt_tupStrs {l b:Addr} {items items2:Array ae} {ns ms:List Str} {Q:ae->ai->Prop} (hl:gX s.heap l items) (hb:gX s.heap b items2) (hi:SAre items.toList ns) (hj:SAre items2.toList ms)
  (hu:A.units < bK) (h:Q (.bool (lexS ns ms)) s):ax (aC prog w) A (bE .Lt (.ref l) (.ref b)) Q E s:=by
 obtain⟨⟨cls,dd,data,sl⟩,ho,hc,n,hd⟩:=id hl;obtain⟨⟨cls2,dd2,data2,sl2⟩,ho2,hc2,n2,hd2⟩:=id hb;simp only at hc hd hc2 hd2;subst hc hd hc2 hd2;exact eY (op:=.Lt) ⟨_,ho,rfl⟩ ⟨_,ho2,rfl⟩ fx gz (gf _ _) (tuple_lt_strs l b items items2 n n2 dd dd2 sl sl2 ns ms hi hj)
  ⟨ho,ho2,show gG (lexS ns ms)≠fG/\Q (.bool (lexS ns ms)) s from⟨(fun x=>nomatch x),h⟩⟩ hu
end
end HT
namespace L2
open PySem PySem.Spec PyProof.Rows
theorem sare_of {H:Hp}:∀ {xs:List V} {us:List ae} {ds:List Str},a7 (dS H) xs ds->Vals xs us->HT.SAre us ds
 | _,_,_,.nil,.nil=>.nil
 | _,_,_,.cons p q,.cons r t=>by
  cases p;exact .cons r (sare_of q t)
def rLtS (K:Fg):R2:=fun x y H Q=>∃ d e,dT K dS H x d/\dT K dS H y e/\Q (.bl (HT.lexS d e)) H
theorem op_ltS {X:Cx} (hu:X.A.units < bK):OpR X (bE .Lt) (rLtS X.K):=by
 intro pins s σ H x y v u Q I rx ry h;obtain⟨d,e,⟨a,xs,rfl,ha,pa⟩,⟨b,ys,rfl,hb,pb⟩,q⟩:=h;cases rx;cases ry;obtain⟨its,r1,p1,_⟩:=I.tuple ha;obtain⟨its2,r2,p2,_⟩:=I.tuple hb;exact HT.lt_tupStrs p1 p2 (sare_of pa r1) (sare_of pb r2) hu ⟨.bl (HT.lexS d e),H,I,rfl,q⟩
variable {α β γ:Type}
theorem fn_own {X:Cx} {N':List Str} {scope:Scope} {cl:List (Str × Addr)} {C:Addr} {fp:List Addr} {s:ai} {H:Hp} {x:Str}:(cxComp2 X N' scope cl C fp s H (some x)).fn x=true:=decide_eq_true rfl
theorem at_m1 (l:List α) (h:l≠[]):atI l (-1)=some (l.getLast h):=by
 unfold atI ixN;have hl:0 < l.length:=eQ.mpr h;have e:(-1 + (l.length:Int)).toNat=l.length - 1:=by lia
 rw[if_neg (by decide),if_pos (by lia),e]
 show l[l.length - 1]?=_;rw[jB,ag (by lia)]
theorem nd_ (l:List Str) (h:l.Nodup:=by decide +kernel):l.Nodup:=h
theorem lt64 {k n:Nat} {A:aQ} (r:Room k A) (h:n<=64:=by decide):A.units + n < bK:=by have:=r.units;lia
section
variable {X:Cx} {K:Fg} {tg:Expr} {a:Expr} {ta:TE}
theorem sl_tupK (hK:X.K=K:=by rfl):SlR X (rSlT K):=hK ▸ sl_tup
theorem sl_listK (hK:X.K=K:=by rfl):SlR X (rSlL K):=hK ▸ sl_list
theorem op_catTK (hK:X.K=K:=by rfl):OpR X (eR .Add) (rCatT K):=hK ▸ op_catT
theorem call_tupleK (hK:X.K=K:=by rfl):CallR X (.type "tuple") (fun xs H Q=>∃ p ys,xs=[.ref p]/\((SqL K H p ys/\∀ l,H l=none->Q (.ref l) (upd H l (.tup ys)))\/(SqT K H p ys/\Q (.ref p) H))):=hK ▸ call_tuple_of
theorem call_listK (hK:X.K=K:=by rfl):CallR X (.type "list") (fun xs H Q=>∃ p ys,xs=[.ref p]/\(SqL K H p ys\/SqT K H p ys)/\∀ l,H l=none->Q (.ref l) (upd H l (.lst ys))):=hK ▸ call_list_of
theorem call_allK (hK:X.K=K:=by rfl) (hc:X.calm=true:=by rfl):CallR X (.builtin "all") (fun xs H Q=>∃ x bs,xs=[x]/\dL K dB H x bs/\Q (.bl (bs.all id)) H):=hK ▸ call_allD hc
theorem call_setTTK (hu:X.A.units + 8 < bK) (hK:X.K=K:=by rfl) (hc:X.calm=true:=by rfl):CallR X (.type "set") (fun xs H Q=>∃ x ds,xs=[x]/\dT K (dT K dS) H x ds/\ds.length + 1<=300/\∀ p n,H p=none->SzOk ds n->Q (.ref p) (upd H p (szO p n))):=hK ▸ call_setTT hc hu
theorem call_setLSK (hu:X.A.units + 8 < bK) (hK:X.K=K:=by rfl) (hc:X.calm=true:=by rfl):CallR X (.type "set") (fun xs H Q=>∃ x ds,xs=[x]/\dL K dS H x ds/\ds.length + 1<=300/\∀ p n,H p=none->SzOk ds n->Q (.ref p) (upd H p (szO p n))):=hK ▸ call_setLS hc hu
theorem op_ltSK (hu:X.A.units < bK) (hK:X.K=K:=by rfl):OpR X (bE .Lt) (rLtS K):=hK ▸ op_ltS hu
theorem pt_truthK (ha:PE X a ta) (he:∀ whole,isTrue a X.env whole=(do let v <- whole;fI a.pos;eO [v] (truthy v))) (hK:X.K=K:=by rfl):PT X a (fun σ H Q=>ta σ H fun x H'=>∃ k,TruV K x H' k/\Q k H'):=by subst hK;exact pt_truth ha he
theorem pi_enK {e:Expr} {ta:TA} {p pos:Pos} {elts:List Expr} {x1:Nat} {tpos:Pos} (hg:Gl X "enumerate") (hm:X.mg "enumerate" = none) (ha:PA X [e] ta) (hs:au [e] X.env=[(false,eval e X.env)]:=by rfl) (hK:X.K=K:=by rfl) :
  PI X (.Tuple elts x1 tpos) (.Call (.Name "enumerate" p) [e] [] pos) (iEnT K ta):=by subst hK;exact pi_en hg hm ha hs
end
end L2
namespace KS
open PySem PySem.W PyProof.Rows
def run {α:Type} (lt:Nat->Nat->Bool):KasT α->α
 | .ret a=>a
 | .ask i j k=>run lt (k (lt i j))
theorem run_bind {α β:Type} {lt:Nat->Nat->Bool} {f:α->KasT β}:∀ t:KasT α,run lt (t.bind f)=run lt (f (run lt t))
 | .ret _=>rfl
 | .ask i j k=>run_bind (k (lt i j))
structure Ord (lt:Nat->Nat->Bool) (n:Nat):Prop where
 tot:∀ i j,i < n->j < n->i≠j->lt i j=false->lt j i=true
 asy:∀ i j,lt i j=true->lt j i=false
 tr:∀ i j k,lt i j=true->lt j k=true->lt i k=true
variable {lt:Nat->Nat->Bool} {n:Nat}
abbrev at' (p:Array Nat) (k:Nat):Nat:=p.getD k 0
theorem at_get (p:Array Nat) (k:Nat):at' p k=(p[k]?).getD 0:=by
 unfold at'
 by_cases h:k < p.size
 ·simp[cB,h]
 ·simp[cB,h]
structure Vd (n:Nat) (p:Array Nat):Prop where
 sz:p.size=n
 pm:p.toList.Perm (aP n)
theorem Vd.low {p:Array Nat} (v:Vd n p) {a:Nat} (h:a < n):at' p a < n:=by
 have hs:a < p.size:=by rw[v.sz];exact h
 have e:at' p a=p[a]:=by simp[at',cB,hs]
 rw[e]
 have:p[a]∈p.toList:=by simp
 exact bj.mp (v.pm.mem_iff.mp this)
theorem Vd.ne {p:Array Nat} (v:Vd n p) {a b:Nat} (ha:a < n) (hb:b < n) (hab:a≠b):at' p a≠at' p b:=by
 have nd:p.toList.Nodup:=v.pm.nodup_iff.mpr jw;have hs:a < p.size:=by rw[v.sz];exact ha
 have hs':b < p.size:=by rw[v.sz];exact hb
 have e:at' p a=p[a]:=by simp[at',cB,hs]
 have e':at' p b=p[b]:=by simp[at',cB,hs']
 rw[e,e'];intro z;have z':p.toList[a]'(by simpa using hs)=p.toList[b]'(by simpa using hs'):=by simpa using z
 exact hab ((gH nd).mp z')
theorem Vd.perm {p q:Array Nat} (v:Vd n p) (h:q.Perm p):Vd n q:=⟨by
 have:=h.toList.length_eq
 simp only[b9] at this;rw[this,v.sz],h.toList.trans v.pm⟩
def Asc (lt:Nat->Nat->Bool) (p:Array Nat) (m:Nat):Prop:=∀ a b,a < b->b < m->lt (at' p a) (at' p b)=true
def Dsc (lt:Nat->Nat->Bool) (p:Array Nat) (m:Nat):Prop:=∀ a b,a < b->b < m->lt (at' p b) (at' p a)=true
theorem Asc.up (o:Ord lt n) {p:Array Nat} {m:Nat} (h:Asc lt p m) (h1:1<=m) (hl:lt (at' p (m - 1)) (at' p m)=true):Asc lt p (m + 1):=fun a b hab hb=>by
 rcases bH b m with z | z
 ·exact h a b hab z
 ·have e:b=m:=by lia
  subst e;rcases bH a (b - 1) with y | y
  ·exact o.tr _ _ _ (h a (b - 1) y (by lia)) hl
  ·have e:a=b - 1:=by lia
   rw[e];exact hl
theorem Dsc.up (o:Ord lt n) {p:Array Nat} {m:Nat} (h:Dsc lt p m) (h1:1<=m) (hl:lt (at' p m) (at' p (m - 1))=true):Dsc lt p (m + 1):=fun a b hab hb=>by
 rcases bH b m with z | z
 ·exact h a b hab z
 ·have e:b=m:=by lia
  subst e;rcases bH a (b - 1) with y | y
  ·exact o.tr _ _ _ hl (h a (b - 1) y (by lia))
  ·have e:a=b - 1:=by lia
   rw[e];exact hl
theorem run_asc (o:Ord lt n) {p:Array Nat} (v:Vd n p):∀ (f m:Nat),1<=m->m + f<=n->Asc lt p m->m<=run lt (kas_asc p f m)/\run lt (kas_asc p f m)<=m + f/\Asc lt p (run lt (kas_asc p f m))/\(run lt (kas_asc p f m) < m + f->lt (at' p (run lt (kas_asc p f m))) (at' p (run lt (kas_asc p f m) - 1))=true)
 | 0,m,_,_,h=>⟨ar _,ar _,h,fun z=>absurd z (cy _)⟩
 | f + 1,m,h1,hf,h=>by
  show _<=run lt (if lt (at' p m) (at' p (m - 1))=true then KasT.ret m else kas_asc p f (m + 1))/\run lt (if lt (at' p m) (at' p (m - 1))=true then KasT.ret m else kas_asc p f (m + 1))<=_/\Asc lt p (run lt (if lt (at' p m) (at' p (m - 1))=true then KasT.ret m else kas_asc p f (m + 1)))/\(run lt (if lt (at' p m) (at' p (m - 1))=true then KasT.ret m else kas_asc p f (m + 1)) < _->lt (at' p (run lt (if lt (at' p m) (at' p (m - 1))=true then KasT.ret m else kas_asc p f (m + 1)))) (at' p (run lt (if lt (at' p m) (at' p (m - 1))=true then KasT.ret m else kas_asc p f (m + 1)) - 1))=true)
  cases c:lt (at' p m) (at' p (m - 1)) with
  | true =>
   rw[if_pos rfl];exact⟨ar _,by show m<=_;lia,h,fun _=>c⟩
  | false =>
   rw[if_neg (by simp)]
   obtain⟨a,b,c',d⟩:=run_asc o v f (m + 1) (by lia) (by lia) (h.up o h1 (o.tot _ _ (v.low (by lia)) (v.low (by lia)) (v.ne (by lia) (by lia) (by lia)) c))
   exact⟨by lia,by lia,c',fun z=>d (by lia)⟩
theorem run_desc (o:Ord lt n) {p:Array Nat} (v:Vd n p):∀ (f m:Nat),1<=m->m + f<=n->Dsc lt p m->∃ m',run lt (kas_desc f p m 0)=(p,m',0)/\m<=m'/\m'<=m + f/\Dsc lt p m'
 | 0,m,_,_,h=>⟨m,rfl,ar _,ar _,h⟩
 | f + 1,m,h1,hf,h=>by
  cases c:lt (at' p m) (at' p (m - 1)) with
  | true =>
   obtain⟨m',e,a,b,d⟩:=run_desc o v f (m + 1) (by lia) (by lia) (h.up o h1 c)
   refine⟨m',?_,by lia,by lia,d⟩
   show run lt (if lt (at' p m) (at' p (m - 1))=true then (if 0 > 0 then kas_desc f (kas_rev p (m - (0 + 1)) m) (m + 1) 0 else kas_desc f p (m + 1) 0) else _)=_
   rw[c,if_pos rfl,if_neg (by lia)]
   exact e
  | false =>
   have c2:=o.tot _ _ (v.low (a:=m) (by lia)) (v.low (a:=m - 1) (by lia)) (v.ne (by lia) (by lia) (by lia)) c
   refine⟨m,?_,by lia,by lia,h⟩
   show run lt (if lt (at' p m) (at' p (m - 1))=true then _ else KasT.ask (p.getD (m - 1) 0) (p.getD m 0) fun d=>if d=true then KasT.ret (p,m,0) else kas_desc f p (m + 1) (0 + 1))=_
   rw[c,if_neg (by simp)]
   show run lt (if lt (at' p (m - 1)) (at' p m)=true then KasT.ret (p,m,0) else kas_desc f p (m + 1) (0 + 1))=_
   rw[c2,if_pos rfl]
   rfl
theorem rev_vd {p:Array Nat} (v:Vd n p) (m:Nat):Vd n (kas_rev p 0 m):=v.perm (mirror_perm _ _ _ _)
theorem rev_at {p:Array Nat} (v:Vd n p) {m:Nat} (hm:m<=n) {a:Nat} (ha:a < m):at' (kas_rev p 0 m) a=at' p (m - 1 - a):=by
 rw[at_get,at_get];unfold kas_rev;rw[getElem?_mirror_all (by rw[v.sz];exact hm),if_pos ⟨bA _,ha⟩,jR]
theorem rev_asc {p:Array Nat} (v:Vd n p) {m:Nat} (hm:m<=n) (h:Dsc lt p m):Asc lt (kas_rev p 0 m) m:=fun a b hab hb=>by
 rw[rev_at v hm (by lia),rev_at v hm hb]
 exact h _ _ (by lia) (by lia)
theorem run_tail (o:Ord lt n) {p:Array Nat} (v:Vd n p) {m:Nat} (h1:1<=m) (hm:m<=n) (h:Dsc lt p m):Vd n (run lt (kas_tail3 m n p)).2/\1<=(run lt (kas_tail3 m n p)).1/\(run lt (kas_tail3 m n p)).1<=n/\Asc lt (run lt (kas_tail3 m n p)).2 (run lt (kas_tail3 m n p)).1:=by
 unfold kas_tail3;rw[run_bind];obtain⟨a,b,c,_⟩:=run_asc o (rev_vd v m) (n - m) m h1 (by lia) (rev_asc v hm h)
 exact⟨rev_vd v m,by show 1<=run lt _;lia,by show run lt _<=n;lia,c⟩
theorem run_count (o:Ord lt n) {p:Array Nat} (v:Vd n p) (hn:1<=n):Vd n (run lt (kas_count n p)).2/\1<=(run lt (kas_count n p)).1/\(run lt (kas_count n p)).1<=n/\Asc lt (run lt (kas_count n p)).2 (run lt (kas_count n p)).1:=by
 unfold kas_count;rw[run_bind];have one:Asc lt p 1:=fun a b h1 h2=>by lia
 obtain⟨ha,hb,hc,hd⟩:=run_asc o v (n - 1) 1 (ar _) (by lia) one
 generalize run lt (kas_asc p (n - 1) 1)=m at ha hb hc hd
 by_cases e:(m == n)=true
 ·rw[if_pos e]
  have:m=n:=by simpa using e
  exact⟨v,ha,by show m<=n;lia,hc⟩
 ·rw[if_neg e];have hne:m≠n:=by simpa using e
  by_cases h1:m > 1
  ·rw[if_pos h1];have c:lt (p.getD 0 0) (p.getD (m - 1) 0)=true:=hc 0 (m - 1) (by lia) (by lia)
   show Vd n (run lt (if lt (p.getD 0 0) (p.getD (m - 1) 0)=true then KasT.ret (m,p) else kas_descPart m n (kas_rev p 0 m))).2/\1<=(run lt (if lt (p.getD 0 0) (p.getD (m - 1) 0)=true then KasT.ret (m,p) else kas_descPart m n (kas_rev p 0 m))).1/\(run lt (if lt (p.getD 0 0) (p.getD (m - 1) 0)=true then KasT.ret (m,p) else kas_descPart m n (kas_rev p 0 m))).1<=n/\Asc lt (run lt (if lt (p.getD 0 0) (p.getD (m - 1) 0)=true then KasT.ret (m,p) else kas_descPart m n (kas_rev p 0 m))).2 (run lt (if lt (p.getD 0 0) (p.getD (m - 1) 0)=true then KasT.ret (m,p) else kas_descPart m n (kas_rev p 0 m))).1
   rw[c,if_pos rfl];exact⟨v,ha,by show m<=n;lia,hc⟩
  ·rw[if_neg h1];have em:m=1:=by lia
   subst em;have d2:Dsc lt p 2:=fun a b hab hb'=>by
    have e1:a=0:=by lia
    have e2:b=1:=by lia
    subst e1 e2;exact hd (by lia)
   obtain⟨m',e',h2,h3,h4⟩:=run_desc o v (n - 2) 2 (by lia) (by lia) d2
   have e3:run lt (kas_descPart 1 n p)=run lt (kas_tail3 m' n p):=by
    unfold kas_descPart;rw[run_bind];show run lt (if (run lt (kas_desc (n - 2) p 2 0)).2.2 > 0 then _ else kas_tail3 (run lt (kas_desc (n - 2) p 2 0)).2.1 n (run lt (kas_desc (n - 2) p 2 0)).1)=_
    rw[e',if_neg (by show ¬ 0 > 0;lia)]
   rw[e3];exact run_tail o v (by lia) (by lia) h4
theorem run_place (o:Ord lt n) {p:Array Nat} (v:Vd n p) {k:Nat} (hk:k < n) (h:Asc lt p k):∀ (f l r:Nat),l<=r->r<=k->r - l<=f->(∀ a,a < l->lt (at' p a) (at' p k)=true)->(∀ b,r<=b->b < k->lt (at' p k) (at' p b)=true) ->
  ∃ z,run lt (kas_place p k f l r)=z/\z<=k/\(∀ a,a < z->lt (at' p a) (at' p k)=true)/\∀ b,z<=b->b < k->lt (at' p k) (at' p b)=true
 | 0,l,r,h1,h2,h3,h4,h5=>⟨l,rfl,by lia,h4,fun b hb=>h5 b (by lia)⟩
 | f + 1,l,r,h1,h2,h3,h4,h5=>by
  show ∃ z,run lt (if l >= r then KasT.ret l else _)=z/\_
  by_cases hlr:l >= r
  ·rw[if_pos hlr];exact⟨l,rfl,by lia,h4,fun b hb=>h5 b (by lia)⟩
  ·rw[if_neg hlr];show ∃ z,run lt (if lt (at' p k) (at' p ((l + r) / 2))=true then kas_place p k f l ((l + r) / 2) else kas_place p k f ((l + r) / 2 + 1) r)=z/\_
   have hm:(l + r) / 2 < k:=by lia
   cases c:lt (at' p k) (at' p ((l + r) / 2)) with
   | true =>
    rw[if_pos rfl];refine run_place o v hk h f l ((l + r) / 2) (by lia) (by lia) (by lia) h4 fun b hb hbk=>?_
    rcases Nat.eq_or_lt_of_le hb with e | e
    ·rw[<- e];exact c
    ·exact o.tr _ _ _ c (h _ _ e hbk)
   | false =>
    rw[if_neg (by simp)]
    have c2:=o.tot _ _ (v.low hk) (v.low (a:=(l + r) / 2) (by lia)) (v.ne hk (by lia) (by lia)) c
    refine run_place o v hk h f ((l + r) / 2 + 1) r (by lia) h2 (by lia) (fun a ha=>?_) h5
    rcases Nat.eq_or_lt_of_le (db ha) with e | e
    ·rw[e];exact c2
    ·exact o.tr _ _ _ (h _ _ e hm) c2
theorem run_bin (o:Ord lt n):∀ (f:Nat) {p:Array Nat} {k:Nat},Vd n p->k + f=n->Asc lt p k->Vd n (run lt (kas_bin f p k))/\Asc lt (run lt (kas_bin f p k)) n
 | 0,p,k,v,e,h=>by
  have:k=n:=by lia
  subst this;exact⟨v,h⟩
 | f + 1,p,k,v,e,h=>by
  have hk:k < n:=by lia
  show Vd n (run lt ((kas_place p k k 0 k).bind _))/\Asc lt (run lt ((kas_place p k k 0 k).bind _)) n;rw[run_bind];obtain⟨z,ez,hz,h1,h2⟩:=run_place o v hk h k 0 k (bA _) (ar _) (by lia) (fun a ha=>by lia) (fun b hb hb'=>by lia)
  rw[ez];have v':Vd n (bubble p k (k - z)):=v.perm (bubble_perm _ _ _);refine run_bin o f v' (by lia) fun a b hab hb=>?_
  have g:∀ j,at' (bubble p k (k - z)) j=if j=z then at' p k else if z < j/\j<=k then at' p (j - 1) else at' p j:=fun j=>by
   rw[at_get,getElem?_bubble (by rw[v.sz];exact hk) (k - z) (by lia),show k - (k - z)=z by lia]
   split
   ·rw[at_get]
   ·split <;> rw[at_get]
  rw[g,g]
  by_cases ea:a=z
  ·rw[if_pos ea,if_neg (by lia),if_pos ⟨by lia,by lia⟩]
   exact h2 _ (by lia) (by lia)
  ·rw[if_neg ea]
   by_cases eb:b=z
   ·rw[if_pos eb,if_neg (by lia)]
    exact h1 _ (by lia)
   ·rw[if_neg eb]
    by_cases ca:z < a/\a<=k <;> by_cases cb:z < b/\b<=k
    ·rw[if_pos ca,if_pos cb];exact h _ _ (by lia) (by lia)
    ·lia
    ·rw[if_neg ca,if_pos cb];exact h _ _ (by lia) (by lia)
    ·rw[if_neg ca,if_neg cb];exact h _ _ (by lia) (by lia)
theorem run_sort (o:Ord lt n) (hn:1<=n):Vd n (run lt (kas_sort n))/\Asc lt (run lt (kas_sort n)) n:=by
 unfold kas_sort;rw[run_bind];have v0:Vd n (fN (aP n)):=⟨by simp,by simp⟩
 obtain⟨a,b,c,d⟩:=run_count o v0 hn
 by_cases h:(run lt (kas_count n (fN (aP n)))).1 < n
 ·rw[if_pos h];have e:max (run lt (kas_count n (fN (aP n)))).1 1=(run lt (kas_count n (fN (aP n)))).1:=by lia
  rw[e];exact run_bin o _ a (by lia) d
 ·rw[if_neg h];have e:(run lt (kas_count n (fN (aP n)))).1=n:=by lia
  rw[e] at d;exact⟨a,d⟩
def Okq {α:Type} (lt:Nat->Nat->Bool) (n:Nat):KasT α->Prop
 | .ret _=>True
 | .ask i j k=>i < n/\j < n/\Okq lt n (k (lt i j))
theorem okq_bind {α β:Type} {f:α->KasT β}:∀ t:KasT α,Okq lt n t->Okq lt n (f (run lt t))->Okq lt n (t.bind f)
 | .ret _,_,h=>h
 | .ask i j k,⟨a,b,c⟩,h=>⟨a,b,okq_bind (k (lt i j)) c h⟩
theorem Vd.any {p:Array Nat} (v:Vd n p) (hn:1<=n) (a:Nat):p.getD a 0 < n:=by
 by_cases h:a < n
 ·exact v.low h
 ·have:¬ a < p.size:=by rw[v.sz];exact h
  simp[cB,this];lia
theorem okq_asc {p:Array Nat} (v:Vd n p) (hn:1<=n):∀ f m,Okq lt n (kas_asc p f m)
 | 0,_=>trivial
 | f + 1,m=>⟨v.any hn _,v.any hn _,by
  dsimp only
  split
  ·trivial
  ·exact okq_asc v hn f (m + 1)⟩
theorem rev_vd' {p:Array Nat} (v:Vd n p) (i j:Nat):Vd n (kas_rev p i j):=v.perm (mirror_perm _ _ _ _)
theorem okq_desc (hn:1<=n):∀ (f:Nat) {p:Array Nat} (m q:Nat),Vd n p->Okq lt n (kas_desc f p m q)/\Vd n (run lt (kas_desc f p m q)).1
 | 0,p,m,q,v=>⟨trivial,v⟩
 | f + 1,p,m,q,v=>by
  show(_/\_/\Okq lt n (if lt (p.getD m 0) (p.getD (m - 1) 0)=true then (if q > 0 then kas_desc f (kas_rev p (m - (q + 1)) m) (m + 1) 0 else kas_desc f p (m + 1) 0) else _))/\Vd n (run lt (if lt (p.getD m 0) (p.getD (m - 1) 0)=true then (if q > 0 then kas_desc f (kas_rev p (m - (q + 1)) m) (m + 1) 0 else kas_desc f p (m + 1) 0) else _)).1
  by_cases c:lt (p.getD m 0) (p.getD (m - 1) 0)=true
  ·rw[if_pos c]
   by_cases hq:q > 0
   ·rw[if_pos hq];obtain⟨a,b⟩:=okq_desc hn f (m + 1) 0 (rev_vd' v (m - (q + 1)) m);exact⟨⟨v.any hn _,v.any hn _,a⟩,b⟩
   ·rw[if_neg hq];obtain⟨a,b⟩:=okq_desc hn f (m + 1) 0 v;exact⟨⟨v.any hn _,v.any hn _,a⟩,b⟩
  ·rw[if_neg c];show(_/\_/\_/\_/\Okq lt n (if lt (p.getD (m - 1) 0) (p.getD m 0)=true then KasT.ret (p,m,q) else kas_desc f p (m + 1) (q + 1)))/\Vd n (run lt (if lt (p.getD (m - 1) 0) (p.getD m 0)=true then KasT.ret (p,m,q) else kas_desc f p (m + 1) (q + 1))).1
   by_cases d:lt (p.getD (m - 1) 0) (p.getD m 0)=true
   ·rw[if_pos d];exact⟨⟨v.any hn _,v.any hn _,v.any hn _,v.any hn _,trivial⟩,v⟩
   ·rw[if_neg d];obtain⟨a,b⟩:=okq_desc hn f (m + 1) (q + 1) v;exact⟨⟨v.any hn _,v.any hn _,v.any hn _,v.any hn _,a⟩,b⟩
theorem okq_tail {p:Array Nat} (v:Vd n p) (hn:1<=n) (m k:Nat):Okq lt n (kas_tail3 m k p):=okq_bind _ (okq_asc (rev_vd v m) hn _ _) trivial
theorem okq_descPart {p:Array Nat} (v:Vd n p) (hn:1<=n) (m k:Nat):Okq lt n (kas_descPart m k p):=by
 obtain⟨a,b⟩:=okq_desc (lt:=lt) hn (k - (m + 1)) (m + 1) 0 v;refine okq_bind _ a ?_
 split
 ·exact okq_tail (rev_vd' b _ _) hn _ _
 ·exact okq_tail b hn _ _
theorem okq_count {p:Array Nat} (v:Vd n p) (hn:1<=n) (k:Nat):Okq lt n (kas_count k p):=by
 refine okq_bind _ (okq_asc v hn _ _) ?_
 split
 ·trivial
 ·split
  ·refine⟨v.any hn _,v.any hn _,?_⟩;dsimp only
   split
   ·trivial
   ·exact okq_descPart (rev_vd v _) hn _ _
  ·exact okq_descPart v hn _ _
theorem okq_place {p:Array Nat} (v:Vd n p) (hn:1<=n) (k:Nat):∀ f l r,Okq lt n (kas_place p k f l r)
 | 0,_,_=>trivial
 | f + 1,l,r=>by
  show Okq lt n (if l >= r then KasT.ret l else _)
  split
  ·trivial
  ·refine⟨v.any hn _,v.any hn _,?_⟩;dsimp only
   split
   ·exact okq_place v hn k f _ _
   ·exact okq_place v hn k f _ _
theorem okq_bin (hn:1<=n):∀ (f:Nat) {p:Array Nat} (k:Nat),Vd n p->Okq lt n (kas_bin f p k)
 | 0,_,_,_=>trivial
 | f + 1,p,k,v=>okq_bind _ (okq_place v hn k _ _ _) (okq_bin hn f (k + 1) (v.perm (bubble_perm _ _ _)))
theorem okq_sort (o:Ord lt n) (hn:1<=n):Okq lt n (kas_sort n):=by
 have v0:Vd n (fN (aP n)):=⟨by simp,by simp⟩
 refine okq_bind _ (okq_count v0 hn n) ?_
 split
 ·exact okq_bin hn _ _ (run_count o v0 hn).1
 ·trivial
theorem wp_run {α:Type} {cmp:Nat->Nat->(Bool->ai->Prop)->ai->Prop} {s:ai} (hc:∀ i j C,i < n->j < n->C (lt i j) s->cmp i j C s) {Q:α->ai->Prop}:∀ t:KasT α,Okq lt n t->Q (run lt t) s->t.kasWp cmp Q s
 | .ret a,_,q=>q
 | .ask i j k,⟨a,b,c⟩,q=>hc i j _ a b (wp_run hc (k (lt i j)) c q)
end KS
set_option maxHeartbeats 1000000
namespace ST
open PySem PySem.SetTable PySem.Spec PyProof.Rows
theorem entry_set_iter:entryFor table "set.__iter__" = some cP.«frozenset.__iter__»:=entryFor_alias (id' := "frozenset.__iter__") (by kernel_rfl) rfl (by decide +kernel) (by kernel_rfl)
theorem slot_setit_next:Slot "set_iterator" "__next__" "set_iterator.__next__" :=
 .of (owner := "set_iterator") (n := "__next__") (by rw[typeLookup_type,builtinLookup_eq_fast];kernel_rfl) (by decide +kernel) (by decide +kernel) (by decide +kernel)
  (by first | exact .inl (by decide +kernel) | exact .inr (by decide +kernel)) (by rw[isSubtype_type];kernel_rfl)
theorem entry_setit_next:entryFor table "set_iterator.__next__" = some cP.«set_iterator.__next__»:=entryFor_of_tree (by kernel_rfl)
theorem args_setit_next (a:ae):argsOk "set_iterator.__next__" ⟨[a],[]⟩:=by unfold argsOk;kernel_rfl
theorem hint_set:typeLookup (.type "set") "__len__" = pure (some (.builtin "set.__len__")):=by rw[typeLookup_type,builtinLookup_eq_fast];kernel_rfl
section
variable {prog:aD} {w:aK} {A:aQ} {E:ae->ai->Prop} {s:ai}
theorem lenHint {p:Addr} {es:Array (Int × ae)} {ep:Nat} {t:aI} {Q:Bool->ai->Prop} (ho:s.heap.get? p=some (setOb es ep t)) (h:Q false s):ax (aC prog w) A (iw (.ref p)) Q E s:=by
 have hT:s.TypeIs (.ref p) "set":=⟨_,ho,rfl⟩;unfold iw;refine ad (wpAny_specialOf hT hint_set ?_);dsimp only;have e1:splitId "set.__len__" = some ("set", "__len__"):=by decide +kernel
 rw[e1];dsimp only;refine ad (jA (b:=true) hT (by rw[isSubtype_type];kernel_rfl) ?_)
 rw[if_neg (show ¬ ((!true)=true) by decide)]
 refine hW (fun hc=>?_) (fun hc=>absurd (by decide +kernel) hc)
 refine ad (gi hT ?_);exact af h
theorem erase_perm {α:Type} {l:List α} {i:Nat} (h:i < l.length):(l[i]::l.eraseIdx i).Perm l:=by
 have e:l=l.take i++l[i]::l.drop (i + 1):=by
  rw[<- d8 h,fw]
 rw[List.eraseIdx_eq_take_drop_succ];refine List.perm_middle.symm.trans ?_;rw[<- e]
theorem chooseT {n:Nat} {Q:Nat->ai->Prop} (hn:n≠0) (h:∀ i,i < n->Q i { s with drawn:=s.drawn.bump .order }):ax (aC prog w) A (choose .order n) Q E s:=fun Γ p hΓ=>by
 show Sem.wp _ _ (.choose .order n .pure) _ _ _ _;rw[Sem.wp_choose];exact⟨hn,h _ (kC _ (Nat.pos_of_ne_zero hn))⟩
theorem drawT {α:Type}:∀ (n:Nat) (xs:List α) {s:ai} {Q:List α->ai->Prop},xs.length=n->(∀ ys d,ys.Perm xs->Q ys { s with drawn:=d })->ax (aC prog w) A (drawOrder n xs) Q E s
 | 0,xs,s,Q,hl,h=>by
  have e:xs=[]:=jC.mp hl;subst e;unfold drawOrder;exact af (h [] s.drawn (gq _))
 | n + 1,xs,s,Q,hl,h=>by
  cases xs with
  | nil=>cases hl
  | cons x r =>
   unfold drawOrder;refine ad ?_;have hne:(x::r).length≠0:=by simp
   refine chooseT hne fun i hi=>?_;have hg:(x::r)[i]?=some (x::r)[i]:=ag hi;rw[hg];dsimp only;refine ad (drawT n ((x::r).eraseIdx i) (s:={ s with drawn:=s.drawn.bump .order }) (by rw[iQ hi];simp at hl ⊢;omega) fun ys d hp=>?_)
   refine af (h _ d ?_);refine(hp.cons _).trans ?_;exact erase_perm hi
theorem pick_perm {α:Type} (next:Nat->Nat):∀ (fuel k:Nat) (left:List α) (out:Array α),left.length=fuel->(kG next fuel k left out).toList.Perm (out.toList++left)
 | 0,k,left,out,hl=>by
  have e:left=[]:=jC.mp hl;subst e;unfold kG;rw[bI]
 | fuel + 1,k,left,out,hl=>by
  unfold kG;have hi:next k % left.length < left.length:=kC _ (by omega)
  rw[ag hi];dsimp only;refine(pick_perm next fuel (k + 1) _ _ (by rw[iQ hi];omega)).trans ?_
  rw[ja,bG];exact j9 _ (erase_perm hi)
theorem pickOrder_perm {α:Type} (next:Nat->Nat) (xs:Array α):(iC next xs).toList.Perm xs.toList:=by
 have:=pick_perm next xs.size 0 xs.toList #[] (by simp)
 simpa [iC] using this
def itOb (first:ae) (i:Nat) (p:Addr) (n ep:Nat):Obj:={ cls:=.type "set_iterator",dict:=none,data:=.fields #[first,.int i 0,.ref p,.int n 0,.int ep 0],slots:=#[] }
theorem stopT {I:Addr} {Q:Option ae->ai->Prop} {s:ai} (hh:A.in1.handled=none) (h:∀ h',(∀ b o,s.heap.get? b=some o->h'.get? b=some o)->Q none { s with heap:=h' }) :
  ax (aC prog w) A.in1 (newExc (.type "StopIteration") [] >>= fun e=>(raiseNew e:Sem Fin)) (fun fin s'=>∃ r,fin=.done (.ret r)/\ax (aC prog w) A (pure (some r)) Q E s') (fun e s'=>ax (aC prog w) A (do if <- isInstance e (.type "StopIteration") then pure none else throw e) Q E s') s:=by
 refine ad ?_;simp only[newExc,newTuple];refine ad (bh ?_ (by size_fits))
 refine ad (m:=iO _ _) (i9 (a:=ci) (by first | rfl | (simp only[iO];rfl)) ?_)
 refine bh ?_ (by size_fits)
 simp only[raiseNew];refine ad (wpAny_handled ?_);rw[hh];refine ad (af (wpAny_throw ?_));refine ad (jA (T := "StopIteration") (b:=true) ⟨_,aw _ rfl,rfl⟩ isSubtype_stop ?_);exact af (h _ fun b o e=>ah _ (ah _ e))
theorem nextPre {I p:Addr} {es:Array (Int × ae)} {ep:Nat} {t:aI} {first:ae} {i:Nat} {Q:Option ae->ai->Prop} (hp:s.heap.get? p=some (setOb es ep t)) (hf:t.fits es.size=true) (hI:s.heap.get? I=some (itOb first i p es.size ep))
  (h:ax (aC prog w) A.in1 (if let .int slot _:=first then do
    match <- setNext p slot.toNat (i:Int).toNat (ep:Int).toNat with
    | some (x,next)=>do
     kg (.ref I) 0 (fD next)
     kg (.ref I) 1 (fD ((i:Int) + 1))
     ret x
    | none=>do kg (.ref I) 2 .none;raiseNew (<- newExc (.type "StopIteration") [])
   else do
    let some places <- jz first | g6 "internal:set_iterator"
    match places[(i:Int).toNat]? with
    | some (.int place _)=>do
     let x <- setNextDrawn p place.toNat (ep:Int).toNat
     kg (.ref I) 1 (fD ((i:Int) + 1))
     ret x
    | some _=>g6 "internal:set_iterator"
    | none=>do kg (.ref I) 0 (fD 0);kg (.ref I) 2 .none;raiseNew (<- newExc (.type "StopIteration") []))
   (fun fin s'=>∃ r,fin=.done (.ret r)/\ax (aC prog w) A (pure (some r)) Q E s') (fun e s'=>ax (aC prog w) A (do if <- isInstance e (.type "StopIteration") then pure none else throw e) Q E s') s) :
  ax (aC prog w) A (fq (.ref I)) Q E s:=by
 have hT:s.TypeIs (.ref I) "set_iterator":=⟨_,hI,rfl⟩;unfold fq;refine ad (wpAny_attempt (cY (name:=aM "__next__") hT slot_setit_next
  (cZ slot_setit_next hT entry_setit_next ?_ (args_setit_next _))))
 unfold cP.«set_iterator.__next__» slotArgs;simp only[List.isEmpty_nil,fT,aF,↓reduceIte,bind_assoc,dj,bne_self_eq_false];refine ad (af ?_)
 try dsimp only
 refine ad (wpAny_fieldsOf hI rfl ?_);dsimp only;refine ad (wpAny_setEntries_of hp rfl hf ?_);rw[if_neg (by simp)]
 exact h
structure Gives (prog:aD) (w:aK) (A:aQ) (I:Addr) (fp:List Addr) (vals:List ae) (St:Nat->aW->Prop):Prop where
 mem:I∈fp
 frame:∀ i h h',St i h->(∀ b∈fp,∀ o,h.get? b=some o->h'.get? b=some o)->St i h'
 item:∀ (i:Nat) (s:ai) (v:ae) (Q:Option ae->ai->Prop) (E:ae->ai->Prop),vals[i]?=some v->St i s.heap ->
  (∀ h',St (i + 1) h'->(∀ b o,b≠I->s.heap.get? b=some o->h'.get? b=some o)->Q (some v) { s with heap:=h' })->ax (aC prog w) A (fq (.ref I)) Q E s
 done:∀ (s:ai) (Q:Option ae->ai->Prop) (E:ae->ai->Prop),St vals.length s.heap ->
  (∀ h',(∀ b o,b≠I->s.heap.get? b=some o->h'.get? b=some o)->Q none { s with heap:=h' })->ax (aC prog w) A (fq (.ref I)) Q E s
theorem nextText {p:Addr} {es:Array (Int × ae)} {ep i:Nat} {t:aI} {Q:Option (ae × Nat)->ai->Prop} (hp:s.heap.get? p=some (setOb es ep t)) (hf:t.fits es.size=true) (hw:w.params.followText "set-order" = true)
  (h:Q (((iC (w.params.setOrder p ep) es)[i]?).map fun e=>(e.2,0)) s):ax (aC prog w) A (setNext p (0:Int).toNat (i:Int).toNat (ep:Int).toNat) Q E s:=by
 unfold setNext;refine ad (de hp rfl hf ?_);dsimp only;unfold setsByText;refine ad (ad (dZ (af ?_)));have hw':(aC prog w).w.params.followText "set-order" = true:=hw;rw[hw',if_pos rfl,if_neg (by simp)]
 unfold setWalk;refine ad (ad (de hp rfl hf ?_));dsimp only;unfold setsByText;refine ad (ad (dZ (af ?_)));rw[hw',if_pos rfl];refine ad (dZ ?_);refine af (af ?_);rw[bF];exact h
theorem givesA {p I T:Addr} {es:Array (Int × ae)} {ep:Nat} {t:aI} {vals:List ae} {places:Array ae} (hh:A.in1.handled=none) (hTI:T≠I) (hpI:p≠I) (hl:places.size=vals.length)
  (hpl:∀ (j:Nat) (pl:ae),places[j]?=some pl->∃ q:Nat,pl=ki (q:Int) 0/\∃ e,es[q]?=some e/\vals[j]?=some e.2) :
  Gives prog w A I [I,p,T] vals (fun i h=>h.get? p=some (setOb es ep t)/\t.fits es.size=true/\h.get? I=some (itOb (.ref T) i p es.size ep)/\∃ o c,h.get? T=some o/\o.data=.seq places c) where
 mem:=by simp
 frame:=fun i h h' st k=>by
  refine hd fun Gq kq=>?_;obtain⟨h1,h2,h3,o,c,h4,h5⟩:=st;refine kq ?_;exact⟨k p (by simp) _ h1,h2,k I (by simp) _ h3,o,c,k T (by simp) _ h4,h5⟩
 item:=fun i s v Q E hv st hQ=>by
  refine hd fun Gq kq=>?_;obtain⟨h1,h2,h3,o,c,h4,h5⟩:=st;refine kq ?_;refine nextPre h1 h2 h3 ?_;dsimp only;refine ad (dG h4 h5 ?_);dsimp only;have hi:i < places.size:=by rw[hl];exact(bi.mp hv).1
  refine hd fun Gq kq=>?_;obtain⟨q,e1,e,e2,e3⟩:=hpl i places[i] (by simp[hi]);refine kq ?_
  have eg:places[(i:Int).toNat]?=some (ki (q:Int) 0):=by rw[bF,<- e1];simp[hi]
  rw[eg];dsimp only;have ev:e.2=v:=by rw[hv] at e3;exact(aJ e3).symm
  refine ad ?_;unfold setNextDrawn;refine ad (de h1 rfl h2 ?_);dsimp only;rw[if_neg (by simp),bF,e2]
  dsimp only;refine af ?_;refine ad (cI h3 (by show 1 < 5;decide) fun h' g1 g2=>?_)
  rw[ev];refine af ⟨v,rfl,af (hQ h' ⟨?_,h2,?_,o,c,?_,h5⟩ fun b o' hb e=>(g2.2 b hb).trans e)⟩
  ·exact(g2.2 p hpI).trans h1
  ·exact g1
  ·exact(g2.2 T hTI).trans h4
 done:=fun s Q E st hQ=>by
  refine hd fun Gq kq=>?_;obtain⟨h1,h2,h3,o,c,h4,h5⟩:=st;refine kq ?_;refine nextPre h1 h2 h3 ?_;dsimp only;refine ad (dG h4 h5 ?_);dsimp only;have eg:places[(vals.length:Int).toNat]?=none:=by rw[bF,<- hl];simp
  rw[eg];dsimp only;refine ad (cI h3 (by show 0 < 5;decide) fun h' g1 g2=>?_)
  refine ad (cI g1 (by show 2 < 5;decide) fun h'' g3 g4=>?_)
  exact stopT (I:=I) hh fun h3' k=>hQ h3' fun b o' hb e=>k b o' ((g4.2 b hb).trans ((g2.2 b hb).trans e))
theorem givesB {p I:Addr} {es:Array (Int × ae)} {ep:Nat} {t:aI} {vals:List ae} (hh:A.in1.handled=none) (hpI:p≠I) (hw:w.params.followText "set-order" = true) (hv:vals=(iC (w.params.setOrder p ep) es).toList.map (·.2)) :
  Gives prog w A I [I,p] vals (fun i h=>h.get? p=some (setOb es ep t)/\t.fits es.size=true/\h.get? I=some (itOb (.int 0 0) i p es.size ep)) where
 mem:=by simp
 frame:=fun i h h' st k=>by
  refine hd fun Gq kq=>?_;obtain⟨h1,h2,h3⟩:=st;refine kq ?_;exact⟨k p (by simp) _ h1,h2,k I (by simp) _ h3⟩
 item:=fun i s v Q E hv' st hQ=>by
  refine hd fun Gq kq=>?_;obtain⟨h1,h2,h3⟩:=st;refine kq ?_;refine nextPre h1 h2 h3 ?_;dsimp only;refine ad (nextText h1 h2 hw ?_);have eg:((iC (w.params.setOrder p ep) es)[i]?).map (fun e=>(e.2,0))=some (v,0):=by
   rw[hv,bv,bS] at hv';cases q:(iC (w.params.setOrder p ep) es)[i]? with
   | none=>rw[q] at hv';cases hv'
   | some e=>rw[q] at hv';cases hv';rfl
  rw[eg];dsimp only;refine ad (cI h3 (by show 0 < 5;decide) fun h' g1 g2=>?_)
  refine ad (cI g1 (by show 1 < 5;decide) fun h'' g3 g4=>?_)
  refine af ⟨v,rfl,af (hQ h'' ⟨?_,h2,g3⟩ fun b o' hb e=>(g4.2 b hb).trans ((g2.2 b hb).trans e))⟩;exact(g4.2 p hpI).trans ((g2.2 p hpI).trans h1)
 done:=fun s Q E st hQ=>by
  refine hd fun Gq kq=>?_;obtain⟨h1,h2,h3⟩:=st;refine kq ?_;refine nextPre h1 h2 h3 ?_;dsimp only;refine ad (nextText h1 h2 hw ?_);have eg:(iC (w.params.setOrder p ep) es)[vals.length]?=none:=by
   rw[hv];simp
  rw[eg];dsimp only[Option.map];refine ad (cI h3 (by show 2 < 5;decide) fun h'' g3 g4=>?_)
  exact stopT (I:=I) hh fun h3' k=>hQ h3' fun b o' hb e=>k b o' ((g4.2 b hb).trans e)
end
end ST
set_option maxHeartbeats 4000000
namespace ST
open PySem PySem.SetTable PySem.Spec PyProof.Rows
section
variable {prog:aD} {w:aK} {A:aQ} {E:ae->ai->Prop} {s:ai}
theorem nextPlain {p:Addr} {es:Array (Int × ae)} {ep i sl:Nat} {t:aI} {Q:Option (ae × Nat)->ai->Prop} (hp:s.heap.get? p=some (setOb es ep t)) (hf:t.fits es.size=true) (hw:w.params.followText "set-order" = false) (hled:t.led=true) (h1:t.plain=true\/es.size<=1)
  (h:Q (match es[below t.place sl]?,t.place[below t.place sl]? with | some (_,x),some j=>some (x,j + 1) | _,_=>none) s):ax (aC prog w) A (setNext p (sl:Int).toNat (i:Int).toNat (ep:Int).toNat) Q E s:=by
 unfold setNext;refine ad (de hp rfl hf ?_);dsimp only;unfold setsByText;refine ad (ad (dZ (af ?_)));have hw':(aC prog w).w.params.followText "set-order" = false:=hw;rw[hw',if_neg aS];refine hW (fun hc=>?_) (fun _=>?_)
 ·have hc':(!t.plain && decide (es.size > 1))=true:=hc;simp only[aG,decide_eq_true_eq] at hc';rcases h1 with h1 | h1
  ·rw[h1] at hc';exact absurd hc'.1 (by decide)
  ·lia
 ·refine ad ?_;show ax _ _ (if (!t.led && !es.isEmpty)=true then g6 "set:maker-not-led" else pure ()) _ _ _
  rw[hled,if_neg (by simp)]
  refine af ?_;refine af ?_;rw[bF];exact h
theorem ris_few {l:List Nat} (h:l.length<=1):Ris l:=by
 cases l with
 | nil=>exact .nil
 | cons a l =>
  cases l with
  | nil=>exact cj _ _
  | cons b l=>simp at h
theorem below_0 {xs:Array Nat} (hr:Ris xs.toList):below xs 0=0:=by
 obtain⟨_,b,_⟩:=below_spec hr 0;cases e:below xs 0 with
 | zero=>rfl
 | succ n=>exact absurd (b 0 (by lia)) (cV _)
theorem below_s {xs:Array Nat} (hr:Ris xs.toList) {i:Nat} (hi:i < xs.size):below xs (xs[i] + 1)=i + 1:=by
 obtain⟨b1,b2,b3⟩:=below_spec hr (xs[i] + 1);have inc:∀ a b (h:a < b) (hb:b < xs.size),xs[a] < xs[b]:=fun a b hab hb=>by
  have q:=(cM.mp hr) a b (by simpa using eW hab hb) (by simpa using hb) hab
  simpa using q
 rcases gp (below xs (xs[i] + 1)) (i + 1) with h | h | h
 ·have q:=b3 i (by lia) hi
  rw[cB,dif_pos hi] at q;have q':xs[i] + 1<=xs[i]:=q;lia
 ·exact h
 ·have q:=b2 (i + 1) h;have hs:i + 1 < xs.size:=by lia
  rw[cB,dif_pos hs] at q;have q':xs[i + 1] < xs[i] + 1:=q
  have:=inc i (i + 1) (by lia) hs
  lia
theorem place_of {es:Array (Int × ae)} {t:aI} (hf:t.fits es.size=true):t.place.size=es.size:=by
 unfold kx at hf;simp only[aG,beq_iff_eq] at hf;exact hf.1
theorem givesC {p I:Addr} {es:Array (Int × ae)} {ep:Nat} {t:aI} {vals:List ae} (hh:A.in1.handled=none) (hpI:p≠I) (hw:w.params.followText "set-order" = false) (hled:t.led=true) (h1s:t.plain=true\/es.size<=1) (hr:Ris t.place.toList) (hv:vals=es.toList.map (·.2)) :
  Gives prog w A I [I,p] vals (fun i h=>h.get? p=some (setOb es ep t)/\t.fits es.size=true/\∃ sl:Nat,h.get? I=some (itOb (.int sl 0) i p es.size ep)/\below t.place sl=i) where
 mem:=by simp
 frame:=fun i h h' st k=>by
  obtain⟨h1,h2,sl,h3,h4⟩:=st;exact⟨k p (by simp) _ h1,h2,sl,k I (by simp) _ h3,h4⟩
 item:=fun i s v Q E hv' st hQ=>by
  obtain⟨h1,h2,sl,h3,h4⟩:=st;refine nextPre h1 h2 h3 ?_;dsimp only;refine ad (nextPlain h1 h2 hw hled h1s ?_);have hps:=place_of h2;have hi:i < es.size:=by
   have:=(bi.mp hv').1
   rw[hv] at this;simpa using this
  have hi':i < t.place.size:=by lia
  have e0:es[i].2=v:=by
   rw[hv,bv,bS,d9 hi] at hv';exact aJ hv'
  have e1:es[i]?=some (es[i].1,v):=by rw[d9 hi,<- e0]
  rw[h4,e1,d9 hi'];dsimp only;refine ad (cI h3 (by show 0 < 5;decide) fun h' g1 g2=>?_)
  refine ad (cI g1 (by show 1 < 5;decide) fun h'' g3 g4=>?_)
  exact af ⟨v,rfl,af (hQ h'' ⟨(g4.2 p hpI).trans ((g2.2 p hpI).trans h1),h2,t.place[i] + 1,g3,below_s hr hi'⟩ fun b o' hb e=>(g4.2 b hb).trans ((g2.2 b hb).trans e))⟩
 done:=fun s Q E st hQ=>by
  obtain⟨h1,h2,sl,h3,h4⟩:=st;refine nextPre h1 h2 h3 ?_;dsimp only;refine ad (nextPlain h1 h2 hw hled h1s ?_);have nn:es[below t.place sl]?=none:=by
   rw[h4,hv];simp
  rw[nn];dsimp only;refine ad (cI h3 (by show 2 < 5;decide) fun h'' g3 g4=>?_)
  exact stopT (I:=I) hh fun h3' k=>hQ h3' fun b o' hb e=>k b o' ((g4.2 b hb).trans e)
theorem iterT {p:Addr} {es:Array (Int × ae)} {ep:Nat} {t:aI} {Q:ae->ai->Prop} (hh:A.in1.handled=none) (hp:s.heap.get? p=some (setOb es ep t)) (hf:t.fits es.size=true) (hled:t.led=ledOf w) (hpl:t.plain=true->Ris t.place.toList) (hn:es.size<=300)
  (h:∀ I fp vals St h' d,vals.Perm (es.toList.map (·.2))->Gives prog w A I fp vals St->St 0 h'->s.heap.objs.size<=I->(∀ b∈fp,b=p\/s.heap.objs.size<=b)->(∀ b o,s.heap.get? b=some o->h'.get? b=some o)->Q (.ref I) { s with heap:=h',drawn:=d }) :
  ax (aC prog w) A (je (.ref p)) Q E s:=by
 have hT:s.TypeIs (.ref p) "set":=⟨_,hp,rfl⟩;have hlt:p < s.heap.objs.size:=ay hp;refine wpAny_pyIter_slot hT ka (cZ ka hT entry_set_iter ?_ (PySem.F.args_set_iter_1 _));unfold cP.«frozenset.__iter__» cP.Frozenset.slot0 slotArgs;simp only[List.isEmpty_nil,fT,aF,↓reduceIte,bind_assoc,dj,bne_self_eq_false];unfold cP.Frozenset.addrOf cP.Frozenset.sizeOf;refine ad (af ?_)
 try dsimp only
 refine ad (af ?_);refine ad (ad (wpAny_setEntries_of hp rfl hf (af ?_)));unfold setDrawn setsByText;refine ad (ad (de hp rfl hf ?_));dsimp only;refine ad (ad (dZ (af ?_)));refine af ?_;have fin:∀ (first:ae) (h1:aW) (d:Drawn) (Q':Fin->ai->Prop),h1.get? p=some (setOb es ep t) ->
   Q' (.done (.ret (.ref h1.objs.size))) { s with heap:=h1.push (itOb first 0 p es.size ep),drawn:=d } ->
   ax (aC prog w) A.in1 (do
    let e <- setEpoch p
    let v <- newFields "set_iterator" [first,fD 0,.ref p,fD es.size,fD e]
    ret v) Q' E { s with heap:=h1,drawn:=d }:=by
  intro first h1 d Q' ho hQ';refine ad (wpAny_setEpoch_of (s:={ s with heap:=h1,drawn:=d }) ho rfl hf ?_)
  exact ad (bh (af hQ'))
 refine hW (fun hc=>?_) (fun hc=>?_)
 ·refine ad (drawT es.size (aP es.size) (by simp) fun ys d hperm=>?_)
  have yl:ys.length=es.size:=by have:=hperm.length_eq;simpa using this
  have yr:∀ q∈ys,q < es.size:=fun q hq=>bj.mp (hperm.mem_iff.mp hq);obtain⟨f1,f2⟩:=fm_all (l:=ys) (f:=fun q=>(es[q]?).map (·.2)) (fun q hq=>by have:=yr q hq;simp[this])
  refine ad (bh ?_ (by show(ys.map fun(i:Nat)=>fD i).toArray.size<=sizeLine;rw[ak,aj,yl,bu];lia))
  generalize hh1:s.heap.push _=h1;have hsz:h1.objs.size=s.heap.objs.size + 1:=by rw[<- hh1,bR]
  have old:∀ b o,s.heap.get? b=some o->h1.get? b=some o:=fun b o e=>by rw[<- hh1];exact ah _ e
  have hTup:h1.get? s.heap.objs.size=some { cls:=.type "tuple",dict:=none,data:=.seq (ys.map fun(i:Nat)=>fD i).toArray }:=by rw[<- hh1];exact aw _ rfl
  refine fin (.ref s.heap.objs.size) h1 d _ (old p _ hp) ?_;have G:=givesA (prog:=prog) (w:=w) (A:=A) (p:=p) (I:=h1.objs.size) (T:=s.heap.objs.size) (es:=es) (ep:=ep) (t:=t) (vals:=ys.filterMap fun q=>(es[q]?).map (·.2)) (places:=(ys.map fun(i:Nat)=>fD i).toArray) hh (by rw[hsz];exact aH (du _)) (by rw[hsz];exact aH (cS hlt)) (by simp[f1]) (fun j pl hj=>by
   have hj':(ys.map fun(i:Nat)=>fD i)[j]?=some pl:=by simpa using hj
   rw[bv] at hj';cases q:ys[j]? with
   | none=>rw[q] at hj';cases hj'
   | some z =>
    rw[q] at hj';have hz:=yr z (bz q);refine⟨z,(aJ hj').symm,es[z],by simp[hz],?_⟩
    rw[f2 j,q];simp[hz])
  refine⟨_,rfl, "set_iterator",_,⟨_,aw _ rfl,rfl⟩,slot_setit_next.lookup,h _ _ _ _ _ d ?_ G ⟨ah _ (old p _ hp),hf,aw _ rfl,_,_,ah _ hTup,rfl⟩ (by rw[hsz];exact dE _) (fun b hb=>?_) fun b o e=>ah _ (old b o e)⟩
  ·refine(hperm.filterMap _).trans ?_;have e:(aP es.size).filterMap (fun q=>(es[q]?).map (·.2))=es.toList.map (·.2):=by
    rw[<- range_fm es,List.map_filterMap]
   rw[e]
  ·simp only[aA,ju,or_false] at hb;rcases hb with e | e | e
   ·right;rw[e,hsz];exact dE _
   ·exact .inl e
   ·right;rw[e];exact ar _
 ·refine ad (af ?_);refine fin (fD 0) s.heap s.drawn _ hp ?_;have hpI:p≠s.heap.objs.size:=aH hlt;have small:∀ b∈[s.heap.objs.size,p],b=p\/s.heap.objs.size<=b:=fun b hb=>by
   simp only[aA,ju,or_false] at hb;rcases hb with e | e
   ·right;rw[e];exact ar _
   ·exact .inl e
  by_cases hw:w.params.followText "set-order" = true
  ·have G:=givesB (prog:=prog) (w:=w) (A:=A) (p:=p) (I:=s.heap.objs.size) (es:=es) (ep:=ep) (t:=t) hh hpI hw rfl;exact⟨_,rfl, "set_iterator",_,⟨_,aw _ rfl,rfl⟩,slot_setit_next.lookup,h _ _ _ _ _ s.drawn ((pickOrder_perm _ _).map _) G ⟨ah _ hp,hf,aw _ rfl⟩ (ar _) small fun b o e=>ah _ e⟩
  ·have hw':w.params.followText "set-order" = false:=eD.mpr hw;have h1:t.plain=true\/es.size<=1:=by
    have hc':¬ ((!(w.params.followText "set-order") && (!t.plain && decide (es.size > 1)))=true):=hc;rw[hw'] at hc'
    by_cases hp1:t.plain=true
    ·exact .inl hp1
    ·have:t.plain=false:=eD.mpr hp1
     rw[this] at hc';simp at hc';exact .inr hc'
   have hr:Ris t.place.toList:=by
    rcases h1 with h1 | h1
    ·exact hpl h1
    ·exact ris_few (by rw[b9,place_of hf];exact h1)
   have hl':t.led=true:=by rw[hled];show(!(w.params.followText "set-order"))=true;rw[hw'];rfl
   have G:=givesC (prog:=prog) (w:=w) (A:=A) (p:=p) (I:=s.heap.objs.size) (es:=es) (ep:=ep) (t:=t) hh hpI hw' hl' h1 hr rfl;exact⟨_,rfl, "set_iterator",_,⟨_,aw _ rfl,rfl⟩,slot_setit_next.lookup,h _ _ _ _ _ s.drawn (gq _) G ⟨ah _ hp,hf,0,aw _ rfl,below_0 hr⟩ (ar _) small fun b o e=>ah _ e⟩
theorem ext_loop {I S:Addr} {fp:List Addr} {vals:List ae} {St:Nat->aW->Prop} {R:Result->ai->Prop} (G:Gives prog w A.in1 I fp vals St) (hn:vals.length<=300) (hSf:S∉fp) (res:ae) :
  ∀ (k i:Nat) (s:ai) (c:Nat),vals.length - i=k->i<=vals.length->St i s.heap->s.heap.get? S=some { cls:=.type "list",dict:=none,data:=.seq (vals.take i).toArray c,slots:=#[] } ->
  (∀ h' c',(∀ b o,b≠S->b≠I->s.heap.get? b=some o->h'.get? b=some o)->h'.get? S=some { cls:=.type "list",dict:=none,data:=.seq vals.toArray c',slots:=#[] }->R (.ok (.ret res)) { s with heap:=h' }) ->
  eT (aC prog w) A (.builtin "list.extend.loop" ⟨[.ref S,.ref I,res],[]⟩) R s:=by
 have hSI:S≠I:=fun e=>hSf (e ▸ G.mem);intro k
 induction k with
 | zero =>
  intro i s c hk hi hst hS hR;have hin:i=vals.length:=by lia
  subst hin;refine bJ iX ?_;rw[bo ef _];show ax _ A.in1 (fq (.ref I) >>= _) _ _ s;refine ad (G.done s _ _ hst fun h' hk'=>?_);rw[bZ (ar _)] at hS;exact af (hR h' c (fun b o _ hb e=>hk' b o hb e) (hk' S _ hSI hS))
 | succ k ih =>
  intro i s c hk hi hst hS hR;have hlt:i < vals.length:=by lia
  have hv:vals[i]?=some vals[i]:=ag hlt;refine bJ iX ?_;rw[bo ef _];show ax _ A.in1 (fq (.ref I) >>= _) _ _ s;refine ad (G.item i s _ _ _ hv hst fun h1 st1 k1=>?_);have hS1:=k1 S _ hSI hS;have szl:=bu;have hts:(vals.take i).toArray.size=i:=by rw[ak,bw];lia
  show ax _ A.in1 (updateSeq S (·.push vals[i]) >>= _) _ _ _;refine ad ?_;refine fk (s:={ s with heap:=h1 }) hS1 rfl (af ⟨cU ef _,?_⟩) (by rw[hts];lia) (by show((vals.take i).toArray.push vals[i]).size<=sizeLine + 1;rw[Array.size_push,hts];lia)
  have hS2:=b8 (bW (·.push vals[i])) hS1 rfl;have et:(vals.take i).toArray.push vals[i]=(vals.take (i + 1)).toArray:=by
   rw[dJ,hv];simp
  obtain⟨c1,hS2'⟩:∃ c1,(h1.update S (bW (·.push vals[i]))).get? S=some { cls:=.type "list",dict:=none,data:=.seq (vals.take (i + 1)).toArray c1,slots:=#[] }:=⟨_,by rw[<- et];exact hS2⟩
  refine ih (i + 1) { s with heap:=h1.update S (bW (·.push vals[i])) } c1 (by lia) hlt (G.frame _ _ _ st1 fun b hb o e=>(be _ _ (fun h:S=b=>hSf (by rw[h];exact hb))).trans e) hS2' fun h' c' a1 a2=>?_
  ·exact hR h' c' (fun b o hb1 hb2 e=>a1 b o hb1 hb2 ((be _ _ (aZ hb1)).trans (k1 b o hb2 e))) a2
theorem collectJ {p:Addr} {es:Array (Int × ae)} {ep:Nat} {t:aI} {Q:List ae->ai->Prop} (hh:A.handled=none) (hp:s.heap.get? p=some (setOb es ep t)) (hf:t.fits es.size=true) (hled:t.led=ledOf w) (hpl:t.plain=true->Ris t.place.toList) (hn:es.size<=300)
  (h:∀ vals h' d,vals.Perm (es.toList.map (·.2))->(∀ b o,s.heap.get? b=some o->h'.get? b=some o)->Q vals { s with heap:=h',drawn:=d }):ax (aC prog w) A (collect (.ref p)) Q E s:=by
 have hlt:p < s.heap.objs.size:=ay hp;have hT:∀ s':ai,s'.heap.get? p=some (setOb es ep t)->s'.TypeIs (.ref p) "set":=fun s' e=>⟨_,e,rfl⟩;unfold collect;refine ad (wpAny_runValue (bJ PySem.F.entry_proto_collect ?_));rw[bo PySem.F.plain_proto_collect _];show ax _ A.in1 (newList [] >>= fun l=>again (.builtin "list.__iadd__" ⟨[l,.ref p],[]⟩)) _ _ s;refine ad (bh ?_);refine af ⟨cU jD _,bJ PySem.F.entry_list_iadd ?_⟩;rw[bo jD _];show ax _ A.in1 (iy (.ref s.heap.objs.size) (.ref p) (.ref s.heap.objs.size)) _ _ _;generalize hh1:s.heap.push _=h1;have old:∀ b o,s.heap.get? b=some o->h1.get? b=some o:=fun b o e=>by rw[<- hh1];exact ah _ e
 have hsz:h1.objs.size=s.heap.objs.size + 1:=by rw[<- hh1,bR]
 have hS1:h1.get? s.heap.objs.size=some { cls:=.type "list",dict:=none,data:=.seq #[] 0,slots:=#[] }:=by rw[<- hh1];exact aw _ rfl
 have hp1:=old p _ hp;unfold iy;refine ad (gi (hT { s with heap:=h1 } hp1) ?_)
 have e1:ji (.ref s.heap.objs.size) (.ref p)=false:=by simp[ji,ip hlt]
 rw[if_neg (by rw[e1];decide)]
 refine ad (iterT (s:={ s with heap:=h1 }) hh hp1 hf hled hpl hn fun I fp vals St h2 d hperm G st2 hI hfp k2=>?_)
 have hvl:vals.length=es.size:=by have:=hperm.length_eq;simpa using this
 have hI':h1.objs.size<=I:=hI;have hSI:s.heap.objs.size≠I:=by lia
 refine ad (bB (lenHint (k2 p _ hp1) ?_));have hSf:s.heap.objs.size∉fp:=fun z=>by
  have q:=hfp _ z;have q':s.heap.objs.size=p\/h1.objs.size<=s.heap.objs.size:=q;rcases q' with e | e
  ·exact absurd e (ip hlt)
  ·rw[hsz] at e;exact absurd e (Nat.not_succ_le_self _)
 refine hW (fun _=>?_) (fun hc=>absurd (by decide +kernel) hc)
 refine ad (f7 ?_);refine ad ?_;have hS2:=k2 _ _ hS1;show ax _ _ (updateSeq s.heap.objs.size (·.push .none) >>= fun _=>updateSeq s.heap.objs.size (·.pop)) _ _ _;refine ad (fk hS2 rfl ?_);have hS3:=b8 (bW (·.push ci)) hS2 rfl;refine fk (hz:=by seq_fits) hS3 rfl ?_
 have hS4:=b8 (bW (·.pop)) hS3 rfl;refine af ⟨cU ef _,?_⟩;refine ext_loop G (by lia) hSf _ (vals.length - 0) 0 _ _ rfl (bA _) (G.frame _ _ _ st2 fun b hb o e=>?_) hS4 fun h' c' a1 a2=>?_
 ·have hbS:b≠s.heap.objs.size:=fun z=>hSf (z ▸ hb);exact(be _ _ (aZ hbS)).trans ((be _ _ (aZ hbS)).trans e)
 ·show ax _ A (load s.heap.objs.size >>= _) _ _ _;refine ad (wpAny_load a2 ?_)
  have:=h vals h' d hperm fun b o e=>?_
  ·exact af this
  ·have hbS:b≠s.heap.objs.size:=aH (ay e);have hbI:b≠I:=aH (a8 (ay e) (aV (by rw[hsz];exact dE _) hI'))
   exact a1 b o hbS hbI ((be _ _ (aZ hbS)).trans ((be _ _ (aZ hbS)).trans (k2 b o (old b o e))))
theorem collectT {p:Addr} {es:Array (Int × ae)} {ep:Nat} {t:aI} {Q:List ae->ai->Prop} (hh:A.handled=none) (hp:s.heap.get? p=some (setOb es ep t)) (hf:t.fits es.size=true) (hled:t.led=ledOf w) (hpl:t.plain=true->es.size<=1) (hn:es.size<=300)
  (h:∀ vals h' d,vals.Perm (es.toList.map (·.2))->(∀ b o,s.heap.get? b=some o->h'.get? b=some o)->Q vals { s with heap:=h',drawn:=d }):ax (aC prog w) A (collect (.ref p)) Q E s :=
 collectJ hh hp hf hled (fun z=>ris_few (by rw[b9,place_of hf];exact hpl z)) hn h
end
end ST
namespace KS
open PySem PySem.W PyProof.Rows
def TS (h:aW) (v:ae) (d:List Str):Prop:=∃ b items,v=.ref b/\gX h b items/\HT.SAre items.toList d
section
variable {prog:aD} {w:aK} {A:aQ} {E:ae->ai->Prop} {s:ai}
theorem lex_go {Q:Bool->ai->Prop}:∀ {us vs:List ae} {d e:List Str} (i:Nat) {fin:Bool},HT.SAre us d->HT.SAre vs e->fin=decide (d.length < e.length)->Q (HT.lexS d e) s->KatLex prog w A true fin Q (us.zip vs) i s
 | _,_,_,_,i,fin,.nil,.nil,hf,h=>by subst hf;exact kat_nil h
 | _,_,_,_,i,fin,.nil,.cons _ _,hf,h=>by
  subst hf;rw[fA];rw[HT.lexS_nil_cons] at h;exact kat_nil (by simpa using h)
 | _,_,_,_,i,fin,.cons _ _,.nil,hf,h=>by
  subst hf;rw[cH];rw[HT.lexS_cons_nil] at h;exact kat_nil (by simpa using h)
 | _,_,x::d,y::e,i,fin,.cons ⟨t,ht⟩ p,.cons ⟨u,hu⟩ q,hf,h=>by
  subst ht hu;rw[cu];rw[HT.lexS_cons] at h;refine kat_cons (iP x t y u _ _ _ _ ?_);refine kat_go (fun z=>kat_yes (lex_go (i + 1) p q (by subst hf;simp) (by rw[if_pos (by simpa using z)] at h;exact h))) fun z=>kat_no ?_
  rw[if_neg (by simpa using z)] at h
  cases i with
  | zero=>exact oneLt_str h
  | succ i =>
   show ax _ _ (oneLt' false _ _) _ _ _;exact kat_one _ _ (kj (show PySem.W.BoolBack Q (.bool (HT.ltS x y)) s from h))
theorem lt_tuples {x y:ae} {d e:List Str} {Q:Bool->ai->Prop} (hx:TS s.heap x d) (hy:TS s.heap y e) (h:Q (HT.lexS d e) s):ax (aC prog w) A (keyLt' (tuples' true) x y) Q E s:=by
 obtain⟨b,items,rfl,⟨o,ho,_,n,hd⟩,p⟩:=hx;obtain⟨b2,items2,rfl,⟨o2,ho2,_,n2,hd2⟩,p2⟩:=hy;refine kat_lt ho hd ho2 hd2 (lex_go 0 p p2 ?_ h);have l1:=p.len;have l2:=p2.len;simp only[b9] at l1 l2;rw[l1,l2]
theorem lt_general {x y:ae} {d e:List Str} {Q:Bool->ai->Prop} (hu:A.units < bK) (hx:TS s.heap x d) (hy:TS s.heap y e) (h:Q (HT.lexS d e) s):ax (aC prog w) A (keyLt' general' x y) Q E s:=by
 obtain⟨b,items,rfl,t1,p⟩:=hx;obtain⟨b2,items2,rfl,t2,p2⟩:=hy;show ax _ _ (oneLt' false _ _) _ _ _;exact kat_one _ _ (HT.lt_tupStrs t1 t2 p p2 hu (show PySem.W.BoolBack Q (.bool (HT.lexS d e)) s from h))
theorem lt_one {x y:ae} {d e:List Str} {Q:Bool->ai->Prop} (hu:A.units < bK) (hx:TS s.heap x d) (hy:TS s.heap y e) (h:Q (HT.lexS d e) s):ax (aC prog w) A (keyLt' oneType' x y) Q E s:=by
 obtain⟨b,items,rfl,t1,p⟩:=hx;obtain⟨b2,items2,rfl,t2,p2⟩:=hy;rw[keyLt'_oneType,oneLt'_eq];simp only[if_true];obtain⟨⟨cls,dd,data,sl⟩,ho,hc,n,hd⟩:=id t1;obtain⟨⟨cls2,dd2,data2,sl2⟩,ho2,hc2,n2,hd2⟩:=id t2;simp only at hc hd hc2 hd2;subst hc hd hc2 hd2;refine ad (wpAny_cRoomFor hu ?_);refine ad (wpAny_callSpecialIfBound?_slot ⟨_,ho,rfl⟩ fx (iK fx ⟨_,ho,rfl⟩ gz (gf _ _) (HT.tuple_lt_strs b b2 items items2 n n2 dd dd2 sl sl2 d e p p2) ⟨ho,ho2,?_⟩));exact c6 h
theorem firsts_go:∀ {vs:List ae} {ds:List (List Str)} {Q:List (Option ae)->ai->Prop},a7 (TS s.heap) vs ds->(∀ fs:List (Option ae),a7 (fun f d=>match f with | none=>d=[] | some v=>∃ x r t,d=x::r/\v=.str x t) fs ds->Q fs s)->ax (aC prog w) A (vs.mapM firstOfTuple') Q E s
 | _,_,_,.nil,h=>by rw[List.mapM_nil];exact af (h [] .nil)
 | _,_,Q,.cons p q,h=>by
  obtain⟨b,items,rfl,⟨o,ho,hc,n,hd⟩,sa⟩:=p;rw[List.mapM_cons];refine ad ?_;rw[kas_first_eq];refine ad (Looks.here (show Looks (aC prog w) s.heap (typeOf (.ref b)) o.cls from(Looks.ld ho).andThen .now) ?_)
  rw[hc,if_neg (by first | decide | simp)]
  refine ad (listItems_at ho hd (af ?_));refine ad (firsts_go q fun fs pf=>af (h _ (.cons ?_ pf)));obtain⟨items⟩:=items;have sa:HT.SAre items _:=sa;have e:(Array.mk items)[0]?=items[0]?:=by simp
  rw[e];cases sa with
  | nil=>rfl
  | cons z _=>obtain⟨t,ht⟩:=z;exact⟨_,_,t,rfl,ht⟩
theorem kind_go {vs:List ae} {ds:List (List Str)} {Q:SortKind->ai->Prop} (p:a7 (TS s.heap) vs ds) (hne:vs≠[]) (h:∀ κ,κ=tuples' true\/κ=general'\/κ=oneType'->Q κ s):ax (aC prog w) A (keyKind' vs.toArray) Q E s:=by
 rw[kat_kind_eq,jb,map_eq_pure_bind];refine ad (ad (firsts_go p fun fs pf=>af ?_))
 by_cases hall:(fs.toArray.all fun x=>x.isSome)=true
 ·rw[if_pos hall];refine ad (f7 ?_);rw[oneTypeOnly'_eq];have hv:∀ v∈(fs.toArray.filterMap id).toList,∃ x t,v=.str x t:=fun v hv=>by
   simp only[Array.toList_filterMap,cW,id] at hv;obtain⟨f,hf,rfl⟩:=hv
   have:∀ {fs:List (Option ae)} {ds:List (List Str)},a7 (fun f d=>match f with | none=>d=[] | some v=>∃ x r t,d=x::r/\v=.str x t) fs ds->some v∈fs->∃ x t,v=.str x t:=by
    intro fs ds pf
    induction pf with
    | nil=>intro hm;cases hm
    | cons z _ ih =>
     intro hm;rcases aA.mp hm with e | hm
     ·subst e;obtain⟨x,r,t,_,e⟩:=z;exact⟨x,t,e⟩
     ·exact ih hm
   exact this pf hf
  have hne':(fs.toArray.filterMap id).toList≠[]:=by
   have hfl:fs.length=vs.length:=by have:=bT p;have:=bT pf;lia
   cases fs with
   | nil=>exact absurd (bC (by simpa using hfl.symm)) hne
   | cons f fs =>
    simp only[List.all_toArray,jn,aG] at hall;obtain⟨v,rfl⟩:=b5.mp hall.1;simp
  generalize (fs.toArray.filterMap id)=gs at hv hne';obtain⟨gs⟩:=gs;rw[jb,map_eq_pure_bind];refine ad (ad (ad (kas_mapM (r:=cE "str") gs (fun v hv' Q' hq=>?_) (af ?_))))
  ·obtain⟨x,t,rfl⟩:=hv v hv';exact af hq
  ·obtain⟨g,gr,rfl⟩:∃ g gr,gs=g::gr:=by
    cases gs with
    | nil=>exact absurd rfl hne'
    | cons g gr=>exact⟨g,gr,rfl⟩
   have h0:(List.map (fun _=>cE "str") (g::gr)).toArray[0]?=some (cE "str"):=by simp
   have hall2:((List.map (fun _=>cE "str") (g::gr)).toArray.all fun x=>x == cE "str")=true:=by
    simp only[List.all_toArray,eZ,bn];intro _ _;simp
   rw[h0];simp only[hall2,if_true];exact af (af (h _ (.inl rfl)))
 ·rw[if_neg hall]
  by_cases h1:((fs.toArray[0]?.bind id).isSome)=true
  ·rw[if_pos h1];exact af (h _ (.inr (.inl rfl)))
  ·rw[if_neg h1,oneTypeOnly'_eq,jb,map_eq_pure_bind];refine ad (ad (ad (kas_mapM (r:=cE "tuple") vs (fun v hv' Q' hq=>?_) (af ?_))))
   ·have:∀ {vs:List ae} {ds:List (List Str)},a7 (TS s.heap) vs ds->v∈vs->∃ d,TS s.heap v d:=by
     intro vs ds pp
     induction pp with
     | nil=>intro hm;cases hm
     | cons z _ ih =>
      intro hm;rcases aA.mp hm with e | hm
      ·subst e;exact⟨_,z⟩
      ·exact ih hm
    obtain⟨d,b,items,rfl,⟨o,ho,hc,_⟩,_⟩:=this p hv';refine Looks.here (show Looks (aC prog w) s.heap (typeOf (.ref b)) (.type "tuple") from ?_) hq
    rw[<- hc];exact(Looks.ld ho).andThen .now
   ·generalize (List.map (fun _=>cE "tuple") vs).toArray=ts;cases ts[0]? with
    | none=>exact af (af (by first | exact h _ (.inr (.inl rfl)) | exact h _ (.inr (.inr rfl))))
    | some t =>
     by_cases h2:(ts.all (· == t))=true
     ·simp only[h2,if_true];exact af (af (h _ (.inr (.inr rfl))))
     ·simp only[h2,if_false];exact af (af (h _ (.inr (.inl rfl))))
end
end KS
namespace HT
open PySem
theorem ltS_tot {a b:Str} (h:ltS a b=false) (hne:a≠b):ltS b a=true:=by
 unfold ltS at *
 refine decide_eq_true ?_;have h1:=of_decide_eq_false h;refine aX fun h2=>hne ?_;have e:a.cps.toList=b.cps.toList:=List.le_antisymm (List.not_lt.mp h2) (List.not_lt.mp h1);cases a;cases b
 congr 1
 exact Array.toList_inj.mp e
theorem ltS_tr {a b c:Str} (h:ltS a b=true) (h':ltS b c=true):ltS a c=true:=decide_eq_true (List.lt_trans (of_decide_eq_true h) (of_decide_eq_true h'))
theorem ltS_ir (a:Str):ltS a a=false:=decide_eq_false (List.lt_irrefl _)
theorem ltS_as {a b:Str} (h:ltS a b=true):ltS b a=false:=decide_eq_false (List.lt_asymm (of_decide_eq_true h))
theorem lexS_tot:∀ {a b:List Str},lexS a b=false->a≠b->lexS b a=true
 | [],[],_,h=>absurd rfl h
 | [],_::_,h,_=>by cases h
 | _::_,[],_,_=>rfl
 | x::xs,y::ys,h,hne=>by
  rw[lexS_cons] at h ⊢
  by_cases e:x=y
  ·rw[if_pos e] at h;rw[if_pos e.symm];exact lexS_tot h fun z=>hne (by rw[e,z])
  ·rw[if_neg e] at h;rw[if_neg fun z=>e z.symm];exact ltS_tot h e
theorem lexS_as:∀ {a b:List Str},lexS a b=true->lexS b a=false
 | [],[],h=>by cases h
 | [],_::_,_=>rfl
 | _::_,[],h=>by cases h
 | x::xs,y::ys,h=>by
  rw[lexS_cons] at h ⊢
  by_cases e:x=y
  ·rw[if_pos e] at h;rw[if_pos e.symm];exact lexS_as h
  ·rw[if_neg e] at h;rw[if_neg (fun z=>e z.symm)];exact ltS_as h
theorem lexS_tr:∀ {a b c:List Str},lexS a b=true->lexS b c=true->lexS a c=true
 | [],[],_,h,_=>by cases h
 | [],_::_,[],_,h=>by cases h
 | [],_::_,_::_,_,_=>rfl
 | _::_,[],_,h,_=>by cases h
 | _::_,_::_,[],_,h=>by cases h
 | x::xs,y::ys,z::zs,h,h'=>by
  rw[lexS_cons] at h h' ⊢
  by_cases e:x=y
  ·subst e;rw[if_pos rfl] at h
   by_cases e':x=z
   ·rw[if_pos e'] at h' ⊢;exact lexS_tr h h'
   ·rw[if_neg e'] at h' ⊢;exact h'
  ·rw[if_neg e] at h
   by_cases e':y=z
   ·subst e';rw[if_neg e];exact h
   ·rw[if_neg e'] at h';have hxz:=ltS_tr h h'
    have:x≠z:=by rintro rfl;rw[ltS_ir] at hxz;cases hxz
    rw[if_neg this];exact hxz
end HT
namespace KS
open PySem PySem.W PyProof.Rows
theorem paired_idx {α β:Type} {F:α->β->Prop} {l:List α} {m:List β} (p:a7 F l m) (a:α) (b:β):∀ (idx:List Nat),(∀ i∈idx,i < l.length)->a7 F (idx.map fun i=>l.getD i a) (idx.map fun i=>m.getD i b)
 | [],_=>.nil
 | i::idx,h=>by
  refine .cons ?_ (paired_idx p a b idx fun j hj=>h j (aq _ hj));have hi:=h i am;obtain⟨y,hy,hf⟩:=L2.Paired.get' p (ag hi);show F (l.getD i a) (m.getD i b);rw[aB,aB,hy,ag hi];exact hf
theorem TS.keep {h h':aW} {v:ae} {d:List Str} (t:TS h v d) (k:∀ b o,h.get? b=some o->o.cls=.type "tuple"->h'.get? b=some o):TS h' v d:=by
 obtain⟨b,items,e,⟨o,ho,hc,r⟩,p⟩:=t;exact⟨b,items,e,⟨o,k b o ho hc,hc,r⟩,p⟩
theorem ord_of {ds:List (List Str)} (nd:ds.Nodup):Ord (fun i j=>HT.lexS (ds.getD i []) (ds.getD j [])) ds.length where
 tot:=fun i j hi hj hne h=>HT.lexS_tot h fun z=>by
  rw[aB,aB,ag hi,ag hj] at z;exact hne ((gH nd).mp z)
 asy:=fun i j h=>HT.lexS_as h
 tr:=fun i j k h h'=>HT.lexS_tr h h'
theorem idx_sorted {ds:List (List Str)} {p:Array Nat} (v:Vd ds.length p) (h:Asc (fun i j=>HT.lexS (ds.getD i []) (ds.getD j [])) p ds.length):(p.toList.map fun i=>ds.getD i []).Pairwise (fun a b=>HT.lexS a b=true)/\(p.toList.map fun i=>ds.getD i []).Perm ds:=by
 constructor
 ·rw[gu,cM];intro i j hi hj hij;have hi':i < p.size:=by simpa using hi
  have hj':j < p.size:=by simpa using hj
  have:=h i j hij (by rw[<- v.sz];exact hj')
  have e1:at' p i=p.toList[i]:=by simp[at',cB,hi']
  have e2:at' p j=p.toList[j]:=by simp[at',cB,hj']
  rw[<- e1,<- e2];exact this
 ·refine(v.pm.map _).trans (List.Perm.of_eq ?_);apply eS
  ·simp
  ·intro i h1 h2;simp only[gN,List.getElem_range,aB];rw[ag h2]
   rfl
section
variable {prog:aD} {w:aK} {A:aQ} {E:ae->ai->Prop} {s:ai}
theorem sort_tups {a:Addr} {vs:List ae} {ds:List (List Str)} {n:Nat} {P:PySem.Fin->ai->Prop} (hu:A.units < bK) (ho:s.heap.get? a=some (cD "list" vs.toArray n)) (hp:a7 (TS s.heap) vs ds) (nd:ds.Nodup) (h64:vs.length < 64)
  (h:∀ (idx:List Nat) (h':aW) (c:Nat),idx.Perm (aP vs.length)->(idx.map fun i=>ds.getD i []).Pairwise (fun a b=>HT.lexS a b=true)->(idx.map fun i=>ds.getD i []).Perm ds->h'.get? a=some (cD "list" (idx.map fun i=>vs.getD i ci).toArray c) ->
   (∀ b o,b≠a->s.heap.get? b=some o->h'.get? b=some o)->P (.done (.ret .none)) { s with heap:=h' }) :
  ax (aC prog w) A (cP.«list.sort» ⟨[.ref a],[]⟩) P E s:=by
 have ha:a < s.heap.objs.size:=ay ho;have hl:vs.length=ds.length:=bT hp;rw[list_sort_plain];refine ad (listItems_at ho rfl ?_);refine ad (listUpdate_at ho rfl ?_ (by rw[ak,bu];lia) (bA _))
 obtain⟨e1,ho1⟩:∃ e1,(s.heap.update a (bW fun _=>(#[]:Array ae))).get? a=some (cD "list" #[] e1):=⟨_,fm ho fun _=>#[]⟩;refine ad (seqEpoch_at ho1 rfl ?_);refine ad (wpAny_newTuple ?_ (by show vs.length<=_;rw[bu];lia))
 refine ad (wpAny_newList ?_ (bA _));refine bB ?_;have sb:=ce s.heap a (bW fun _=>(#[]:Array ae));generalize hg:s.heap.update a (bW fun _=>(#[]:Array ae))=h1 at ho1 sb;generalize hm:(h1.push (cD "tuple" vs.toArray 0)).push (cD "list" #[] 0)=h2;have k2:∀ b o,h1.get? b=some o->h2.get? b=some o:=fun b o e=>by rw[<- hm];exact ah _ (ah _ e)
 have kk:∀ b o,b≠a->s.heap.get? b=some o->h2.get? b=some o:=fun b o hb e=>k2 b o ((sb.2 b hb).trans e);have ho2:=k2 _ _ ho1;show ax (aC prog w) A _ P E { s with heap:=h2 }
 dsimp only;have fin:∀ (idx:List Nat),idx.Perm (aP vs.length)->(idx.map fun i=>ds.getD i []).Pairwise (fun a b=>HT.lexS a b=true)->(idx.map fun i=>ds.getD i []).Perm ds->P (.done (.ret .none)) { s with heap:=h2.update a (bW fun _=>(idx.map fun i=>vs.getD i ci).toArray) }:=fun idx i1 i2 i3=>by
  have s2:=ce h2 a (bW fun _=>(idx.map fun i=>vs.getD i ci).toArray);exact h idx _ _ i1 i2 i3 (fm ho2 fun _=>(idx.map fun i=>vs.getD i ci).toArray) fun b o hb e=>(s2.2 b hb).trans (kk b o hb e)
 by_cases hs2:vs.toArray.size < 2
 ·rw[if_pos hs2,if_pos hs2];refine ad (af ?_);rw[StateT.run_pure];refine ad (af ?_);dsimp only;refine ad (seqEpoch_at ho2 rfl ?_);have e0:((arrOf (SortSt.mk' general' (vs.toArray.zip vs.toArray) #[] 7 none)).map (·.2))=((aP vs.length).map fun i=>vs.getD i ci).toArray:=by
   show((vs.toArray.zip vs.toArray).map (·.2))=_;apply Array.toList_inj.mp;simp only[Array.toList_map,Array.toList_zip];apply eS
   ·simp
   ·intro i h1 h2;simp at h1 h2 ⊢;rw[ag h2]
    rfl
  rw[e0];refine ad (listUpdate_at ho2 rfl ?_ (bA _) (by simp only[ak,aj,eE];rw[bu];lia))
  simp only[bne_self_eq_false,aF,if_false];have hlen:ds.length < 2:=by rw[<- hl];simpa using hs2
  have ed:((aP vs.length).map fun i=>ds.getD i [])=ds:=by
   apply eS
   ·simp[hl]
   ·intro i h1 h2;simp only[gN,List.getElem_range,aB];rw[ag h2]
    rfl
  refine af (fin _ (gq _) ?_ (by rw[ed]))
  rw[ed]
  match ds,hlen with
  | [],_=>exact .nil
  | [x],_=>exact cj _ _
 ·rw[if_neg hs2,if_neg hs2];have h2l:2<=vs.length:=by simpa using hs2
  have hp2:a7 (TS h2) vs ds:=L2.Paired.imp (fun v d t=>t.keep fun b o e c=>kk b o (by
   rintro rfl;rw[ho] at e;have e':=aJ e;rw[<- e'] at c;have c':cE "list" = cE "tuple":=c;injection c' with c''
   exact absurd c'' (by decide)) e) hp
  refine ad (kind_go (s:={ s with heap:=h2 }) hp2 (by rintro rfl;simp at h2l) fun κ hκ=>?_)
  obtain⟨v1,v2⟩:=run_sort (ord_of nd) (by lia)
  have ans:∀ i j (C:Bool->ai->Prop),i < ds.length->j < ds.length->C (HT.lexS (ds.getD i []) (ds.getD j [])) { s with heap:=h2 }->kas_ask prog w A κ vs i j C { s with heap:=h2 }:=by
   intro i j C hi hj c;unfold kas_ask;have g:∀ k,k < ds.length->TS h2 (vs.getD k ci) (ds.getD k []):=fun k hk=>by
    have hk':k < vs.length:=by lia
    obtain⟨d,hd,t⟩:=L2.Paired.get' hp2 (ag hk');rw[aB,aB,hd,ag hk'];exact t
   rcases hκ with rfl | rfl | rfl
   ·exact lt_tuples (s:={ s with heap:=h2 }) (g i hi) (g j hj) c
   ·exact lt_general (s:={ s with heap:=h2 }) hu (g i hi) (g j hj) c
   ·exact lt_one (s:={ s with heap:=h2 }) hu (g i hi) (g j hj) c
  have tree:(kas_sort vs.length).kasWp (kas_ask prog w A κ vs) (fun p s'=>s'={ s with heap:=h2 }/\p=run (fun i j=>HT.lexS (ds.getD i []) (ds.getD j [])) (kas_sort ds.length)) { s with heap:=h2 }:=by
   rw[hl];exact wp_run ans _ (okq_sort (ord_of nd) (by lia)) ⟨rfl,rfl⟩
  refine ad (dP (kat_run (Q:=fun st' s'=>∃ p:Array Nat,arrOf st'=p.map (kas_item (vs.toArray.zip vs.toArray))/\failedOf st'=none/\s'={ s with heap:=h2 }/\p=run (fun i j=>HT.lexS (ds.getD i []) (ds.getD j [])) (kas_sort ds.length)) rfl h2l h64 (fun p st' s' _ a2 a3 a4=>⟨p,a2,a3,a4.1,a4.2⟩) tree) ?_ fun _ _ e=>e)
  rintro⟨⟨⟩,st'⟩ s' ⟨p,har,hf,rfl,rfl⟩;dsimp only;have hout:=kat_snds rfl har;rw[hout];obtain⟨i1,i2⟩:=idx_sorted v1 v2;refine ad (seqEpoch_at ho2 rfl ?_);refine ad (listUpdate_at ho2 rfl ?_ (bA _) (by
   simp only[ak,aj,b9]
   have:=v1.sz
   rw[bu];lia))
  rw[hf];simp only[bne_self_eq_false,aF,if_false];exact af (fin _ (by rw[hl];exact v1.pm) i1 i2)
end
end KS
namespace ST
open PySem PySem.SetTable PySem.Spec PyProof.Rows
def restr {prog:aD} {w:aK} {κ:Type} (D:SetKd prog w κ) (W:κ->ae->Prop):SetKd prog w κ where
 pk:=D.pk
 is:=fun h k v=>D.is h k v/\W k v
 I:=fun h a es ep t=>D.I h a es ep t/\∀ e∈es.toList,∃ k,D.is h k e.2/\W k e.2
 inj:=fun a b=>D.inj a.1 b.1
 obj:=fun x=>D.obj x.1
 fits:=fun x=>D.fits x.1
 few:=fun z _ _ _ _ _ _ x p nd hp=>D.few z x.1 (L2.Paired.mapP p fun _ _ q=>q.1) nd hp
 fresh:=fun h=>⟨D.fresh h,fun e he=>by simp at he⟩
 keepIs:=fun x kp=>⟨D.keepIs x.1 kp,x.2⟩
 keepI:=fun x e kp=>⟨D.keepI x.1 e kp,fun e he=>let ⟨k,h1,h2⟩:=x.2 e he;⟨k,D.keepIs h1 kp,h2⟩⟩
 add:=fun {A E s a es ep t k x Q} hu hI hx hn h=>by
  refine D.add hu hI.1 hx.1 hn fun h' tk es' ep' t' added q1 q2 q3 q4 q5=>?_;have kp:=sameBut_tup (D.obj hI.1) q2;have up:∀ e∈es.toList,∃ k,D.is h' k e.2/\W k e.2:=fun e he=>let ⟨k,h1,h2⟩:=hI.2 e he;⟨k,D.keepIs h1 kp,h2⟩
  rcases q5 with⟨r1,r2,e,he,r3⟩ | ⟨r1,⟨hh,r2⟩,r3⟩
  ·obtain⟨k',z1,z2⟩:=hI.2 e he
   have:=D.inj r3 z1
   subst this;exact h h' tk es' ep' t' added ⟨q1,by rw[r2];exact up⟩ q2 q3 q4 (.inl ⟨r1,r2,e,he,r3,z2⟩)
  ·refine h h' tk es' ep' t' added ⟨q1,fun e he=>?_⟩ q2 q3 q4 (.inr ⟨r1,⟨hh,r2⟩,fun⟨e,he,z⟩=>r3 ⟨e,he,z.1⟩⟩);rcases aA.mp (r2.mem_iff.mp he) with z | z
   ·subst z;exact⟨k,D.keepIs hx.1 kp,hx.2⟩
   ·exact up e z
end ST
namespace L2
open PySem PySem.Spec PyProof.Rows
def stO (p:Addr) (es:Array (Int × ae)) (ep:Nat) (t:aI):HO:=.ext fun h=>h.get? p=some (ST.setOb es ep t)
abbrev PV (K:Fg) (H:Hp):ae->V × List Str->Prop:=fun v p=>RelV p.1 v/\dT K dS H p.1 p.2
def dSt (w:aK) (K:Fg):Dn (List (List Str)):=fun H v ms=>∃ p es ep t ps,v=.ref p/\H p=some (stO p es ep t)/\t.fits es.size=true/\t.led=ST.ledOf w/\(t.plain=true->es.size<=1)/\a7 (PV K H) (es.toList.map (·.2)) ps/\ms=ps.map (·.2)
theorem Inv.drawn {X:Cx} {pins:List (Addr × Obj)} {σ:St} {H:Hp} {s:ai} (I:Inv X pins σ H s) (d:_):Inv X pins σ H { s with drawn:=d } :=
 ⟨I.ok,I.os,I.bare,I.base,I.loc,I.cell,I.free,I.freeC,I.pin,I.hok,I.len⟩
section
variable {X:Cx}
theorem pv_of {K:Fg} {H:Hp} {h:aW} {P:aD} {w:aK}:∀ {es:List (Int × ae)} {ms:List (List Str)},a7 (fun(e:Int × ae) k=>ST.TK P w h k e.2/\∃ x,RelV x e.2/\dT K dS H x k) es ms->∃ ps,a7 (PV K H) (es.map (·.2)) ps/\ms=ps.map (·.2)
 | _,_,.nil=>⟨[],.nil,rfl⟩
 | _,_,.cons ⟨_,x,r,d⟩ q=>by
  obtain⟨ps,h1,h2⟩:=pv_of q;exact⟨(x,_)::ps,.cons ⟨r,d⟩ h1,by rw[h2];rfl⟩
theorem keyed' {P:aD} {w:aK} {pins:List (Addr × Obj)} {σ:St} {H:Hp} {s:ai} (I:Inv X pins σ H s):∀ {xs:List V} {us:List ae} {ds:List (List Str)},a7 (dT X.K dS H) xs ds->Vals xs us->a7 (fun v k=>ST.TK P w s.heap k v/\∃ x,RelV x v/\dT X.K dS H x k) us ds
 | _,_,_,.nil,.nil=>.nil
 | _,_,_,.cons p q,.cons r t=>by
  refine .cons ⟨?_,_,r,p⟩ (keyed' I q t);obtain⟨b,ys,rfl,hq,pp⟩:=p;cases r;obtain⟨its,ri,tp,_⟩:=I.tuple hq;exact tk_of (K:=X.K) pp ri tp
def rSetLT (w:aK) (K:Fg):List V->Hp->VK->Prop:=fun xs H Q=>∃ x ds,xs=[x]/\dL K (dT K dS) H x ds/\ds.length + 1<=300/\∀ p ms H',Same H H'->ms.Nodup->(∀ k,k∈ms↔k∈ds)->dSt w K H' (.ref p) ms->Q (.ref p) H'
theorem call_setLT {K:Fg} {w:aK} (hu:X.A.units + 8 < bK) (hK:X.K=K:=by rfl) (hw:X.w=w:=by rfl) (hc:X.calm=true:=by rfl):CallR X (.type "set") (rSetLT w K):=by
 subst hK hw;intro pins s σ H xs us Q I r h;obtain⟨x,ds,rfl,⟨a,ys,rfl,hq,p⟩,hn,q⟩:=h;obtain⟨u,rfl,rx⟩:=vals1 r;cases rx;obtain⟨its,ri,pl,_⟩:=I.list hq;refine ST.call_setK (ST.restr (ST.tupKd X.prog X.w) fun k v=>∃ x,RelV x v/\dT X.K dS H x k) (I.ok.hd hc) hu pl.isList (keyed' I p ri) (by rw[ak,<- ri.length,p.length];exact hn) fun h' tk ms M _ hk=>?_
 obtain⟨es,ep,t,hI,hled,hp⟩:=M.ex;obtain⟨ps,h1,h2⟩:=pv_of hp;have hfr:H s.heap.objs.size=none:=I.hok.fresh (ar _);have sm:Same H (upd H s.heap.objs.size (stO s.heap.objs.size es ep t)):=same_upd hfr;refine⟨.ref s.heap.objs.size,_,I.laid (t':=tk) (o:=stO s.heap.objs.size es ep t) (fun b o e=>hk b o (ay e) e) (ar _) ?_,rfl,q _ _ _ sm M.nd M.mem ⟨_,es,ep,t,ps,rfl,upd_same,(ST.tupKd X.prog X.w).fits hI.1,hled,fun z=>?_,L2.Paired.imp (fun _ _ z=>⟨z.1,Mo.mo sm z.2⟩) h1,h2⟩⟩
 ·refine⟨(ST.tupKd X.prog X.w).obj hI.1,⟨_,(ST.tupKd X.prog X.w).obj hI.1⟩,fun g1 g2 g k=>k _ g⟩
 ·exact(ST.restr (ST.tupKd X.prog X.w) fun k v=>∃ x,RelV x v/\dT X.K dS H x k).few rfl hI hp M.nd z
end
section
variable {X:Cx}
theorem ts_of {K:Fg} {pins:List (Addr × Obj)} {σ:St} {H:Hp} {s:ai} (I:Inv X pins σ H s) (hK:X.K=K) {h':aW} (k:∀ b o,s.heap.get? b=some o->h'.get? b=some o):∀ {vs:List ae} {ps:List (V × List Str)},a7 (PV K H) vs ps->a7 (KS.TS h') vs (ps.map (·.2))
 | _,_,.nil=>.nil
 | _,_,.cons ⟨r,d⟩ q=>by
  refine .cons ?_ (ts_of I hK k q);obtain⟨b,xs,e,hq,pp⟩:=d;rw[e] at r;cases r;rw[<- hK] at hq;obtain⟨its,ri,⟨o,ho,z⟩,_⟩:=I.tuple hq;exact⟨b,its.toArray,rfl,⟨o,k b o ho,z⟩,sare_of pp ri⟩
theorem getD_snd:∀ (ps:List (V × List Str)) (i:Nat),(ps.map (·.2)).getD i []=(ps.getD i (V.non,[])).2
 | [],i=>by simp
 | p::ps,0=>by simp
 | p::ps,i + 1=>by simpa using getD_snd ps i
theorem pv_split {K:Fg} {H:Hp}:∀ {vs:List ae} {zs:List (V × List Str)},a7 (PV K H) vs zs->Vals (zs.map (·.1)) vs/\a7 (dT K dS H) (zs.map (·.1)) (zs.map (·.2))
 | _,_,.nil=>⟨.nil,.nil⟩
 | _,_,.cons ⟨r,d⟩ q=>⟨.cons r (pv_split q).1,.cons d (pv_split q).2⟩
theorem strs_of {H:Hp}:∀ {xs:List V} {us:List ae} {ds:List Str},a7 (dS H) xs ds->Vals xs us->StrsAre us ds
 | _,_,_,.nil,.nil=>.nil
 | _,_,_,.cons p q,.cons r t=>by
  cases p;obtain⟨k,rfl⟩:=r;exact .cons _ k (strs_of q t)
theorem of_strs {H:Hp}:∀ {us:List ae} {ds:List Str},StrsAre us ds->Vals (ds.map V.str) us/\a7 (dS H) (ds.map V.str) ds
 | _,_,.nil=>⟨.nil,.nil⟩
 | _,_,.cons y t r=>⟨.cons ⟨t,rfl⟩ (of_strs (H:=H) r).1,.cons rfl (of_strs r).2⟩
end
def cutS (z:Str) (lo hi:Option Int):Str:=if ((bO lo hi 1 z.length).length == z.length)=true then z else ⟨((bO lo hi 1 z.length).filterMap (z.cps[·]?)).toArray⟩
def rSlS:V->Option Int->Option Int->Hp->VK->Prop:=fun x lo hi H Q=>∃ z,x=.str z/\z.length<=1000000/\Q (.str (cutS z lo hi)) H
theorem sl_str {X:Cx}:SlR X rSlS:=by
 intro pins s σ H x v vl vu lo hi sl Q I rx hs pl pu h;obtain⟨z,rfl,hz,q⟩:=h;obtain⟨t,rfl⟩:=rx;refine⟨"str",_,PySem.F.slot_str_getitem.lookup,typeIs_str _ _ _,?_⟩;have go:∀ (l u:Option (Int × Tok)),l.map (·.1)=lo->u.map (·.1)=hi->s.heap.IsSlice sl l u none->ax (aC X.prog X.w) X.A (i7 (.str z t) (.ref sl)) (EP X pins σ Q) X.xe s:=fun l u hl hu hS=>by
  refine wpAny_getItem_str_slice hS rfl ?_;unfold sliceMade slicePicked;simp only[Option.map_none,js,beq_self_eq_true,gW,hl,hu];unfold cutS at q
  by_cases c:((bO lo hi 1 z.length).length == z.length)=true
  ·rw[if_pos c] at q ⊢;exact⟨.str z,H,I,⟨t,rfl⟩,q⟩
  ·rw[if_neg c] at q ⊢;refine⟨?_,.str _,H,I.tok _,⟨_,rfl⟩,q⟩;have h1:=PyProof.Rows.indices_len_le lo hi z.length;have h2:((bO lo hi 1 z.length).filterMap (z.cps[·]?)).length<=(bO lo hi 1 z.length).length:=List.length_filterMap_le _ _;show((bO lo hi 1 z.length).filterMap (z.cps[·]?)).toArray.size<=_;rw[ak,bu];lia
 obtain⟨o,ho,hc,hd⟩:=hs;cases pl with
 | none =>
  cases pu with
  | none=>exact go none none rfl rfl ⟨o,ho,hc,hd⟩
  | int j tj=>exact go none (some (j,tj)) rfl rfl ⟨o,ho,hc,hd⟩
 | int i ti =>
  cases pu with
  | none=>exact go (some (i,ti)) none rfl rfl ⟨o,ho,hc,hd⟩
  | int j tj=>exact go (some (i,ti)) (some (j,tj)) rfl rfl ⟨o,ho,hc,hd⟩
end L2
set_option maxHeartbeats 1000000
namespace L2
open PySem PySem.Spec PyProof.Rows
inductive D where
 | non | bl (b:Bool) | int (i:Int) | str (x:Str) | ty (n:String) | ref (a:Addr) | tup (xs:List D) | lst (xs:List D)
abbrev Am:=Addr->Prop
structure Keep (M:Am) (H:Hp) (M':Am) (H':Hp):Prop where
 st:∀ a o,¬ M a->H a=some o->H' a=some o
 nm:∀ a,¬ M a->H a≠none->¬ M' a
def Xo:HO->Prop
 | .ext _=>True
 | .ins _ _ _=>True
 | _=>False
inductive DO where
 | lst (xs:List D) | dk (kvs:List (Key × D)) | dt (kvs:List (List Key × D))
 | tb (pos:Pos) (qual:Str)
 | ex (f:Am->Hp->Addr->Prop) (hk:∀ M M' H H' a,Keep M H M' H'->H' a=H a->f M H a->f M' H' a) (hl:∀ M H a,f M H a->∃ g,H a=some g/\Xo g)
abbrev Sto:=Addr->Option DO
abbrev Gm:=List (Option D)
def supd (S:Sto) (a:Addr) (o:DO):Sto:=fun b=>if b=a then some o else S b
def sdel (S:Sto) (a:Addr):Sto:=fun b=>if b=a then none else S b
theorem supd_same {S:Sto} {a:Addr} {o:DO}:supd S a o a=some o:=by unfold supd;rw[if_pos rfl]
theorem supd_ne {S:Sto} {a b:Addr} {o:DO} (h:b≠a):supd S a o b=S b:=by unfold supd;rw[if_neg h]
theorem supd_supd {S:Sto} {a:Addr} {o u:DO}:supd (supd S a o) a u=supd S a u:=by funext b;unfold supd;split <;> rfl
theorem sdel_same {S:Sto} {a:Addr}:sdel S a a=none:=by unfold sdel;rw[if_pos rfl]
theorem sdel_ne {S:Sto} {a b:Addr} (h:b≠a):sdel S a b=S b:=by unfold sdel;rw[if_neg h]
def TupAt (K:Fg) (M:Am) (H:Hp) (a:Addr) (xs:List V):Prop:=(¬ M a/\Rd H a (.tup xs))\/SqT K (fun _=>none) a xs
theorem TupAt.sq {K:Fg} {M:Am} {H:Hp} {a:Addr} {xs:List V} (h:TupAt K M H a xs):SqT K H a xs:=by
 rcases h with h | (h | ⟨o,h⟩) | h
 ·exact .inl h.2
 ·cases h
 ·cases h
 ·exact .inr h
def LstAt (K:Fg) (M:Am) (H:Hp) (a:Addr) (xs:List V):Prop:=(¬ M a/\Rd H a (.lst xs))\/SqL K (fun _=>none) a xs
theorem LstAt.sq {K:Fg} {M:Am} {H:Hp} {a:Addr} {xs:List V} (h:LstAt K M H a xs):SqL K H a xs:=by
 rcases h with h | (h | ⟨o,h⟩) | h
 ·exact .inl h.2
 ·cases h
 ·cases h
 ·exact .inr h
mutual
def RepV (K:Fg) (M:Am) (H:Hp):D->V->Prop
 | .non,v=>v=.non
 | .bl b,v=>v=.bl b
 | .int i,v=>v=.int i
 | .str x,v=>v=.str x
 | .ty n,v=>v=.ty n
 | .ref a,v=>v=.ref a
 | .tup ds,v=>∃ a xs,v=.ref a/\TupAt K M H a xs/\RepL K M H ds xs
 | .lst ds,v=>∃ a xs,v=.ref a/\LstAt K M H a xs/\RepL K M H ds xs
def RepL (K:Fg) (M:Am) (H:Hp):List D->List V->Prop
 | [],xs=>xs=[]
 | d::ds,xs=>∃ v vs,xs=v::vs/\RepV K M H d v/\RepL K M H ds vs
end
theorem Rd.live {H:Hp} {a:Addr} {u:HO} (r:Rd H a u):H a≠none:=by
 rcases r with r | ⟨o,r⟩ <;> rw[r] <;> exact fun z=>by cases z
theorem Keep.rd {M M':Am} {H H':Hp} (k:Keep M H M' H') {a:Addr} {u:HO} (hm:¬ M a) (r:Rd H a u):Rd H' a u:=by
 rcases r with r | ⟨o,r⟩
 ·exact .inl (k.st a _ hm r)
 ·exact .inr ⟨o,k.st a _ hm r⟩
theorem TupAt.keep {K:Fg} {M M':Am} {H H':Hp} {p:Addr} {us:List V} (t:TupAt K M H p us) (x:Keep M H M' H'):TupAt K M' H' p us:=by
 rcases t with⟨hm,r⟩ | t
 ·exact .inl ⟨x.nm p hm r.live,x.rd hm r⟩
 ·exact .inr t
theorem LstAt.keep {K:Fg} {M M':Am} {H H':Hp} {p:Addr} {us:List V} (t:LstAt K M H p us) (x:Keep M H M' H'):LstAt K M' H' p us:=by
 rcases t with⟨hm,r⟩ | t
 ·exact .inl ⟨x.nm p hm r.live,x.rd hm r⟩
 ·exact .inr t
mutual
theorem RepV.keep {K:Fg} {M M':Am} {H H':Hp} (k:Keep M H M' H'):∀ {d:D} {v:V},RepV K M H d v->RepV K M' H' d v
 | .non,_,h=>h
 | .bl _,_,h=>h
 | .int _,_,h=>h
 | .str _,_,h=>h
 | .ty _,_,h=>h
 | .ref _,_,h=>h
 | .tup ds,v,h=>by
  unfold RepV at h ⊢;refine hd fun Gq kq=>?_;obtain⟨a,xs,e,t,l⟩:=h;refine kq ?_;exact⟨a,xs,e,t.keep k,RepL.keep k l⟩
 | .lst ds,v,h=>by
  unfold RepV at h ⊢;refine hd fun Gq kq=>?_;obtain⟨a,xs,e,t,l⟩:=h;refine kq ?_;exact⟨a,xs,e,t.keep k,RepL.keep k l⟩
theorem RepL.keep {K:Fg} {M M':Am} {H H':Hp} (k:Keep M H M' H'):∀ {ds:List D} {xs:List V},RepL K M H ds xs->RepL K M' H' ds xs
 | [],_,h=>h
 | d::ds,xs,h=>by
  unfold RepL at h ⊢;refine hd fun Gq kq=>?_;obtain⟨v,vs,e,r,l⟩:=h;refine kq ?_;exact⟨v,vs,e,RepV.keep k r,RepL.keep k l⟩
end
section
variable {K:Fg} {M:Am} {H:Hp}
theorem RepL.length:∀ {ds:List D} {xs:List V},RepL K M H ds xs->xs.length=ds.length
 | [],_,h=>by unfold RepL at h;rw[h];rfl
 | d::ds,xs,h=>by
  unfold RepL at h;obtain⟨v,vs,rfl,_,l⟩:=h;simp[RepL.length l]
theorem RepL.nil:RepL K M H [] []:=by unfold RepL;rfl
theorem RepL.cons {d:D} {ds:List D} {v:V} {vs:List V} (r:RepV K M H d v) (l:RepL K M H ds vs):RepL K M H (d::ds) (v::vs):=by unfold RepL;exact⟨v,vs,rfl,r,l⟩
theorem RepL.app:∀ {ds es:List D} {xs ys:List V},RepL K M H ds xs->RepL K M H es ys->RepL K M H (ds++es) (xs++ys)
 | [],es,xs,ys,h,h'=>by unfold RepL at h;rw[h];exact h'
 | d::ds,es,xs,ys,h,h'=>by
  unfold RepL at h;obtain⟨v,vs,rfl,r,l⟩:=h;exact RepL.cons r (RepL.app l h')
theorem RepL.get:∀ {ds:List D} {xs:List V} {i:Nat} {d:D},RepL K M H ds xs->ds[i]?=some d->∃ v,xs[i]?=some v/\RepV K M H d v
 | [],_,_,_,_,e=>by simp at e
 | d::ds,xs,0,e,h,he=>by
  unfold RepL at h;obtain⟨v,vs,rfl,r,l⟩:=h;simp at he;subst he;exact⟨v,rfl,r⟩
 | d::ds,xs,i + 1,e,h,he=>by
  unfold RepL at h;obtain⟨v,vs,rfl,r,l⟩:=h;refine hd fun Gq kq=>?_;obtain⟨w,h1,h2⟩:=RepL.get (i:=i) l (by simpa using he);refine kq ?_
  exact⟨w,by simpa using h1,h2⟩
theorem RepL.get' {ds:List D} {xs:List V} {i:Nat} {v:V} (h:RepL K M H ds xs) (e:xs[i]?=some v):∃ d,ds[i]?=some d/\RepV K M H d v:=by
 have hl:=h.length;have hi:i < xs.length:=by
  rcases bH i xs.length with z | z
  ·exact z
  ·rw[br z] at e;cases e
 have e':ds[i]?=some ds[i]:=ag (by omega)
 refine hd fun Gq kq=>?_;obtain⟨w,h1,h2⟩:=h.get e';refine kq ?_;rw[e] at h1;cases h1;exact⟨_,e',h2⟩
theorem RepL.take:∀ {ds:List D} {xs:List V} (n:Nat),RepL K M H ds xs->RepL K M H (ds.take n) (xs.take n)
 | _,_,0,_=>by simpa using RepL.nil
 | [],_,n + 1,h=>by unfold RepL at h;subst h;simpa using RepL.nil
 | d::ds,xs,n + 1,h=>by
  unfold RepL at h;obtain⟨v,vs,rfl,r,l⟩:=h;simpa using RepL.cons r (RepL.take n l)
theorem RepL.drop:∀ {ds:List D} {xs:List V} (n:Nat),RepL K M H ds xs->RepL K M H (ds.drop n) (xs.drop n)
 | _,_,0,h=>by simpa using h
 | [],_,n + 1,h=>by unfold RepL at h;subst h;simpa using RepL.nil
 | d::ds,xs,n + 1,h=>by
  unfold RepL at h;obtain⟨v,vs,rfl,r,l⟩:=h;simpa using RepL.drop n l
theorem RepL.set {d:D} {v:V} (r:RepV K M H d v):∀ {ds:List D} {xs:List V} (i:Nat),RepL K M H ds xs->RepL K M H (ds.set i d) (xs.set i v)
 | [],_,i,h=>by unfold RepL at h;subst h;simpa using RepL.nil
 | e::ds,xs,0,h=>by
  unfold RepL at h;obtain⟨w,vs,rfl,_,l⟩:=h;simpa using RepL.cons r l
 | e::ds,xs,i + 1,h=>by
  unfold RepL at h;obtain⟨w,vs,rfl,q,l⟩:=h;simpa using RepL.cons q (RepL.set r i l)
theorem RepL.erase:∀ {ds:List D} {xs:List V} (i:Nat),RepL K M H ds xs->RepL K M H (ds.eraseIdx i) (xs.eraseIdx i)
 | [],_,i,h=>by unfold RepL at h;subst h;simpa using RepL.nil
 | e::ds,xs,0,h=>by
  unfold RepL at h;obtain⟨w,vs,rfl,_,l⟩:=h;simpa using l
 | e::ds,xs,i + 1,h=>by
  unfold RepL at h;obtain⟨w,vs,rfl,q,l⟩:=h;simpa using RepL.cons q (RepL.erase i l)
theorem RepL.one {d:D} {xs:List V} (h:RepL K M H [d] xs):∃ v,xs=[v]/\RepV K M H d v:=by
 unfold RepL at h;obtain⟨v,vs,rfl,r,l⟩:=h;unfold RepL at l;subst l;exact⟨v,rfl,r⟩
theorem RepL.two {d e:D} {xs:List V} (h:RepL K M H [d,e] xs):∃ v w,xs=[v,w]/\RepV K M H d v/\RepV K M H e w:=by
 unfold RepL at h;obtain⟨v,vs,rfl,r,l⟩:=h;obtain⟨w,rfl,r'⟩:=l.one;exact⟨v,w,rfl,r,r'⟩
end
def mt (S:Sto) (F:Am):Am:=fun a=>S a≠none\/F a
abbrev cdO (c:Addr) (oc:Obj):HO:=.ext fun h=>h.get? c=some oc
def TbOk (M:Am) (H:Hp) (pos:Pos) (qual:Str) (ps:Array ae):Prop:=TriplesOk ps.toList/\(codeAmong pos ps.toList=none \/
 ∃ c oc,codeAmong pos ps.toList=some (.ref c)/\¬ M c/\H c=some (cdO c oc)/\∃ vs t,oc.data=.fields vs/\vs[1]?=some (.str qual t))
theorem TbOk.keep {M M':Am} {H H':Hp} (k:Keep M H M' H') {pos:Pos} {qual:Str} {ps:Array ae} (h:TbOk M H pos qual ps):TbOk M' H' pos qual ps:=by
 refine hd fun Gq kq=>?_;obtain⟨h1,h2⟩:=h;refine kq ?_;refine⟨h1,h2.imp id fun⟨c,oc,e1,m,e2,r⟩=>⟨c,oc,e1,k.nm c m (by rw[e2];exact fun z=>by cases z),k.st c _ m e2,r⟩⟩
def RepO (K:Fg) (M:Am) (H:Hp) (a:Addr):DO->Prop
 | .lst ds=>∃ xs,H a=some (.lst xs)/\RepL K M H ds xs
 | .dk kvs=>∃ ks,H a=some (.dK ks)/\a7 (fun(p:Key × V) (q:Key × D)=>p.1=q.1/\RepV K M H q.2 p.2) ks kvs
 | .dt kvs=>∃ ks,H a=some (.dT ks)/\a7 (fun(p:List Key × V) (q:List Key × D)=>p.1=q.1/\RepV K M H q.2 p.2) ks kvs
 | .tb pos qual=>∃ ps,H a=some (.tbl ps)/\TbOk M H pos qual ps
 | .ex f _ _=>f M H a
theorem RepO.live {K:Fg} {M:Am} {H:Hp} {a:Addr} {o:DO} (h:RepO K M H a o):H a≠none:=by
 cases o with
 | ex f hk hl=>obtain⟨g,e,_⟩:=hl _ _ _ h;rw[e];exact fun z=>by cases z
 | _=>obtain⟨xs,e,_⟩:=h;rw[e];exact fun z=>by cases z
theorem RepO.keep {K:Fg} {M M':Am} {H H':Hp} (k:Keep M H M' H') {a:Addr} {o:DO} (e:H' a=H a) (h:RepO K M H a o):RepO K M' H' a o:=by
 cases o with
 | lst ds=>obtain⟨xs,e1,l⟩:=h;exact⟨xs,e.trans e1,l.keep k⟩
 | dk kvs=>obtain⟨xs,e1,l⟩:=h;exact⟨xs,e.trans e1,Paired.imp (fun _ _ z=>⟨z.1,z.2.keep k⟩) l⟩
 | dt kvs=>obtain⟨xs,e1,l⟩:=h;exact⟨xs,e.trans e1,Paired.imp (fun _ _ z=>⟨z.1,z.2.keep k⟩) l⟩
 | tb pos qual=>obtain⟨xs,e1,l⟩:=h;exact⟨xs,e.trans e1,l.keep k⟩
 | ex f hk hl=>exact hk _ _ _ _ _ k e h
def Clt:HO->Prop
 | .lst _=>True
 | .ext _=>True
 | _=>False
structure Rp (K:Fg) (F:Am) (S:Sto) (H:Hp):Prop where
 obj:∀ a o,S a=some o->RepO K (mt S F) H a o
 frm:∀ a,F a->(∃ u,H a=some u/\Clt u)/\S a=none
structure Ext (S:Sto) (H:Hp) (S':Sto) (H':Hp):Prop where
 keep:∀ a o,S a=none->H a=some o->H' a=some o
 live:∀ a,H a≠none->H' a≠none
 new:∀ a,S' a≠none->S a≠none\/H a=none
theorem Ext.refl (S:Sto) (H:Hp):Ext S H S H:=⟨fun _ _ _ h=>h,fun _ h=>h,fun _ h=>.inl h⟩
theorem Ext.sn {S S':Sto} {H H':Hp} (x:Ext S H S' H') {a:Addr} (h:S a=none) (h':H a≠none):S' a=none:=by
 cases e:S' a with
 | none=>rfl
 | some o =>
  rcases x.new a (by rw[e];exact fun z=>by cases z) with z | z
  ·exact absurd h z
  ·exact absurd z h'
theorem Ext.trans {S S1 S2:Sto} {H H1 H2:Hp} (x:Ext S H S1 H1) (y:Ext S1 H1 S2 H2):Ext S H S2 H2 :=
 ⟨fun a o h h'=>y.keep a o (x.sn h (by rw[h'];exact fun z=>by cases z)) (x.keep a o h h'),fun a h=>y.live a (x.live a h),fun a h=>by
  rcases y.new a h with z | z
  ·exact x.new a z
  ·refine .inr (aX fun n=>x.live a n z)⟩
theorem Ext.same {S:Sto} {H H':Hp} (s:Same H H'):Ext S H S H' where
 keep:=fun a o _ h=>s a o h
 live:=fun a h=>by
  cases e:H a with
  | none=>exact absurd e h
  | some o =>
   rw[s a o e];exact fun z=>by cases z
 new:=fun _ h=>.inl h
theorem Ext.kp {F:Am} {S S':Sto} {H H':Hp} (x:Ext S H S' H'):Keep (mt S F) H (mt S' F) H':=⟨fun a o h e=>x.keep a o (aX fun n=>h (.inl n)) e,fun a h e=>fun z=>by
 rcases z with z | z
 ·rcases x.new a z with y | y
  ·exact h (.inl y)
  ·exact e y
 ·exact h (.inr z)⟩
section
variable {K:Fg} {F:Am} {S S':Sto} {H H':Hp}
theorem RepV.ext {d:D} {v:V} (h:RepV K (mt S F) H d v) (x:Ext S H S' H'):RepV K (mt S' F) H' d v:=h.keep x.kp
theorem RepL.ext {ds:List D} {vs:List V} (h:RepL K (mt S F) H ds vs) (x:Ext S H S' H'):RepL K (mt S' F) H' ds vs:=h.keep x.kp
theorem Rp.same (r:Rp K F S H) (s:Same H H'):Rp K F S H' where
 obj:=fun a o h=>by
  have q:=r.obj a o h;have e:H' a=H a:=by
   cases z:H a with
   | none=>exact absurd z q.live
   | some u=>exact s a u z
  exact q.keep (Ext.same s).kp e
 frm:=fun a h=>by
  refine hd fun Gq kq=>?_;obtain⟨⟨zs,e,ct⟩,h2⟩:=r.frm a h;refine kq ?_;exact⟨⟨zs,s a _ e,ct⟩,h2⟩
theorem Ext.write {a:Addr} {o:DO} {u:HO} (h:S a≠none):Ext S H (supd S a o) (upd H a u) where
 keep:=fun b ob h1 h2=>by
  have ne:b≠a:=by rintro rfl;exact h h1
  rw[upd_ne ne];exact h2
 live:=fun b hb=>by
  by_cases e:b=a
  ·subst e;rw[upd_same];exact fun z=>by cases z
  ·rw[upd_ne e];exact hb
 new:=fun b hb=>by
  by_cases e:b=a
  ·subst e;exact .inl h
  ·rw[supd_ne e] at hb;exact .inl hb
theorem Rp.write {a:Addr} {o:DO} {u:HO} (r:Rp K F S H) (h:S a≠none) (q:RepO K (mt (supd S a o) F) (upd H a u) a o):Rp K F (supd S a o) (upd H a u) where
 obj:=fun b ob hb=>by
  by_cases e:b=a
  ·subst e;rw[supd_same] at hb;cases hb;exact q
  ·rw[supd_ne e] at hb;exact(r.obj b ob hb).keep (Ext.write h).kp (upd_ne e)
 frm:=fun b hb=>by
  have e:b≠a:=by rintro rfl;exact h (r.frm b hb).2
  rw[upd_ne e,supd_ne e];exact r.frm b hb
theorem Rp.sn (r:Rp K F S H) {a:Addr} (h:H a=none):S a=none:=by
 cases e:S a with
 | none=>rfl
 | some o=>exact absurd h (r.obj a o e).live
theorem Ext.mk' {a:Addr} {o:DO} {u:HO} (h:H a=none):Ext S H (supd S a o) (upd H a u) where
 keep:=fun b ob h1 h2=>by
  have ne:b≠a:=by rintro rfl;rw[h] at h2;cases h2
  rw[upd_ne ne];exact h2
 live:=fun b hb=>by
  have ne:b≠a:=by rintro rfl;exact hb h
  rw[upd_ne ne];exact hb
 new:=fun b hb=>by
  by_cases e:b=a
  ·subst e;exact .inr h
  ·rw[supd_ne e] at hb;exact .inl hb
theorem Rp.mk' {a:Addr} {o:DO} {u:HO} (r:Rp K F S H) (h:H a=none) (q:RepO K (mt (supd S a o) F) (upd H a u) a o):Rp K F (supd S a o) (upd H a u) where
 obj:=fun b ob hb=>by
  by_cases e:b=a
  ·subst e;rw[supd_same] at hb;cases hb;exact q
  ·rw[supd_ne e] at hb;exact(r.obj b ob hb).keep (Ext.mk' h).kp (upd_ne e)
 frm:=fun b hb=>by
  have e:b≠a:=by
   rintro rfl;refine hd fun Gq kq=>?_;obtain⟨⟨zs,e,_⟩,_⟩:=r.frm b hb;refine kq ?_;rw[h] at e;cases e
  rw[upd_ne e,supd_ne e];exact r.frm b hb
theorem Ext.less {S':Sto} (h:∀ a o,S' a=some o->S a=some o):Ext S H S' H:=⟨fun _ _ _ e=>e,fun _ e=>e,fun a e=>.inl fun z=>by
 cases q:S' a with
 | none=>exact e q
 | some o=>rw[h a o q] at z;cases z⟩
theorem Rp.less {S':Sto} (r:Rp K F S H) (h:∀ a o,S' a=some o->S a=some o):Rp K F S' H where
 obj:=fun a o e=>(r.obj a o (h a o e)).keep (Ext.less h).kp rfl
 frm:=fun a e=>⟨(r.frm a e).1,by
  cases q:S' a with
  | none=>rfl
  | some o=>have:=h a o q;rw[(r.frm a e).2] at this;cases this⟩
theorem lessDel {a:Addr}:∀ b o,sdel S a b=some o->S b=some o:=fun b o e=>by
 by_cases z:b=a
 ·subst z;rw[sdel_same] at e;cases e
 ·rwa [sdel_ne z] at e
end
def look (g:Gm) (i:Nat) (k:D->Prop):Prop:=match i with
 | 0=>match g with
  | some d::_=>k d
  | _=>False
 | n + 1=>match g with
  | _::g=>look g n k
  | []=>False
def RepG (K:Fg) (M:Am) (H:Hp):Gm->St->Prop
 | [],σ=>σ=[]
 | none::g,σ=>∃ v τ,σ=v::τ/\RepG K M H g τ
 | some d::g,σ=>∃ v τ,σ=some v::τ/\RepV K M H d v/\RepG K M H g τ
theorem RepG.keep {K:Fg} {M M':Am} {H H':Hp} (k:Keep M H M' H'):∀ {g:Gm} {σ:St},RepG K M H g σ->RepG K M' H' g σ
 | [],_,h=>h
 | none::g,_,⟨v,τ,e,r⟩=>⟨v,τ,e,RepG.keep k r⟩
 | some d::g,_,⟨v,τ,e,q,r⟩=>⟨v,τ,e,q.keep k,RepG.keep k r⟩
theorem RepG.ext {K:Fg} {F:Am} {S S':Sto} {H H':Hp} {g:Gm} {σ:St} (h:RepG K (mt S F) H g σ) (x:Ext S H S' H'):RepG K (mt S' F) H' g σ:=h.keep x.kp
theorem RepG.look {K:Fg} {M:Am} {H:Hp} {k:D->Prop}:∀ {g:Gm} {σ:St} {i:Nat},RepG K M H g σ->look g i k->∃ v d,σ[i]?=some (some v)/\RepV K M H d v/\k d
 | [],_,0,_,h=>cN h
 | [],_,_ + 1,_,h=>cN h
 | none::_,_,0,_,h=>cN h
 | some d::g,_,0,⟨v,τ,e,q,r⟩,h=>⟨v,d,by rw[e];rfl,q,h⟩
 | some d::g,_,i + 1,⟨v,τ,e,q,r⟩,h=>by
  refine hd fun Gq kq=>?_;obtain⟨u,d',e1,h1⟩:=RepG.look (i:=i) r h;refine kq ?_;exact⟨u,d',by rw[e];simpa using e1,h1⟩
 | none::g,_,i + 1,⟨v,τ,e,r⟩,h=>by
  refine hd fun Gq kq=>?_;obtain⟨u,d',e1,h1⟩:=RepG.look (i:=i) r h;refine kq ?_;exact⟨u,d',by rw[e];simpa using e1,h1⟩
theorem RepG.set {K:Fg} {M:Am} {H:Hp} {d:D} {v:V} (q:RepV K M H d v):∀ {g:Gm} {σ:St} (i:Nat),RepG K M H g σ->RepG K M H (g.set i (some d)) (σ.set i (some v))
 | [],_,_,h=>by cases h;rfl
 | none::g,_,0,⟨w,τ,e,r⟩=>by subst e;exact⟨v,τ,rfl,q,r⟩
 | some _::g,_,0,⟨w,τ,e,_,r⟩=>by subst e;exact⟨v,τ,rfl,q,r⟩
 | none::g,_,i + 1,⟨w,τ,e,r⟩=>by subst e;exact⟨w,_,rfl,RepG.set q i r⟩
 | some _::g,_,i + 1,⟨w,τ,e,z,r⟩=>by subst e;exact⟨w,_,rfl,z,RepG.set q i r⟩
abbrev DK:=D->Sto->Prop
abbrev ED:=Gm->Sto->DK->Prop
abbrev TD:=Gm->Sto->(Bool->Sto->Prop)->Prop
abbrev AD:=Gm->Sto->(List D->Sto->Prop)->Prop
structure EndsD where
 nx:Gm->Sto->Prop
 rt:DK
 bk:Gm->Sto->Prop:=fun _ _=>False
 ct:Gm->Sto->Prop:=fun _ _=>False
abbrev SD:=EndsD->Gm->Sto->Prop
def upE (K:Fg) (t:ED):TE:=fun σ H Q=>∃ F S Γ QD,Rp K F S H/\RepG K (mt S F) H Γ σ/\t Γ S QD/\∀ v d H' S',Ext S H S' H'->Rp K F S' H'->RepV K (mt S' F) H' d v->QD d S'->Q v H'
theorem upE.el {K:Fg} {t:ED} {σ:St} {H:Hp} {Q:VK} {p:Prop} (h:upE K t σ H Q) (k:∀ F S Γ QD,Rp K F S H->RepG K (mt S F) H Γ σ->t Γ S QD->(∀ v d H' S',Ext S H S' H'->Rp K F S' H'->RepV K (mt S' F) H' d v->QD d S'->Q v H')->p):p:=by
 refine hd fun Gq kq=>?_;obtain⟨F,S,Γ,QD,h0,h1,h2,h3⟩:=h;refine kq ?_;exact k F S Γ QD h0 h1 h2 h3
def upT (K:Fg) (t:TD):TT:=fun σ H Q=>∃ F S Γ QD,Rp K F S H/\RepG K (mt S F) H Γ σ/\t Γ S QD/\∀ b H' S',Ext S H S' H'->Rp K F S' H'->QD b S'->Q b H'
theorem upT.el {K:Fg} {t:TD} {σ:St} {H:Hp} {Q:Bool->Hp->Prop} {p:Prop} (h:upT K t σ H Q) (k:∀ F S Γ QD,Rp K F S H->RepG K (mt S F) H Γ σ->t Γ S QD->(∀ b H' S',Ext S H S' H'->Rp K F S' H'->QD b S'->Q b H')->p):p:=by
 refine hd fun Gq kq=>?_;obtain⟨F,S,Γ,QD,h0,h1,h2,h3⟩:=h;refine kq ?_;exact k F S Γ QD h0 h1 h2 h3
def upA (K:Fg) (t:AD):TA:=fun σ H Q=>∃ F S Γ QD,Rp K F S H/\RepG K (mt S F) H Γ σ/\t Γ S QD/\∀ vs ds H' S',Ext S H S' H'->Rp K F S' H'->RepL K (mt S' F) H' ds vs->QD ds S'->Q vs H'
theorem upA.el {K:Fg} {t:AD} {σ:St} {H:Hp} {Q:List V->Hp->Prop} {p:Prop} (h:upA K t σ H Q) (k:∀ F S Γ QD,Rp K F S H->RepG K (mt S F) H Γ σ->t Γ S QD->(∀ vs ds H' S',Ext S H S' H'->Rp K F S' H'->RepL K (mt S' F) H' ds vs->QD ds S'->Q vs H')->p):p:=by
 refine hd fun Gq kq=>?_;obtain⟨F,S,Γ,QD,h0,h1,h2,h3⟩:=h;refine kq ?_;exact k F S Γ QD h0 h1 h2 h3
structure CnS (K:Fg) (F:Am) (S:Sto) (H:Hp) (E:EndsD) (D':Ends):Prop where
 nx:∀ Γ' S' σ' H',Ext S H S' H'->Rp K F S' H'->RepG K (mt S' F) H' Γ' σ'->E.nx Γ' S'->D'.nx σ' H'
 rt:∀ v d H' S',Ext S H S' H'->Rp K F S' H'->RepV K (mt S' F) H' d v->E.rt d S'->D'.rt v H'
 bk:∀ Γ' S' σ' H',Ext S H S' H'->Rp K F S' H'->RepG K (mt S' F) H' Γ' σ'->E.bk Γ' S'->D'.bk σ' H'
 ct:∀ Γ' S' σ' H',Ext S H S' H'->Rp K F S' H'->RepG K (mt S' F) H' Γ' σ'->E.ct Γ' S'->D'.ct σ' H'
theorem CnS.ext {K:Fg} {F:Am} {S S1:Sto} {H H1:Hp} {E:EndsD} {D':Ends} (c:CnS K F S H E D') (x:Ext S H S1 H1):CnS K F S1 H1 E D' :=
 ⟨fun Γ' S' σ' H' y=>c.nx Γ' S' σ' H' (x.trans y),fun v d H' S' y=>c.rt v d H' S' (x.trans y),fun Γ' S' σ' H' y=>c.bk Γ' S' σ' H' (x.trans y),fun Γ' S' σ' H' y=>c.ct Γ' S' σ' H' (x.trans y)⟩
def upS (K:Fg) (t:SD):TS:=fun D' σ H=>∃ F S Γ E,Rp K F S H/\RepG K (mt S F) H Γ σ/\t E Γ S/\CnS K F S H E D'
theorem upS.el {K:Fg} {t:SD} {D':Ends} {σ:St} {H:Hp} {p:Prop} (h:upS K t D' σ H) (k:∀ F S Γ E,Rp K F S H->RepG K (mt S F) H Γ σ->t E Γ S->CnS K F S H E D'->p):p:=by
 refine hd fun Gq kq=>?_;obtain⟨F,S,Γ,E,h0,h1,h2,h3⟩:=h;refine kq ?_;exact k F S Γ E h0 h1 h2 h3
structure PD (K:Fg) (X:Cx) (e:Expr) (t:ED):Prop where
 o:PE X e (upE K t)
structure PTD (K:Fg) (X:Cx) (e:Expr) (t:TD):Prop where
 o:PT X e (upT K t)
structure PAD (K:Fg) (X:Cx) (es:List Expr) (t:AD):Prop where
 o:PA X es (upA K t)
structure PSD (K:Fg) (X:Cx) (st:Stmt) (t:SD):Prop where
 o:PS X st (upS K t)
structure PSsD (K:Fg) (X:Cx) (st:List Stmt) (t:SD):Prop where
 o:PSs X st (upS K t)
section
variable {X:Cx} {K:Fg}
theorem PD.of {e:Expr} {te:TE} {t:ED} (h:PE X e te) (i:∀ σ H Q,upE K t σ H Q->te σ H Q):PD K X e t:=⟨fun pins s σ H Q I q=>h pins s σ H Q I (i σ H Q q)⟩
theorem PTD.of {e:Expr} {te:TT} {t:TD} (h:PT X e te) (i:∀ σ H Q,upT K t σ H Q->te σ H Q):PTD K X e t:=⟨fun pins s σ H Q I q=>h pins s σ H Q I (i σ H Q q)⟩
theorem PAD.of {e:List Expr} {te:TA} {t:AD} (h:PA X e te) (i:∀ σ H Q,upA K t σ H Q->te σ H Q):PAD K X e t:=⟨fun pos pins s σ H Q I q=>h pos pins s σ H Q I (i σ H Q q)⟩
theorem PSD.of {e:Stmt} {te:TS} {t:SD} (h:PS X e te) (i:∀ D' σ H,upS K t D' σ H->te D' σ H):PSD K X e t:=⟨fun pins s σ H D' I q=>h pins s σ H D' I (i D' σ H q)⟩
theorem PSsD.of {e:List Stmt} {te:TS} {t:SD} (h:PSs X e te) (i:∀ D' σ H,upS K t D' σ H->te D' σ H):PSsD K X e t:=⟨fun pins s σ H D' I q=>h pins s σ H D' I (i D' σ H q)⟩
def dVar (i:Nat):ED:=fun Γ S Q=>look Γ i fun d=>Q d S
def dC (d:D):ED:=fun _ S Q=>Q d S
theorem dv (i:Nat) {x:Str} {pos:Pos} (hN:X.N[i]?=some x:=by rfl) (hv:Vis X.env.scope x:=by first | exact aR rfl | exact gO (aR rfl) | exact gO (gO rfl)) (hd:(x == ("__debug__" : Str))=false:=by decide)
  (hcd:(x == ("__classdict__" : Str))=false:=by decide):PD K X (.Name x pos) (dVar i):=.of (pe_var hN hv hd hcd) fun σ H Q z0=>z0.el fun F S Γ QD r g h c=>by
 obtain⟨v,d,e,q,z⟩:=g.look h;exact⟨v,e,c v d H S (Ext.refl _ _) r q z⟩
theorem up_c {d:D} {v:V} (h:∀ M H,RepV K M H d v):∀ σ H Q,upE K (dC d) σ H Q->tC v σ H Q:=fun σ H Q z0=>z0.el fun F S Γ QD r g q c=>c v d H S (Ext.refl _ _) r (h _ _) q
theorem e_int {i j pos}:PD K X (.Constant (.int i) j pos) (dC (.int i)):=.of pe_int (up_c fun _ _=>by unfold RepV;rfl)
theorem e_bl {b j pos}:PD K X (.Constant (.bool b) j pos) (dC (.bl b)):=.of pe_bl (up_c fun _ _=>by unfold RepV;rfl)
theorem e_non {j pos}:PD K X (.Constant .none j pos) (dC .non):=.of pe_non (up_c fun _ _=>by unfold RepV;rfl)
theorem e_str {x j pos}:PD K X (.Constant (.str x) j pos) (dC (.str x)):=.of pe_str (up_c fun _ _=>by unfold RepV;rfl)
def Cn (K:Fg) (F:Am) (S:Sto) (H:Hp) (QD:DK) (Q:VK):Prop:=∀ v d H' S',Ext S H S' H'->Rp K F S' H'->RepV K (mt S' F) H' d v->QD d S'->Q v H'
abbrev R2D:=D->D->Sto->DK->Prop
def OpD (K:Fg) (r:R2) (rd:R2D):Prop:=∀ F S H d e x y Q QD,Rp K F S H->RepV K (mt S F) H d x->RepV K (mt S F) H e y->rd d e S QD->Cn K F S H QD Q->r x y H Q
def dOp (rd:R2D) (ta tb:ED):ED:=fun Γ S Q=>ta Γ S fun x S1=>tb Γ S1 fun y S2=>rd x y S2 Q
theorem up_op {r:R2} {rd:R2D} {ta tb:ED} (h:OpD K r rd):∀ σ H Q,upE K (dOp rd ta tb) σ H Q->tOp r (upE K ta) (upE K tb) σ H Q:=fun σ H Q z0=>z0.el fun F S Γ QD r g q c =>
 ⟨F,S,Γ,_,r,g,q,fun x d H1 S1 x1 r1 v1 q1=>⟨F,S1,Γ,_,r1,g.ext x1,q1,fun y e H2 S2 x2 r2 v2 q2=>h F S2 H2 d e x y Q QD r2 (v1.ext x2) v2 q2 fun v z H3 S3 x3=>c v z H3 S3 (x1.trans (x2.trans x3))⟩⟩
theorem e_op {op:Operator} {r:R2} {rd:R2D} {a b:Expr} {ta tb:ED} {pos:Pos} (ho:OpR X (eR op) r) (h:OpD K r rd) (ha:PD K X a ta) (hb:PD K X b tb):PD K X (.BinOp a op b pos) (dOp rd ta tb):=.of (pe_op ho ha.o hb.o) (up_op h)
theorem e_cmp {op:CmpOp} {r:R2} {rd:R2D} {a b:Expr} {ta tb:ED} {pos:Pos} (ho:OpR X (bE op) r) (h:OpD K r rd) (ha:PD K X a ta) (hb:PD K X b tb) (hm:dA op b=false):PD K X (.Compare a [op] [b] pos) (dOp rd ta tb):=.of (pe_cmpR ho ha.o hb.o hm) (up_op h)
def dTest (t:ED):TD:=fun Γ S Q=>t Γ S fun d S1=>∃ b,d=.bl b/\Q b S1
theorem up_opT {r:R2} {rd:R2D} {ta tb:ED} (h:OpD K r rd):∀ σ H Q,upT K (dTest (dOp rd ta tb)) σ H Q->tTest (tOp r (upE K ta) (upE K tb)) σ H Q:=fun σ H Q q=>up_op (rd:=rd) h σ H _ (by
 refine hd fun Gq kq=>?_;obtain⟨F,S,Γ,QD,r,g,q,c⟩:=q;refine kq ?_;refine⟨F,S,Γ,_,r,g,q,fun v d H1 S1 x1 r1 v1 ⟨b,e,q1⟩=>?_⟩;subst e;unfold RepV at v1;exact⟨b,v1,c b H1 S1 x1 r1 q1⟩)
theorem dt_cmp {op:CmpOp} {r:R2} {rd:R2D} {a b:Expr} {ta tb:ED} {pos:Pos} (ho:OpR X (bE op) r) (h:OpD K r rd) (ha:PD K X a ta) (hb:PD K X b tb) (hm:dA op b=false):PTD K X (.Compare a [op] [b] pos) (dTest (dOp rd ta tb)):=.of (pt_cmpR ho ha.o hb.o hm) (up_opT h)
end
end L2
set_option maxHeartbeats 4000000
namespace L2
open PySem PySem.Spec PyProof.Rows
section
variable {K:Fg} {F:Am} {S:Sto} {H:Hp} {QD:DK} {Q:VK}
theorem Cn.here (c:Cn K F S H QD Q) (r:Rp K F S H) {d:D} {v:V} (h:RepV K (mt S F) H d v) (q:QD d S):Q v H:=c v d H S (Ext.refl _ _) r h q
theorem Cn.int (c:Cn K F S H QD Q) (r:Rp K F S H) {i:Int} (q:QD (.int i) S):Q (.int i) H:=c.here r (by unfold RepV;rfl) q
theorem Cn.str (c:Cn K F S H QD Q) (r:Rp K F S H) {i:Str} (q:QD (.str i) S):Q (.str i) H:=c.here r (by unfold RepV;rfl) q
theorem Cn.bl (c:Cn K F S H QD Q) (r:Rp K F S H) {i:Bool} (q:QD (.bl i) S):Q (.bl i) H:=c.here r (by unfold RepV;rfl) q
theorem Rp.nmt (r:Rp K F S H) {a:Addr} (h:H a=none):¬ mt S F a:=fun z=>by
 rcases z with z | z
 ·exact z (r.sn h)
 ·refine hd fun Gq kq=>?_;obtain⟨⟨zs,e,_⟩,_⟩:=r.frm a z;refine kq ?_;rw[h] at e;cases e
theorem Cn.tup (c:Cn K F S H QD Q) (r:Rp K F S H) {l:Addr} (h:H l=none) {ds:List D} {xs:List V} (rl:RepL K (mt S F) H ds xs) (q:QD (.tup ds) S):Q (.ref l) (upd H l (.tup xs)):=by
 have x:Ext S H S (upd H l (.tup xs)):=Ext.same (same_upd h);refine c _ _ _ S x (r.same (same_upd h)) ?_ q;unfold RepV;exact⟨l,xs,rfl,.inl ⟨r.nmt h,.inl upd_same⟩,rl.ext x⟩
theorem Cn.lst (c:Cn K F S H QD Q) (r:Rp K F S H) {l:Addr} (h:H l=none) {ds:List D} {xs:List V} (rl:RepL K (mt S F) H ds xs) (q:QD (.lst ds) S):Q (.ref l) (upd H l (.lst xs)):=by
 have x:Ext S H S (upd H l (.lst xs)):=Ext.same (same_upd h);refine c _ _ _ S x (r.same (same_upd h)) ?_ q;unfold RepV;exact⟨l,xs,rfl,.inl ⟨r.nmt h,.inl upd_same⟩,rl.ext x⟩
theorem Cn.lstR (c:Cn K F S H QD Q) (r:Rp K F S H) {l:Addr} (h:H l=none) {ds:List D} {xs:List V} (rl:RepL K (mt S F) H ds xs) (q:QD (.ref l) (supd S l (.lst ds))):Q (.ref l) (upd H l (.lst xs)):=by
 have x:Ext S H (supd S l (.lst ds)) (upd H l (.lst xs)):=Ext.mk' h;exact c _ _ _ _ x (r.mk' h ⟨xs,upd_same,rl.ext x⟩) (by unfold RepV;rfl) q
def newL (b:Bool) (ds:List D) (S:Sto) (Q:DK):Prop:=match b with
 | false=>Q (.lst ds) S
 | true=>∀ p,S p=none->Q (.ref p) (supd S p (.lst ds))
theorem Cn.new (c:Cn K F S H QD Q) (r:Rp K F S H) {b:Bool} {l:Addr} (h:H l=none) {ds:List D} {xs:List V} (rl:RepL K (mt S F) H ds xs) (q:newL b ds S QD):Q (.ref l) (upd H l (.lst xs)):=by
 cases b with
 | false=>exact c.lst r h rl q
 | true=>exact c.lstR r h rl (q l (r.sn h))
def lsIs (S:Sto):D->List D->Prop
 | .lst ys,xs=>ys=xs
 | .ref a,xs=>S a=some (.lst xs)
 | _,_=>False
def sqIs (S:Sto):D->List D->Prop
 | .tup ys,xs=>ys=xs
 | .lst ys,xs=>ys=xs
 | .ref a,xs=>S a=some (.lst xs)
 | _,_=>False
theorem lsIs.sl (r:Rp K F S H) {d:D} {v:V} {ds:List D} (h:RepV K (mt S F) H d v) (l:lsIs S d ds):∃ a xs,v=.ref a/\SqL K H a xs/\RepL K (mt S F) H ds xs:=by
 cases d with
 | lst ys =>
  cases l;unfold RepV at h;refine hd fun Gq kq=>?_;obtain⟨a,xs,e,q,z⟩:=h;refine kq ?_;exact⟨a,xs,e,q.sq,z⟩
 | ref a =>
  unfold RepV at h;refine hd fun Gq kq=>?_;obtain⟨xs,e,z⟩:=r.obj a _ l;refine kq ?_;exact⟨a,xs,h,SqL.of e,z⟩
 | _=>exact l.elim
theorem tup.st {ds:List D} {v:V} (h:RepV K (mt S F) H (.tup ds) v):∃ a xs,v=.ref a/\SqT K H a xs/\RepL K (mt S F) H ds xs:=by
 unfold RepV at h;refine hd fun Gq kq=>?_;obtain⟨a,xs,e,t,z⟩:=h;refine kq ?_;exact⟨a,xs,e,t.sq,z⟩
theorem sqIs.sq (r:Rp K F S H) {d:D} {v:V} {ds:List D} (h:RepV K (mt S F) H d v) (l:sqIs S d ds):∃ a xs,v=.ref a/\(SqL K H a xs\/SqT K H a xs)/\RepL K (mt S F) H ds xs:=by
 cases d with
 | tup ys =>
  cases l;refine hd fun Gq kq=>?_;obtain⟨a,xs,e,t,z⟩:=tup.st h;refine kq ?_;exact⟨a,xs,e,.inr t,z⟩
 | lst ys =>
  refine hd fun Gq kq=>?_;obtain⟨a,xs,e,t,z⟩:=lsIs.sl r h (show lsIs S (.lst ys) ds from l);refine kq ?_
  exact⟨a,xs,e,.inl t,z⟩
 | ref a =>
  refine hd fun Gq kq=>?_;obtain⟨a,xs,e,t,z⟩:=lsIs.sl r h (show lsIs S (.ref a) ds from l);refine kq ?_
  exact⟨a,xs,e,.inl t,z⟩
 | _=>exact l.elim
theorem rint {i:Int} {v:V} (h:RepV K (mt S F) H (.int i) v):v=.int i:=by unfold RepV at h;exact h
theorem rstr {i:Str} {v:V} (h:RepV K (mt S F) H (.str i) v):v=.str i:=by unfold RepV at h;exact h
theorem rbl {i:Bool} {v:V} (h:RepV K (mt S F) H (.bl i) v):v=.bl i:=by unfold RepV at h;exact h
theorem rref {i:Addr} {v:V} (h:RepV K (mt S F) H (.ref i) v):v=.ref i:=by unfold RepV at h;exact h
theorem rnon {v:V} (h:RepV K (mt S F) H .non v):v=.non:=by unfold RepV at h;exact h
end
section
variable {X:Cx} {K:Fg}
def rCatL (K:Fg):R2:=fun x y H Q=>∃ l b xs zs,x=.ref l/\y=.ref b/\SqL K H l xs/\SqL K H b zs/\xs.length + zs.length<=sizeLine/\∀ p,H p=none->Q (.ref p) (upd H p (.lst (xs++zs)))
theorem op_catL (hK:X.K=K:=by rfl):OpR X (eR .Add) (rCatL K):=by
 subst hK;intro pins s σ H x y v u Q I rx ry h;obtain⟨l,b,xs,zs,rfl,rfl,hH,hB,hz,q⟩:=h;cases rx;cases ry;obtain⟨its,r,⟨⟨cls,dd,data,sl⟩,n,ho,hc,hd,hdt⟩,hz1⟩:=I.list hH;obtain⟨its2,r2,⟨⟨cls2,dd2,data2,sl2⟩,n2,ho2,hc2,hd2,hdt2⟩,hz2⟩:=I.list hB;simp only at hc hd hdt hc2 hd2 hdt2;subst hc hd hdt hc2 hd2 hdt2;have h1:=r.length;have h2:=r2.length;refine jM ⟨_,ho,rfl⟩ ⟨_,ho2,rfl⟩ noFill_list_add seq_list_add PySem.F.slot_list_add PySem.F.entry_list_add (PySem.F.args_list_add_2 _ _)
  (list_addW l b its.toArray its2.toArray n n2 none none sl sl2 (by rw[ak,ak];lia)) ⟨ho,ho2,?_⟩
 have ea:its.toArray++its2.toArray=(its++its2).toArray:=by simp
 rw[ea];exact⟨.ref _,_,I.lnew (t':=s.toks) (r.append r2) (by rw[av];lia),rfl,q _ I.fresh⟩
def rCat0 (K:Fg):R2:=fun x y H Q=>∃ a b ys,x=.ref a/\y=.ref b/\SqT K H a []/\SqT K H b ys/\Q (.ref b) H
theorem op_cat0 (hK:X.K=K:=by rfl):OpR X (eR .Add) (rCat0 K):=by
 subst hK;intro pins s σ H x y v u Q I rx ry h;obtain⟨a,b,ys,rfl,rfl,ha,hb,q⟩:=h;cases rx;cases ry;refine hd fun Gq kq=>?_;obtain⟨its,r1,p1,_⟩:=I.tuple ha;refine kq ?_;refine hd fun Gq kq=>?_;obtain⟨its2,r2,p2,_⟩:=I.tuple hb;refine kq ?_;cases r1;obtain⟨⟨cls,dd,data,sl⟩,ho,hc,n,hd⟩:=id p1;obtain⟨⟨cls2,dd2,data2,sl2⟩,ho2,hc2,n2,hd2⟩:=id p2;simp only at hc hd hc2 hd2;subst hc hd hc2 hd2;exact jM ⟨_,ho,rfl⟩ ⟨_,ho2,rfl⟩ jr seq_tuple_add gh ga (fQ _ _)
   (tuple_addW0 a b _ _ n n2 dd dd2 sl sl2 rfl) ⟨ho,ho2,⟨.ref b,H,I,rfl,q⟩⟩
def addD (b:Bool):R2D:=fun d e S Q=>match d,e with
 | .int i,.int j=>Q (.int (i + j)) S
 | .str x,.str y=>x.length + y.length<=sizeLine/\Q (.str (x++y)) S
 | .tup xs,.tup ys=>xs.length + ys.length<=sizeLine/\Q (.tup (xs++ys)) S
 | d,e=>∃ xs ys,lsIs S d xs/\lsIs S e ys/\xs.length + ys.length<=sizeLine/\newL b (xs++ys) S Q
def rAddA (K:Fg):R2:=fun x y H Q=>rI0 (fun i j=>.int (i + j)) x y H Q\/(∃ i j,x=.str i/\y=.str j/\i.length + j.length<=sizeLine/\Q (.str (i++j)) H)\/rCatT K x y H Q\/rCat0 K x y H Q\/rCatL K x y H Q
theorem op_addA (hK:X.K=K:=by rfl):OpR X (eR .Add) (rAddA K):=op_add.or (op_add_str.or ((op_catTK hK).or ((op_cat0 hK).or (op_catL hK))))
theorem od_add {b:Bool}:OpD K (rAddA K) (addD b):=by
 intro F S H d e x y Q QD r hd he h c;have lists:(∃ xs ys,lsIs S d xs/\lsIs S e ys/\xs.length + ys.length<=sizeLine/\newL b (xs++ys) S QD)->rAddA K x y H Q:=by
  rintro⟨xs,ys,l1,l2,hz,q⟩;obtain⟨a,us,rfl,s1,p1⟩:=lsIs.sl r hd l1;obtain⟨a2,us2,rfl,s2,p2⟩:=lsIs.sl r he l2;exact .inr (.inr (.inr (.inr ⟨a,a2,us,us2,rfl,rfl,s1,s2,by rw[p1.length,p2.length];exact hz,fun p hp=>c.new r hp (p1.app p2) q⟩)))
 cases d with
 | int i =>
  cases e with
  | int j=>rw[rint hd,rint he];exact .inl ⟨i,j,rfl,rfl,c.int r h⟩
  | _=>exact lists h
 | str i =>
  cases e with
  | str j=>rw[rstr hd,rstr he];exact .inr (.inl ⟨i,j,rfl,rfl,h.1,c.str r h.2⟩)
  | _=>exact lists h
 | tup xs =>
  cases e with
  | tup ys =>
   obtain⟨a,us,rfl,s1,p1⟩:=tup.st hd;obtain⟨a2,us2,rfl,s2,p2⟩:=tup.st he
   by_cases hx:xs=[]
   ·subst hx;unfold RepL at p1;subst p1;exact .inr (.inr (.inr (.inl ⟨a,a2,us2,rfl,rfl,s1,s2,c.here r he (by simpa using h.2)⟩)))
   ·refine .inr (.inr (.inl ⟨a,a2,us,us2,rfl,rfl,s1,s2,fun z=>hx ?_,by rw[p1.length,p2.length];exact h.1,fun z=>?_,fun _ p hp=>c.tup r hp (p1.app p2) h.2⟩))
    ·have:=p1.length;rw[z] at this;exact bC this.symm
    ·have h0:ys=[]:=by have:=p2.length;rw[z] at this;exact bC this.symm
     subst h0;exact c.here r hd (by simpa using h.2)
  | _=>exact lists h
 | _=>exact lists h
def iiD (C:Int->Int->Prop) (g:Int->Int->D):R2D:=fun d e S Q=>match d,e with
 | .int i,.int j=>C i j/\Q (g i j) S
 | _,_=>False
theorem od_I {C:Int->Int->Prop} {g:Int->Int->Int}:OpD K (rI C fun i j=>.int (g i j)) (iiD C fun i j=>.int (g i j)):=by
 intro F S H d e x y Q QD r hd he h c;cases d with
 | int i =>
  cases e with
  | int j=>rw[rint hd,rint he];exact⟨i,j,rfl,rfl,h.1,c.int r h.2⟩
  | _=>exact h.elim
 | _=>exact h.elim
def iiD0 (g:Int->Int->D):R2D:=fun d e S Q=>match d,e with
 | .int i,.int j=>Q (g i j) S
 | _,_=>False
theorem od_I0 {g:Int->Int->Int}:OpD K (rI0 fun i j=>.int (g i j)) (iiD0 fun i j=>.int (g i j)):=by
 intro F S H d e x y Q QD r hd he h c;cases d with
 | int i =>
  cases e with
  | int j=>rw[rint hd,rint he];exact⟨i,j,rfl,rfl,c.int r h⟩
  | _=>exact h.elim
 | _=>exact h.elim
theorem od_B0 {g:Int->Int->Bool}:OpD K (rI0 fun i j=>.bl (g i j)) (iiD0 fun i j=>.bl (g i j)):=by
 intro F S H d e x y Q QD r hd he h c;cases d with
 | int i =>
  cases e with
  | int j=>rw[rint hd,rint he];exact⟨i,j,rfl,rfl,c.bl r h⟩
  | _=>exact h.elim
 | _=>exact h.elim
section
variable {a b:Expr} {ta tb:ED} {pos:Pos}
theorem e_add {k:Bool} (ha:PD K X a ta) (hb:PD K X b tb) (hK:X.K=K:=by rfl):PD K X (.BinOp a .Add b pos) (dOp (addD k) ta tb):=e_op (op_addA hK) od_add ha hb
theorem e_sub (ha:PD K X a ta) (hb:PD K X b tb):PD K X (.BinOp a .Sub b pos) (dOp (iiD0 fun i j=>.int (i - j)) ta tb):=e_op op_sub od_I0 ha hb
theorem e_mul (ha:PD K X a ta) (hb:PD K X b tb):PD K X (.BinOp a .Mult b pos) (dOp (iiD CMul fun i j=>.int (i * j)) ta tb):=e_op op_mul od_I ha hb
theorem e_mod (ha:PD K X a ta) (hb:PD K X b tb):PD K X (.BinOp a .Mod b pos) (dOp (iiD (fun _ j=>0 < j) fun i j=>.int (i % j)) ta tb):=e_op op_mod od_I ha hb
theorem e_fdiv (ha:PD K X a ta) (hb:PD K X b tb):PD K X (.BinOp a .FloorDiv b pos) (dOp (iiD CDiv fun i j=>.int (i / j)) ta tb):=e_op op_fdiv od_I ha hb
end
def unD (g:Int->D):D->Sto->DK->Prop:=fun d S Q=>match d with
 | .int i=>Q (g i) S
 | _=>False
def dUn (rd:D->Sto->DK->Prop) (ta:ED):ED:=fun Γ S Q=>ta Γ S fun x S1=>rd x S1 Q
theorem e_neg {a:Expr} {ta:ED} {pos:Pos} (ha:PD K X a ta):PD K X (.UnaryOp .USub a pos) (dUn (unD fun i=>.int (-i)) ta):=.of (pe_un un_neg ha.o) fun σ H Q z0=>z0.el fun F S Γ QD r g q c =>
 ⟨F,S,Γ,_,r,g,q,fun v d H1 S1 x1 r1 v1 q1=>by
  cases d with
  | int i=>rw[rint v1];exact⟨i,rfl,Cn.int (fun v z H3 S3 x3=>c v z H3 S3 (x1.trans x3)) r1 q1⟩
  | _=>exact q1.elim⟩
def dNil:AD:=fun _ S Q=>Q [] S
def dCons (ta:ED) (tr:AD):AD:=fun Γ S Q=>ta Γ S fun x S1=>tr Γ S1 fun xs S2=>Q (x::xs) S2
theorem da_nil:PAD K X [] dNil:=.of pa_nil fun σ H Q z0=>z0.el fun F S Γ QD r g q c=>c [] [] H S (Ext.refl _ _) r RepL.nil q
theorem da_cons {e:Expr} {es:List Expr} {te:ED} {t:AD} (ha:PD K X e te) (hr:PAD K X es t) (hs:au (e::es) X.env=(false,eval e X.env)::au es X.env:=by rfl):PAD K X (e::es) (dCons te t) :=
 .of (pa_cons ha.o hr.o hs) fun σ H Q z0=>z0.el fun F S Γ QD r g q c=>⟨F,S,Γ,_,r,g,q,fun v d H1 S1 x1 r1 v1 q1=>⟨F,S1,Γ,_,r1,g.ext x1,q1,fun vs ds H2 S2 x2 r2 v2 q2=>c (v::vs) (d::ds) H2 S2 (x1.trans x2) r2 (RepL.cons (v1.ext x2) v2) q2⟩⟩
def dTup (t:AD):ED:=fun Γ S Q=>t Γ S fun ds S1=>ds.length<=sizeLine/\Q (.tup ds) S1
def dLst (b:Bool) (t:AD):ED:=fun Γ S Q=>t Γ S fun ds S1=>ds.length<=sizeLine/\newL b ds S1 Q
theorem Cn.shift {F:Am} {S S1:Sto} {H H1:Hp} {QD:DK} {Q:VK} (c:∀ v d H' S',Ext S H S' H'->Rp K F S' H'->RepV K (mt S' F) H' d v->QD d S'->Q v H') (x:Ext S H S1 H1):Cn K F S1 H1 QD Q:=fun v z H3 S3 x3=>c v z H3 S3 (x.trans x3)
theorem e_tup {es:List Expr} {t:AD} {x1 pos} (h:PAD K X es t):PD K X (.Tuple es x1 pos) (dTup t):=.of (pe_tup h.o) fun σ H Q z0=>z0.el fun F S Γ QD r g q c =>
 ⟨F,S,Γ,_,r,g,q,fun vs ds H1 S1 x1 r1 v1 q1=>⟨by rw[v1.length];exact q1.1,fun p hp=>(Cn.shift c x1).tup r1 hp v1 q1.2⟩⟩
theorem e_lst {b:Bool} {es:List Expr} {t:AD} {pos} (h:PAD K X es t):PD K X (.List es pos) (dLst b t):=.of (pe_lst h.o) fun σ H Q z0=>z0.el fun F S Γ QD r g q c =>
 ⟨F,S,Γ,_,r,g,q,fun vs ds H1 S1 x1 r1 v1 q1=>⟨by rw[v1.length];exact q1.1,fun p hp=>(Cn.shift c x1).new r1 hp v1 q1.2⟩⟩
abbrev RCD:=List D->Sto->DK->Prop
def CallD (K:Fg) (r:List V->Hp->VK->Prop) (rd:RCD):Prop:=∀ F S H ds vs Q QD,Rp K F S H->RepL K (mt S F) H ds vs->rd ds S QD->Cn K F S H QD Q->r vs H Q
def dCB (rd:RCD) (t:AD):ED:=fun Γ S Q=>t Γ S fun ds S1=>rd ds S1 Q
theorem up_cb {r:List V->Hp->VK->Prop} {rd:RCD} {t:AD} (h:CallD K r rd):∀ σ H Q,upE K (dCB rd t) σ H Q->tCB r (upA K t) σ H Q:=fun σ H Q z0=>z0.el fun F S Γ QD r g q c =>
 ⟨F,S,Γ,_,r,g,q,fun vs ds H1 S1 x1 r1 v1 q1=>h F S1 H1 ds vs Q QD r1 v1 q1 (Cn.shift c x1)⟩
theorem e_callB {id:String} {r:List V->Hp->VK->Prop} {rd:RCD} {x:Str} {p pos:Pos} {e:Expr} {es:List Expr} {t:AD} (hc:CallR X (.builtin id) r) (h:CallD K r rd) (hg:Gl X x) (hm:X.mg x=none) (hv:bY x=some (.builtin id)) (ha:PAD K X (e::es) t) (hn:x ≠ "__name__":=by decide) (hdb:(x == ("__debug__" : Str))=false:=by decide)
  (he:au (e::es) X.env=(false,eval e X.env)::au es X.env:=by rfl) (hpl:(bD pos (au es X.env)).any (·.1)=false:=by rfl):PD K X (.Call (.Name x p) (e::es) [] pos) (dCB rd t):=.of (pe_callB hc hg hm hv ha.o hn hdb he hpl) (up_cb h)
theorem e_callTy {T:String} {r:List V->Hp->VK->Prop} {rd:RCD} {x:Str} {p pos:Pos} {e:Expr} {es:List Expr} {t:AD} (hc:CallR X (.type T) r) (h:CallD K r rd) (hg:Gl X x) (hm:X.mg x=none) (hv:bY x=some (.type T)) (ha:PAD K X (e::es) t) (hn:x ≠ "__name__":=by decide) (hdb:(x == ("__debug__" : Str))=false:=by decide)
  (he:au (e::es) X.env=(false,eval e X.env)::au es X.env:=by rfl) (hpl:(bD pos (au es X.env)).any (·.1)=false:=by rfl):PD K X (.Call (.Name x p) (e::es) [] pos) (dCB rd t):=.of (pe_callTy hc hg hm hv ha.o hn hdb he hpl) (up_cb h)
end
mutual
def beqD:D->D->Bool
 | .non,.non=>true
 | .bl a,.bl b=>a == b
 | .int a,.int b=>decide (a=b)
 | .str a,.str b=>decide (a=b)
 | .ty a,.ty b=>decide (a=b)
 | .ref a,.ref b=>decide (a=b)
 | .tup a,.tup b=>beqDs a b
 | .lst a,.lst b=>beqDs a b
 | _,_=>false
def beqDs:List D->List D->Bool
 | [],[]=>true
 | a::as,b::bs=>beqD a b && beqDs as bs
 | _,_=>false
end
theorem bqE {α:Type} [BEq α] [LawfulBEq α] {c:α->D} (inj:∀ x y,c x=c y->x=y) (x y:α):(x == y)=true↔c x=c y:=⟨fun h=>congrArg c (beq_iff_eq.mp h),fun h=>beq_iff_eq.mpr (inj x y h)⟩
theorem bdE {α:Type} {c:α->D} (inj:∀ x y,c x=c y->x=y) (x y:α) {d:Decidable (x=y)}:@decide (x=y) d=true↔c x=c y:=⟨fun h=>congrArg c (of_decide_eq_true h),fun h=>decide_eq_true (inj x y h)⟩
theorem bnE {p:Prop} (h:¬ p):false=true↔p:=⟨fun z=>absurd z aS,fun z=>absurd z h⟩
mutual
theorem beqD_eq:∀ {a b:D},beqD a b=true↔a=b
 | .non,b=>by
  cases b with
  | non=>exact⟨fun _=>rfl,fun _=>rfl⟩
  | _=>exact bnE (fun h=>by cases h)
 | .bl x,b=>by
  cases b with
  | bl y=>exact bqE (fun _ _ h=>by injection h) x y
  | _=>exact bnE (fun h=>by cases h)
 | .int x,b=>by
  cases b with
  | int y=>exact bdE (fun _ _ h=>by injection h) x y
  | _=>exact bnE (fun h=>by cases h)
 | .str x,b=>by
  cases b with
  | str y=>exact bdE (fun _ _ h=>by injection h) x y
  | _=>exact bnE (fun h=>by cases h)
 | .ty x,b=>by
  cases b with
  | ty y=>exact bdE (fun _ _ h=>by injection h) x y
  | _=>exact bnE (fun h=>by cases h)
 | .ref x,b=>by
  cases b with
  | ref y=>exact bdE (fun _ _ h=>by injection h) x y
  | _=>exact bnE (fun h=>by cases h)
 | .tup as,b=>by
  cases b with
  | tup bs=>exact beqDs_eq.trans ⟨fun h=>congrArg D.tup h,fun h=>by injection h⟩
  | _=>exact bnE (fun h=>by cases h)
 | .lst as,b=>by
  cases b with
  | lst bs=>exact beqDs_eq.trans ⟨fun h=>congrArg D.lst h,fun h=>by injection h⟩
  | _=>exact bnE (fun h=>by cases h)
theorem beqDs_eq:∀ {a b:List D},beqDs a b=true↔a=b
 | [],b=>by cases b <;> simp[beqDs]
 | a::as,[]=>by simp[beqDs]
 | a::as,b::bs=>by
  simp only[beqDs,aG,List.cons.injEq];rw[beqD_eq,beqDs_eq]
end
instance:DecidableEq D:=fun a b=>decidable_of_iff _ (beqD_eq (a:=a) (b:=b))
def okE:Nat->D->D->Bool
 | _,.int _,.int _=>true
 | _,.str _,.str _=>true
 | _,.bl _,.bl _=>true
 | _,.non,.non=>true
 | _,.non,.int _=>true
 | _,.int _,.non=>true
 | _,.non,.str _=>true
 | _,.str _,.non=>true
 | n + 1,.non,.tup _=>true
 | n + 1,.tup _,.non=>true
 | n + 1,.tup xs,.tup ys=>(xs.zip ys).all fun p=>okE n p.1 p.2
 | n + 1,.lst xs,.lst ys=>(xs.zip ys).all fun p=>okE n p.1 p.2
 | _,_,_=>false
abbrev okEs (n:Nat) (xs ys:List D):Bool:=(xs.zip ys).all fun p=>okE n p.1 p.2
section
variable {X:Cx} {pins:List (Addr × Obj)} {σ:St} {H:Hp} {s:ai} {M:Am}
structure Eq3 (A:aQ) (s:ai) (u v:ae) (b:Bool):Prop where
 eq:cA A s u v b
 rc:SeqAt.RcAt A s u v b
 ne:cw A s u v (!b)
theorem dec_tup {xs ys:List D}:decide (D.tup xs=D.tup ys)=decide (xs=ys):=by simp
theorem dec_lst {xs ys:List D}:decide (D.lst xs=D.lst ys)=decide (xs=ys):=by simp
theorem zip_get {xs ys:List D} {j:Nat} {a b:D} (h1:xs[j]?=some a) (h2:ys[j]?=some b):(a,b)∈xs.zip ys:=by
 have h1':j < xs.length:=by
  rcases bH j xs.length with z | z
  ·exact z
  ·rw[br z] at h1;cases h1
 have h2':j < ys.length:=by
  rcases bH j ys.length with z | z
  ·exact z
  ·rw[br z] at h2;cases h2
 have e1:xs[j]=a:=by rw[ag h1'] at h1;exact aJ h1
 have e2:ys[j]=b:=by rw[ag h2'] at h2;exact aJ h2
 have hz:j < (xs.zip ys).length:=by rw[List.length_zip];lia
 have:(xs.zip ys)[j]=(a,b):=by rw[List.getElem_zip,e1,e2]
 rw[<- this];exact d0 hz
theorem itemsE {n:Nat} {xs ys:List V} {us vs:List ae} {ds es:List D} {A:aQ} (p:RepL X.K M H ds xs) (p':RepL X.K M H es ys) (r:Vals xs us) (r':Vals ys vs) (hz:okEs n ds es=true)
  (ih:∀ {d e:D} {x y:V} {u v:ae},RepV X.K M H d x->RepV X.K M H e y->RelV x u->RelV y v->okE n d e=true->Eq3 A s u v (decide (d=e))) :
  ∀ j (h1:j < us.toArray.size) (h2:j < vs.toArray.size),cA A s us.toArray[j] vs.toArray[j] (decide (ds[j]?=es[j]?)):=by
 intro j h1 h2;simp only[ak] at h1 h2;have hx:j < xs.length:=by have:=r.length;lia
 have hy:j < ys.length:=by have:=r'.length;lia
 obtain⟨d,ed,rd⟩:=p.get' (ag hx);obtain⟨e,ee,re⟩:=p'.get' (ag hy);obtain⟨u,eu,ru⟩:=r.get (ag hx);obtain⟨v,ev,rv⟩:=r'.get (ag hy);have eu':us[j]=u:=by rw[ag h1] at eu;exact aJ eu
 have ev':vs[j]=v:=by rw[ag h2] at ev;exact aJ ev
 have:decide (ds[j]?=es[j]?)=decide (d=e):=by rw[ed,ee];simp
 rw[this];simp only[eG];rw[eu',ev'];exact(ih rd re ru rv (bn.mp hz _ (zip_get ed ee))).eq
theorem listsE {n:Nat} {a b:Addr} {xs ys:List V} {ds es:List D} {A:aQ} (I:Inv X pins σ H s) (q:SqL X.K H a xs) (q':SqL X.K H b ys) (p:RepL X.K M H ds xs) (p':RepL X.K M H es ys) (hz:okEs n ds es=true) (hu:A.units + (n + 1) < bK)
  (ih:∀ {d e:D} {x y:V} {u v:ae},RepV X.K M H d x->RepV X.K M H e y->RelV x u->RelV y v->okE n d e=true->Eq3 A.in1 s u v (decide (d=e))) :
  SeqAt.RcAt A s (.ref a) (.ref b) (decide (ds=es))/\cw A s (.ref a) (.ref b) (!decide (ds=es)):=by
 obtain⟨us,ru,pl,_⟩:=I.list q;obtain⟨vs,rv,pl',_⟩:=I.list q';have l1:=p.length;have l2:=p'.length;have l3:=ru.length;have l4:=rv.length;have it:=itemsE (A:=A.in1) p p' ru rv hz ih
 by_cases hl:ds.length=es.length
 ·have hs:us.toArray.size=vs.toArray.size:=by rw[ak,ak];lia
  have ans:((aP (us.toArray.size)).all fun j=>decide (ds[j]?=es[j]?))=decide (ds=es):=by
   have:=seq_ans ds es us.toArray.size vs.toArray.size (by rw[ak];lia) (by rw[ak];lia)
   rw[hs,Nat.min_self] at this;rw[hs,<- this];simp
  have h1:=SeqAt.RcAt.lists (e:=fun j=>decide (ds[j]?=es[j]?)) pl.isList pl'.isList hs (show A.units < bK by lia) fun j h1 h2=>it j h1 h2
  have h2:=cw.lists (e:=fun j=>decide (ds[j]?=es[j]?)) pl.isList pl'.isList hs (show A.units < bK by lia) fun j h1 h2=>it j h1 h2
  rw[ans] at h1 h2;exact⟨h1,h2⟩
 ·have hs:(us.toArray.size != vs.toArray.size)=true:=by rw[ak,ak];simp;lia
  have hne:ds≠es:=fun e=>hl (by rw[e])
  rw[decide_eq_false hne];exact⟨SeqAt.RcAt.lists_lengths pl.isList pl'.isList hs (by lia),cw.lists_lengths pl.isList pl'.isList hs (by lia)⟩
theorem uniqL {n:Nat} (ih:∀ {d e:D} {v:V},RepV X.K M H d v->RepV X.K M H e v->okE n d e=true->d=e):∀ {ds es:List D} {xs:List V},RepL X.K M H ds xs->RepL X.K M H es xs->okEs n ds es=true->ds=es
 | [],[],_,_,_,_=>rfl
 | [],e::es,xs,p,p',_=>by have h1:=p.length;have h2:=p'.length;rw[h1] at h2;simp at h2
 | d::ds,[],xs,p,p',_=>by have h1:=p.length;have h2:=p'.length;rw[h1] at h2;simp at h2
 | d::ds,e::es,xs,p,p',h=>by
  unfold RepL at p p';obtain⟨v,vs,rfl,r,l⟩:=p;obtain⟨v',vs',e1,r',l'⟩:=p';cases e1;simp only[okEs,cu,jn,aG] at h;rw[ih r r' h.1,uniqL ih l l' h.2]
inductive OkB:D->D->Prop where
 | ii (i j:Int):OkB (.int i) (.int j)
 | ss (i j:Str):OkB (.str i) (.str j)
 | bb (i j:Bool):OkB (.bl i) (.bl j)
 | nn:OkB .non .non
 | ni (i:Int):OkB .non (.int i)
 | iN (i:Int):OkB (.int i) .non
 | ns (i:Str):OkB .non (.str i)
 | sn (i:Str):OkB (.str i) .non
inductive OkC (n:Nat):D->D->Prop where
 | nt (ys:List D):OkC n .non (.tup ys)
 | tn (xs:List D):OkC n (.tup xs) .non
 | tt (xs ys:List D) (h:okEs n xs ys=true):OkC n (.tup xs) (.tup ys)
 | ll (xs ys:List D) (h:okEs n xs ys=true):OkC n (.lst xs) (.lst ys)
theorem okC0 {d e:D} (h:okE 0 d e=true):OkB d e:=by
 cases d <;> cases e <;> first | exact .ii _ _ | exact .ss _ _ | exact .bb _ _ | exact .nn | exact .ni _ | exact .iN _ | exact .ns _ | exact .sn _ | cases h
theorem okC1 {n:Nat} {d e:D} (h:okE (n + 1) d e=true):okE 0 d e=true\/OkC n d e:=by
 cases d <;> first | (cases e <;> first | exact .inl rfl | exact .inr (.nt _) | cases h) | (cases e <;> first | exact .inr (.tn _) | exact .inr (.tt _ _ h) | exact .inr (.ll _ _ h) | cases h)
theorem uniqB {d e:D} {v:V} (o:OkB d e) (h:RepV X.K M H d v) (h':RepV X.K M H e v):d=e:=by
 cases o <;> first | rfl | (unfold RepV at h h';rw[h] at h';cases h' <;> rfl)
theorem uniq (I:Inv X pins σ H s):∀ (n:Nat) {d e:D} {v:V},RepV X.K M H d v->RepV X.K M H e v->okE n d e=true->d=e:=by
 intro n
 induction n with
 | zero=>exact fun h h' o=>uniqB (okC0 o) h h'
 | succ n ih =>
  intro d e v h h' o;rcases okC1 o with o | o
  ·exact uniqB (okC0 o) h h'
  ·unfold RepV at h h';cases o with
   | nt ys=>obtain⟨a,xs,e1,_⟩:=h';rw[h] at e1;cases e1
   | tn ys=>obtain⟨a,xs,e1,_⟩:=h;rw[h'] at e1;cases e1
   | tt ds es o =>
    obtain⟨a,xs,rfl,t,l⟩:=h;obtain⟨b,ys,e1,t',l'⟩:=h';cases e1
    have:=I.tuple_inj t.sq t'.sq
    subst this;rw[uniqL ih l l' o]
   | ll ds es o =>
    obtain⟨a,xs,rfl,t,l⟩:=h;obtain⟨b,ys,e1,t',l'⟩:=h';cases e1
    have:=I.list_inj t.sq t'.sq
    subst this;rw[uniqL ih l l' o]
theorem eqB {A:aQ} {d e:D} {x y:V} {u v:ae} (o:OkB d e) (h:RepV X.K M H d x) (h':RepV X.K M H e y) (r:RelV x u) (r':RelV y v):Eq3 A s u v (decide (d=e)):=by
 cases o
 all_goals unfold RepV at h h';subst h;subst h'
 ·obtain⟨t,rfl⟩:=r;obtain⟨t',rfl⟩:=r';rw[show ∀ a b:Int,decide (D.int a=D.int b)=(a == b) from by intro a b;rw[beq_dec];simp];exact⟨cA.int_int _ _ _ _,SeqAt.RcAt.int_int _ _ _ _,cw.int_int _ _ _ _⟩
 ·obtain⟨t,rfl⟩:=r;obtain⟨t',rfl⟩:=r';rw[show ∀ a b:Str,decide (D.str a=D.str b)=(a == b) from by intro a b;rw[beq_dec];simp];exact⟨iP _ _ _ _,SeqAt.RcAt.str_str _ _ _ _,cw.str_str _ _ _ _⟩
 ·cases r;cases r';rw[show ∀ a b:Bool,decide (D.bl a=D.bl b)=(a == b) from by intro a b;cases a <;> cases b <;> rfl];exact⟨cA.bool_bool _ _,SeqAt.RcAt.bool_bool _ _,cw.bool_bool _ _⟩
 ·cases r;cases r';exact⟨j3 _,SeqAt.RcAt.none_none,cw.none_none⟩
 ·cases r;obtain⟨t,rfl⟩:=r';exact⟨cA.none_int _ _,SeqAt.RcAt.none_int _ _,cw.none_int _ _⟩
 ·obtain⟨t,rfl⟩:=r;cases r';exact⟨cA.int_none _ _,SeqAt.RcAt.int_none _ _,cw.int_none _ _⟩
 ·cases r;obtain⟨t,rfl⟩:=r';exact⟨cA.none_str _ _,SeqAt.RcAt.none_str _ _,cw.none_str _ _⟩
 ·obtain⟨t,rfl⟩:=r;cases r';exact⟨cA.str_none _ _,SeqAt.RcAt.str_none _ _,cw.str_none _ _⟩
theorem eq3 (I:Inv X pins σ H s):∀ (n:Nat) {A:aQ} {d e:D} {x y:V} {u v:ae},A.units + n < bK->RepV X.K M H d x->RepV X.K M H e y->RelV x u->RelV y v->okE n d e=true->Eq3 A s u v (decide (d=e)):=by
 intro n
 induction n with
 | zero=>exact fun _ h h' r r' o=>eqB (okC0 o) h h' r r'
 | succ n ih =>
  intro A d e x y u v hu h h' r r' o;rcases okC1 o with o | o
  ·exact eqB (okC0 o) h h' r r'
  ·cases o with
   | nt _ =>
    unfold RepV at h;subst h;cases r;obtain⟨a,xs,rfl,t,l⟩:=(show RepV X.K M H (.tup _) y from h')
    cases r';obtain⟨us,ru,pl,_⟩:=I.tuple t.sq;exact⟨cA.none_tuple pl (by lia),SeqAt.RcAt.none_tuple pl (by lia),cw.none_tuple pl (by lia)⟩
   | tn _ =>
    unfold RepV at h';subst h';cases r';obtain⟨a,xs,rfl,t,l⟩:=(show RepV X.K M H (.tup _) x from h)
    cases r;obtain⟨us,ru,pl,_⟩:=I.tuple t.sq;exact⟨cA.tuple_none pl (by lia),SeqAt.RcAt.tuple_none pl (by lia),cw.tuple_none pl (by lia)⟩
   | tt ds es o =>
    have un:=fun {e:D}=>uniq (e:=e) I (n + 1) h;have h0:=h;have h0':=h';unfold RepV at h h';obtain⟨a,xs,rfl,t,l⟩:=h;obtain⟨b,ys,rfl,t',l'⟩:=h';cases r;cases r';obtain⟨us,ru,pl,_⟩:=I.tuple t.sq;obtain⟨vs,rv,pl',_⟩:=I.tuple t'.sq;have l1:=l.length;have l2:=l'.length;have l3:=ru.length;have l4:=rv.length;have it:=itemsE (A:=A.in1) l l' ru rv o fun q q' z z' o=>ih (show A.units + 1 + n < bK by lia) q q' z z' o
    have ans:=seq_ans ds es us.toArray.size vs.toArray.size (by rw[ak];lia) (by rw[ak];lia)
    have h1:=SeqAt.RcAt.tuples pl pl' (show A.units < bK by lia) it
    have h2:=cw.tuples pl pl' (show A.units < bK by lia) it
    rw[ans] at h1 h2;rw[dec_tup];refine⟨?_,h1,h2⟩
    by_cases hab:a=b
    ·subst hab;have e1:=un h0' o;cases e1;rw[decide_eq_true rfl];exact j3 _
    ·exact kD hab h1
   | ll ds es o =>
    have un:=fun {e:D}=>uniq (e:=e) I (n + 1) h;have h0':=h';unfold RepV at h h';obtain⟨a,xs,rfl,t,l⟩:=h;obtain⟨b,ys,rfl,t',l'⟩:=h';cases r;cases r';obtain⟨h1,h2⟩:=listsE (A:=A) (n:=n) I t.sq t'.sq l l' o hu fun q q' z z' o=>ih (show A.units + 1 + n < bK by lia) q q' z z' o
    rw[dec_lst];refine⟨?_,h1,h2⟩
    by_cases hab:a=b
    ·subst hab;have e1:=un h0' o;cases e1;rw[decide_eq_true rfl];exact j3 _
    ·exact kD hab h1
def eqD (neg:Bool):R2D:=fun d e S Q=>match d,e with
 | .ref a,e=>∃ xs ys,S a=some (.lst xs)/\lsIs S e ys/\okEs 8 xs ys=true/\Q (.bl (if neg then !decide (xs=ys) else decide (xs=ys))) S
 | .lst xs,.ref a=>∃ ys,S a=some (.lst ys)/\okEs 8 xs ys=true/\Q (.bl (if neg then !decide (xs=ys) else decide (xs=ys))) S
 | d,e=>okE 9 d e=true/\Q (.bl (if neg then !decide (d=e) else decide (d=e))) S
def rEqA (K:Fg) (neg:Bool):R2:=fun x y H Q=>∃ b,(∀ {X:Cx} {pins:List (Addr × Obj)} {σ:St} {s:ai},Inv X pins σ H s->X.K=K->∀ {u v:ae},RelV x u->RelV y v->∀ A:aQ,A.units + 9 < bK->SeqAt.RcAt A s u v b/\cw A s u v (!b))/\Q (.bl (if neg then !b else b)) H
theorem op_eqA {K:Fg} (hu:X.A.units + 9 < bK) (hK:X.K=K:=by rfl):OpR X (bE .Eq) (rEqA K false):=by
 intro pins s σ H x y v u Q I rx ry ⟨b,h,q⟩;exact(h I hK rx ry X.A hu).1 _ _ _ _ ⟨.bl b,H,I,rfl,q⟩
theorem op_neA {K:Fg} (hu:X.A.units + 9 < bK) (hK:X.K=K:=by rfl):OpR X (bE .NotEq) (rEqA K true):=by
 intro pins s σ H x y v u Q I rx ry ⟨b,h,q⟩;exact(h I hK rx ry X.A hu).2 _ _ _ _ ⟨.bl (!b),H,I,rfl,q⟩
theorem od_eq {K:Fg} {neg:Bool}:OpD K (rEqA K neg) (eqD neg):=by
 intro F S H d e x y Q QD r hd he h c;have lists:∀ {xs ys:List D},lsIs S d xs->lsIs S e ys->okEs 8 xs ys=true->QD (.bl (if neg then !decide (xs=ys) else decide (xs=ys))) S->rEqA K neg x y H Q:=by
  intro xs ys l1 l2 o q;obtain⟨a,us,rfl,s1,p1⟩:=lsIs.sl r hd l1;obtain⟨a2,us2,rfl,s2,p2⟩:=lsIs.sl r he l2;refine⟨_,fun {X pins σ s} I hK u v ru rv A hA=>?_,c.bl r q⟩;subst hK;cases ru;cases rv;exact listsE I s1 s2 p1 p2 o hA fun q q' z z' o=>eq3 I 8 (show A.units + 1 + 8 < bK by lia) q q' z z' o
 have plain:okE 9 d e=true->QD (.bl (if neg then !decide (d=e) else decide (d=e))) S->rEqA K neg x y H Q:=by
  intro o q;refine⟨_,fun {X pins σ s} I hK u v ru rv A hA=>?_,c.bl r q⟩;subst hK
  have:=eq3 I 9 hA hd he ru rv o
  exact⟨this.rc,this.ne⟩
 cases d with
 | ref a=>obtain⟨xs,ys,h1,h2,h3,h4⟩:=h;exact lists h1 h2 h3 h4
 | lst xs =>
  cases e with
  | ref a=>obtain⟨ys,h2,h3,h4⟩:=h;exact lists rfl h2 h3 h4
  | _=>exact plain h.1 h.2
 | _=>exact plain h.1 h.2
mutual
def plain:D->Bool
 | .non=>true
 | .bl _=>true
 | .int _=>true
 | .str _=>true
 | .tup xs=>plains xs
 | _=>false
def plains:List D->Bool
 | []=>true
 | x::xs=>plain x && plains xs
end
mutual
theorem plain_fn (I:Inv X pins σ H s):∀ {d e:D} {v:V},plain d=true->plain e=true->RepV X.K M H d v->RepV X.K M H e v->d=e
 | .tup ds,e,v,p,p',h,h'=>by
  cases e with
  | tup es =>
   unfold RepV at h h';obtain⟨a,xs,rfl,t,l⟩:=h;obtain⟨b,ys,e1,t',l'⟩:=h';cases e1
   have:=I.tuple_inj t.sq t'.sq
   subst this;unfold plain at p p';rw[plains_fn I p p' l l']
  | lst _=>cases p'
  | ref _=>cases p'
  | ty _=>cases p'
  | _ =>
   unfold RepV at h h';obtain⟨a,xs,e1,_⟩:=h;rw[h'] at e1;cases e1
 | .non,e,v,p,p',h,h'=>by
  cases e <;> first | rfl | (cases p';done) | (unfold RepV at h h';rw[h] at h';cases h';done) | (unfold RepV at h h';obtain⟨a,xs,e1,_⟩:=h';rw[h] at e1;cases e1)
 | .bl _,e,v,p,p',h,h'=>by
  cases e <;> first | (cases p';done) | (unfold RepV at h h';rw[h] at h';cases h';done) | (unfold RepV at h h';rw[h] at h';cases h';rfl) | (unfold RepV at h h';obtain⟨a,xs,e1,_⟩:=h';rw[h] at e1;cases e1)
 | .int _,e,v,p,p',h,h'=>by
  cases e <;> first | (cases p';done) | (unfold RepV at h h';rw[h] at h';cases h';done) | (unfold RepV at h h';rw[h] at h';cases h';rfl) | (unfold RepV at h h';obtain⟨a,xs,e1,_⟩:=h';rw[h] at e1;cases e1)
 | .str _,e,v,p,p',h,h'=>by
  cases e <;> first | (cases p';done) | (unfold RepV at h h';rw[h] at h';cases h';done) | (unfold RepV at h h';rw[h] at h';cases h';rfl) | (unfold RepV at h h';obtain⟨a,xs,e1,_⟩:=h';rw[h] at e1;cases e1)
 | .ty _,e,v,p,p',h,h'=>by cases p
 | .ref _,e,v,p,p',h,h'=>by cases p
 | .lst _,e,v,p,p',h,h'=>by cases p
theorem plains_fn (I:Inv X pins σ H s):∀ {ds es:List D} {vs:List V},plains ds=true->plains es=true->RepL X.K M H ds vs->RepL X.K M H es vs->ds=es
 | [],es,vs,p,p',l,l'=>by
  have h1:=l.length;have h2:=l'.length;rw[h1] at h2;exact(bC h2.symm).symm
 | d::ds,[],vs,p,p',l,l'=>by have h1:=l.length;have h2:=l'.length;rw[h1] at h2;simp at h2
 | d::ds,e::es,vs,p,p',l,l'=>by
  unfold RepL at l l';obtain⟨v,vs,rfl,r,l⟩:=l;obtain⟨v',vs',e1,r',l'⟩:=l';cases e1;simp only[plains,aG] at p p';rw[plain_fn I p.1 p'.1 r r',plains_fn I p.2 p'.2 l l']
end
theorem plains_mem:∀ {ds:List D},plains ds=true->∀ d∈ds,plain d=true
 | [],_,d,h=>by cases h
 | x::ds,p,d,h=>by
  simp only[plains,aG] at p;rcases aA.mp h with rfl | h
  ·exact p.1
  ·exact plains_mem p.2 d h
def rInA (K:Fg) (neg:Bool):R2:=fun x y H Q=>∃ p xs b,y=.ref p/\(SqL K H p xs\/SqT K H p xs) /\
 (∀ {X:Cx} {pins:List (Addr × Obj)} {σ:St} {s:ai},Inv X pins σ H s->X.K=K->∀ {v:ae} {us:List ae},RelV x v->Vals xs us->∀ A:aQ,A.units + 9 < bK->∃ f:ae->Bool,(∀ u∈us,cA A s u v (f u))/\us.any f=b)/\Q (.bl (if neg then !b else b)) H
theorem op_inA {K:Fg} (hu:X.A.units + 10 < bK) (hK:X.K=K:=by rfl):OpR X (bE .In) (rInA K false):=by
 intro pins s σ H x y v u Q I rx ry h;obtain⟨p,xs,b,rfl,hq,hf,q⟩:=h;cases ry;rw[<- hK] at hq;rcases hq with hq | hq
 ·obtain⟨its,r,pl,hz⟩:=I.list hq;obtain⟨f,f1,f2⟩:=hf I hK rx r X.A.in1 (show X.A.units + 1 + 9 < bK by lia)
  refine SeqAt.in_listAt f pl.isList (fun w hw=>f1 w (by simpa using hw)) ⟨.bl _,H,I,rfl,?_⟩
  rw[show its.toArray.any f=its.any f by simp,f2]
  exact q
 ·obtain⟨its,r,pl,hz⟩:=I.tuple hq;obtain⟨f,f1,f2⟩:=hf I hK rx r X.A.in1 (show X.A.units + 1 + 9 < bK by lia)
  refine SeqAt.in_tupleAt f pl (fun w hw=>f1 w (by simpa using hw)) ⟨.bl _,H,I,rfl,?_⟩
  rw[show its.toArray.any f=its.any f by simp,f2]
  exact q
theorem op_ninA {K:Fg} (hu:X.A.units + 10 < bK) (hK:X.K=K:=by rfl):OpR X (bE .NotIn) (rInA K true):=by
 intro pins s σ H x y v u Q I rx ry h;obtain⟨p,xs,b,rfl,hq,hf,q⟩:=h;cases ry;rw[<- hK] at hq;rcases hq with hq | hq
 ·obtain⟨its,r,pl,hz⟩:=I.list hq;obtain⟨f,f1,f2⟩:=hf I hK rx r X.A.in1 (show X.A.units + 1 + 9 < bK by lia)
  refine SeqAt.notIn_listAt f pl.isList (fun w hw=>f1 w (by simpa using hw)) ⟨.bl _,H,I,rfl,?_⟩
  rw[show its.toArray.any f=its.any f by simp,f2]
  exact q
 ·obtain⟨its,r,pl,hz⟩:=I.tuple hq;obtain⟨f,f1,f2⟩:=hf I hK rx r X.A.in1 (show X.A.units + 1 + 9 < bK by lia)
  refine SeqAt.notIn_tupleAt f pl (fun w hw=>f1 w (by simpa using hw)) ⟨.bl _,H,I,rfl,?_⟩
  rw[show its.toArray.any f=its.any f by simp,f2]
  exact q
def inD (neg:Bool):R2D:=fun d e S Q=>∃ xs,sqIs S e xs/\plains xs=true/\(xs.all fun y=>okE 8 y d)=true/\Q (.bl (if neg then !decide (d∈xs) else decide (d∈xs))) S
theorem any_in (I:Inv X pins σ H s) {d:D} {x:V} {v:ae} (rx:RelV x v) (hd:RepV X.K M H d x) {A:aQ} (hA:A.units + 9 < bK):∀ {xs:List V} {us:List ae} {ds:List D},RepL X.K M H ds xs->Vals xs us->plains ds=true->(ds.all fun y=>okE 8 y d)=true ->
  ∃ f:ae->Bool,(∀ u∈us,cA A s u v (f u))/\us.any f=decide (d∈ds):=by
 classical
 intro xs us ds l r p o;have key:∀ {y:V} {u:ae} {e:D},e∈ds->RepV X.K M H e y->RelV y u->decide (∃ y e,e∈ds/\RepV X.K M H e y/\RelV y u/\e=d)=decide (e=d):=by
  intro y u e hm he ru
  congr 1
  refine propext ⟨fun⟨y',e',m',h1,h2,h3⟩=>?_,fun h=>⟨y,e,hm,he,ru,h⟩⟩
  have:=h2.inj ru
  subst this;rw[<- h3];exact plain_fn I (plains_mem p e hm) (plains_mem p e' m') he h1
 refine⟨fun u=>decide (∃ y e,e∈ds/\RepV X.K M H e y/\RelV y u/\e=d),?_,?_⟩
 ·intro u hu;obtain⟨i,hi,rfl⟩:=bV hu;have h1:=r.length;have h2:=l.length;obtain⟨e,ee,re⟩:=l.get' (ag (show i < xs.length by lia))
  obtain⟨u',eu,ru⟩:=r.get (ag (show i < xs.length by lia))
  rw[ag hi] at eu;cases eu;have hm:e∈ds:=bz ee;show cA A s us[i] v (decide (∃ y e,e∈ds/\RepV X.K M H e y/\RelV y us[i]/\e=d));rw[key hm re ru];exact(eq3 I 8 (by lia) re hd ru rx (bn.mp o e hm)).eq
 ·have gen:∀ {zs:List V} {ws:List ae} {es:List D},RepL X.K M H es zs->Vals zs ws->(∀ e∈es,e∈ds)->ws.any (fun u=>decide (∃ y e,e∈ds/\RepV X.K M H e y/\RelV y u/\e=d))=decide (d∈es):=by
   intro zs ws es
   induction es generalizing zs ws with
   | nil =>
    intro l r _;unfold RepL at l;subst l;cases r;simp
   | cons e es ih =>
    intro l r hm;unfold RepL at l;obtain⟨z,zs,rfl,r1,l1⟩:=l;cases r with
    | cons q t =>
     rw[List.any_cons,key (hm e am) r1 q,ih l1 t fun e he=>hm e (aq _ he)]
     by_cases h:e=d
     ·simp[h]
     ·have h':¬ d=e:=fun z=>h z.symm;simp[h,h']
  exact gen l r fun _ h=>h
theorem od_in {K:Fg} {neg:Bool}:OpD K (rInA K neg) (inD neg):=by
 intro F S H d e x y Q QD r hd he ⟨ds,hs,p,o,q⟩ c;obtain⟨a,xs,rfl,sq,l⟩:=hs.sq r he;refine⟨a,xs,decide (d∈ds),rfl,sq,fun {X pins σ s} I hK {v us} rx rv A hA=>?_,c.bl r q⟩;subst hK;exact any_in I rx hd hA l rv p o
variable {K:Fg} {a b:Expr} {ta tb:ED} {pos:Pos} {k:Nat}
theorem lt10 {n:Nat} {A:aQ} (r:Room k A) (h:n<=64:=by decide):A.units + n < bK:=by have:=r.units;lia
theorem e_eq (hr:Room k X.A) (ha:PD K X a ta) (hb:PD K X b tb) (hK:X.K=K:=by rfl):PD K X (.Compare a [.Eq] [b] pos) (dOp (eqD false) ta tb):=e_cmp (op_eqA (lt10 hr) hK) od_eq ha hb (nomark _)
theorem e_ne (hr:Room k X.A) (ha:PD K X a ta) (hb:PD K X b tb) (hK:X.K=K:=by rfl):PD K X (.Compare a [.NotEq] [b] pos) (dOp (eqD true) ta tb):=e_cmp (op_neA (lt10 hr) hK) od_eq ha hb (nomark _)
theorem dt_eq (hr:Room k X.A) (ha:PD K X a ta) (hb:PD K X b tb) (hK:X.K=K:=by rfl):PTD K X (.Compare a [.Eq] [b] pos) (dTest (dOp (eqD false) ta tb)):=dt_cmp (op_eqA (lt10 hr) hK) od_eq ha hb (nomark _)
theorem dt_ne (hr:Room k X.A) (ha:PD K X a ta) (hb:PD K X b tb) (hK:X.K=K:=by rfl):PTD K X (.Compare a [.NotEq] [b] pos) (dTest (dOp (eqD true) ta tb)):=dt_cmp (op_neA (lt10 hr) hK) od_eq ha hb (nomark _)
theorem e_in (hr:Room k X.A) (ha:PD K X a ta) (hb:PD K X b tb) (hm:dA .In b=false:=by rfl) (hK:X.K=K:=by rfl):PD K X (.Compare a [.In] [b] pos) (dOp (inD false) ta tb):=e_cmp (op_inA (lt10 hr) hK) od_in ha hb hm
theorem e_nin (hr:Room k X.A) (ha:PD K X a ta) (hb:PD K X b tb) (hm:dA .NotIn b=false:=by rfl) (hK:X.K=K:=by rfl):PD K X (.Compare a [.NotIn] [b] pos) (dOp (inD true) ta tb):=e_cmp (op_ninA (lt10 hr) hK) od_in ha hb hm
theorem dt_in (hr:Room k X.A) (ha:PD K X a ta) (hb:PD K X b tb) (hm:dA .In b=false:=by rfl) (hK:X.K=K:=by rfl):PTD K X (.Compare a [.In] [b] pos) (dTest (dOp (inD false) ta tb)):=dt_cmp (op_inA (lt10 hr) hK) od_in ha hb hm
theorem dt_nin (hr:Room k X.A) (ha:PD K X a ta) (hb:PD K X b tb) (hm:dA .NotIn b=false:=by rfl) (hK:X.K=K:=by rfl):PTD K X (.Compare a [.NotIn] [b] pos) (dTest (dOp (inD true) ta tb)):=dt_cmp (op_ninA (lt10 hr) hK) od_in ha hb hm
end
end L2
namespace HT
open PySem PySem.Spec PyProof.Rows
section
variable {prog:aD} {w:aK} {A:aQ} {E:ae->ai->Prop} {s:ai}
theorem tup_slice {t sl : Addr} {items : Array ae} {Q : ae -> ai -> Prop} (ht : gX s.heap t items) (hTs : s.TypeIs (.ref sl) "slice")
    (h : ∀ A, ax (aC prog w) A (c8 (.ref sl) (pure (items.size : Int))) (fun r s' => s' = s /\
      ((r.1 = 0 /\ r.2.1 = 1 /\ r.2.2 = items.size /\ Q (.ref t) s) \/
       (¬ (r.1 == 0 && r.2.1 == 1 && r.2.2 == items.size) = true /\ sizeOk (.seq ((aP r.2.2).filterMap fun(k : Nat) => items[(r.1 + (k : Int) * r.2.1).toNat]?).toArray) /\ Q (.ref s.heap.objs.size) { s with heap := s.heap.push { cls := .type "tuple", data := .seq ((aP r.2.2).filterMap fun(k : Nat) => items[(r.1 + (k : Int) * r.2.1).toNat]?).toArray } }))) E s) :
    ax (aC prog w) A (i7 (.ref t) (.ref sl)) Q E s := by
  unfold i7
  try with_reducible refine bB ?_
  first | refine ad (af ?_) | skip
  refine ad (wpAny_sequenceKey ht.typeIs (by decide) ?_)
  refine ad (cY (name := aM "__getitem__") ht.typeIs bM
    (cZ bM ht.typeIs entry_tuple_getitem ?_ (args_tuple_getitem _ _)))
  show ax _ _ (iJ (.ref t) >>= _) _ _ s;refine ad (tupleItemsOf_ ht (ad (gi hTs ?_)));rw [if_pos (by decide)]
  refine ad (dP (h _) (fun r s' ⟨e, q⟩ => ?_) fun _ _ x => x);subst e;obtain⟨lo, st, n⟩ := r;show ax _ _ (if (lo == 0 && st == 1 && n == items.size) = true then _ else _) _ _ _
  rcases q with⟨h1, h2, h3, q⟩ | ⟨hno, hz, q⟩
  · have e1 : lo = 0 := h1
    have e2 : st = 1 := h2;have e3 : n = items.size := h3;rw [if_pos (by rw [e1, e2, e3]; simp)]
    unfold cP.Tuple.tupleIsExact;refine ad (ad (gi ht.typeIs (af ?_)));rw [if_pos (by decide)]
    refine ad (f7 ?_)
    first
      | exact af ⟨_, rfl, af q⟩
      | exact ad (af ⟨_, rfl, af q⟩)
      | exact ad (af (af ⟨_, rfl, af q⟩))
  · rw [if_neg hno]
    first
      | exact ad (m := b7 _) (bh (af ⟨_, rfl, af q⟩) hz)
      | exact ad (m := b7 _) (bh (ad (af (af ⟨_, rfl, af q⟩))) hz)
      | exact ad (ad (m := b7 _) (bh (af (af ⟨_, rfl, af q⟩)) hz))
      | exact ad (ad (m := b7 _) (bh (af ⟨_, rfl, af q⟩) hz))
theorem rev_applied {sl:Addr} {vs:ae} {n:Nat} {Q:Int × Int × Nat->ai->Prop} (hs:s.heap.IsSliceOf sl .none .none vs) (ps:jO vs (some (-1)))
  (h:Q ((n:Int) - 1,-1,n) s):ax (aC prog w) A (c8 (.ref sl) (pure (n:Int))) Q E s:=by
 obtain⟨os,hos,hcs,hds⟩:=id hs;unfold c8 iV;refine ad (ad (dY hos hds (x:=.none) rfl (ad (dY hos hds (x:=.none) rfl (ad (dY hos hds (x:=vs) rfl (af ?_)))))));refine ad (slicePart_ ps ?_);show ax _ _ (if ((-1:Int) == 0)=true then _ else _) _ _ s
 rw[if_neg (by decide)]
 refine ad (iH (ad (iH (ad (af ?_)))));show ax _ _ (pure (((n:Int) - 1),(-1:Int),cr ((n:Int) - 1) (-1) (-1))) _ _ s;have e:cr ((n:Int) - 1) (-1) (-1)=n:=by
  unfold cr;rw[if_neg (by decide)]
  rw[show(-(-1):Int)=1 from rfl,jN]
  split <;> lia
 rw[e];exact af h
theorem fm_pmap {α:Type} {n:Nat} {f:Nat->Option α} {g:∀ k,k < n->α} (hf:∀ k (h:k < n),f k=some (g k h)):∀ (l:List Nat) (h:∀ k∈l,k < n),l.filterMap f=l.pmap g h
 | [],_=>rfl
 | k::l,h=>by
  rw[bU,hf k (h k am),List.pmap_cons,fm_pmap hf l fun k hk=>h k (aq _ hk)]
theorem rev_pick {α:Type} (xs:Array α):((aP xs.size).filterMap fun(k:Nat)=>xs[((xs.size:Int) - 1 + (k:Int) * (-1)).toNat]?)=xs.toList.reverse:=by
 rw[fm_pmap (n:=xs.size) (g:=fun k hk=>xs[xs.size - 1 - k]'(by lia)) (fun k hk=>?_) _ fun k hk=>bj.mp hk]
 ·apply eS
  ·simp
  ·intro i h1 h2;simp
 ·have e:((xs.size:Int) - 1 + (k:Int) * (-1)).toNat=xs.size - 1 - k:=by lia
  rw[e];exact d9 (by lia)
end
end HT
namespace L2
open PySem PySem.Spec PyProof.Rows
section
variable {X:Cx} {K:Fg}
def rSlW (K:Fg):V->Option Int->Option Int->Hp->VK->Prop:=fun x lo hi H Q=>∃ a xs,x=.ref a/\SqT K H a xs/\HT.sIx xs.length 0 lo=0/\HT.sIx xs.length xs.length hi=xs.length/\Q (.ref a) H
theorem sl_tupW (hK:X.K=K:=by rfl):SlR X (rSlW K):=by
 subst hK;intro pins s σ H x v vl vu lo hi sl Q I rx hs pl pu h;obtain⟨a,xs,rfl,hx,h0,hn,q⟩:=h;cases rx;obtain⟨its,r,ht,hz⟩:=I.tuple hx;have hlen:its.toArray.size=xs.length:=by rw[ak];exact r.length.symm
 obtain⟨os,hos,hcs,hds⟩:=id hs;refine⟨"tuple",_,bM.lookup,ht.typeIs,HT.tup_slice ht ⟨os,hos,hcs⟩ fun A=>HT.sliceApplied_gen hs pl pu ⟨rfl,.inl ⟨?_,rfl,?_,.ref a,H,I,rfl,q⟩⟩⟩
 ·show((HT.sIx its.toArray.size 0 lo:Nat):Int)=0;rw[hlen,h0];rfl
 ·show HT.sIx its.toArray.size its.toArray.size hi - HT.sIx its.toArray.size 0 lo=its.toArray.size;rw[hlen,h0,hn];rfl
def RvR (X:Cx) (r:V->Hp->VK->Prop):Prop :=
 ∀ (pins:List (Addr × Obj)) (s:ai) (σ:St) (H:Hp) (x:V) (v vs:ae) (sl:Addr) (Q:VK),Inv X pins σ H s->RelV x v->s.heap.IsSliceOf sl .none .none vs->jO vs (some (-1))->r x H Q ->
  ∃ T id,typeLookup (.type T) "__getitem__" = pure (some (.builtin id))/\s.TypeIs v T/\ax (aC X.prog X.w) X.A (i7 v (.ref sl)) (EP X pins σ Q) X.xe s
theorem pe_rev {r:V->Hp->VK->Prop} {e:Expr} {te:TE} {j:Nat} {p0 p1 p2 pos:Pos} (hr:RvR X r) (he:PE X e te):PE X (.Subscript e (.Slice none none (some (.UnaryOp .USub (.Constant (.int 1) j p0) p1)) p2) pos) (fun σ H Q=>te σ H fun x H1=>r x H1 Q):=by
 intro pins s σ H Q I h;refine Subscript_ (thn (he pins s σ H _ I h) fun v s1 zq0=>?_);obtain⟨x,H1,I1,r1,q1⟩:=zq0;refine wpAny_Slice ?_;rw[evalPart_none];refine af (af ?_);rw[evalPart_some];refine thn (pe_un un_neg pe_int pins s1 σ H1 (fun v H=>H=H1/\v=.int (-1)) I1 ⟨1,rfl,rfl,rfl⟩) fun vs s2 zq0=>?_;obtain⟨y,H2,I2,r2,e2,e3⟩:=zq0;subst e2;subst e3;obtain⟨t,rfl⟩:=r2;have I4:Inv X pins σ H2 { s2 with heap:=s2.heap.push { cls:=.type "slice",data:=.fields #[.none,.none,.int (-1) t] } }:=I2.kept (t':=s2.toks) fun b ob q=>ah _ q
 obtain⟨T,id,hT,ht,hg⟩:=hr pins { s2 with heap:=s2.heap.push { cls:=.type "slice",data:=.fields #[.none,.none,.int (-1) t] } } σ H2 x v (.int (-1) t) s2.heap.objs.size Q I4 r1 (kB ..) (.int (-1) t) q1;exact tail_any (ops:=[v,.ref s2.heap.objs.size]) ht hT hg (by with_unfolding_all rfl)
def rRvT (K:Fg):V->Hp->VK->Prop:=fun x H Q=>∃ a xs,x=.ref a/\SqT K H a xs/\∀ p,H p=none->Q (.ref p) (upd H p (.tup xs.reverse))
theorem rv_tup (hK:X.K=K:=by rfl):RvR X (rRvT K):=by
 subst hK;intro pins s σ H x v vs sl Q I rx hs ps h;obtain⟨a,xs,rfl,hx,q⟩:=h;cases rx;obtain⟨its,r,ht,hz⟩:=I.tuple hx;obtain⟨os,hos,hcs,hds⟩:=id hs;have e:=HT.rev_pick its.toArray;have hl:=r.length;refine⟨"tuple",_,bM.lookup,ht.typeIs,HT.tup_slice ht ⟨os,hos,hcs⟩ fun A=>HT.rev_applied hs ps ⟨rfl,.inr ⟨?_,?_,?_⟩⟩⟩
 ·intro z;rw[aG,aG] at z;exact absurd (show(-1:Int)=1 from fJ z.1.2) (by decide)
 ·show((aP its.toArray.size).filterMap fun(k:Nat)=>its.toArray[((its.toArray.size:Int) - 1 + (k:Int) * (-1)).toNat]?).toArray.size<=sizeLine;rw[e,ak,dQ];show its.length<=_;lia
 ·show EP X pins σ Q (.ref s.heap.objs.size) { s with heap:=s.heap.push { cls:=.type "tuple",data:=.seq ((aP its.toArray.size).filterMap fun(k:Nat)=>its.toArray[((its.toArray.size:Int) - 1 + (k:Int) * (-1)).toNat]?).toArray } }
  rw[e];refine⟨.ref s.heap.objs.size,_,I.laid (t':=s.toks) (o:=.tup xs.reverse) (fun b ob q=>ah _ q) (ar _) ?_,rfl,q _ (I.hok.fresh (ar _))⟩;exact⟨by rw[dQ];exact hz,_,r.reverse,gX.new _ _,nd_new⟩
def rRvL (K:Fg):V->Hp->VK->Prop:=fun x H Q=>∃ a xs,x=.ref a/\SqL K H a xs/\∀ p,H p=none->Q (.ref p) (upd H p (.lst xs.reverse))
theorem rev_range (n:Nat):jV ((n:Int) - 1) (-1) (-1)=(aP n).map fun(k:Nat)=>((n:Int) - 1 + (k:Int) * (-1)).toNat:=by
 unfold jV;have e:(if (-1:Int) > 0 then (if (n:Int) - 1 < -1 then (-1 - ((n:Int) - 1) + -1 - 1) / -1 else 0) else (if (n:Int) - 1 > -1 then ((n:Int) - 1 - -1 - -1 - 1) / (- -1) else 0)).toNat=n:=by
  rw[if_neg (by decide),show(-(-1):Int)=1 from rfl,jN]
  split <;> lia
 show(aP _).map _=_;rw[e];apply dh;intro k _
 congr 1
 lia
theorem rev_slice (its:List ae):slicePick its.toArray none none (some (-1))=its.reverse.toArray:=by
 unfold slicePick;have e:eC none none (some (-1)) its.toArray.size=((its.toArray.size:Int) - 1,-1,-1):=rfl;rw[e];show((jV ((its.toArray.size:Int) - 1) (-1) (-1)).filterMap (its.toArray[·]?)).toArray=_;rw[rev_range,iI]
 have:=HT.rev_pick its.toArray
 exact congrArg fN this
theorem rv_list (hK:X.K=K:=by rfl):RvR X (rRvL K):=by
 subst hK;intro pins s σ H x v vs sl Q I rx hs ps h;obtain⟨a,xs,rfl,hx,q⟩:=h;cases rx;obtain⟨its,r,ht,hz⟩:=I.list hx;have hlen:=r.length;refine⟨"list",_,i8.lookup,ht.isList.typeIs,?_⟩;refine wpAny_getItem_list_slice ht.isList hs .none .none ps (by decide) ?_ (by rw[ak] <;> lia)
 rw[rev_slice];refine⟨.ref s.heap.objs.size,_,I.laid (t':=s.toks) (o:=.lst xs.reverse) (fun b ob q=>ah _ q) (ar _) ?_,rfl,q _ (I.hok.fresh (ar _))⟩;exact⟨by rw[dQ];exact hz,_,0,r.reverse,aw _ rfl⟩
end
end L2
set_option maxHeartbeats 1000000
namespace L2
open PySem PySem.Spec PyProof.Rows
section
variable {X:Cx} {K:Fg} {a b:Expr} {ta tb:ED} {pos:Pos} {k:Nat}
def ltD:R2D:=fun d e S Q=>match d,e with
 | .int i,.int j=>Q (.bl (decide (i < j))) S
 | .str x,.str y=>Q (.bl (HT.ltS x y)) S
 | .tup xs,.tup ys=>∃ as bs,xs=as.map D.str/\ys=bs.map D.str/\Q (.bl (HT.lexS as bs)) S
 | _,_=>False
def rLtA (K:Fg):R2:=fun x y H Q=>rI0 (fun i j=>.bl (decide (i < j))) x y H Q\/(∃ i j,x=.str i/\y=.str j/\Q (.bl (decide (i.cps.toList < j.cps.toList))) H)\/rLtS K x y H Q
theorem op_ltA (hu:X.A.units < bK) (hK:X.K=K:=by rfl):OpR X (bE .Lt) (rLtA K):=op_lt.or (op_lt_str.or (op_ltSK hu hK))
theorem repStrs {M:Am} {H:Hp}:∀ {as:List Str} {xs:List V},RepL K M H (as.map D.str) xs->a7 (dS H) xs as
 | [],xs,h=>by rw[da] at h;unfold RepL at h;subst h;exact .nil
 | a::as,xs,h=>by
  rw[aY] at h;unfold RepL at h;obtain⟨v,vs,rfl,r,l⟩:=h;unfold RepV at r;exact .cons r (repStrs l)
theorem strsRep {M:Am} {H:Hp}:∀ {as:List Str} {xs:List V},a7 (dS H) xs as->RepL K M H (as.map D.str) xs
 | _,_,.nil=>RepL.nil
 | _,_,.cons r l=>RepL.cons (by unfold RepV;exact r) (strsRep l)
theorem repTupS {S:Sto} {F:Am} {H:Hp} {as:List Str} {v:V} (h:RepV K (mt S F) H (.tup (as.map D.str)) v):dT K dS H v as:=by
 obtain⟨a,xs,rfl,t,l⟩:=tup.st h;exact⟨a,xs,rfl,t,repStrs l⟩
theorem od_lt:OpD K (rLtA K) ltD:=by
 intro F S H d e x y Q QD r hd he h c;cases d with
 | int i =>
  cases e with
  | int j=>rw[rint hd,rint he];exact .inl ⟨i,j,rfl,rfl,c.bl r h⟩
  | _=>exact h.elim
 | str i =>
  cases e with
  | str j=>rw[rstr hd,rstr he];exact .inr (.inl ⟨i,j,rfl,rfl,c.bl r h⟩)
  | _=>exact h.elim
 | tup xs =>
  cases e with
  | tup ys =>
   obtain⟨as,bs,rfl,rfl,q⟩:=h;exact .inr (.inr ⟨as,bs,repTupS hd,repTupS he,c.bl r q⟩)
  | _=>exact h.elim
 | _=>exact h.elim
theorem dt_lt (hr:Room k X.A) (ha:PD K X a ta) (hb:PD K X b tb) (hK:X.K=K:=by rfl):PTD K X (.Compare a [.Lt] [b] pos) (dTest (dOp ltD ta tb)):=dt_cmp (op_ltA hr.units0 hK) od_lt ha hb (nomark _)
abbrev gtD:R2D:=iiD0 fun i j=>.bl (decide (j < i))
theorem e_gt (hr:Room k X.A) (ha:PD K X a ta) (hb:PD K X b tb):PD K X (.Compare a [.Gt] [b] pos) (dOp gtD ta tb):=e_cmp op_gt od_B0 ha hb (nomark _)
def isNon:D->Bool
 | .non=>true
 | _=>false
def isD (neg:Bool):R2D:=fun d e S Q=>match d,e with
 | .bl x,.bl y=>Q (.bl (if neg then x != y else x == y)) S
 | d,.non=>Q (.bl (if neg then !isNon d else isNon d)) S
 | _,_=>False
def rIsA (neg:Bool):R2:=fun x y H Q=>(∃ i j,x=.bl i/\y=.bl j/\Q (.bl (if neg then i != j else i == j)) H)\/(y=.non/\Q (.bl (if neg then !decide (x=.non) else decide (x=.non))) H)
theorem op_isA:OpR X (bE .Is) (rIsA false):=OpR.or (by
 intro pins s σ H x y v u Q I rx ry h;obtain⟨i,j,rfl,rfl,q⟩:=h;cases rx;cases ry;exact is_bool ⟨.bl _,H,I,rfl,q⟩) op_isN
theorem op_isntA:OpR X (bE .IsNot) (rIsA true):=OpR.or (by
 intro pins s σ H x y v u Q I rx ry h;obtain⟨i,j,rfl,rfl,q⟩:=h;cases rx;cases ry;exact isnot_bool ⟨.bl _,H,I,rfl,q⟩) op_notN
theorem isNon_of {M:Am} {H:Hp} {d:D} {x:V} (h:RepV K M H d x):decide (x=.non)=isNon d:=by
 cases d <;> unfold RepV at h <;> first | (rw[h];rfl) | (obtain⟨a,xs,rfl,_⟩:=h;rfl) | skip
theorem od_is {neg:Bool}:OpD K (rIsA neg) (isD neg):=by
 intro F S H d e x y Q QD r hd he h c;have non:e=.non->QD (.bl (if neg then !isNon d else isNon d)) S->rIsA neg x y H Q:=by
  rintro rfl q;rw[rnon he];refine .inr ⟨rfl,?_⟩;rw[isNon_of hd];exact c.bl r q
 cases e with
 | non=>exact non rfl (by cases d <;> exact h)
 | bl j =>
  cases d with
  | bl i=>rw[rbl hd,rbl he];exact .inl ⟨i,j,rfl,rfl,c.bl r h⟩
  | _=>exact h.elim
 | _=>cases d <;> exact h.elim
theorem e_is (hr:Room k X.A) (ha:PD K X a ta) (hb:PD K X b tb):PD K X (.Compare a [.Is] [b] pos) (dOp (isD false) ta tb):=e_cmp op_isA od_is ha hb (nomark _)
theorem dt_is (hr:Room k X.A) (ha:PD K X a ta) (hb:PD K X b tb):PTD K X (.Compare a [.Is] [b] pos) (dTest (dOp (isD false) ta tb)):=dt_cmp op_isA od_is ha hb (nomark _)
theorem e_isnt (hr:Room k X.A) (ha:PD K X a ta) (hb:PD K X b tb):PD K X (.Compare a [.IsNot] [b] pos) (dOp (isD true) ta tb):=e_cmp op_isntA od_is ha hb (nomark _)
theorem dt_isnt (hr:Room k X.A) (ha:PD K X a ta) (hb:PD K X b tb):PTD K X (.Compare a [.IsNot] [b] pos) (dTest (dOp (isD true) ta tb)):=dt_cmp op_isntA od_is ha hb (nomark _)
def dAndV (ta tb:ED):ED:=fun Γ S Q=>ta Γ S fun x S1=>∃ c,x=.bl c/\if c=true then tb Γ S1 Q else Q (.bl false) S1
theorem e_one {op} (h:PD K X a ta):PD K X (.BoolOp op [a] pos) ta:=⟨pe_one h.o⟩
theorem e_and {rest:List Expr} (ha:PD K X a ta) (hb:PD K X (.BoolOp .And (b::rest) pos) tb):PD K X (.BoolOp .And (a::b::rest) pos) (dAndV ta tb):=.of (pe_and ha.o hb.o) fun σ H Q z0=>z0.el fun F S Γ QD r g q c =>
 ⟨F,S,Γ,_,r,g,q,fun v d H1 S1 x1 r1 v1 z1=>by
  obtain⟨z,e,q1⟩:=z1;subst e;refine⟨z,rbl v1,?_⟩;cases z with
  | true=>exact⟨F,S1,Γ,QD,r1,g.ext x1,q1,fun v z H3 S3 x3=>c v z H3 S3 (x1.trans x3)⟩
  | false=>exact(Cn.shift c x1).bl r1 q1⟩
structure PWD (K:Fg) (X:Cx) (e:Expr) (t:TD):Prop where
 o:PW X e (upT K t)
def dAnd (t u:TD):TD:=fun Γ S Q=>t Γ S fun c S1=>if c=true then u Γ S1 Q else Q false S1
def dOr (t u:TD):TD:=fun Γ S Q=>t Γ S fun c S1=>if c=true then Q true S1 else u Γ S1 Q
def dNot (t:TD):TD:=fun Γ S Q=>t Γ S fun c S1=>Q (!c) S1
section
variable {tA tB':TD} {rest:List Expr}
theorem PWD.pt {e:Expr} {t:TD} (h:PWD K X e t):PTD K X e t:=⟨PW.pt h.o⟩
theorem PWD.of {e:Expr} {te:TT} {t:TD} (h:PW X e te) (i:∀ σ H Q,upT K t σ H Q->te σ H Q):PWD K X e t:=⟨fun wh pins s σ H Q I q=>h wh pins s σ H Q I (i σ H Q q)⟩
theorem dw_and1 (ha:PTD K X a tA):PWD K X (.BoolOp .And [a] pos) tA:=⟨pw_and1 ha.o⟩
theorem dw_or1 (ha:PTD K X a tA):PWD K X (.BoolOp .Or [a] pos) tA:=⟨pw_or1 ha.o⟩
theorem dw_and (ha:PTD K X a tA) (hb:PWD K X (.BoolOp .And (b::rest) pos) tB'):PWD K X (.BoolOp .And (a::b::rest) pos) (dAnd tA tB'):=.of (pw_and ha.o hb.o) fun σ H Q z0=>z0.el fun F S Γ QD r g q c =>
 ⟨F,S,Γ,_,r,g,q,fun z H1 S1 x1 r1 q1=>by
  cases z with
  | true=>exact⟨F,S1,Γ,QD,r1,g.ext x1,q1,fun z H3 S3 x3=>c z H3 S3 (x1.trans x3)⟩
  | false=>exact c _ _ _ x1 r1 q1⟩
theorem dw_or (ha:PTD K X a tA) (hb:PWD K X (.BoolOp .Or (b::rest) pos) tB'):PWD K X (.BoolOp .Or (a::b::rest) pos) (dOr tA tB'):=.of (pw_or ha.o hb.o) fun σ H Q z0=>z0.el fun F S Γ QD r g q c =>
 ⟨F,S,Γ,_,r,g,q,fun z H1 S1 x1 r1 q1=>by
  cases z with
  | false=>exact⟨F,S1,Γ,QD,r1,g.ext x1,q1,fun z H3 S3 x3=>c z H3 S3 (x1.trans x3)⟩
  | true=>exact c _ _ _ x1 r1 q1⟩
theorem dt_not (ha:PTD K X a tA):PTD K X (.UnaryOp .Not a pos) (dNot tA):=.of (pt_not ha.o) fun σ H Q z0=>z0.el fun F S Γ QD r g q c=>⟨F,S,Γ,_,r,g,q,fun z H1 S1 x1 r1 q1=>c _ _ _ x1 r1 q1⟩
def dIf (t:TD) (ta tb:ED):ED:=fun Γ S Q=>t Γ S fun c S1=>if c=true then ta Γ S1 Q else tb Γ S1 Q
theorem e_ifExp {c:Expr} (hc:PTD K X c tA) (ha:PD K X a ta) (hb:PD K X b tb):PD K X (.IfExp c a b pos) (dIf tA ta tb):=.of (pe_ifExp hc.o ha.o hb.o) fun σ H Q z0=>z0.el fun F S Γ QD r g q c =>
 ⟨F,S,Γ,_,r,g,q,fun z H1 S1 x1 r1 q1=>by
  cases z with
  | true=>exact⟨F,S1,Γ,QD,r1,g.ext x1,q1,fun v z H3 S3 x3=>c v z H3 S3 (x1.trans x3)⟩
  | false=>exact⟨F,S1,Γ,QD,r1,g.ext x1,q1,fun v z H3 S3 x3=>c v z H3 S3 (x1.trans x3)⟩⟩
end
def truD (S:Sto) (d:D) (k:Bool->Prop):Prop:=match d with
 | .non=>k false
 | .bl b=>k b
 | .int i=>k (i != 0)
 | .str x=>x.length<=sizeLine/\k ((x.length:Int) != 0)
 | .tup xs=>k (!xs.isEmpty)
 | .lst xs=>k (!xs.isEmpty)
 | .ref a=>∃ xs,S a=some (.lst xs)/\k (!xs.isEmpty)
 | .ty _=>False
def dTru (ta:ED):TD:=fun Γ S Q=>ta Γ S fun d S1=>truD S1 d fun b=>Q b S1
theorem emp_of {M:Am} {H:Hp} {ds:List D} {xs:List V} (l:RepL K M H ds xs):(!xs.isEmpty)=!ds.isEmpty:=by
 have:=l.length
 cases ds <;> cases xs <;> first | rfl | simp at this
theorem dt_tru (ha:PD K X a ta) (he:∀ whole,isTrue a X.env whole=(do let v <- whole;fI a.pos;eO [v] (truthy v)):=by intro _;rfl) (hK:X.K=K:=by rfl):PTD K X a (dTru ta):=.of (pt_truthK (K:=K) ha.o he hK) fun σ H Q z0=>z0.el fun F S Γ QD r g q c =>
 ⟨F,S,Γ,_,r,g,q,fun v d H1 S1 x1 r1 v1 q1=>by
  cases d with
  | non=>rw[rnon v1];exact⟨false,rfl,c _ _ _ x1 r1 q1⟩
  | bl b=>rw[rbl v1];exact⟨b,rfl,c _ _ _ x1 r1 q1⟩
  | int b=>rw[rint v1];exact⟨_,rfl,c _ _ _ x1 r1 q1⟩
  | str b=>rw[rstr v1];exact⟨_,⟨q1.1,rfl⟩,c _ _ _ x1 r1 q1.2⟩
  | ty b=>exact q1.elim
  | tup xs =>
   obtain⟨p,us,rfl,t,l⟩:=tup.st v1;exact⟨_,.inr (.inl ⟨us,t,rfl⟩),c _ _ _ x1 r1 (by rw[emp_of l];exact q1)⟩
  | lst xs =>
   obtain⟨p,us,rfl,t,l⟩:=lsIs.sl r1 v1 (show lsIs S1 (.lst xs) xs from rfl)
   exact⟨_,.inl ⟨us,t,rfl⟩,c _ _ _ x1 r1 (by rw[emp_of l];exact q1)⟩
  | ref p =>
   obtain⟨xs,e,q1⟩:=q1;obtain⟨p,us,rfl,t,l⟩:=lsIs.sl r1 v1 (show lsIs S1 (.ref p) xs from e)
   exact⟨_,.inl ⟨us,t,rfl⟩,c _ _ _ x1 r1 (by rw[emp_of l];exact q1)⟩⟩
section
variable {e:Expr} {t:AD} {p:Pos}
def lenD:RCD:=fun ds S Q=>match ds with
 | [.str x]=>x.length<=sizeLine/\Q (.int x.length) S
 | [d]=>∃ xs,sqIs S d xs/\Q (.int xs.length) S
 | _=>False
theorem call_lenA (hK:X.K=K:=by rfl):CallR X (.builtin "len") (fun xs H Q=>∃ x n,xs=[x]/\LenV K x H n/\Q (.int n) H):=hK ▸ call_len
theorem cd_len:CallD K (fun xs H Q=>∃ x n,xs=[x]/\LenV K x H n/\Q (.int n) H) lenD:=by
 intro F S H ds vs Q QD r l h c
 match ds,h with
 | [d],h =>
  obtain⟨v,rfl,rv⟩:=l.one;have seq:(∃ xs,sqIs S d xs/\QD (.int xs.length) S)->∃ x n,[v]=[x]/\LenV K x H n/\Q (.int n) H:=by
   rintro⟨xs,h1,q⟩;obtain⟨a,us,rfl,sq,l⟩:=h1.sq r rv;refine⟨_,xs.length,rfl,?_,c.int r q⟩;rcases sq with sq | sq
   ·exact .inl ⟨us,sq,l.length.symm⟩
   ·exact .inr ⟨us,sq,l.length.symm⟩
  cases d with
  | str x=>rw[rstr rv];exact⟨_,x.length,rfl,⟨h.1,rfl⟩,c.int r h.2⟩
  | _=>exact seq h
 | [],h=>exact h.elim
 | d::_::_,h=>cases d <;> exact h.elim
theorem e_len (hg:Gl X "len") (hm:X.mg "len" = none) (ha:PAD K X [e] t) (hK:X.K=K:=by rfl) (he:au [e] X.env=(false,eval e X.env)::au [] X.env:=by rfl) (hpl:(bD pos (au [] X.env)).any (·.1)=false:=by rfl):PD K X (.Call (.Name "len" p) [e] [] pos) (dCB lenD t):=e_callB (call_lenA hK) cd_len hg hm bt_len ha (by decide) (by decide) he hpl
def tupD:RCD:=fun ds S Q=>match ds with
 | [d]=>∃ xs,sqIs S d xs/\Q (.tup xs) S
 | _=>False
theorem cd_tup:CallD K (fun xs H Q=>∃ p ys,xs=[.ref p]/\((SqL K H p ys/\∀ l,H l=none->Q (.ref l) (upd H l (.tup ys)))\/(SqT K H p ys/\Q (.ref p) H))) tupD:=by
 intro F S H ds vs Q QD r l h c
 match ds,h with
 | [d],⟨xs,h1,q⟩ =>
  obtain⟨v,rfl,rv⟩:=l.one;cases d with
  | tup ys =>
   cases h1;obtain⟨a,us,rfl,sq,l⟩:=tup.st rv;exact⟨a,us,rfl,.inr ⟨sq,c.here r rv q⟩⟩
  | lst ys =>
   obtain⟨a,us,rfl,sq,l⟩:=lsIs.sl r rv (show lsIs S (.lst ys) xs from h1)
   exact⟨a,us,rfl,.inl ⟨sq,fun p hp=>c.tup r hp l q⟩⟩
  | ref y =>
   obtain⟨a,us,rfl,sq,l⟩:=lsIs.sl r rv (show lsIs S (.ref y) xs from h1)
   exact⟨a,us,rfl,.inl ⟨sq,fun p hp=>c.tup r hp l q⟩⟩
  | _=>exact h1.elim
theorem e_tuple (hg:Gl X "tuple") (hm:X.mg "tuple" = none) (ha:PAD K X [e] t) (hK:X.K=K:=by rfl) (he:au [e] X.env=(false,eval e X.env)::au [] X.env:=by rfl) (hpl:(bD pos (au [] X.env)).any (·.1)=false:=by rfl):PD K X (.Call (.Name "tuple" p) [e] [] pos) (dCB tupD t):=e_callTy (call_tupleK hK) cd_tup hg hm bt_tuple ha (by decide) (by decide) he hpl
def lstD (b:Bool):RCD:=fun ds S Q=>match ds with
 | [d]=>∃ xs,sqIs S d xs/\newL b xs S Q
 | _=>False
theorem cd_lst {b:Bool}:CallD K (fun xs H Q=>∃ p ys,xs=[.ref p]/\(SqL K H p ys\/SqT K H p ys)/\∀ l,H l=none->Q (.ref l) (upd H l (.lst ys))) (lstD b):=by
 intro F S H ds vs Q QD r l h c
 match ds,h with
 | [d],⟨xs,h1,q⟩ =>
  obtain⟨v,rfl,rv⟩:=l.one;obtain⟨a,us,rfl,sq,l⟩:=h1.sq r rv;exact⟨a,us,rfl,sq,fun p hp=>c.new r hp l q⟩
theorem e_list {b:Bool} (hg:Gl X "list") (hm:X.mg "list" = none) (ha:PAD K X [e] t) (hK:X.K=K:=by rfl) (he:au [e] X.env=(false,eval e X.env)::au [] X.env:=by rfl) (hpl:(bD pos (au [] X.env)).any (·.1)=false:=by rfl):PD K X (.Call (.Name "list" p) [e] [] pos) (dCB (lstD b) t):=e_callTy (call_listK hK) cd_lst hg hm bt_list ha (by decide) (by decide) he hpl
def i2D (g:Int->Int->Int):RCD:=fun ds S Q=>match ds with
 | [.int i,.int j]=>Q (.int (g i j)) S
 | _=>False
theorem cd_i2 {g:Int->Int->Int}:CallD K (fun xs H Q=>∃ i j,xs=[.int i,.int j]/\Q (.int (g i j)) H) (i2D g):=by
 intro F S H ds vs Q QD r l h c
 match ds,h with
 | [.int i,.int j],h =>
  obtain⟨v,w,rfl,rv,rw'⟩:=l.two;rw[rint rv,rint rw'];exact⟨i,j,rfl,c.int r h⟩
theorem e_min {e2:Expr} (hg:Gl X "min") (hm:X.mg "min" = none) (ha:PAD K X [e,e2] t) (hc:X.calm=true:=by rfl) (he:au [e,e2] X.env=(false,eval e X.env)::au [e2] X.env:=by rfl) (hpl:(bD pos (au [e2] X.env)).any (·.1)=false:=by rfl):PD K X (.Call (.Name "min" p) [e,e2] [] pos) (dCB (i2D fun i j=>if j < i then j else i) t):=e_callB (call_min2 hc) cd_i2 hg hm bt_min ha (by decide) (by decide) he hpl
def intD:RCD:=fun ds S Q=>match ds with
 | [.int i]=>Q (.int i) S
 | [.bl k]=>Q (.int (if k then 1 else 0)) S
 | _=>False
theorem e_int1 (hg:Gl X "int") (hm:X.mg "int" = none) (ha:PAD K X [e] t) (he:au [e] X.env=(false,eval e X.env)::au [] X.env:=by rfl) (hpl:(bD pos (au [] X.env)).any (·.1)=false:=by rfl):PD K X (.Call (.Name "int" p) [e] [] pos) (dCB intD t):=e_callTy call_int1 (by
 intro F S H ds vs Q QD r l h c
 match ds,h with
 | [.int i],h=>obtain⟨v,rfl,rv⟩:=l.one;rw[rint rv];exact .inl ⟨i,rfl,c.int r h⟩
 | [.bl i],h=>obtain⟨v,rfl,rv⟩:=l.one;rw[rbl rv];exact .inr ⟨i,rfl,c.int r h⟩) hg hm bt_int ha (by decide) (by decide) he hpl
theorem bools_of {M:Am} {H:Hp}:∀ {bs:List Bool} {xs:List V},RepL K M H (bs.map D.bl) xs->a7 (dB H) xs bs
 | [],xs,h=>by rw[da] at h;unfold RepL at h;subst h;exact .nil
 | a::as,xs,h=>by
  rw[aY] at h;unfold RepL at h;obtain⟨v,vs,rfl,r,l⟩:=h;unfold RepV at r;exact .cons r (bools_of l)
def quD (g:List Bool->Bool):RCD:=fun ds S Q=>match ds with
 | [d]=>∃ bs,lsIs S d (bs.map D.bl)/\Q (.bl (g bs)) S
 | _=>False
theorem cd_qu {g:List Bool->Bool}:CallD K (fun xs H Q=>∃ x bs,xs=[x]/\dL K dB H x bs/\Q (.bl (g bs)) H) (quD g):=by
 intro F S H ds vs Q QD r l h c
 match ds,h with
 | [d],⟨bs,h1,q⟩ =>
  obtain⟨v,rfl,rv⟩:=l.one;obtain⟨a,us,rfl,sq,l⟩:=lsIs.sl r rv h1;exact⟨_,bs,rfl,⟨a,us,rfl,sq,bools_of l⟩,c.bl r q⟩
theorem e_all (hg:Gl X "all") (hm:X.mg "all" = none) (ha:PAD K X [e] t) (hK:X.K=K:=by rfl) (hc:X.calm=true:=by rfl) (he:au [e] X.env=(false,eval e X.env)::au [] X.env:=by rfl) (hpl:(bD pos (au [] X.env)).any (·.1)=false:=by rfl):PD K X (.Call (.Name "all" p) [e] [] pos) (dCB (quD fun bs=>bs.all id) t):=e_callB (call_allK hK hc) cd_qu hg hm bt_all ha (by decide) (by decide) he hpl
end
def ixD:R2D:=fun d e S Q=>match d,e with
 | .str z,.int i=>z.length<=sizeLine/\∃ c,atI z.cps.toList i=some c/\Q (.str ⟨#[c]⟩) S
 | d,.int i=>∃ xs v,sqIs S d xs/\atI xs i=some v/\Q v S
 | _,_=>False
theorem repAt {M:Am} {H:Hp} {ds:List D} {xs:List V} (l:RepL K M H ds xs) {i:Int} {d:D} (h:atI ds i=some d):∃ v,atI xs i=some v/\RepV K M H d v:=by
 unfold atI at h ⊢;rw[l.length];cases hi:ixN ds.length i with
 | none=>rw[hi] at h;cases h
 | some j=>rw[hi] at h;exact l.get h
theorem od_ix:OpD K (rIx K) ixD:=by
 intro F S H d e x y Q QD r hd he h c;have seq:∀ i,e=.int i->(∃ xs v,sqIs S d xs/\atI xs i=some v/\QD v S)->rIx K x y H Q:=by
  rintro i rfl ⟨xs,v,h1,h2,q⟩;obtain⟨a,us,rfl,sq,l⟩:=h1.sq r hd;obtain⟨u,e1,ru⟩:=repAt l h2;rw[rint he];rcases sq with sq | sq
  ·exact .inl ⟨a,us,i,u,rfl,rfl,sq,e1,c.here r ru q⟩
  ·exact .inr (.inl ⟨a,us,i,u,rfl,rfl,sq,e1,c.here r ru q⟩)
 cases e with
 | int i =>
  cases d with
  | str z =>
   obtain⟨h1,w,h2,q⟩:=h;rw[rstr hd,rint he];exact .inr (.inr ⟨z,i,w,rfl,rfl,h1,h2,c.str r q⟩)
  | _=>exact seq i rfl h
 | _=>cases d <;> exact h.elim
theorem ix_seqK (hK:X.K=K:=by rfl):IxR X (rIx K):=hK ▸ ix_seq
theorem e_ix (ha:PD K X a ta) (hb:PD K X b tb) (hs:PlainIx b:=by exact fun _ _=>rfl) (hK:X.K=K:=by rfl):PD K X (.Subscript a b pos) (dOp ixD ta tb):=.of (pe_ix (ix_seqK hK) ha.o hb.o hs) (up_op od_ix)
abbrev OD:=Gm->Sto->(Option Int->Sto->Prop)->Prop
def upO (K:Fg) (t:OD):TO:=fun σ H Q=>∃ F S Γ QD,Rp K F S H/\RepG K (mt S F) H Γ σ/\t Γ S QD/\∀ o H' S',Ext S H S' H'->Rp K F S' H'->QD o S'->Q o H'
theorem upO.el {K:Fg} {t:OD} {σ:St} {H:Hp} {Q:Option Int->Hp->Prop} {p:Prop} (h:upO K t σ H Q) (k:∀ F S Γ QD,Rp K F S H->RepG K (mt S F) H Γ σ->t Γ S QD->(∀ o H' S',Ext S H S' H'->Rp K F S' H'->QD o S'->Q o H')->p):p:=by
 obtain⟨F,S,Γ,QD,h0,h1,h2,h3⟩:=h;exact k F S Γ QD h0 h1 h2 h3
structure POD (K:Fg) (X:Cx) (e:Option Expr) (t:OD):Prop where
 o:PO X e (upO K t)
def dNoPart:OD:=fun _ S Q=>Q none S
def dPart (t:ED):OD:=fun Γ S Q=>t Γ S fun d S1=>∃ i,d=.int i/\Q (some i) S1
theorem do_none:POD K X none dNoPart:=⟨fun pins s σ H Q I z0=>z0.el fun F S Γ QD r g q c=>po_none pins s σ H Q I (c none H S (Ext.refl _ _) r q)⟩
theorem do_some (h:PD K X a ta):POD K X (some a) (dPart ta):=⟨fun pins s σ H Q I z0=>z0.el fun F S Γ QD r g q c=>po_some h.o pins s σ H Q I ⟨F,S,Γ,_,r,g,q,fun v d H1 S1 x1 r1 v1 z1=>by
 obtain⟨i,e,q1⟩:=z1;subst e;exact⟨i,rint v1,c _ _ _ x1 r1 q1⟩⟩⟩
def cutD (xs:List D) (lo hi:Option Int):List D:=(xs.drop (HT.sIx xs.length 0 lo)).take (HT.sIx xs.length xs.length hi - HT.sIx xs.length 0 lo)
def slD (b:Bool) (d:D) (lo hi:Option Int) (S:Sto) (Q:DK):Prop:=match d with
 | .str z=>z.length<=1000000/\Q (.str (cutS z lo hi)) S
 | .tup xs=>Q (.tup (cutD xs lo hi)) S
 | d=>∃ xs,lsIs S d xs/\newL b (cutD xs lo hi) S Q
def rSlA (K:Fg):V->Option Int->Option Int->Hp->VK->Prop:=fun x lo hi H Q=>rSlS x lo hi H Q\/rSlT K x lo hi H Q\/rSlW K x lo hi H Q\/rSlL K x lo hi H Q
theorem sl_A (hK:X.K=K:=by rfl):SlR X (rSlA K):=sl_str.or ((sl_tupK hK).or ((sl_tupW hK).or (sl_listK hK)))
theorem cutD_all (xs:List D) {lo hi:Option Int} (h0:HT.sIx xs.length 0 lo=0) (h1:HT.sIx xs.length xs.length hi=xs.length):cutD xs lo hi=xs:=by unfold cutD;rw[h0,h1];simp
theorem repCut {M:Am} {H:Hp} {ds:List D} {xs:List V} (l:RepL K M H ds xs) (lo hi:Option Int):RepL K M H (cutD ds lo hi) (cutV xs lo hi):=by
 unfold cutD cutV;rw[l.length];exact(l.drop _).take _
theorem sd_A {b:Bool}:∀ F S H d x lo hi Q QD,Rp K F S H->RepV K (mt S F) H d x->slD b d lo hi S QD->Cn K F S H QD Q->rSlA K x lo hi H Q:=by
 intro F S H d x lo hi Q QD r hd h c;have lists:(∃ xs,lsIs S d xs/\newL b (cutD xs lo hi) S QD)->rSlA K x lo hi H Q:=by
  rintro⟨xs,l1,q⟩;obtain⟨a,us,rfl,s1,p1⟩:=lsIs.sl r hd l1;exact .inr (.inr (.inr ⟨a,us,rfl,s1,fun p hp=>c.new r hp (repCut p1 lo hi) q⟩))
 cases d with
 | str z=>rw[rstr hd];exact .inl ⟨z,rfl,h.1,c.str r h.2⟩
 | tup xs =>
  obtain⟨a,us,rfl,s1,p1⟩:=tup.st hd
  by_cases hw:HT.sIx us.length 0 lo=0/\HT.sIx us.length us.length hi=us.length
  ·refine .inr (.inr (.inl ⟨a,us,rfl,s1,hw.1,hw.2,c.here r hd ?_⟩));rw[p1.length] at hw;have h':QD (.tup (cutD xs lo hi)) S:=h;rwa [cutD_all xs hw.1 hw.2] at h'
  ·exact .inr (.inl ⟨a,us,rfl,s1,hw,fun p hp=>c.tup r hp (repCut p1 lo hi) h⟩)
 | _=>exact lists h
def dSl (b:Bool) (te:ED) (tl th:OD):ED:=fun Γ S Q=>te Γ S fun d S1=>tl Γ S1 fun lo S2=>th Γ S2 fun hi S3=>slD b d lo hi S3 Q
theorem e_sl {b:Bool} {e:Expr} {te:ED} {lo hi:Option Expr} {tl th:OD} {p2 pos:Pos} (he:PD K X e te) (hl:POD K X lo tl) (hu:POD K X hi th) (hK:X.K=K:=by rfl):PD K X (.Subscript e (.Slice lo hi none p2) pos) (dSl b te tl th):=.of (pe_slice (sl_A hK) he.o hl.o hu.o) fun σ H Q z0=>z0.el fun F S Γ QD r g q c =>
 ⟨F,S,Γ,_,r,g,q,fun v d H1 S1 x1 r1 v1 q1=>⟨F,S1,Γ,_,r1,g.ext x1,q1,fun l H2 S2 x2 r2 q2=>⟨F,S2,Γ,_,r2,g.ext (x1.trans x2),q2,fun u H3 S3 x3 r3 q3=>sd_A F S3 H3 d v l u Q QD r3 (v1.ext (x2.trans x3)) q3 (Cn.shift c (x1.trans (x2.trans x3)))⟩⟩⟩
def rvD (b:Bool) (d:D) (S:Sto) (Q:DK):Prop:=match d with
 | .tup xs=>Q (.tup xs.reverse) S
 | d=>∃ xs,lsIs S d xs/\newL b xs.reverse S Q
theorem RepL.rev {M:Am} {H:Hp} {ds:List D} {xs:List V} (l:RepL K M H ds xs):RepL K M H ds.reverse xs.reverse:=by
 have app:∀ {ds:List D} {xs:List V} {es:List D} {ys:List V},RepL K M H ds xs->RepL K M H es ys->RepL K M H (ds.reverse++es) (xs.reverse++ys):=by
  intro ds
  induction ds with
  | nil=>intro xs es ys l l';unfold RepL at l;subst l;exact l'
  | cons d ds ih =>
   intro xs es ys l l';unfold RepL at l;obtain⟨v,vs,rfl,r,l⟩:=l;rw[gk,gk,bG,bG];exact ih l (RepL.cons r l')
 simpa using app l RepL.nil
theorem RvR.or {r r':V->Hp->VK->Prop} (h:RvR X r) (h':RvR X r'):RvR X (fun x H Q=>r x H Q\/r' x H Q):=by
 intro pins s σ H x v vs sl Q I rx hs ps q;rcases q with q | q
 ·exact h pins s σ H x v vs sl Q I rx hs ps q
 ·exact h' pins s σ H x v vs sl Q I rx hs ps q
def dRv (b:Bool) (te:ED):ED:=fun Γ S Q=>te Γ S fun d S1=>rvD b d S1 Q
theorem e_rv {b:Bool} {e:Expr} {te:ED} {j:Nat} {p0 p1 p2 pos:Pos} (he:PD K X e te) (hK:X.K=K:=by rfl):PD K X (.Subscript e (.Slice none none (some (.UnaryOp .USub (.Constant (.int 1) j p0) p1)) p2) pos) (dRv b te):=.of (pe_rev ((rv_tup hK).or (rv_list hK)) he.o) fun σ H Q z0=>z0.el fun F S Γ QD r g q c =>
 ⟨F,S,Γ,_,r,g,q,fun v d H1 S1 x1 r1 v1 q1=>by
  have lists:(∃ xs,lsIs S1 d xs/\newL b xs.reverse S1 QD)->rRvT K v H1 Q\/rRvL K v H1 Q:=by
   rintro⟨xs,l1,q⟩;obtain⟨a,us,rfl,s1,p1⟩:=lsIs.sl r1 v1 l1;exact .inr ⟨a,us,rfl,s1,fun p hp=>(Cn.shift c x1).new r1 hp p1.rev q⟩
  cases d with
  | tup xs =>
   obtain⟨a,us,rfl,s1,p1⟩:=tup.st v1;exact .inl ⟨a,us,rfl,s1,fun p hp=>(Cn.shift c x1).tup r1 hp p1.rev q1⟩
  | _=>exact lists q1⟩
end
end L2
set_option maxHeartbeats 4000000
namespace L2
open PySem PySem.Spec PyProof.Rows
section
variable {X:Cx} {K:Fg} {a b:Expr} {ta tb:ED} {pos:Pos} {k:Nat}
abbrev GD:=D->Gm->Sto->(Gm->Sto->Prop)->Prop
abbrev GsD:=List D->Gm->Sto->(Gm->Sto->Prop)->Prop
def upG (K:Fg) (t:GD):TG:=fun v σ H Q=>∃ F S Γ d QD,Rp K F S H/\RepG K (mt S F) H Γ σ/\RepV K (mt S F) H d v/\t d Γ S QD/\∀ Γ' S' σ' H',Ext S H S' H'->Rp K F S' H'->RepG K (mt S' F) H' Γ' σ'->QD Γ' S'->Q σ' H'
theorem upG.el {K:Fg} {t:GD} {v:V} {σ:St} {H:Hp} {Q:St->Hp->Prop} {p:Prop} (h:upG K t v σ H Q) (k:∀ F S Γ d QD,Rp K F S H->RepG K (mt S F) H Γ σ->RepV K (mt S F) H d v->t d Γ S QD->(∀ Γ' S' σ' H',Ext S H S' H'->Rp K F S' H'->RepG K (mt S' F) H' Γ' σ'->QD Γ' S'->Q σ' H')->p):p:=by
 obtain⟨F,S,Γ,d,QD,h0,h1,h2,h3,h4⟩:=h;exact k F S Γ d QD h0 h1 h2 h3 h4
def upGs (K:Fg) (t:GsD):TGs:=fun vs σ H Q=>∃ F S Γ ds QD,Rp K F S H/\RepG K (mt S F) H Γ σ/\RepL K (mt S F) H ds vs/\t ds Γ S QD/\∀ Γ' S' σ' H',Ext S H S' H'->Rp K F S' H'->RepG K (mt S' F) H' Γ' σ'->QD Γ' S'->Q σ' H'
theorem upGs.el {K:Fg} {t:GsD} {vs:List V} {σ:St} {H:Hp} {Q:St->Hp->Prop} {p:Prop} (h:upGs K t vs σ H Q) (k:∀ F S Γ ds QD,Rp K F S H->RepG K (mt S F) H Γ σ->RepL K (mt S F) H ds vs->t ds Γ S QD->(∀ Γ' S' σ' H',Ext S H S' H'->Rp K F S' H'->RepG K (mt S' F) H' Γ' σ'->QD Γ' S'->Q σ' H')->p):p:=by
 obtain⟨F,S,Γ,ds,QD,h0,h1,h2,h3,h4⟩:=h;exact k F S Γ ds QD h0 h1 h2 h3 h4
structure PGD (K:Fg) (X:Cx) (e:Expr) (t:GD):Prop where
 o:PG X e (upG K t)
structure PGsD (K:Fg) (X:Cx) (es:List Expr) (t:GsD):Prop where
 o:PGs X es (upGs K t)
theorem PGD.of {e:Expr} {te:TG} {t:GD} (h:PG X e te) (i:∀ v σ H Q,upG K t v σ H Q->te v σ H Q):PGD K X e t:=⟨fun pins s σ H v u Q I r q=>h pins s σ H v u Q I r (i v σ H Q q)⟩
theorem PGsD.of {e:List Expr} {te:TGs} {t:GsD} (h:PGs X e te) (i:∀ v σ H Q,upGs K t v σ H Q->te v σ H Q):PGsD K X e t:=⟨fun pins s σ H v u Q I r q=>h pins s σ H v u Q I r (i v σ H Q q)⟩
def gdName (i:Nat):GD:=fun d Γ S Q=>Q (Γ.set i (some d)) S
theorem dg_name {i:Nat} {x:Str} (hN:X.N.Nodup) (hi:X.N[i]?=some x) (hx:Loc X.env.scope x) (hf:X.fn x=true\/X.env.scope.names.lookup x=some .local:=by first | exact .inl rfl | exact .inr rfl | assumption):PGD K X (.Name x pos) (gdName i) :=
 .of (pg_name hN hi hx hf) fun v σ H Q z0=>z0.el fun F S Γ d QD r g rv q c=>c _ S _ H (Ext.refl _ _) r (g.set rv i) q
def gdNil:GsD:=fun ds Γ S Q=>ds=[]/\Q Γ S
def gdCons (t:GD) (u:GsD):GsD:=fun ds Γ S Q=>match ds with
 | []=>False
 | d::r=>t d Γ S fun Γ' S'=>u r Γ' S' Q
def gdTup (n:Nat) (t:GsD):GD:=fun d Γ S Q=>match d with
 | .tup ds=>ds.length=n/\t ds Γ S Q
 | _=>False
theorem dgs_nil:PGsD K X [] gdNil:=.of pgs_nil fun v σ H Q z1=>by
 obtain⟨F,S,Γ,ds,QD,r,g,l,⟨e,q⟩,c⟩:=z1;subst e;unfold RepL at l;exact⟨l,c _ S _ H (Ext.refl _ _) r g q⟩
theorem dgs_cons {e:Expr} {es:List Expr} {t:GD} {u:GsD} (h1:PGD K X e t) (h2:PGsD K X es u) (ha:(eK (e::es) X.env).map (·.2)=jI e X.env::(eK es X.env).map (·.2):=by rfl):PGsD K X (e::es) (gdCons t u) :=
 .of (pgs_cons h1.o h2.o ha) fun vs σ H Q z0=>z0.el fun F S Γ ds QD r g l q c=>by
  cases ds with
  | nil=>exact q.elim
  | cons d ds =>
   unfold RepL at l;obtain⟨v,vs,rfl,rv,l⟩:=l;exact⟨v,vs,rfl,F,S,Γ,d,_,r,g,rv,q,fun Γ1 S1 σ1 H1 x1 r1 g1 q1=>⟨F,S1,Γ1,ds,_,r1,g1,l.ext x1,q1,fun Γ2 S2 σ2 H2 x2=>c Γ2 S2 σ2 H2 (x1.trans x2)⟩⟩
theorem dg_tup {es:List Expr} {kk:Nat} {t:GsD} {n:Nat} (hc:X.calm=true) (h:PGsD K X es t) (hK:X.K=K:=by rfl)
  (hn:(eK es X.env).length=n:=by rfl) (hst:(eK es X.env).findIdx? (·.1)=none:=by rfl):PGD K X (.Tuple es kk pos) (gdTup n t) :=
 .of (pg_tup hc h.o hn hst) fun v σ H Q z0=>z0.el fun F S Γ d QD r g rv q c=>by
  cases d with
  | tup ds =>
   obtain⟨p,us,rfl,sq,l⟩:=tup.st rv;exact⟨p,us,rfl,by rw[hK];exact sq,by rw[l.length];exact q.1,F,S,Γ,ds,_,r,g,l,q.2,c⟩
  | _=>exact q.elim
def setD (o i v:D) (S:Sto) (Q:Sto->Prop):Prop:=match o,i with
 | .ref p,.int k=>∃ xs j,S p=some (.lst xs)/\ixN xs.length k=some j/\Q (supd S p (.lst (xs.set j v)))
 | _,_=>False
def gdSub (to ti:ED):GD:=fun v Γ S Q=>to Γ S fun o S1=>ti Γ S1 fun i S2=>setD o i v S2 fun S3=>Q Γ S3
theorem dg_sub {o i:Expr} {to ti:ED} (ho:PD K X o to) (hi:PD K X i ti)
  (ha:∀ v,jI (.Subscript o i pos) X.env v=(do
   let ov <- eO [v] (eval o X.env)
   let iv <- eO [v,ov] (eval i X.env)
   fI pos
   eO [v,ov,iv] (setItem ov iv v)
   release [v,ov,iv] []):=by intro _;rfl):PGD K X (.Subscript o i pos) (gdSub to ti) :=
 .of (pg_sub ho.o hi.o set_list ha) fun v σ H Q z0=>z0.el fun F S Γ d QD r g rv q c =>
  ⟨F,S,Γ,_,r,g,q,fun ov od H1 S1 x1 r1 v1 q1=>⟨F,S1,Γ,_,r1,g.ext x1,q1,fun iv id H2 S2 x2 r2 v2 q2=>by
   have v1':=v1.ext x2;cases od with
   | ref p =>
    cases id with
    | int kk =>
     obtain⟨xs,j,hS,hj,q3⟩:=q2;obtain⟨us,hH,l⟩:=r2.obj p _ hS;rw[rref v1',rint v2];have hS':S2 p≠none:=by rw[hS];exact fun z=>by cases z
     have x3:Ext S2 H2 (supd S2 p (.lst (xs.set j d))) (upd H2 p (.lst (us.set j v))):=Ext.write hS';refine⟨p,us,kk,j,rfl,rfl,hH,by rw[l.length];exact hj,?_⟩
     refine c Γ _ σ _ (x1.trans (x2.trans x3)) (r2.write hS' ⟨_,upd_same,?_⟩) (g.ext (x1.trans (x2.trans x3))) q3;exact RepL.set (rv.ext (x1.trans (x2.trans x3))) j (l.ext x3)
    | _=>exact q2.elim
   | _=>exact q2.elim⟩⟩
def dNext:SD:=fun E Γ S=>E.nx Γ S
def dSeq (t u:SD):SD:=fun E Γ S=>t { E with nx:=u E } Γ S
def dAsg (te:ED) (g:GD):SD:=fun E Γ S=>te Γ S fun d S1=>g d Γ S1 E.nx
def dDrop (te:ED):SD:=fun E Γ S=>te Γ S fun _ S1=>E.nx Γ S1
def dRet (te:ED):SD:=fun E Γ S=>te Γ S E.rt
def dIfS (c:TD) (t u:SD):SD:=fun E Γ S=>c Γ S fun b S1=>if b=true then t E Γ S1 else u E Γ S1
section
variable {st:Stmt} {rest:List Stmt} {t u:SD}
theorem dss_nil:PSsD K X [] dNext:=.of pss_nil fun D' σ H z0=>z0.el fun F S Γ E r g q c=>c.nx Γ S σ H (Ext.refl _ _) r g q
theorem dss_cons (h1:PSD K X st t) (h2:PSsD K X rest u):PSsD K X (st::rest) (dSeq t u):=.of (pss_cons h1.o h2.o) fun D' σ H z0=>z0.el fun F S Γ E r g q c =>
 ⟨F,S,Γ,{ E with nx:=u E },r,g,q,fun Γ1 S1 σ1 H1 x1 r1 g1 q1=>⟨F,S1,Γ1,E,r1,g1,q1,c.ext x1⟩,c.rt,c.bk,c.ct⟩
theorem dss_one (h1:PSD K X st t):PSsD K X [st] t:=⟨pss_one h1.o⟩
theorem ds_asg {tg e:Expr} {te:ED} {g:GD} (he:PD K X e te) (hg:PGD K X tg g) (hs:swapsWithSole [tg] e pos.line X.env=pure false:=by rfl) (hw:swappedStores [tg] e X.env=pure none:=by rfl)
  (h1:(eK [tg] X.env).map (·.2)=[jI tg X.env]:=by rfl):PSD K X (.Assign [tg] e pos) (dAsg te g):=.of (ps_asg he.o hg.o hs hw h1) fun D' σ H z0=>z0.el fun F S Γ E r g q c =>
 ⟨F,S,Γ,_,r,g,q,fun v d H1 S1 x1 r1 v1 q1=>⟨F,S1,Γ,d,_,r1,g.ext x1,v1,q1,fun Γ2 S2 σ2 H2 x2=>c.nx Γ2 S2 σ2 H2 (x1.trans x2)⟩⟩
theorem up_set {te:ED} {i:Nat}:∀ D' σ H,upS K (dAsg te (gdName i)) D' σ H->tAsg (upE K te) (gName i) D' σ H:=fun D' σ H z0=>z0.el fun F S Γ E r g q c =>
 ⟨F,S,Γ,_,r,g,q,fun v d H1 S1 x1 r1 v1 q1=>c.nx _ S1 _ H1 x1 r1 ((g.ext x1).set v1 i) q1⟩
theorem ds_set {i:Nat} {x:Str} {e:Expr} {te:ED} {pos':Pos} (hN:X.N.Nodup) (hi:X.N[i]?=some x) (hx:Loc X.env.scope x) (he:PD K X e te) (hs:gI e (some (.Name x pos')) pos.line X.env=pure false:=by rfl) (hf:X.fn x=true\/X.env.scope.names.lookup x=some .local:=by first | exact .inl rfl | exact .inr rfl | assumption) :
  PSD K X (.Assign [.Name x pos'] e pos) (dAsg te (gdName i)):=.of (ps_set hN hi hx he.o hs hf) up_set
theorem ds_expr {e:Expr} {te:ED} (he:PD K X e te) (hs:gI e none pos.line X.env=pure false:=by rfl):PSD K X (.Expr e pos) (dDrop te):=.of (ps_expr he.o hs) fun D' σ H z0=>z0.el fun F S Γ E r g q c =>
 ⟨F,S,Γ,_,r,g,q,fun v d H1 S1 x1 r1 v1 q1=>c.nx Γ S1 σ H1 x1 r1 (g.ext x1) q1⟩
theorem ds_ret {e:Expr} {te:ED} (he:PD K X e te):PSD K X (.Return (some e) pos) (dRet te):=.of (ps_ret he.o) fun D' σ H z0=>z0.el fun F S Γ E r g q c =>
 ⟨F,S,Γ,_,r,g,q,fun v d H1 S1 x1 r1 v1 q1=>c.rt v d H1 S1 x1 r1 v1 q1⟩
theorem ds_if {c:Expr} {sa sb:List Stmt} {tc:TD} (hc:PTD K X c tc) (ha:PSsD K X sa t) (hb:PSsD K X sb u):PSD K X (.If c sa sb pos) (dIfS tc t u):=.of (ps_if hc.o ha.o hb.o) fun D' σ H z0=>z0.el fun F S Γ E r g q c =>
 ⟨F,S,Γ,_,r,g,q,fun z H1 S1 x1 r1 q1=>by
  cases z with
  | true=>exact⟨F,S1,Γ,E,r1,g.ext x1,q1,c.ext x1⟩
  | false=>exact⟨F,S1,Γ,E,r1,g.ext x1,q1,c.ext x1⟩⟩
def dWhile (c:TD) (tb:SD):SD:=fun E Γ S=>∃ W:Nat->Gm->Sto->Prop,(∃ m,W m Γ S)/\∀ m Γ S,W m Γ S ->
 c Γ S fun b S1=>if b=true then tb { E with nx:=fun Γ' S'=>∃ m',m' < m/\W m' Γ' S',ct:=fun Γ' S'=>∃ m',m' < m/\W m' Γ' S',bk:=E.nx } Γ S1 else E.nx Γ S1
theorem ds_while {c:Expr} {body:List Stmt} {tc:TD} {tb:SD} (hp:PassesOwn (aC X.prog X.w) X.A X.env X.xe) (hc:PTD K X c tc) (hb:PSsD K X body tb):PSD K X (.While c body [] pos) (dWhile tc tb):=.of (ps_while hp hc.o hb.o) fun D' σ H ⟨F,S,Γ,E,r,g,⟨W,⟨m0,w0⟩,turn⟩,c⟩ =>
 ⟨fun m σ' H'=>∃ S' Γ',Ext S H S' H'/\Rp K F S' H'/\RepG K (mt S' F) H' Γ' σ'/\W m Γ' S',⟨m0,S,Γ,Ext.refl _ _,r,g,w0⟩,fun m σ1 H1 ⟨S1,Γ1,x1,r1,g1,w1⟩ =>
  ⟨F,S1,Γ1,_,r1,g1,turn m Γ1 S1 w1,fun z H2 S2 x2 r2 q2=>by
   cases z with
   | false=>exact c.nx Γ1 S2 σ1 H2 (x1.trans x2) r2 (g1.ext x2) q2
   | true =>
    refine⟨fun σ' H'=>∃ m',m' < m/\∃ S' Γ',Ext S H S' H'/\Rp K F S' H'/\RepG K (mt S' F) H' Γ' σ'/\W m' Γ' S',fun σ' H' ⟨m',h1,h2⟩=>⟨m',h1,h2⟩,F,S2,Γ1,_,r2,g1.ext x2,q2,?_,fun v d H' S' x3=>c.rt v d H' S' (x1.trans (x2.trans x3)),fun Γ' S' σ' H' x3=>c.nx Γ' S' σ' H' (x1.trans (x2.trans x3)),?_⟩
    ·exact fun Γ' S' σ' H' x3 r3 g3 ⟨m',h1,h2⟩=>⟨m',h1,S',Γ',x1.trans (x2.trans x3),r3,g3,h2⟩
    ·exact fun Γ' S' σ' H' x3 r3 g3 ⟨m',h1,h2⟩=>⟨m',h1,S',Γ',x1.trans (x2.trans x3),r3,g3,h2⟩⟩⟩
end
def FE (F:Am) (H:Hp) (F2:Am):Prop:=∀ a,F2 a->F a\/H a=none
theorem FE.refl (F:Am) (H:Hp):FE F H F:=fun _ h=>.inl h
structure ExtW (F:Am) (S:Sto) (H:Hp) (S':Sto) (H':Hp):Prop where
 keep:∀ a o,¬ mt S F a->H a=some o->H' a=some o
 new:∀ a,S' a≠none->S a≠none\/H a=none
theorem Ext.w {F:Am} {S S':Sto} {H H':Hp} (x:Ext S H S' H'):ExtW F S H S' H':=⟨fun a o h e=>x.keep a o (aX fun n=>h (.inl n)) e,x.new⟩
theorem ExtW.kpF {F F2:Am} {S S':Sto} {H H':Hp} (x:ExtW F S H S' H') (f:FE F H F2):Keep (mt S F) H (mt S' F2) H':=⟨x.keep,fun a h e=>fun z=>by
 rcases z with z | z
 ·rcases x.new a z with y | y
  ·exact h (.inl y)
  ·exact e y
 ·rcases f a z with y | y
  ·exact h (.inr y)
  ·exact e y⟩
structure ItOk (K:Fg) (F:Am) (S:Sto) (H:Hp) (J:It) (xs:List D) (G:Sto->Prop):Prop where
 go:∀ F2,FE F H F2->∀ S2 H2,ExtW F S H S2 H2->Rp K F2 S2 H2->G S2->∀ i d,xs[i]?=some d->J.go i H2/\∀ x H3,J.yld i H2 x H3->Ext S2 H2 S2 H3/\Rp K F2 S2 H3/\RepV K (mt S2 F2) H3 d x
 stop:∀ F2,FE F H F2->∀ S2 H2,ExtW F S H S2 H2->Rp K F2 S2 H2->G S2->J.stop xs.length H2
abbrev IDk:=List D->(Sto->Prop)->Sto->Prop
abbrev ID:=Gm->Sto->IDk->Prop
def upI (K:Fg) (t:ID):TI:=fun σ H R=>∃ F S Γ QD,Rp K F S H/\RepG K (mt S F) H Γ σ/\t Γ S QD/\∀ J xs G H' S',Ext S H S' H'->Rp K F S' H'->ItOk K F S' H' J xs G->QD xs G S'->R J H'
theorem upI.el {K:Fg} {t:ID} {σ:St} {H:Hp} {R:It->Hp->Prop} {p:Prop} (h:upI K t σ H R) (k:∀ F S Γ QD,Rp K F S H->RepG K (mt S F) H Γ σ->t Γ S QD->(∀ J xs G H' S',Ext S H S' H'->Rp K F S' H'->ItOk K F S' H' J xs G->QD xs G S'->R J H')->p):p:=by
 obtain⟨F,S,Γ,QD,h0,h1,h2,h3⟩:=h;exact k F S Γ QD h0 h1 h2 h3
structure PID (K:Fg) (X:Cx) (tg e:Expr) (t:ID):Prop where
 o:PI X tg e (upI K t)
theorem PID.of {tg e:Expr} {te:TI} {t:ID} (h:PI X tg e te) (i:∀ σ H Q,upI K t σ H Q->te σ H Q):PID K X tg e t:=⟨fun pins s σ H Q I q=>h pins s σ H Q I (i σ H Q q)⟩
def iSq (K:Fg) (tl:TE):TI:=fun σ H R=>tl σ H fun x H1=>(∃ a,x=.ref a/\(∃ xs,SqL K H1 a xs)/\R (Itl K a) H1)\/∃ a,x=.ref a/\(∃ xs,SqT K H1 a xs)/\R (Itt K a) H1
theorem pi_sq {tg l:Expr} {tl:TE} (hl:PE X l tl) (hK:X.K=K:=by rfl):PI X tg l (iSq K tl):=by
 subst hK;intro pins s σ H R I h;refine thn (hl pins s σ H _ I h) fun v s1 zq0=>?_;obtain⟨x,H1,I1,r1,q1⟩:=zq0;have fp:∀ b∈[s1.heap.objs.size],FpOk X pins H1 b:=fun b hb=>by
  have e:b=s1.heap.objs.size:=by simpa using hb
  subst e;exact I1.fpOk (ar _) (I1.hok.fresh (ar _))
 rcases q1 with⟨a,e,⟨xs,hq⟩,q⟩ | ⟨a,e,⟨xs,hq⟩,q⟩
 ·subst e;cases r1;obtain⟨its,rv,p,hz⟩:=I1.list hq;exact gy p.isList ⟨s1.heap.objs.size,[s1.heap.objs.size],_,_,H1,rfl,I1.kept (t':=s1.toks) fun b o e=>ah _ e,turn_list a _,⟨_,aw _ rfl,rfl,rfl⟩,fp,q⟩
 ·subst e;cases r1;obtain⟨its,rv,p,hz⟩:=I1.tuple hq;exact eX (show s1.heap.IsTuple a its.toArray from p) ⟨s1.heap.objs.size,[s1.heap.objs.size],_,_,H1,rfl,I1.kept (t':=s1.toks) fun b o e=>ah _ e,turn_tuple a _,⟨_,aw _ rfl,rfl,rfl⟩,fp,q⟩
def guard (d:D) (xs:List D):Sto->Prop:=match d with
 | .ref a=>fun S=>S a=some (.lst xs)
 | _=>fun _=>True
def dSq (te:ED):ID:=fun Γ S Q=>te Γ S fun d S1=>∃ xs,sqIs S1 d xs/\Q xs (guard d xs) S1
theorem itk_tup {F:Am} {S:Sto} {H:Hp} {p:Addr} {xs:List D} {us:List V} {G:Sto->Prop} (t:TupAt K (mt S F) H p us) (l:RepL K (mt S F) H xs us):ItOk K F S H (Itt K p) xs G where
 go:=fun F2 f S2 H2 x r2 _ i d hd=>by
  have t2:=(t.keep (x.kpF f)).sq;obtain⟨v,e1,rv⟩:=l.get hd;refine⟨⟨us,v,t2,e1⟩,fun y H3 ⟨e2,y1⟩=>?_⟩;subst e2
  have:=y1 us t2
  rw[e1] at this;cases this;exact⟨Ext.refl _ _,r2,rv.keep (x.kpF f)⟩
 stop:=fun F2 f S2 H2 x r2 _=>⟨us,(t.keep (x.kpF f)).sq,by rw[l.length];exact ar _⟩
theorem itk_lst {F:Am} {S:Sto} {H:Hp} {p:Addr} {xs:List D} {us:List V} {G:Sto->Prop} (t:LstAt K (mt S F) H p us) (l:RepL K (mt S F) H xs us):ItOk K F S H (Itl K p) xs G where
 go:=fun F2 f S2 H2 x r2 _ i d hd=>by
  obtain⟨v,e1,rv⟩:=l.get hd;have t2:SqL K H2 p us:=(t.keep (x.kpF f)).sq;refine⟨⟨us,v,t2,e1⟩,fun y H3 ⟨e2,y1⟩=>?_⟩;subst e2
  have:=y1 us t2
  rw[e1] at this;cases this;exact⟨Ext.refl _ _,r2,rv.keep (x.kpF f)⟩
 stop:=fun F2 f S2 H2 x r2 _=>⟨us,(t.keep (x.kpF f)).sq,by rw[l.length];exact ar _⟩
theorem itk_ref {F:Am} {S:Sto} {H:Hp} {p:Addr} {xs:List D}:ItOk K F S H (Itl K p) xs (guard (.ref p) xs) where
 go:=fun F2 f S2 H2 x r2 hg i d hd=>by
  obtain⟨us,hu,l⟩:=r2.obj p _ hg;obtain⟨v,e1,rv⟩:=l.get hd;refine⟨⟨us,v,SqL.of hu,e1⟩,fun y H3 ⟨e2,y1⟩=>?_⟩;subst e2
  have:=y1 us (SqL.of hu)
  rw[e1] at this;cases this;exact⟨Ext.refl _ _,r2,rv⟩
 stop:=fun F2 f S2 H2 x r2 hg=>by
  obtain⟨us,hu,l⟩:=r2.obj p _ hg;exact⟨us,SqL.of hu,by rw[l.length];exact ar _⟩
theorem di_sq {tg l:Expr} {tl:ED} (hl:PD K X l tl) (hK:X.K=K:=by rfl):PID K X tg l (dSq tl):=.of (pi_sq hl.o hK) fun σ H Q z0=>z0.el fun F S Γ QD r g q c =>
 ⟨F,S,Γ,_,r,g,q,fun v d H1 S1 x1 r1 v1 z1=>by
  obtain⟨xs,hs,q1⟩:=z1;cases d with
  | tup ys =>
   cases hs;unfold RepV at v1;obtain⟨p,us,rfl,t,l⟩:=v1;exact .inr ⟨p,rfl,⟨us,t.sq⟩,c _ _ _ _ _ x1 r1 (itk_tup t l) q1⟩
  | lst ys =>
   cases hs;unfold RepV at v1;obtain⟨p,us,rfl,t,l⟩:=v1;exact .inl ⟨p,rfl,⟨us,t.sq⟩,c _ _ _ _ _ x1 r1 (itk_lst t l) q1⟩
  | ref p =>
   rw[rref v1];obtain⟨us,hu,l⟩:=r1.obj p _ hs;exact .inl ⟨p,rfl,⟨us,SqL.of hu⟩,c _ _ _ _ _ x1 r1 itk_ref q1⟩
  | _=>exact hs.elim⟩
def rngD (lo:Int):Nat->List D
 | 0=>[]
 | n + 1=>.int lo::rngD (lo + 1) n
theorem rngD_len:∀ (n:Nat) (lo:Int),(rngD lo n).length=n
 | 0,_=>rfl
 | n + 1,lo=>by simp[rngD,rngD_len n]
theorem rngD_get:∀ (n:Nat) (lo:Int) (i:Nat) (d:D),(rngD lo n)[i]?=some d->i < n/\d=.int (lo + i)
 | 0,lo,i,d,h=>by simp[rngD] at h
 | n + 1,lo,0,d,h=>by simp[rngD] at h;exact⟨by lia,by rw[<- h];simp⟩
 | n + 1,lo,i + 1,d,h=>by
  have h':(rngD (lo + 1) n)[i]?=some d:=by simpa [rngD] using h
  obtain⟨h1,h2⟩:=rngD_get n (lo + 1) i d h';refine⟨by lia,?_⟩
  rw[h2]
  congr 1
  rw[Int.natCast_add];lia
theorem itk_rng {F:Am} {S:Sto} {H:Hp} {lo:Int} {n:Nat} {G:Sto->Prop}:ItOk K F S H (Itr lo n) (rngD lo n) G where
 go:=fun F2 f S2 H2 x r2 _ i d hd=>by
  obtain⟨h1,rfl⟩:=rngD_get n lo i d hd;exact⟨h1,fun y H3 ⟨e2,y1⟩=>by subst e2;subst y1;exact⟨Ext.refl _ _,r2,by unfold RepV;rfl⟩⟩
 stop:=fun F2 f S2 H2 x r2 _=>by rw[rngD_len];exact ar n
def dRng1 (ta:AD):ID:=fun Γ S Q=>ta Γ S fun ds S1=>match ds with
 | [.int j]=>(-(2 ^ 62)<=j/\j < 2 ^ 62)/\Q (rngD 0 j.toNat) (fun _=>True) S1
 | _=>False
def dRng2 (ta:AD):ID:=fun Γ S Q=>ta Γ S fun ds S1=>match ds with
 | [.int i,.int j]=>(-(2 ^ 62)<=i/\i < 2 ^ 62/\-(2 ^ 62)<=j/\j < 2 ^ 62)/\Q (rngD i (j - i).toNat) (fun _=>True) S1
 | _=>False
theorem di_range1 {tg:Expr} {p:Pos} {ta:AD} (hg:Gl X "range") (hm:X.mg "range" = none) (ha:PAD K X [a] ta) (hs:au [a] X.env=[(false,eval a X.env)]:=by rfl):PID K X tg (.Call (.Name "range" p) [a] [] pos) (dRng1 ta):=.of (pi_range1 hg hm ha.o hs) fun σ H Q z0=>z0.el fun F S Γ QD r g q c =>
 ⟨F,S,Γ,_,r,g,q,fun vs ds H1 S1 x1 r1 v1 q1=>by
  match ds,q1 with
  | [.int j],q1 =>
   obtain⟨v,rfl,rv⟩:=v1.one;rw[rint rv];exact⟨j,rfl,q1.1.1,q1.1.2,c _ _ _ _ _ x1 r1 itk_rng q1.2⟩⟩
theorem di_range2 {tg:Expr} {p:Pos} {ta:AD} (hg:Gl X "range") (hm:X.mg "range" = none) (ha:PAD K X [a,b] ta) (hs:au [a,b] X.env=[(false,eval a X.env),(false,eval b X.env)]:=by rfl) (hs2:au [b] X.env=[(false,eval b X.env)]:=by rfl):PID K X tg (.Call (.Name "range" p) [a,b] [] pos) (dRng2 ta):=.of (pi_range2 hg hm ha.o hs hs2) fun σ H Q z0=>z0.el fun F S Γ QD r g q c =>
 ⟨F,S,Γ,_,r,g,q,fun vs ds H1 S1 x1 r1 v1 q1=>by
  match ds,q1 with
  | [.int i,.int j],q1 =>
   obtain⟨v,w,rfl,rv,rw'⟩:=v1.two;rw[rint rv,rint rw'];exact⟨i,j,rfl,q1.1,c _ _ _ _ _ x1 r1 itk_rng q1.2⟩⟩
def pairs (lo:Int):List D->List D
 | []=>[]
 | d::ds=>.tup [.int lo,d]::pairs (lo + 1) ds
theorem pairs_len:∀ (ds:List D) (lo:Int),(pairs lo ds).length=ds.length
 | [],_=>rfl
 | d::ds,lo=>by simp[pairs,pairs_len ds]
theorem pairs_get:∀ (ds:List D) (lo:Int) (i:Nat) (d:D),(pairs lo ds)[i]?=some d->∃ e,ds[i]?=some e/\d=.tup [.int (lo + i),e]
 | [],lo,i,d,h=>by simp[pairs] at h
 | e::ds,lo,0,d,h=>by simp[pairs] at h;exact⟨e,rfl,by rw[<- h];simp⟩
 | e::ds,lo,i + 1,d,h=>by
  have h':(pairs (lo + 1) ds)[i]?=some d:=by simpa [pairs] using h
  obtain⟨f,h1,h2⟩:=pairs_get ds (lo + 1) i d h';refine⟨f,by simpa using h1,?_⟩
  rw[h2]
  have:lo + 1 + (i:Int)=lo + ((i + 1:Nat):Int):=by rw[Int.natCast_add];lia
  rw[this]
theorem pairRep {F:Am} {S:Sto} {H:Hp} {p:Addr} {i:Nat} {y:V} {d:D} (r:Rp K F S H) (hp:H p=none) (rv:RepV K (mt S F) H d y):Ext S H S (upd H p (.tup [.int i,y]))/\Rp K F S (upd H p (.tup [.int i,y]))/\RepV K (mt S F) (upd H p (.tup [.int i,y])) (.tup [.int (0 + i),d]) (.ref p):=by
 have x:Ext S H S (upd H p (.tup [.int i,y])):=Ext.same (same_upd hp);refine⟨x,r.same (same_upd hp),?_⟩;unfold RepV;exact⟨p,_,rfl,.inl ⟨r.nmt hp,.inl upd_same⟩,RepL.cons (by unfold RepV;rw[Int.zero_add]) (RepL.cons (rv.ext x) RepL.nil)⟩
theorem itk_enT {F:Am} {S:Sto} {H:Hp} {p:Addr} {xs:List D} {us:List V} {G:Sto->Prop} (t:TupAt K (mt S F) H p us) (l:RepL K (mt S F) H xs us):ItOk K F S H (Ite K p) (pairs 0 xs) G where
 go:=fun F2 f S2 H2 x r2 _ i d hd=>by
  obtain⟨e,he,rfl⟩:=pairs_get xs 0 i d hd;obtain⟨v,e1,rv⟩:=l.get he;have t2:=(t.keep (x.kpF f)).sq;refine⟨⟨us,v,t2,e1⟩,fun z H3 ⟨q,y,hq,ez,eH,y1⟩=>?_⟩;subst ez;subst eH
  have:=y1 us t2
  rw[e1] at this;cases this;exact pairRep r2 hq (rv.keep (x.kpF f))
 stop:=fun F2 f S2 H2 x r2 _=>⟨us,(t.keep (x.kpF f)).sq,by rw[pairs_len,l.length];exact ar _⟩
def dEnT (ta:AD):ID:=fun Γ S Q=>ta Γ S fun ds S1=>match ds with
 | [.tup xs]=>Q (pairs 0 xs) (fun _=>True) S1
 | _=>False
theorem di_enT {e:Expr} {ta:AD} {p:Pos} {elts:List Expr} {x1:Nat} {tpos:Pos} (hg:Gl X "enumerate") (hm:X.mg "enumerate" = none) (ha:PAD K X [e] ta) (hs:au [e] X.env=[(false,eval e X.env)]:=by rfl) (hK:X.K=K:=by rfl) :
  PID K X (.Tuple elts x1 tpos) (.Call (.Name "enumerate" p) [e] [] pos) (dEnT ta):=.of (pi_enK hg hm ha.o hs hK) fun σ H Q z0=>z0.el fun F S Γ QD r g q c =>
 ⟨F,S,Γ,_,r,g,q,fun vs ds H1 S1 x1 r1 v1 q1=>by
  match ds,q1 with
  | [.tup xs],q1 =>
   obtain⟨v,rfl,rv⟩:=v1.one;unfold RepV at rv;obtain⟨p,us,rfl,t,l⟩:=rv;exact⟨p,rfl,⟨us,t.sq⟩,c _ _ _ _ _ x1 r1 (itk_enT t l) q1⟩⟩
def forD (g:GD) (tb:SD) (G:Sto->Prop) (E:EndsD):List D->Gm->Sto->Prop
 | [],Γ,S=>G S/\E.nx Γ S
 | x::xs,Γ,S=>G S/\g x Γ S fun Γ2 S2=>tb { E with nx:=forD g tb G E xs,ct:=forD g tb G E xs,bk:=E.nx } Γ2 S2
def dFor (wi:ID) (g:GD) (tb:SD):SD:=fun E Γ S=>wi Γ S fun xs G S1=>forD g tb G E xs Γ S1
theorem drop_cons {α:Type} {xs:List α} {i:Nat} (h:i < xs.length):xs.drop i=xs[i]::xs.drop (i + 1):=d8 h
theorem ds_for {tg iter:Expr} {body:List Stmt} {wi:ID} {g:GD} {tb:SD} (hp:PassesOwn (aC X.prog X.w) X.A X.env X.xe) (hc:X.calm=true) (hi:PID K X tg iter wi) (hg:PGD K X tg g) (hb:PSsD K X body tb) (hs:∀ x,cQ iter X.env x=pure x:=by intro _;rfl):PSD K X (.For tg iter body [] pos) (dFor wi g tb):=.of (ps_for hp hc hi.o hg.o hb.o hs) fun D' σ H z0=>z0.el fun F S Γ E r gm q c =>
 ⟨F,S,Γ,_,r,gm,q,fun J xs G H1 S1 x1 r1 it q1=>by
  refine⟨fun i m σ' H'=>m=xs.length - i/\i<=xs.length/\∃ S' Γ',Ext S1 H1 S' H'/\Rp K F S' H'/\RepG K (mt S' F) H' Γ' σ'/\forD g tb G E (xs.drop i) Γ' S',⟨xs.length,by simp,bA _,S1,Γ,Ext.refl _ _,r1,gm.ext x1,by simpa using q1⟩,?_⟩
  rintro i m σ' H' ⟨rfl,hi.o,S',Γ',x2,r2,g2,f2⟩
  by_cases hlt:i < xs.length
  ·rw[drop_cons hlt] at f2;obtain⟨hG,f2⟩:=f2;obtain⟨hgo,hy⟩:=it.go F (FE.refl F H1) S' H' x2.w r2 hG i xs[i] (ag hlt);refine .inr ⟨hgo,fun σ'' H''=>∃ S'' Γ'',Ext S1 H1 S'' H''/\Rp K F S'' H''/\RepG K (mt S'' F) H'' Γ'' σ''/\forD g tb G E (xs.drop (i + 1)) Γ'' S'',fun σ'' H'' z=>⟨xs.length - (i + 1),by lia,rfl,hlt,z⟩,fun x H3 y3=>?_⟩
   obtain⟨x3,r3,v3⟩:=hy x H3 y3;refine⟨F,S',Γ',xs[i],_,r3,g2.ext x3,v3,f2,fun Γ4 S4 σ4 H4 x4 r4 g4 q4=>⟨F,S4,Γ4,_,r4,g4,q4,?_⟩⟩;have x04:=x2.trans (x3.trans x4);exact⟨fun Γ5 S5 σ5 H5 x5 r5 g5 q5=>⟨S5,Γ5,x04.trans x5,r5,g5,q5⟩,fun v d H5 S5 x5=>c.rt v d H5 S5 (x1.trans (x04.trans x5)),fun Γ5 S5 σ5 H5 x5=>c.nx Γ5 S5 σ5 H5 (x1.trans (x04.trans x5)),fun Γ5 S5 σ5 H5 x5 r5 g5 q5=>⟨S5,Γ5,x04.trans x5,r5,g5,q5⟩⟩
  ·have e:i=xs.length:=by lia
   subst e;rw[gP] at f2;exact .inl ⟨it.stop F (FE.refl F H1) S' H' x2.w r2 f2.1,c.nx Γ' S' σ' H' (x1.trans x2) r2 g2 f2.2⟩⟩
end
end L2
set_option maxHeartbeats 1000000
namespace L2
open PySem PySem.Spec PyProof.Rows
section
variable {X:Cx} {K:Fg} {pos:Pos} {k:Nat}
structure ExtX (D':Addr) (S:Sto) (H:Hp) (S':Sto) (H':Hp):Prop where
 keep:∀ a o,a≠D'->S a=none->H a=some o->H' a=some o
 live:∀ a,H a≠none->H' a≠none
 new:∀ a,S' a≠none->S a≠none\/H a=none
theorem Ext.x {D':Addr} {S S':Sto} {H H':Hp} (x:Ext S H S' H'):ExtX D' S H S' H':=⟨fun a o _=>x.keep a o,x.live,x.new⟩
theorem ExtX.trans {D' : Addr} {S S1 S2 : Sto} {H H1 H2 : Hp} (x : ExtX D' S H S1 H1) (y : ExtX D' S1 H1 S2 H2) : ExtX D' S H S2 H2 :=
  ⟨fun a o n h h' => y.keep a o n (by
      cases e : S1 a with
      | none => rfl
      | some z => rcases x.new a (by rw [e]; exact fun z => by cases z) with z | z
                  · exact absurd h z
                  · rw [h'] at z; cases z) (x.keep a o n h h'), fun a h => y.live a (x.live a h), fun a h => by
    rcases y.new a h with z | z
    · exact x.new a z
    · exact .inr (aX fun n => x.live a n z)⟩
theorem ExtX.kp {D':Addr} {F:Am} {S S':Sto} {H H':Hp} (x:ExtX D' S H S' H') (hF:F D'):Keep (mt S F) H (mt S' F) H':=⟨fun a o h e=>x.keep a o (by rintro rfl;exact h (.inr hF)) (aX fun n=>h (.inl n)) e,fun a h e=>fun z=>by
 rcases z with z | z
 ·rcases x.new a z with y | y
  ·exact h (.inl y)
  ·exact e y
 ·exact h (.inr z)⟩
theorem ExtX.w {D':Addr} {F:Am} {S S':Sto} {H H':Hp} (x:ExtX D' S H S' H') (hF:F D'):ExtW F S H S' H':=⟨fun a o h e=>x.keep a o (by rintro rfl;exact h (.inr hF)) (aX fun n=>h (.inl n)) e,x.new⟩
def Free (L:List Nat) (σ:St):Prop:=∀ i∈L,σ[i]?=some none
abbrev BD:=Gm->Sto->List D->(List D->Sto->Prop)->Prop
def BodyOk (K:Fg) (L:List Nat) (tv:Addr->TB) (td:BD):Prop:=∀ D' F S H Γ σ acc zs N QD,Free L σ->F D'->Rp K F S H->RepG K (mt S F) H Γ σ->H D'=some (.lst zs)->RepL K (mt S F) H acc zs->td Γ S acc QD ->
 (∀ acc' S' H' zs',ExtX D' S H S' H'->Rp K F S' H'->H' D'=some (.lst zs')->RepL K (mt S' F) H' acc' zs'->QD acc' S'->N H')->tv D' σ H N
def emitD (te:ED):BD:=fun Γ S acc Q=>te Γ S fun y S1=>acc.length < sizeLine/\Q (acc++[y]) S1
theorem bo_emit {L:List Nat} {te:ED}:BodyOk K L (fun D'=>tEmit D' (upE K te)) (emitD te):=by
 intro D' F S H Γ σ acc zs N QD _ hF r g hH l q c;refine⟨F,S,Γ,_,r,g,q,fun v d H1 S1 x1 r1 v1 ⟨hz,q1⟩=>?_⟩;have hS:S D'=none:=(r.frm D' hF).2;have hS1:S1 D'=none:=(r1.frm D' hF).2;have h1:H1 D'=some (.lst zs):=x1.keep _ _ hS hH;have y:ExtX D' S1 H1 S1 (upd H1 D' (.lst (zs++[v]))):=⟨fun a o n _ e=>by rw[upd_ne n];exact e,fun a h=>by
  by_cases e:a=D'
  ·subst e;rw[upd_same];exact fun z=>by cases z
  ·rw[upd_ne e];exact h,fun a h=>.inl h⟩
 refine⟨zs,h1,by rw[l.length];exact hz,c _ S1 _ (zs++[v]) (x1.x.trans y) ?_ upd_same ?_ q1⟩
 ·exact⟨fun a o e=>(r1.obj a o e).keep (y.kp hF) (upd_ne (by rintro rfl;rw[hS1] at e;cases e)),fun a h=>by
   refine hd fun Gq kq=>?_;obtain⟨⟨ys,e,ct⟩,h2⟩:=r1.frm a h;refine kq ?_
   by_cases z:a=D'
   ·subst z;exact⟨⟨_,upd_same,trivial⟩,h2⟩
   ·exact⟨⟨ys,by rw[upd_ne z];exact e,ct⟩,h2⟩⟩
 ·exact RepL.app ((l.ext x1).keep (y.kp hF)) (RepL.cons (v1.keep (y.kp hF)) RepL.nil)
def CG (K:Fg) (L L':List Nat) (g:TG) (gd:GD):Prop:=∀ F S H Γ σ d v Q QD,Free L σ->Rp K F S H->RepG K (mt S F) H Γ σ->RepV K (mt S F) H d v->gd d Γ S QD->(∀ Γ' S' σ' H',Ext S H S' H'->Rp K F S' H'->RepG K (mt S' F) H' Γ' σ'->Wk σ σ'->Free L' σ'->QD Γ' S'->Q σ' H')->g v σ H Q
theorem Free.set {L:List Nat} {σ:St} {i:Nat} {v:V} (h:Free (i::L) σ) (hi:i∉L):Free L (σ.set i (some v)):=fun j hj=>by
 rw[fC (by rintro rfl;exact hi hj)]
 exact h j (aq _ hj)
theorem cg_name {L:List Nat} {i:Nat} (hi:i∉L:=by decide):CG K (i::L) L (gName i) (gdName i):=fun F S H Γ σ d v Q QD f r g rv q c=>c _ S _ H (Ext.refl _ _) r (g.set rv i) (wk_of (f i am)) (f.set hi) q
theorem cg_pair {L:List Nat} {i j:Nat} (hi:i∉j::L:=by decide) (hj:j∉L:=by decide):CG K (i::j::L) L (gTup K 2 (gCons (gName i) (gCons (gName j) gNil))) (gdTup 2 (gdCons (gdName i) (gdCons (gdName j) gdNil))):=fun F S H Γ σ d v Q QD f r g rv q c=>by
 cases d with
 | tup ds =>
  obtain⟨p,us,rfl,sq,l⟩:=tup.st rv;refine hd fun Gq kq=>?_;obtain⟨hl,q⟩:=q;refine kq ?_
  match ds,hl,q with
  | [d1,d2],_,q =>
   obtain⟨v1,v2,rfl,r1,r2⟩:=l.two;have f1:Free (j::L) (σ.set i (some v1)):=f.set hi;exact⟨p,_,rfl,sq,rfl,v1,_,rfl,v2,_,rfl,rfl,c _ S _ H (Ext.refl _ _) r ((g.set r1 i).set r2 j) ((wk_of (f i am)).trans (wk_of (f1 j am))) (f1.set hj) q.2⟩
 | _=>exact q.elim
def loopD (g:GD) (tt:TD) (tb:BD) (G:Sto->Prop) (Γ0:Gm):List D->List D->Sto->(List D->Sto->Prop)->Prop
 | [],acc,S,Q=>G S/\Q acc S
 | x::xs,acc,S,Q=>G S/\g x Γ0 S fun Γ2 S2=>tt Γ2 S2 fun b S3=>if b=true then tb Γ2 S3 acc fun acc' S4=>loopD g tt tb G Γ0 xs acc' S4 Q else loopD g tt tb G Γ0 xs acc S3 Q
theorem loop_ok {L L':List Nat} {g:TG} {gd:GD} {tt:TD} {tv:Addr->TB} {tb:BD} (hg:CG K L L' g gd) (hb:BodyOk K L' tv tb) {D':Addr} {F:Am} {S:Sto} {H:Hp} {Γ:Gm} {σ:St} {acc:List D} {zs:List V} {N:Hp->Prop} {QD:List D->Sto->Prop} {J:It} {xs:List D} {G:Sto->Prop}
  (f:Free L σ) (hF:F D') (r:Rp K F S H) (gm:RepG K (mt S F) H Γ σ) (hH:H D'=some (.lst zs)) (l:RepL K (mt S F) H acc zs) (it:∀ S2 H2,ExtX D' S H S2 H2->Rp K F S2 H2->G S2->(∀ i d,xs[i]?=some d->J.go i H2/\∀ x H3,J.yld i H2 x H3->Ext S2 H2 S2 H3/\Rp K F S2 H3/\RepV K (mt S2 F) H3 d x)/\J.stop xs.length H2)
  (q:loopD gd tt tb G Γ xs acc S QD) (c:∀ acc' S' H' zs',ExtX D' S H S' H'->Rp K F S' H'->H' D'=some (.lst zs')->RepL K (mt S' F) H' acc' zs'->QD acc' S'->N H'):LoopW J σ g (upT K tt) (tv D') N H:=by
 refine⟨fun i m H'=>m=xs.length - i/\i<=xs.length/\∃ S' acc' zs',ExtX D' S H S' H'/\Rp K F S' H'/\H' D'=some (.lst zs')/\RepL K (mt S' F) H' acc' zs'/\loopD gd tt tb G Γ (xs.drop i) acc' S' QD,⟨xs.length,by simp,bA _,S,acc,zs,(Ext.refl _ _).x,r,hH,l,by simpa using q⟩,?_⟩
 intro i m H' zq;refine hd fun Gq kq=>?_;obtain⟨rfl,hi,S',acc',zs',x2,r2,h2,l2,f2⟩:=zq;refine kq ?_;have g2:=gm.keep (x2.kp hF)
 by_cases hlt:i < xs.length
 ·rw[drop_cons hlt] at f2;refine hd fun Gq kq=>?_;obtain⟨hG,f2⟩:=f2;refine kq ?_;refine hd fun Gq kq=>?_;obtain⟨hgo,hy⟩:=(it S' H' x2 r2 hG).1 i xs[i] (ag hlt);refine kq ?_;refine .inr ⟨hgo,fun H''=>∃ S'' acc'' zs'',ExtX D' S H S'' H''/\Rp K F S'' H''/\H'' D'=some (.lst zs'')/\RepL K (mt S'' F) H'' acc'' zs''/\loopD gd tt tb G Γ (xs.drop (i + 1)) acc'' S'' QD,fun H'' z=>⟨xs.length - (i + 1),by omega,rfl,hlt,z⟩,fun x H3 y3=>?_⟩
  refine hd fun Gq kq=>?_;obtain⟨x3,r3,v3⟩:=hy x H3 y3;refine kq ?_;refine hg F S' H3 Γ σ xs[i] x _ _ f r3 (g2.ext x3) v3 f2 fun Γ4 S4 σ4 H4 x4 r4 g4 wk fr4 q4=>⟨wk,F,S4,Γ4,_,r4,g4,q4,fun z H5 S5 x5 r5 q5=>?_⟩;have x35:=x3.trans (x4.trans x5);have h5:H5 D'=some (.lst zs'):=x35.keep _ _ (r2.frm D' hF).2 h2;have l5:=l2.ext x35;have x05:ExtX D' S H S5 H5:=x2.trans x35.x;cases z with
  | false=>exact⟨S5,acc',zs',x05,r5,h5,l5,q5⟩
  | true=>exact hb D' F S5 H5 Γ4 σ4 acc' zs' _ _ fr4 hF r5 (g4.ext x5) h5 l5 q5 fun acc6 S6 H6 zs6 x6 r6 h6 l6 q6=>⟨S6,acc6,zs6,x05.trans x6,r6,h6,l6,q6⟩
 ·have e:i=xs.length:=by omega
  subst e;rw[gP] at f2;exact .inl ⟨(it S' H' x2 r2 f2.1).2,c acc' S' H' zs' x2 r2 h2 l2 f2.2⟩
def innerD (wi:ID) (g:GD) (tt:TD) (tb:BD):BD:=fun Γ S acc Q=>wi Γ S fun xs G S1=>loopD g tt tb G Γ xs acc S1 Q
theorem bo_inner {L L':List Nat} {wi:ID} {g:TG} {gd:GD} {tt:TD} {tv:Addr->TB} {tb:BD} (hg:CG K L L' g gd) (hb:BodyOk K L' tv tb):BodyOk K L (fun D'=>tInner (upI K wi) g (upT K tt) (tv D')) (innerD wi gd tt tb):=by
 intro D' F S H Γ σ acc zs N QD fr hF r gm hH l q c;refine⟨F,S,Γ,_,r,gm,q,fun J xs G H1 S1 x1 r1 it q1=>?_⟩;have h1:H1 D'=some (.lst zs):=x1.keep _ _ (r.frm D' hF).2 hH;exact loop_ok hg hb fr hF r1 (gm.ext x1) h1 (l.ext x1) (fun S2 H2 x2 r2 hG=>⟨it.go F (FE.refl _ _) S2 H2 (x2.w hF) r2 hG,it.stop F (FE.refl _ _) S2 H2 (x2.w hF) r2 hG⟩) q1 fun acc' S' H' zs' x2=>c acc' S' H' zs' (x1.x.trans x2)
def captD (is:List (Option Nat)) (Γ:Gm):Gm:=is.map fun o=>o.bind fun i=>(Γ[i]?).join
theorem RepG.at {M:Am} {H:Hp}:∀ {g:Gm} {σ:St} {i:Nat} {d:D},RepG K M H g σ->g[i]?=some (some d)->∃ v,σ[i]?=some (some v)/\RepV K M H d v
 | [],_,_,_,_,e=>by simp at e
 | none::g,_,0,_,_,e=>by simp at e
 | some d::g,_,0,e,⟨v,τ,rfl,q,r⟩,h=>by simp at h;subst h;exact⟨v,rfl,q⟩
 | none::g,_,i + 1,d,⟨v,τ,rfl,r⟩,h=>by
  refine hd fun Gq kq=>?_;obtain⟨u,e1,h1⟩:=RepG.at (i:=i) r (by simpa using h);refine kq ?_
  exact⟨u,by simpa using e1,h1⟩
 | some _::g,_,i + 1,d,⟨v,τ,rfl,q,r⟩,h=>by
  refine hd fun Gq kq=>?_;obtain⟨u,e1,h1⟩:=RepG.at (i:=i) r (by simpa using h);refine kq ?_
  exact⟨u,by simpa using e1,h1⟩
theorem RepG.capt {M:Am} {H:Hp} {g:Gm} {σ:St} (h:RepG K M H g σ):∀ is:List (Option Nat),RepG K M H (captD is g) (capt is σ)
 | []=>rfl
 | o::is=>by
  have ih:=RepG.capt h is;cases o with
  | none=>exact⟨_,_,rfl,ih⟩
  | some i =>
   show RepG K M H ((g[i]?).join::captD is g) ((σ[i]?).join::L2.capt is σ);cases e:g[i]? with
   | none=>exact⟨_,_,rfl,ih⟩
   | some z =>
    cases z with
    | none=>exact⟨_,_,rfl,ih⟩
    | some d =>
     refine hd fun Gq kq=>?_;obtain⟨v,e1,r⟩:=h.at e;refine kq ?_;rw[e1];exact⟨v,_,rfl,r,ih⟩
def compD (b:Bool) (is:List (Option Nat)) (wi:ID) (g:GD) (tt:TD) (tb:BD):ED:=fun Γ S Q=>wi Γ S fun xs G S1=>loopD g tt tb G (captD is Γ) xs [] S1 fun acc S2=>newL b acc S2 Q
theorem up_comp {b:Bool} {L L':List Nat} {is:List (Option Nat)} {wi:ID} {g:TG} {gd:GD} {tt:TD} {tv:Addr->TB} {tb:BD} (hL:∀ σ,Free L (capt is σ)) (hg:CG K L L' g gd) (hb:BodyOk K L' tv tb):∀ σ H Q,upE K (compD b is wi gd tt tb) σ H Q->tComp2 is (upI K wi) g (upT K tt) tv σ H Q:=fun σ H Q z0=>z0.el fun F S Γ QD r gm q c =>
 ⟨F,S,Γ,_,r,gm,q,fun J xs G H1 S1 x1 r1 it q1 D' hD=>by
  have hS1:S1 D'=none:=r1.sn hD;have fe:FE F H1 (fun a=>F a\/a=D'):=fun a h=>h.elim .inl fun e=>.inr (by rw[e];exact hD)
  have nF:¬ F D':=fun h=>by
   refine hd fun Gq kq=>?_;obtain⟨⟨ys,e,_⟩,_⟩:=r1.frm D' h;refine kq ?_;rw[hD] at e;cases e
  have xe:Ext S1 H1 S1 (upd H1 D' (.lst [])):=Ext.same (same_upd hD);have kp:Keep (mt S1 F) H1 (mt S1 fun a=>F a\/a=D') (upd H1 D' (.lst [])):=xe.w.kpF fe;have r2:Rp K (fun a=>F a\/a=D') S1 (upd H1 D' (.lst [])):=⟨fun a o e=>(r1.obj a o e).keep kp (upd_ne (by rintro rfl;rw[hS1] at e;cases e)),fun a h=>by
   rcases h with h | h
   ·refine hd fun Gq kq=>?_;obtain⟨⟨ys,e,ct⟩,h2⟩:=r1.frm a h;refine kq ?_;exact⟨⟨ys,by rw[upd_ne (by rintro rfl;rw[hD] at e;cases e)];exact e,ct⟩,h2⟩
   ·subst h;exact⟨⟨_,upd_same,trivial⟩,hS1⟩⟩
  have old:∀ {S2 H2},ExtX D' S1 (upd H1 D' (.lst [])) S2 H2->Ext S1 H1 S2 H2:=fun {S2 H2} y=>⟨fun a o h e=>y.keep a o (by rintro rfl;rw[hD] at e;cases e) h (by rw[upd_ne (by rintro rfl;rw[hD] at e;cases e)];exact e),fun a h=>y.live a (xe.live a h),fun a h=>by
   rcases y.new a h with z | z
   ·exact .inl z
   ·by_cases e:a=D'
    ·subst e;exact .inr hD
    ·rw[upd_ne e] at z;exact .inr z⟩
  refine loop_ok hg hb (hL σ) (F:=fun a=>F a\/a=D') (.inr rfl) r2 ((gm.ext x1).keep kp |>.capt is) upd_same RepL.nil (fun S2 H2 y r2 hG=>⟨it.go _ fe S2 H2 (old y).w r2 hG,it.stop _ fe S2 H2 (old y).w r2 hG⟩) q1 fun acc' S' H' zs' y r3 h3 l3 q3=>?_
  have less:Keep (mt S' fun a=>F a\/a=D') H' (mt S' F) H':=⟨fun _ _ _ e=>e,fun a h _=>fun z=>h (z.elim .inl fun w=>.inr (.inl w))⟩;have x3:=old y;have hS':S' D'=none:=(r3.frm D' (.inr rfl)).2;have r4:Rp K F S' H':=⟨fun a o e=>(r3.obj a o e).keep less rfl,fun a h=>r3.frm a (.inl h)⟩;have nm:¬ mt S' F D':=fun z=>z.elim (fun w=>w hS') nF;cases b with
  | false =>
   refine c (.ref D') (.lst acc') H' S' (x1.trans x3) r4 ?_ q3;unfold RepV;exact⟨D',zs',rfl,.inl ⟨nm,.inl h3⟩,l3.keep less⟩
  | true =>
   have x5:Ext S1 H1 (supd S' D' (.lst acc')) H':=⟨x3.keep,x3.live,fun a h=>by
    by_cases e:a=D'
    ·subst e;exact .inr hD
    ·rw[supd_ne e] at h;exact x3.new a h⟩
   have k6:Keep (mt S' fun a=>F a\/a=D') H' (mt (supd S' D' (.lst acc')) F) H':=⟨fun _ _ _ e=>e,fun a h _=>fun z=>by
    rcases z with z | z
    ·by_cases e:a=D'
     ·exact h (.inr (.inr e))
     ·rw[supd_ne e] at z;exact h (.inl z)
    ·exact h (.inr (.inl z))⟩
   refine c (.ref D') (.ref D') H' (supd S' D' (.lst acc')) (x1.trans x5) ⟨fun a o e=>?_,fun a h=>⟨(r4.frm a h).1,?_⟩⟩ (by unfold RepV;rfl) (q3 D' hS')
   ·by_cases e1:a=D'
    ·subst e1;rw[supd_same] at e;cases e;exact⟨zs',h3,l3.keep k6⟩
    ·rw[supd_ne e1] at e;exact(r3.obj a o e).keep k6 rfl
   ·rw[supd_ne (by rintro rfl;exact nF h)];exact(r4.frm a h).2⟩
def dYes:TD:=fun _ S Q=>Q true S
theorem dts_nil:PTs X [] (upT K dYes):=fun pins s σ H Q I z0=>z0.el fun F S Γ QD r g q c=>pts_nil pins s σ H Q I (c true H S (Ext.refl _ _) r q)
theorem free_of {L:List Nat} {is:List (Option Nat)} (h:(L.all fun i=>decide (is[i]?=some none))=true):∀ σ,Free L (capt is σ):=fun σ i hi=>by
 have:=of_decide_eq_true (bn.mp h i hi)
 unfold capt;rw[bv,this]
 rfl
theorem dts_one {c:Expr} {t:TD} (h:PTD K X c t):PTs X [c] (upT K t):=pts_one h.o
end
end L2
set_option maxHeartbeats 4000000
namespace L2
open PySem PySem.Spec PyProof.Rows
section
variable {prog:aD} {w:aK} {s:ai}
def Col (prog:aD) (w:aK) (s:ai) (v:ae) (Pv:List ae->Prop):Prop:=∀ (A:aQ) (E:ae->ai->Prop) (R:List ae->ai->Prop),A.handled=none ->
 (∀ vals h' d tk,Pv vals->(∀ b o,s.heap.get? b=some o->h'.get? b=some o)->R vals { s with heap:=h',drawn:=d,toks:=tk })->ax (aC prog w) A (collect v) R E s
theorem col_seq {a:Addr} {T:String} {o:Obj} {its:List ae} {n:Nat} (hT:T = "list"\/T = "tuple") (ho:s.heap.get? a=some o) (hc:o.cls=.type T) (hd:o.data=.seq its.toArray n) (hz:its.length<=sizeLine):Col prog w s (.ref a) (· = its):=fun A E R _ h =>
 wpAny_collect_seq a hT ho hc hd (fun h' k=>by
  have:=h its h' s.drawn s.toks rfl k
  simpa using this) (by simpa using hz)
theorem col_dict {a:Addr} {vs:List (Key × ae)} (lo:(a == sysModules)=false) (hd:s.heap.DictOf (mixKind prog w) a vs) (hz:vs.length<=sizeLine):Col prog w s (.ref a) (fun vals=>vals.length=vs.length/\∀ (j:Nat) (v:ae),vals[j]?=some v->∃ (k:Key) (x:ae),vs[j]?=some (k,x)/\keyIs k v=true):=fun A E R hh h=>by
 obtain⟨ep,hat⟩:=hd.dictAt;refine PySem.W.kdu_collect (PySem.W.kdl_dict (knd:=mixKind prog w) (kvs:=vs) (ep:=ep) lo) hh hat hz fun h' tk acc hk hacc=>?_;exact h acc.toList h' s.drawn tk ⟨by rw[b9];exact hacc.1,fun j v e=>hacc.2 j v (by rw[<- bS];exact e)⟩ hk
theorem sorted_gen {A:aQ} {E:ae->ai->Prop} {v:ae} {Pv:List ae->Prop} {Q:ae->ai->Prop} (hh:A.handled=none) (col:Col prog w s v Pv) (hz:∀ vals,Pv vals->vals.length<=sizeLine)
  (srt:∀ (vals:List ae) (h1:aW) (d:Drawn) (tk:Nat),Pv vals->(∀ b o,s.heap.get? b=some o->h1.get? b=some o)->ax (aC prog w) A.in1.in1 (cP.«list.sort» ⟨[.ref h1.objs.size],[]⟩) (fun fin s'=>fin=.done (.ret .none)/\Q (.ref h1.objs.size) s') E { s with heap:=h1.push (cD "list" vals.toArray 0),drawn:=d,toks:=tk }) :
  ax (aC prog w) A (call (.builtin "sorted") [v]) Q E s:=by
 refine iY kind_sorted plain_sorted entry_sorted (args_sorted1 _) ?_;unfold cP.«sorted»;refine ad (m:=checkCount "sorted" 1 1 _) (af ?_);refine ad (col A.in1 _ _ (by simp[hh]) fun vals h1 d tk pv kp=>?_)
 refine ad (wpAny_newList ?_ (hz vals pv));have hoL:(h1.push (cD "list" vals.toArray 0)).get? h1.objs.size=some (cD "list" vals.toArray 0):=aw _ rfl;refine ad (bB (cZ slot_list_sort ⟨_,hoL,rfl⟩ entry_list_sort ?body (args_list_sort _)))
 case body =>
  refine dP (srt vals h1 d tk pv kp) (fun fin s' ⟨e,q⟩=>?_) fun _ _ e=>e;subst e;exact⟨_,rfl,af ⟨_,rfl,q⟩⟩
theorem sorted_keep {h:aW} {a:Addr} {vs:List ae} {n:Nat} {out:Array ae} (ho:h.get? a=some (cD "list" vs.toArray n)):(∃ c,(sortedHeap h a vs out).get? a=some (cD "list" out c))/\∀ b o,b≠a->h.get? b=some o->(sortedHeap h a vs out).get? b=some o:=by
 unfold sortedHeap;obtain⟨e1,ho1⟩:∃ e1,(h.update a (bW fun _=>(#[]:Array ae))).get? a=some (cD "list" #[] e1):=⟨_,fm ho fun _=>#[]⟩;have sb:=ce h a (bW fun _=>(#[]:Array ae));have k2:∀ b o,(h.update a (bW fun _=>(#[]:Array ae))).get? b=some o->(((h.update a (bW fun _=>(#[]:Array ae))).push (cD "tuple" vs.toArray 0)).push (cD "list" #[] 0)).get? b=some o:=fun b o e=>ah _ (ah _ e);refine⟨⟨_,fm (k2 _ _ ho1) fun _=>out⟩,fun b o hb e=>?_⟩;have s2:=ce (((h.update a (bW fun _=>(#[]:Array ae))).push (cD "tuple" vs.toArray 0)).push (cD "list" #[] 0)) a (bW fun _=>out);exact(s2.2 b hb).trans (k2 b o ((sb.2 b hb).trans e))
theorem sort_strs {A:aQ} {E:ae->ai->Prop} {a:Addr} {vs:List ae} {ss:List Str} {n:Nat} {P:PySem.Fin->ai->Prop} (ho:s.heap.get? a=some (cD "list" vs.toArray n)) (hS:StrsAre vs ss) (h64:vs.length < 64)
  (h:∀ (out:List ae) (ss':List Str) (h':aW) (c:Nat),StrsAre out ss'->ss'.Perm ss->sortedS ss'=true->h'.get? a=some (cD "list" out.toArray c)->(∀ b o,b≠a->s.heap.get? b=some o->h'.get? b=some o)->P (.done (.ret .none)) { s with heap:=h' }) :
  ax (aC prog w) A (cP.«list.sort» ⟨[.ref a],[]⟩) P E s:=by
 refine list_sort_treeK strKind_oneLt ho hS.keysOf (fun v₁ v₂ rest e=>keyKind_strs (by rw[<- e];exact hS)) h64 fun st' hp hs=>?_
 obtain⟨ss',h1,h2,h3⟩:=sorted_out_str hS hp hs;obtain⟨⟨c,hc⟩,hk⟩:=sorted_keep (out:=(arrOf st').map (·.2)) ho;exact h _ ss' _ c h1 h2 h3 (by rw[hc]) hk
theorem sort_ints {A:aQ} {E:ae->ai->Prop} {a:Addr} {vs:List ae} {ns:List Int} {n:Nat} {P:PySem.Fin->ai->Prop} (ho:s.heap.get? a=some (cD "list" vs.toArray n)) (hI:jP vs ns) (h64:vs.length < 64)
  (h:∀ (out:List ae) (ns':List Int) (h':aW) (c:Nat),jP out ns'->ns'.Perm ns->ns'.Pairwise (·<=·)->h'.get? a=some (cD "list" out.toArray c)->(∀ b o,b≠a->s.heap.get? b=some o->h'.get? b=some o)->P (.done (.ret .none)) { s with heap:=h' }) :
  ax (aC prog w) A (cP.«list.sort» ⟨[.ref a],[]⟩) P E s:=by
 refine list_sort_tree ho hI h64 fun out ns' h1 h2 h3=>?_;obtain⟨⟨c,hc⟩,hk⟩:=sorted_keep (out:=out) ho;exact h _ ns' _ c h1 h2 h3 (by rw[hc]) hk
end
section
variable {X:Cx} {K:Fg}
def Src (K:Fg) (H:Hp) (x:V) (us:List V):Prop:=∃ a,x=.ref a/\(SqL K H a us\/SqT K H a us\/∃ kvs:List (Key × V),H a=some (.dK kvs)/\us=kvs.map fun p=>kV p.1)
theorem keys_vals:∀ {kvs:List (Key × V)} {vs:List (Key × ae)} {vals:List ae},KV kvs vs->vals.length=vs.length->(∀ (j:Nat) (v:ae),vals[j]?=some v->∃ (k:Key) (x:ae),vs[j]?=some (k,x)/\keyIs k v=true)->Vals (kvs.map fun p=>kV p.1) vals
 | [],_,vals,.nil,hl,_=>by cases vals with
  | nil=>exact .nil
  | cons _ _=>simp at hl
 | p::kvs,_,vals,.cons (b:=q) hp hr,hl,h=>by
  cases vals with
  | nil=>simp at hl
  | cons v vals =>
   refine .cons ?_ (keys_vals hr (by simpa using hl) fun j v e=>by simpa using h (j + 1) v (by simpa using e))
   obtain⟨k,x,e,hk⟩:=h 0 v rfl;have e':q=(k,x):=by simpa using e
   have hk':p.1=k:=by rw[hp.1,e']
   show RelV (kV p.1) v;rw[hk'];rcases keyIs_shape hk with⟨i,t,rfl,rfl⟩ | ⟨y,t,rfl,rfl⟩
   ·exact⟨t,rfl⟩
   ·exact⟨t,rfl⟩
theorem Inv.toks {pins:List (Addr × Obj)} {σ:St} {H:Hp} {s:ai} (I:Inv X pins σ H s) {h':aW} (k:∀ b o,s.heap.get? b=some o->h'.get? b=some o) (d:Drawn) (tk:Nat):Inv X pins σ H { s with heap:=h',drawn:=d,toks:=tk }:=(I.kept (t':=tk) k).drawn d
theorem Inv.src {pins:List (Addr × Obj)} {σ:St} {H:Hp} {s:ai} (I:Inv X pins σ H s) (hK:X.K=K) {x:V} {u:ae} {us:List V} (h:Src K H x us) (r:RelV x u):Col X.prog X.w s u (fun vals=>Vals us vals)/\us.length<=sizeLine:=by
 subst hK;obtain⟨a,rfl,h⟩:=h;cases r;rcases h with h | h | ⟨kvs,h,rfl⟩
 ·obtain⟨its,rv,⟨o,n,ho,hc,_,hd⟩,hz⟩:=I.list h;have hl:=rv.length;exact⟨fun A E R hh q=>col_seq (.inl rfl) ho hc hd (by lia) A E R hh fun vals h' d tk e k=>q vals h' d tk (by rw[e];exact rv) k,hz⟩
 ·obtain⟨its,rv,⟨o,ho,hc,n,hd⟩,hz⟩:=I.tuple h;have hl:=rv.length;exact⟨fun A E R hh q=>col_seq (.inr rfl) ho hc hd (by lia) A E R hh fun vals h' d tk e k=>q vals h' d tk (by rw[e];exact rv) k,hz⟩
 ·obtain⟨hz,lo,vs,hv,hd⟩:=I.hok a _ h;have hl:kvs.length=vs.length:=bT hv;exact⟨fun A E R hh q=>col_dict lo hd (by lia) A E R hh fun vals h' d tk e k=>q vals h' d tk (keys_vals hv e.1 e.2) k,by rw[aj];exact hz⟩
def rSrtS (K:Fg):List V->Hp->VK->Prop:=fun xs H Q=>∃ (x:V) (ss:List Str),xs=[x]/\Src K H x (ss.map V.str)/\ss.length < 64/\∀ (p:Addr) (out:List Str),H p=none->out.Perm ss->out.Pairwise (fun a b=>HT.ltS b a=false)->Q (.ref p) (upd H p (.lst (out.map V.str)))
theorem sortedS_pw:∀ {l:List Str},sortedS l=true->l.Pairwise fun a b=>HT.ltS b a=false
 | [],_=>.nil
 | [x],_=>cj _ _
 | x::y::l,h=>by
  have h':(!ltCps y.cps.toList x.cps.toList && risingS y l)=true:=h;rw[aG] at h';have ih:=sortedS_pw (l:=y::l) h'.2;have hxy:HT.ltS y x=false:=by
   have:=h'.1
   rw[dM,ltCps_eq] at this;exact this
  refine a9.mpr ⟨fun z hz=>?_,ih⟩;rcases aA.mp hz with rfl | hz
  ·exact hxy
  ·have hzy:=(a9.mp ih).1 z hz;cases e:HT.ltS z x with
   | false=>rfl
   | true =>
    by_cases hyx:y=x
    ·subst hyx;rw[hzy] at e;cases e
    ·have:=HT.ltS_tot hxy hyx
     have:=HT.ltS_tr e this
     rw[hzy] at this;cases this
theorem call_srtS (hK:X.K=K:=by rfl) (hc:X.calm=true:=by rfl):CallR X (.builtin "sorted") (rSrtS K):=by
 intro pins s σ H xs us Q I r h;obtain⟨x,ss,rfl,hs,h64,q⟩:=h;obtain⟨u,rfl,rx⟩:=vals1 r;obtain⟨col,hz⟩:=I.src hK hs rx;have len:∀ {vals:List ae},Vals (ss.map V.str) vals->vals.length=ss.length:=fun v=>by have:=v.length;simpa using this.symm
 refine sorted_gen (I.ok.hd hc) col (fun vals v=>by rw[len v];simpa using hz) fun vals h1 d tk pv kp=>?_
 have hfr:H h1.objs.size=none:=(I.toks kp d tk).hok.fresh (ar _);refine sort_strs (s:={ s with heap:=h1.push (cD "list" vals.toArray 0),drawn:=d,toks:=tk }) (aw _ rfl) (strs_of (H:=H) (ds:=ss) (xs:=ss.map V.str) (by
  clear hz h64 q hs col rx pv len
  induction ss with
  | nil=>exact .nil
  | cons a ss ih=>exact .cons rfl ih) pv) (by rw[len pv];exact h64) fun out ss' h' c a1 a2 a3 a4 a5=>⟨rfl,?_⟩
 have I1:=I.toks kp d tk;obtain⟨v1,v2⟩:=of_strs (H:=H) a1;refine⟨.ref h1.objs.size,_,I1.laid (a:=h1.objs.size) (o:=.lst (ss'.map V.str)) (t':=tk) (fun b o e=>a5 b o (aH (ay e)) (ah _ e)) (ar _) ⟨?_,out,c,v1,a4⟩,rfl,q _ _ hfr a2 (sortedS_pw a3)⟩
 have:=a2.length_eq
 rw[aj,this];simpa using hz
def rSrtI (K:Fg):List V->Hp->VK->Prop:=fun xs H Q=>∃ (x:V) (ns:List Int),xs=[x]/\Src K H x (ns.map V.int)/\ns.length < 64/\∀ (p:Addr) (out:List Int),H p=none->out.Perm ns->out.Pairwise (·<=·)->Q (.ref p) (upd H p (.lst (out.map V.int)))
theorem call_srtI (hK:X.K=K:=by rfl) (hc:X.calm=true:=by rfl):CallR X (.builtin "sorted") (rSrtI K):=by
 intro pins s σ H xs us Q I r h;obtain⟨x,ss,rfl,hs,h64,q⟩:=h;obtain⟨u,rfl,rx⟩:=vals1 r;obtain⟨col,hz⟩:=I.src hK hs rx;have len:∀ {vals:List ae},Vals (ss.map V.int) vals->vals.length=ss.length:=fun v=>by have:=v.length;simpa using this.symm
 refine sorted_gen (I.ok.hd hc) col (fun vals v=>by rw[len v];simpa using hz) fun vals h1 d tk pv kp=>?_
 have hfr:H h1.objs.size=none:=(I.toks kp d tk).hok.fresh (ar _);refine sort_ints (s:={ s with heap:=h1.push (cD "list" vals.toArray 0),drawn:=d,toks:=tk }) (aw _ rfl) (intsAre_of pv) (by rw[len pv];exact h64) fun out ss' h' c a1 a2 a3 a4 a5=>⟨rfl,?_⟩
 have I1:=I.toks kp d tk;refine⟨.ref h1.objs.size,_,I1.laid (a:=h1.objs.size) (o:=.lst (ss'.map V.int)) (t':=tk) (fun b o e=>a5 b o (aH (ay e)) (ah _ e)) (ar _) ⟨?_,out,c,vals_ints a1,a4⟩,rfl,q _ _ hfr a2 a3⟩
 have:=a2.length_eq
 rw[aj,this];simpa using hz
def rSrtT (K:Fg):List V->Hp->VK->Prop:=fun xs H Q=>∃ (x:V) (us:List V) (ds:List (List Str)),xs=[x]/\Src K H x us/\a7 (dT K dS H) us ds/\ds.Nodup/\ds.length < 64/\∀ (p:Addr) (idx:List Nat),H p=none->idx.Perm (aP us.length)->(idx.map fun i=>ds.getD i []).Pairwise (fun a b=>HT.lexS a b=true)->(idx.map fun i=>ds.getD i []).Perm ds->Q (.ref p) (upd H p (.lst (idx.map fun i=>us.getD i V.non)))
theorem tsOf {pins:List (Addr × Obj)} {σ:St} {H:Hp} {s:ai} (I:Inv X pins σ H s) (hK:X.K=K) {h':aW} (k:∀ b o,s.heap.get? b=some o->h'.get? b=some o):∀ {us:List V} {vs:List ae} {ds:List (List Str)},Vals us vs->a7 (dT K dS H) us ds->a7 (KS.TS h') vs ds
 | _,_,_,.nil,.nil=>.nil
 | _,_,_,.cons r q,.cons d p=>by
  refine .cons ?_ (tsOf I hK k q p);obtain⟨b,xs,e,hq,pp⟩:=d;rw[e] at r;cases r;rw[<- hK] at hq;obtain⟨its,ri,⟨o,ho,z⟩,_⟩:=I.tuple hq;exact⟨b,its.toArray,rfl,⟨o,k b o ho,z⟩,sare_of pp ri⟩
theorem vals_idx {us:List V} {vs:List ae} (p:Vals us vs):∀ (idx:List Nat),(∀ i∈idx,i < us.length)->Vals (idx.map fun i=>us.getD i V.non) (idx.map fun i=>vs.getD i ci)
 | [],_=>.nil
 | i::idx,h=>by
  refine .cons ?_ (vals_idx p idx fun j hj=>h j (aq _ hj));have hi:=h i am;obtain⟨u,e,r⟩:=p.get (ag hi);show RelV (us.getD i V.non) (vs.getD i ci);rw[aB,aB,e,ag hi];exact r
theorem call_srtT (hu:X.A.units + 8 < bK) (hK:X.K=K:=by rfl) (hc:X.calm=true:=by rfl):CallR X (.builtin "sorted") (rSrtT K):=by
 intro pins s σ H xs us Q I r h;obtain⟨x,ys,ds,rfl,hs,hp,nd,h64,q⟩:=h;obtain⟨u,rfl,rx⟩:=vals1 r;obtain⟨col,hz⟩:=I.src hK hs rx;have hl:ys.length=ds.length:=bT hp;refine sorted_gen (I.ok.hd hc) col (fun vals v=>by rw[<- v.length];exact hz) fun vals h1 d tk pv kp=>?_
 have hvl:=pv.length;have I1:=I.toks kp d tk;have hfr:H h1.objs.size=none:=I1.hok.fresh (ar _);refine KS.sort_tups (s:={ s with heap:=h1.push (cD "list" vals.toArray 0),drawn:=d,toks:=tk }) (ds:=ds) (by show X.A.units + 1 + 1 < _;lia) (aw _ rfl) (tsOf I1 hK (fun b o e=>ah _ e) pv hp) nd (by lia) fun idx h' c i1 i2 i3 g kk=>⟨rfl,?_⟩
 have hin:∀ i∈idx,i < ys.length:=fun i hi=>by have:=bj.mp (i1.mem_iff.mp hi);lia
 have il:idx.length=vals.length:=by have:=i1.length_eq;simpa using this
 refine⟨.ref h1.objs.size,_,I1.laid (a:=h1.objs.size) (o:=.lst (idx.map fun i=>ys.getD i V.non)) (t':=tk) (fun b o e=>kk b o (aH (ay e)) (ah _ e)) (ar _) ⟨?_,_,c,vals_idx pv idx hin,g⟩,rfl,q _ idx hfr (by rw[hvl];exact i1) i2 i3⟩
 rw[aj];lia
end
section
variable {X:Cx} {K:Fg} {pos:Pos} {k:Nat}
section
variable {elt target iter:Expr} {ifs:List Expr} {gs:List jg} {scope:Scope} {N':List Str} {is:List (Option Nat)} {wi:ID} {g:TG} {gd:GD} {tt:TD} {tv:Addr->TB} {tb:BD} {oc:Option Str} {m:ae->Env->Sem Unit} {b:Bool}
theorem e_comp (L L':List Nat) (hcalm:X.calm=true) (hN:X.N.Nodup)
  (hturn:∀ it acc env,fS (.ListComp elt (⟨target,iter,ifs,0⟩::gs) scope pos) 0 it acc env=turnOf target ifs iter.pos (m acc env) (.compLoop (.ListComp elt (⟨target,iter,ifs,0⟩::gs) scope pos) 0 it acc env) it env)
  (cp:Cap X.N scope N' is) (hL:∀ σ,Free L (capt is σ)) (hi:PID K X target iter wi) (hgd:CG K L L' g gd)
  (hg:∀ cl C fp s H,PG (cxComp2 X N' scope cl C fp s H oc) target g) (ht:∀ cl C fp s H,PTs (cxComp2 X N' scope cl C fp s H oc) ifs (upT K tt)) (hbd:BodyOk K L' tv tb) (hb:∀ cl C fp s H D,PB (cxComp2 X N' scope cl C fp s H oc) (m (.ref D) (kd scope cl C X.env)) (tv D))
  (hcf:∀ n acc,f8 n scope.names acc=ocl oc n acc:=by intro _ _;rfl) (hpc:∀ h,jv h scope.names=ohp oc h:=by intro _;rfl)
  (hkind:scope.kind=.function:=by rfl) (hcell:∀ y∈scope.names,y.2=.cell->oc=some y.1:=by decide +kernel)
  (hu:∀ y∈scope.names,scope.names.lookup y.1=some y.2:=by decide +kernel) (hoc:∀ x,oc=some x->scope.names.lookup x=some .cell:=by intro x h;cases h <;> rfl)
  (hVb:okV scope.names X.env.scope.names=true:=by first | rfl | kernel_rfl)
  (hs:∀ x,cQ iter X.env x=pure x:=by intro _;rfl) :
  PD K X (.ListComp elt (⟨target,iter,ifs,0⟩::gs) scope pos) (compD b is wi gd tt tb):=.of (pe_compG hcalm hN hturn cp hi.o hg ht hb hcf hpc hkind hcell hu hoc hVb hs) (up_comp hL hgd hbd)
theorem ds_setC {x:Str} {i:Nat} {pos' spos:Pos} (hix:X.N[i]?=some x) (hx:Loc X.env.scope x) (L L':List Nat) (hcalm:X.calm=true) (hN:X.N.Nodup)
  (hturn:∀ it acc env,fS (.ListComp elt (⟨target,iter,ifs,0⟩::gs) scope pos) 0 it acc env=turnOf target ifs iter.pos (m acc env) (.compLoop (.ListComp elt (⟨target,iter,ifs,0⟩::gs) scope pos) 0 it acc env) it env)
  (cp:Cap X.N scope N' is) (hL:∀ σ,Free L (capt is σ)) (hi:PID K X target iter wi) (hgd:CG K L L' g gd)
  (hg:∀ cl C fp s H,PG (cxComp2 X N' scope cl C fp s H oc) target g) (ht:∀ cl C fp s H,PTs (cxComp2 X N' scope cl C fp s H oc) ifs (upT K tt)) (hbd:BodyOk K L' tv tb) (hb:∀ cl C fp s H D,PB (cxComp2 X N' scope cl C fp s H oc) (m (.ref D) (kd scope cl C X.env)) (tv D))
  (hcf:∀ n acc,f8 n scope.names acc=ocl oc n acc:=by intro _ _;rfl) (hpc:∀ h,jv h scope.names=ohp oc h:=by intro _;rfl)
  (hkind:scope.kind=.function:=by rfl) (hcell:∀ y∈scope.names,y.2=.cell->oc=some y.1:=by decide +kernel)
  (hu:∀ y∈scope.names,scope.names.lookup y.1=some y.2:=by decide +kernel) (hoc:∀ x,oc=some x->scope.names.lookup x=some .cell:=by intro x h;cases h <;> rfl)
  (hVb:okV scope.names X.env.scope.names=true:=by first | rfl | kernel_rfl)
  (hs:∀ x,cQ iter X.env x=pure x:=by intro _;rfl)
  (hsw:gI (.ListComp elt (⟨target,iter,ifs,0⟩::gs) scope pos) (some (.Name x pos')) spos.line X.env=pure true:=by first | rfl | kernel_rfl) (hf:X.fn x=true\/X.env.scope.names.lookup x=some .local:=by first | exact .inl rfl | exact .inr rfl | assumption) :
  PSD K X (.Assign [.Name x pos'] (.ListComp elt (⟨target,iter,ifs,0⟩::gs) scope pos) spos) (dAsg (compD b is wi gd tt tb) (gdName i)):=.of (ps_setC hix hx hcalm hN hturn cp hi.o hg ht hb hcf hpc hkind hcell hu hoc hVb hs hsw hf) fun D' σ H z0=>z0.el fun F S Γ E r gm q c=>by
 refine up_comp (tt:=tt) (b:=b) hL hgd hbd σ H _ ⟨F,S,Γ,_,r,gm,q,fun v d H1 S1 x1 r1 v1 q1=>?_⟩;exact c.nx _ S1 _ H1 x1 r1 ((gm.ext x1).set v1 i) q1
end
def dCut (t u:SD):SD:=fun E Γ S=>∃ M:Gm->Sto->Prop,t { E with nx:=M } Γ S/\∀ Γ' S',M Γ' S'->u E Γ' S'
theorem dss_cut {st:Stmt} {rest:List Stmt} {t u:SD} (h1:PSD K X st t) (h2:PSsD K X rest u):PSsD K X (st::rest) (dCut t u):=.of (pss_cons h1.o h2.o) fun D' σ H ⟨F,S,Γ,E,r,g,⟨M,q,hM⟩,c⟩ =>
 ⟨F,S,Γ,{ E with nx:=M },r,g,q,fun Γ1 S1 σ1 H1 x1 r1 g1 q1=>⟨F,S1,Γ1,E,r1,g1,hM Γ1 S1 q1,c.ext x1⟩,c.rt,c.bk,c.ct⟩
abbrev SpD:=List D->Sto->DK->Prop
def spU (K:Fg) (sp:SpD):Sp:=fun vs H Q _=>∃ F S ds QD,Rp K F S H/\RepL K (mt S F) H ds vs/\sp ds S QD/\Cn K F S H QD Q
theorem e_callD {x:Str} {ps:List Str} {sp:SpD} {p:Pos} {e:Expr} {es:List Expr} {t:AD} (Df':Df X.prog X.w X.K X.mg X.base k x ps (spU K sp)) (hr:Room k X.A) (hg:Gl X x) (ha:PAD K X (e::es) t)
  (hdb:(x == ("__debug__" : Str))=false:=by decide) (he:au (e::es) X.env=(false,eval e X.env)::au es X.env:=by rfl) (hpl:(bD pos (au es X.env)).any (·.1)=false:=by rfl) :
  PD K X (.Call (.Name x p) (e::es) [] pos) (dCB sp t):=.of (pe_callD Df' hr hg ha.o hdb he hpl) fun σ H Q z0=>z0.el fun F S Γ QD r g q c =>
 ⟨F,S,Γ,_,r,g,q,fun vs ds H1 S1 x1 r1 v1 q1=>by
  show spU K sp (vs++[]) H1 Q E0;rw[bI];exact⟨F,S1,ds,QD,r1,v1,q1,Cn.shift c x1⟩⟩
inductive Frz (S S':Sto):D->D->Prop where
 | same (d:D):Frz S S' d d
 | ref {a:Addr} {xs ys:List D} (h:S a=some (.lst xs)) (h':S' a=none) (l:Frz S S' (.tup xs) (.tup ys)):Frz S S' (.ref a) (.lst ys)
 | nil:Frz S S' (.tup []) (.tup [])
 | cons {d e:D} {ds es:List D} (h:Frz S S' d e) (l:Frz S S' (.tup ds) (.tup es)):Frz S S' (.tup (d::ds)) (.tup (e::es))
theorem frz_ok {F:Am} {S S':Sto} {H:Hp} (r:Rp K F S H) (hs:∀ a o,S' a=some o->S a=some o):∀ {d e:D},Frz S S' d e->(∀ v,RepV K (mt S F) H d v->RepV K (mt S' F) H e v)/\(∀ ds es,d=.tup ds->e=.tup es->∀ vs,RepL K (mt S F) H ds vs->RepL K (mt S' F) H es vs):=by
 intro d e h;have kp:Keep (mt S F) H (mt S' F) H:=(Ext.less (H:=H) hs).kp
 induction h with
 | same d=>exact⟨fun v h=>h.keep kp,fun ds es e1 e2 vs l=>by cases e1;cases e2;exact l.keep kp⟩
 | @ref a xs ys h h' l ih =>
  refine⟨fun v hv=>?_,fun ds es e1=>by cases e1⟩
  rw[rref hv];refine hd fun Gq kq=>?_;obtain⟨us,hu,lu⟩:=r.obj a _ h;refine kq ?_;unfold RepV;refine⟨a,us,rfl,.inl ⟨fun z=>?_,.inl hu⟩,ih.2 xs ys rfl rfl us lu⟩;rcases z with z | z
  ·exact z h'
  ·rw[(r.frm a z).2] at h;cases h
 | nil=>exact⟨fun v h=>h.keep kp,fun ds es e1 e2 vs l=>by cases e1;cases e2;exact l.keep kp⟩
 | @cons d e ds es h l ih1 ih2 =>
  have ls:∀ vs,RepL K (mt S F) H (d::ds) vs->RepL K (mt S' F) H (e::es) vs:=fun vs l=>by
   unfold RepL at l ⊢;obtain⟨v,vs,rfl,r1,l1⟩:=l;exact⟨v,vs,rfl,ih1.1 v r1,ih2.2 ds es rfl rfl vs l1⟩
  refine⟨fun v hv=>?_,fun ds' es' e1 e2 vs l=>by cases e1;cases e2;exact ls vs l⟩
  unfold RepV at hv ⊢;obtain⟨a,us,rfl,t,l⟩:=hv;exact⟨a,us,rfl,t.keep kp,ls us l⟩
def rtD (Q:DK):DK:=fun d S=>∃ d' S',(∀ a o,S' a=some o->S a=some o)/\Frz S S' d d'/\Q d' S'
theorem rt_same {Q:DK} {d:D} {S:Sto} (h:Q d S):rtD Q d S:=⟨d,S,fun _ _ e=>e,.same d,h⟩
theorem rt_drop {Q:DK} {d:D} {S S':Sto} (hs:∀ a o,S' a=some o->S a=some o) (h:Q d S'):rtD Q d S:=⟨d,S',hs,.same d,h⟩
theorem rt_frz {Q:DK} {a:Addr} {xs:List D} {S S':Sto} (h:S a=some (.lst xs)) (hs:∀ a o,S' a=some o->S a=some o) (h':S' a=none) (q:Q (.lst xs) S'):rtD Q (.ref a) S:=⟨.lst xs,S',hs,.ref h h' (.same _),q⟩
def endsD (Q:DK):EndsD:={ nx:=fun _ S=>rtD Q .non S,rt:=rtD Q }
def startD (N:List Str) (ds:List D):Gm:=ds.map some++iG (N.length - ds.length) none
theorem repStart {M:Am} {H:Hp} {N:List Str} {ds:List D} {vs:List V} (l:RepL K M H ds vs):RepG K M H (startD N ds) (start N vs):=by
 have reps:∀ n,RepG K M H (iG n none) (iG n none):=fun n=>by
  induction n with
  | zero=>exact rfl
  | succ n ih=>exact⟨none,_,rfl,ih⟩
 have gen:∀ {ds:List D} {vs:List V} {g:Gm} {σ:St},RepL K M H ds vs->RepG K M H g σ->RepG K M H (ds.map some++g) (vs.map some++σ):=by
  intro ds
  induction ds with
  | nil=>intro vs g σ l h;unfold RepL at l;subst l;exact h
  | cons d ds ih =>
   intro vs g σ l h;unfold RepL at l;obtain⟨v,vs,rfl,r,l⟩:=l;exact⟨v,_,rfl,r,ih l h⟩
 unfold startD start;rw[l.length];exact gen l (reps _)
theorem e_def {P:aD} {w:aK} {mg:Str->Option ae} {base:aW} {x:Str} {st:Stmt} {N ps:List Str} {sp:SpD} (T:Tx K mg x st) (S:FnScope N ps (defScope st))
  (b:∀ {f:Addr} {fd:cC},Fun K x x st f fd->Binds K fd ps []) (len:∀ ds S Q,sp ds S Q->ds.length=ps.length)
  (h:∀ (f:Addr) (cdv:ae) (A:aQ) (outer:List Env) (s:ai) (H:Hp) (E:XK),Room k (A.deeper (envOfC x (defScope st) s.heap.objs.size f cdv)) ->
   ∃ t,PSsD K (cxOf CX0 P w K mg base N x (defScope st) f cdv A outer s H E).nox (defBody st) t/\∀ ds S Q,sp ds S Q->t (endsD Q) (startD N ds) S):Df P w K mg base (k + 1) x ps (spU K sp):=by
 refine T.df b fun {f fd} Fn=>Fn.ok S (fun vs H Q E z1=>by obtain⟨F,S,ds,QD,r,l,hsp,c⟩:=z1;rw[l.length];exact len ds S QD hsp) (fun cdv A outer s H vs Q E' hr z1=>?_)
 refine hd fun Gq kq=>?_;obtain⟨F,S,ds,QD,r,l,hsp,c⟩:=z1;refine kq ?_;refine hd fun Gq kq=>?_;obtain⟨t,h1,h2⟩:=h f cdv A outer s H E' hr;refine kq ?_;have fin:∀ v d H' S',Ext S H S' H'->Rp K F S' H'->RepV K (mt S' F) H' d v->rtD QD d S'->Q v H':=fun v d H' S' x1 r1 v1 z2=>by
  refine hd fun Gq kq=>?_;obtain⟨d',S2,hs,fz,q⟩:=z2;refine kq ?_;exact c v d' H' S2 (x1.trans (Ext.less hs)) (r1.less hs) ((frz_ok r1 hs fz).1 v v1) q
 exact⟨_,h1.o,F,S,startD N ds,endsD QD,r,repStart l,h2 ds S QD hsp,fun Γ' S' σ' H' x1 r1 g1 q=>fin .non .non H' S' x1 r1 (by unfold RepV;rfl) q,fin,fun _ _ _ _ _ _ _ q=>q.elim,fun _ _ _ _ _ _ _ q=>q.elim⟩
def spLawD (n:Nat):SpD:=fun ds S Q=>∃ ns:List Int,ds=[.lst (ns.map D.int)]/\ns.length<=n/\(∀ a,S a=none)/\∀ S',Q (.bl true) S'
theorem intsD {M:Am} {H:Hp}:∀ {as:List Int},RepL K M H (as.map D.int) (as.map V.int)
 | []=>RepL.nil
 | a::as=>RepL.cons (by unfold RepV;rfl) intsD
theorem law_sp {n:Nat} {H:Hp} {a:Addr} {ns:List Int} (hl:ns.length<=n) (hS:SqL K H a (ns.map V.int)):spU K (spLawD n) [.ref a] H (fun v _=>v=.bl true) fun _ _ _=>False:=by
 refine⟨fun _=>False,fun _=>none,[.lst (ns.map D.int)],fun d _=>d=.bl true,⟨fun a o e=>(by cases e),fun _ (h:False)=>h.elim⟩,RepL.cons ?_ RepL.nil,⟨ns,rfl,hl,fun _=>rfl,fun _=>rfl⟩,fun v d H' S' _ _ h e=>by subst e;exact rbl h⟩
 unfold RepV;refine⟨a,_,rfl,?_,intsD⟩;rcases hS with r | z
 ·exact .inl ⟨fun z=>z.elim (fun w=>w rfl) id,r⟩
 ·exact .inr (.inr z)
def dMt (rd:D->List D->Sto->DK->Prop) (ck:D->Sto->Prop) (to:ED) (t:AD):ED:=fun Γ S Q=>to Γ S fun o S1=>ck o S1/\t Γ S1 fun ds S2=>rd o ds S2 Q
def MtD (K:Fg) (T:String) (r:V->List V->Hp->VK->Prop) (rd:D->List D->Sto->DK->Prop) (ck:D->Sto->Prop):Prop :=
 (∀ F S H d x,Rp K F S H->RepV K (mt S F) H d x->ck d S->tyV K T x H)/\∀ F S H d ds x vs Q QD,Rp K F S H->RepV K (mt S F) H d x->RepL K (mt S F) H ds vs->rd d ds S QD->Cn K F S H QD Q->r x vs H Q
theorem e_bm {T id:String} {name:Str} {r:V->List V->Hp->VK->Prop} {rd:D->List D->Sto->DK->Prop} {ck:D->Sto->Prop} {o e:Expr} {es:List Expr} {to:ED} {t:AD} {apos cpos:Pos} (M:MtD K T r rd ck)
  (pa:PlainAttrs T) (slot:Slot T name id) (hty:typeOf (.builtin id)=pure (.type "method_descriptor")) (hm:MtR X id r) (ho:PD K X o to) (ha:PAD K X (e::es) t) (hK:X.K=K:=by rfl)
  (hbase:cJ o name X.env (eval o X.env)=eval o X.env:=by rfl)
  (hfew:((bD cpos (au (e::es) X.env)).all (fun x=>!x.1) && (fg cpos (di [] X.env)).all (fun x=>x.1.isSome)
   && decide ((e::es).length + ([]:List fK).length + (if ([]:List fK).isEmpty then 0 else 1) < 30))=true:=by rfl)
  (hline:(apos.endLine == cpos.line)=true:=by rfl) (hs:au (e::es) X.env=(false,eval e X.env)::au es X.env:=by rfl) (hplain:(bD cpos (au es X.env)).any (·.1)=false:=by rfl) :
  PD K X (.Call (.Attribute o name apos) (e::es) [] cpos) (dMt rd ck to t):=by
 subst hK;exact .of (pe_bm pa slot hty hm ho.o ha.o hbase hfew hline hs hplain) fun σ H Q z0=>z0.el fun F S Γ QD r g q c =>
  ⟨F,S,Γ,_,r,g,q,fun v d H1 S1 x1 r1 v1 ⟨k1,q1⟩=>⟨M.1 F S1 H1 d v r1 v1 k1,F,S1,Γ,_,r1,g.ext x1,q1,fun vs ds H2 S2 x2 r2 v2 q2=>M.2 F S2 H2 d ds v vs Q QD r2 (v1.ext x2) v2 q2 (Cn.shift c (x1.trans x2))⟩⟩
theorem e_bm0 {T id:String} {name:Str} {r:V->List V->Hp->VK->Prop} {rd:D->List D->Sto->DK->Prop} {ck:D->Sto->Prop} {o:Expr} {to:ED} {apos cpos:Pos} (M:MtD K T r rd ck)
  (pa:PlainAttrs T) (slot:Slot T name id) (hty:typeOf (.builtin id)=pure (.type "method_descriptor")) (hm:MtR X id r) (ho:PD K X o to) (hK:X.K=K:=by rfl)
  (hbase:cJ o name X.env (eval o X.env)=eval o X.env:=by rfl) (hline:(apos.endLine == cpos.line)=true:=by rfl) :
  PD K X (.Call (.Attribute o name apos) [] [] cpos) (dMt rd ck to dNil):=by
 subst hK;exact .of (pe_bm0 pa slot hty hm ho.o hbase hline) fun σ H Q z0=>z0.el fun F S Γ QD r g q c =>
  ⟨F,S,Γ,_,r,g,q,fun v d H1 S1 x1 r1 v1 ⟨k1,q1⟩=>⟨M.1 F S1 H1 d v r1 v1 k1,M.2 F S1 H1 d [] v [] Q QD r1 v1 RepL.nil q1 (Cn.shift c x1)⟩⟩
def ckL (d:D) (S:Sto):Prop:=match d with
 | .ref a=>∃ xs,S a=some (.lst xs)
 | _=>False
theorem ty_L {F:Am} {S:Sto} {H:Hp} {d:D} {x:V} (r:Rp K F S H) (h:RepV K (mt S F) H d x) (c:ckL d S):tyV K "list" x H:=by
 cases d with
 | ref a =>
  refine hd fun Gq kq=>?_;obtain⟨xs,hx⟩:=c;refine kq ?_;rw[rref h];refine hd fun Gq kq=>?_;obtain⟨us,hu,_⟩:=r.obj a _ hx;refine kq ?_;exact .inl ⟨rfl,us,SqL.of hu⟩
 | _=>exact c.elim
theorem Cn.write {F:Am} {S:Sto} {H:Hp} {QD:DK} {Q:VK} (c:Cn K F S H QD Q) (r:Rp K F S H) {a:Addr} {xs ys:List D} {us ws:List V} (hS:S a=some (.lst xs)) (l:RepL K (mt S F) H ys ws) {d:D} {v:V} (hv:RepV K (mt S F) H d v) (q:QD d (supd S a (.lst ys))):Q v (upd H a (.lst ws)):=by
 have hS':S a≠none:=by rw[hS];exact fun z=>by cases z
 have x:Ext S H (supd S a (.lst ys)) (upd H a (.lst ws)):=Ext.write hS';exact c v d _ _ x (r.write hS' ⟨ws,upd_same,l.ext x⟩) (hv.ext x) q
def appD:D->List D->Sto->DK->Prop:=fun o ds S Q=>match o,ds with
 | .ref a,[y]=>∃ xs,S a=some (.lst xs)/\xs.length < sizeLine/\Q .non (supd S a (.lst (xs++[y])))
 | _,_=>False
theorem md_app:MtD K "list" rAppend appD ckL:=⟨fun F S H d x r h c=>ty_L r h c,fun F S H d ds x vs Q QD r h l q c=>by
 match d,ds,q with
 | .ref a,[y],⟨xs,hS,hz,q⟩ =>
  obtain⟨v,rfl,rv⟩:=l.one;refine hd fun Gq kq=>?_;obtain⟨us,hu,lu⟩:=r.obj a _ hS;refine kq ?_;rw[rref h];exact⟨a,us,v,rfl,rfl,hu,by rw[lu.length];exact hz,c.write r (us:=us) hS (lu.app (RepL.cons rv RepL.nil)) (by unfold RepV;rfl) q⟩⟩
def popAtD:D->List D->Sto->DK->Prop:=fun o ds S Q=>match o,ds with
 | .ref a,[.int i]=>∃ xs j y,S a=some (.lst xs)/\i=(j:Nat)/\(j:Nat) < 2 ^ 63/\xs[(j:Nat)]?=some y/\Q y (supd S a (.lst (xs.eraseIdx j)))
 | _,_=>False
theorem md_popAt:MtD K "list" rPopAt popAtD ckL:=⟨fun F S H d x r h c=>ty_L r h c,fun F S H d ds x vs Q QD r h l q c=>by
 match d,ds,q with
 | .ref a,[.int i],⟨xs,j,y,hS,hi,hj,hy,q⟩ =>
  obtain⟨v,rfl,rv⟩:=l.one;refine hd fun Gq kq=>?_;obtain⟨us,hu,lu⟩:=r.obj a _ hS;refine kq ?_;refine hd fun Gq kq=>?_;obtain⟨z,e1,rz⟩:=lu.get hy;refine kq ?_;rw[rref h,rint rv];have hjl:j < us.length:=by
   rcases bH j us.length with z | z
   ·exact z
   ·rw[br z] at e1;cases e1
  have e2:seqIndex? i us.length=some j:=by
   subst hi
   have:ixN us.length (j:Int)=some j:=by unfold ixN;rw[if_pos (by lia),if_pos (by lia),bF]
   exact(ixN_seq this).1
  exact⟨a,us,i,j,z,rfl,rfl,hu,by lia,by subst hi;exact_mod_cast hj,e2,e1,c.write r (us:=us) hS (lu.erase j) rz q⟩⟩
def popD:D->List D->Sto->DK->Prop:=fun o ds S Q=>match o,ds with
 | .ref a,[]=>∃ xs y,S a=some (.lst xs)/\xs[xs.length - 1]?=some y/\Q y (supd S a (.lst xs.dropLast))
 | _,_=>False
theorem RepL.dropLast {M:Am} {H:Hp} {ds:List D} {xs:List V} (l:RepL K M H ds xs):RepL K M H ds.dropLast xs.dropLast:=by
 rw[List.dropLast_eq_take,List.dropLast_eq_take,l.length];exact l.take _
theorem md_pop:MtD K "list" rPop popD ckL:=⟨fun F S H d x r h c=>ty_L r h c,fun F S H d ds x vs Q QD r h l q c=>by
 match d,ds,q with
 | .ref a,[],⟨xs,y,hS,hy,q⟩ =>
  unfold RepL at l;subst l;refine hd fun Gq kq=>?_;obtain⟨us,hu,lu⟩:=r.obj a _ hS;refine kq ?_;refine hd fun Gq kq=>?_;obtain⟨z,e1,rz⟩:=lu.get hy;refine kq ?_;rw[rref h];rw[<- lu.length] at e1;exact⟨a,us,z,rfl,rfl,hu,e1,c.write r (us:=us) hS lu.dropLast rz q⟩⟩
theorem e_append {o e:Expr} {to:ED} {t:AD} {apos cpos:Pos} (ho:PD K X o to) (ha:PAD K X [e] t) (hK:X.K=K:=by rfl)
  (hbase:cJ o "append" X.env (eval o X.env)=eval o X.env:=by rfl)
  (hfew:((bD cpos (au [e] X.env)).all (fun x=>!x.1) && (fg cpos (di [] X.env)).all (fun x=>x.1.isSome)
   && decide (([e]:List Expr).length + ([]:List fK).length + (if ([]:List fK).isEmpty then 0 else 1) < 30))=true:=by rfl)
  (hline:(apos.endLine == cpos.line)=true:=by rfl) (hs:au [e] X.env=(false,eval e X.env)::au [] X.env:=by rfl) (hplain:(bD cpos (au [] X.env)).any (·.1)=false:=by rfl) :
  PD K X (.Call (.Attribute o "append" apos) [e] [] cpos) (dMt appD ckL to t):=e_bm md_app dN PySem.F.slot_list_append PySem.F.type_list_append mt_append ho ha hK hbase hfew hline hs hplain
theorem e_popAt {o e:Expr} {to:ED} {t:AD} {apos cpos:Pos} (ho:PD K X o to) (ha:PAD K X [e] t) (hK:X.K=K:=by rfl)
  (hbase:cJ o "pop" X.env (eval o X.env)=eval o X.env:=by rfl)
  (hfew:((bD cpos (au [e] X.env)).all (fun x=>!x.1) && (fg cpos (di [] X.env)).all (fun x=>x.1.isSome)
   && decide (([e]:List Expr).length + ([]:List fK).length + (if ([]:List fK).isEmpty then 0 else 1) < 30))=true:=by rfl)
  (hline:(apos.endLine == cpos.line)=true:=by rfl) (hs:au [e] X.env=(false,eval e X.env)::au [] X.env:=by rfl) (hplain:(bD cpos (au [] X.env)).any (·.1)=false:=by rfl) :
  PD K X (.Call (.Attribute o "pop" apos) [e] [] cpos) (dMt popAtD ckL to t):=e_bm md_popAt dN kb kc mt_popAt ho ha hK hbase hfew hline hs hplain
theorem e_pop {o:Expr} {to:ED} {apos cpos:Pos} (ho:PD K X o to) (hK:X.K=K:=by rfl)
  (hbase:cJ o "pop" X.env (eval o X.env)=eval o X.env:=by rfl) (hline:(apos.endLine == cpos.line)=true:=by rfl) :
  PD K X (.Call (.Attribute o "pop" apos) [] [] cpos) (dMt popD ckL to dNil):=e_bm0 md_pop dN kb kc mt_pop ho hK hbase hline
def ckS (d:D) (S:Sto):Prop:=match d with
 | .str _=>True
 | _=>False
def rJoin (K:Fg):V->List V->Hp->VK->Prop:=fun x vs H Q=>∃ z y us ss,x=.str z/\vs=[y]/\(∃ a,y=.ref a/\SqL K H a us)/\a7 (dS H) us ss/\(ss.map (·.length)).sum + ss.length * z.length<=16777216/\Q (.str (Txt.join z ss)) H
theorem mt_join (hK:X.K=K:=by rfl):MtR X "str.join" (rJoin K):=by
 subst hK;intro pins s σ H x xs v us Q I rx rs h;obtain⟨z,y,ws,ss,rfl,rfl,⟨a,rfl,sq⟩,p,hz,q⟩:=h;obtain⟨t,rfl⟩:=rx;obtain⟨u,rfl,ru⟩:=rs.one;cases ru;refine hd fun Gq kq=>?_;obtain⟨its,r,pl,_⟩:=I.list sq;refine kq ?_;exact join_list pl.isList (strs_of p r) hz fun t' k=>⟨.str _,H,I.tok k,⟨t',rfl⟩,q⟩
def joinD:D->List D->Sto->DK->Prop:=fun o ds S Q=>match o,ds with
 | .str z,[d]=>∃ ss,lsIs S d (ss.map D.str)/\(ss.map (·.length)).sum + ss.length * z.length<=16777216/\Q (.str (Txt.join z ss)) S
 | _,_=>False
theorem md_join:MtD K "str" (rJoin K) joinD ckS:=⟨fun F S H d x r h c=>by
 cases d with
 | str z=>rw[rstr h];exact rfl
 | _=>exact c.elim,fun F S H d ds x vs Q QD r h l q c=>by
 match d,ds,q with
 | .str z,[d],⟨ss,h1,hz,q⟩ =>
  obtain⟨v,rfl,rv⟩:=l.one;obtain⟨a,us,rfl,sq,lu⟩:=lsIs.sl r rv h1;rw[rstr h];exact⟨z,_,us,ss,rfl,rfl,⟨a,rfl,sq⟩,repStrs lu,hz,c.str r q⟩⟩
theorem e_join {o e:Expr} {to:ED} {t:AD} {apos cpos:Pos} (ho:PD K X o to) (ha:PAD K X [e] t) (hK:X.K=K:=by rfl)
  (hbase:cJ o "join" X.env (eval o X.env)=eval o X.env:=by rfl)
  (hfew:((bD cpos (au [e] X.env)).all (fun x=>!x.1) && (fg cpos (di [] X.env)).all (fun x=>x.1.isSome)
   && decide (([e]:List Expr).length + ([]:List fK).length + (if ([]:List fK).isEmpty then 0 else 1) < 30))=true:=by rfl)
  (hline:(apos.endLine == cpos.line)=true:=by rfl) (hs:au [e] X.env=(false,eval e X.env)::au [] X.env:=by rfl) (hplain:(bD cpos (au [] X.env)).any (·.1)=false:=by rfl) :
  PD K X (.Call (.Attribute o "join" apos) [e] [] cpos) (dMt joinD ckS to t):=e_bm md_join PySem.F.plainAttrs_str PySem.F.slot_str_join PySem.F.type_str_join (mt_join hK) ho ha hK hbase hfew hline hs hplain
end
def leS (a b:Str):Bool:=!HT.ltS b a
def leT (a b:List Str):Bool:=!HT.lexS b a
theorem lexS_irr:∀ a:List Str,HT.lexS a a=false
 | []=>rfl
 | x::xs=>by rw[HT.lexS_cons,if_pos rfl,lexS_irr xs]
theorem leS_tr (a b c:Str) (h:leS a b=true) (h':leS b c=true):leS a c=true:=by
 unfold leS at *
 rw[dM] at *
 cases e:HT.ltS c a with
 | false=>rfl
 | true =>
  by_cases hab:b=a
  ·subst hab;rw[h'] at e;cases e
  ·have:=HT.ltS_tr e (HT.ltS_tot h hab)
   rw[h'] at this;cases this
theorem leS_tot (a b:Str):(leS a b || leS b a)=true:=by
 unfold leS;cases e:HT.ltS b a with
 | false=>rfl
 | true=>rw[HT.ltS_as e];rfl
theorem leS_anti {a b:Str} (h:leS a b=true) (h':leS b a=true):a=b:=by
 unfold leS at *
 rw[dM] at *
 exact aX fun n=>by
  have:=HT.ltS_tot h (fun z=>n z.symm)
  rw[h'] at this;cases this
theorem leT_tr (a b c:List Str) (h:leT a b=true) (h':leT b c=true):leT a c=true:=by
 unfold leT at *
 rw[dM] at *
 cases e:HT.lexS c a with
 | false=>rfl
 | true =>
  by_cases hab:b=a
  ·subst hab;rw[h'] at e;cases e
  ·have:=HT.lexS_tr e (HT.lexS_tot h hab)
   rw[h'] at this;cases this
theorem leT_tot (a b:List Str):(leT a b || leT b a)=true:=by
 unfold leT;cases e:HT.lexS b a with
 | false=>rfl
 | true=>rw[HT.lexS_as e];rfl
theorem leT_anti {a b:List Str} (h:leT a b=true) (h':leT b a=true):a=b:=by
 unfold leT at *
 rw[dM] at *
 exact aX fun n=>by
  have:=HT.lexS_tot h (fun z=>n z.symm)
  rw[h'] at this;cases this
def srS (l:List Str):List Str:=l.mergeSort leS
def srT (l:List (List Str)):List (List Str):=l.mergeSort leT
def srI (l:List Int):List Int:=l.mergeSort fun a b=>decide (a<=b)
theorem srS_perm (l:List Str):(srS l).Perm l:=ib _ _
theorem srT_perm (l:List (List Str)):(srT l).Perm l:=ib _ _
theorem srI_perm (l:List Int):(srI l).Perm l:=ib _ _
theorem srS_pw (l:List Str):(srS l).Pairwise fun a b=>leS a b=true:=gg leS_tr leS_tot l
theorem srT_pw (l:List (List Str)):(srT l).Pairwise fun a b=>leT a b=true:=gg leT_tr leT_tot l
theorem srI_pw (l:List Int):(srI l).Pairwise fun a b=>decide (a<=b)=true:=gg (le:=fun a b=>decide (a<=b)) (fun a b c h h'=>decide_eq_true (Int.le_trans (of_decide_eq_true h) (of_decide_eq_true h'))) (fun a b=>by
 rcases Int.le_total a b with h | h
 ·rw[decide_eq_true h];rfl
 ·rw[decide_eq_true h,Bool.or_true]) l
theorem srS_eq {l out:List Str} (p:out.Perm l) (h:out.Pairwise fun a b=>HT.ltS b a=false):out=srS l :=
 (p.trans (srS_perm l).symm).eq_of_pairwise (fun _ _ _ _ h h'=>leS_anti h h') (h.imp fun h=>by unfold leS;rw[h];rfl) (srS_pw l)
theorem srT_eq {l out:List (List Str)} (p:out.Perm l) (h:out.Pairwise fun a b=>HT.lexS a b=true):out=srT l :=
 (p.trans (srT_perm l).symm).eq_of_pairwise (fun _ _ _ _ h h'=>leT_anti h h') (h.imp fun h=>by unfold leT;rw[HT.lexS_as h];rfl) (srT_pw l)
theorem srI_eq {l out:List Int} (p:out.Perm l) (h:out.Pairwise (·<=·)):out=srI l :=
 (p.trans (srI_perm l).symm).eq_of_pairwise (fun _ _ _ _ h h'=>Int.le_antisymm (of_decide_eq_true h) (of_decide_eq_true h')) (h.imp fun h=>decide_eq_true h) (srI_pw l)
section
variable {X:Cx} {K:Fg} {pos:Pos} {k:Nat} {e:Expr} {t:AD} {p:Pos}
def rSum (K:Fg):List V->Hp->VK->Prop:=fun xs H Q=>∃ (x:V) (ns:List Int),xs=[x]/\(∃ a,x=.ref a/\SqL K H a (ns.map V.int))/\Q (.int ns.sum) H
theorem call_sum (hK:X.K=K:=by rfl) (hc:X.calm=true:=by rfl):CallR X (.builtin "sum") (rSum K):=by
 subst hK;intro pins s σ H xs us Q I r h;obtain⟨x,ns,rfl,⟨a,rfl,sq⟩,q⟩:=h;obtain⟨u,rfl,rx⟩:=vals1 r;cases rx;obtain⟨its,rv,pl,hz⟩:=I.list sq;have hi:=intsAre_of rv;obtain⟨xs,hx⟩:=hi.allInts.items;have hl:=pl.isList;rw[hx] at hl;refine sum_intListG (I.ok.hd hc) hl fun h' tk t' hk=>?_;have e:preSum (numAt xs) xs.size=ns.sum:=by
  have h1:numsOf (intItems xs).toList=ns:=by rw[<- hx];exact hi.numsOf
  rw[nums_intItems] at h1;rw[preSum_eq,bZ (by simp),h1]
 rw[e];exact⟨.int ns.sum,H,I.kept (t':=tk) hk,⟨t',rfl⟩,q⟩
theorem repInts {M:Am} {H:Hp}:∀ {as:List Int} {xs:List V},RepL K M H (as.map D.int) xs->xs=as.map V.int
 | [],xs,h=>by rw[da] at h;unfold RepL at h;exact h
 | a::as,xs,h=>by
  rw[aY] at h;unfold RepL at h;obtain⟨v,vs,rfl,r,l⟩:=h;unfold RepV at r;rw[r,repInts l];rfl
theorem intsRep {M:Am} {H:Hp}:∀ {as:List Int},RepL K M H (as.map D.int) (as.map V.int)
 | []=>RepL.nil
 | a::as=>RepL.cons (by unfold RepV;rfl) intsRep
theorem repStr' {M:Am} {H:Hp}:∀ {as:List Str} {xs:List V},RepL K M H (as.map D.str) xs->xs=as.map V.str
 | [],xs,h=>by rw[da] at h;unfold RepL at h;exact h
 | a::as,xs,h=>by
  rw[aY] at h;unfold RepL at h;obtain⟨v,vs,rfl,r,l⟩:=h;unfold RepV at r;rw[r,repStr' l];rfl
theorem strRep' {M:Am} {H:Hp}:∀ {as:List Str},RepL K M H (as.map D.str) (as.map V.str)
 | []=>RepL.nil
 | a::as=>RepL.cons (by unfold RepV;rfl) strRep'
def sumD:RCD:=fun ds S Q=>match ds with
 | [d]=>∃ ns:List Int,lsIs S d (ns.map D.int)/\Q (.int ns.sum) S
 | _=>False
theorem e_sum (hg:Gl X "sum") (hm:X.mg "sum" = none) (ha:PAD K X [e] t) (hK:X.K=K:=by rfl) (hc:X.calm=true:=by rfl) (he:au [e] X.env=(false,eval e X.env)::au [] X.env:=by rfl) (hpl:(bD pos (au [] X.env)).any (·.1)=false:=by rfl):PD K X (.Call (.Name "sum" p) [e] [] pos) (dCB sumD t):=e_callB (call_sum hK hc) (by
 intro F S H ds vs Q QD r l h c
 match ds,h with
 | [d],⟨ns,h1,q⟩ =>
  obtain⟨v,rfl,rv⟩:=l.one;obtain⟨a,us,rfl,sq,lu⟩:=lsIs.sl r rv h1;rw[repInts lu] at sq;exact⟨_,ns,rfl,⟨a,rfl,sq⟩,c.int r q⟩) hg hm bt_sum ha (by decide) (by decide) he hpl
def keyD:Key->D
 | .inl i=>.int i
 | .inr x=>.str x
def srcIs (S:Sto) (d:D) (xs:List D):Prop:=match d with
 | .tup ys=>xs=ys
 | .lst ys=>xs=ys
 | .ref a=>S a=some (.lst xs)\/∃ kvs,S a=some (.dk kvs)/\xs=kvs.map fun p=>keyD p.1
 | _=>False
theorem keysRep {M:Am} {H:Hp}:∀ {ks:List (Key × V)} {kvs:List (Key × D)},a7 (fun(p:Key × V) (q:Key × D)=>p.1=q.1/\RepV K M H q.2 p.2) ks kvs->RepL K M H (kvs.map fun p=>keyD p.1) (ks.map fun p=>kV p.1)
 | _,_,.nil=>RepL.nil
 | _,_,.cons (a:=a) (b:=b) h l=>by
  refine RepL.cons ?_ (keysRep l);show RepV K M H (keyD b.1) (kV a.1);rw[h.1];cases b.1 <;> (unfold keyD kV RepV;rfl)
theorem srcIs.src {F:Am} {S:Sto} {H:Hp} (r:Rp K F S H) {d:D} {v:V} {xs:List D} (h:RepV K (mt S F) H d v) (l:srcIs S d xs):∃ us,Src K H v us/\RepL K (mt S F) H xs us:=by
 cases d with
 | tup ys=>cases l;obtain⟨a,us,rfl,sq,l⟩:=tup.st h;exact⟨us,⟨a,rfl,.inr (.inl sq)⟩,l⟩
 | lst ys=>cases l;obtain⟨a,us,rfl,sq,l⟩:=lsIs.sl r h (show lsIs S (.lst xs) xs from rfl);exact⟨us,⟨a,rfl,.inl sq⟩,l⟩
 | ref a =>
  rw[rref h];rcases l with l | ⟨kvs,l,rfl⟩
  ·obtain⟨us,hu,lu⟩:=r.obj a _ l;exact⟨us,⟨a,rfl,.inl (SqL.of hu)⟩,lu⟩
  ·obtain⟨ks,hu,lu⟩:=r.obj a _ l;exact⟨_,⟨a,rfl,.inr (.inr ⟨ks,hu,rfl⟩)⟩,keysRep lu⟩
 | _=>exact l.elim
def tupS (t:List Str):D:=.tup (t.map D.str)
def srtD (b:Bool):RCD:=fun ds S Q=>match ds with
 | [d]=>(∃ ss:List Str,srcIs S d (ss.map D.str)/\ss.length < 64/\newL b ((srS ss).map D.str) S Q)\/(∃ ns:List Int,srcIs S d (ns.map D.int)/\ns.length < 64/\newL b ((srI ns).map D.int) S Q) \/
  ∃ ts:List (List Str),srcIs S d (ts.map tupS)/\ts.Nodup/\ts.length < 64/\newL b ((srT ts).map tupS) S Q
 | _=>False
def rSrtA (K:Fg):List V->Hp->VK->Prop:=fun xs H Q=>rSrtS K xs H Q\/rSrtI K xs H Q\/rSrtT K xs H Q
theorem repTups {S:Sto} {F:Am} {H:Hp}:∀ {ts:List (List Str)} {us:List V},RepL K (mt S F) H (ts.map tupS) us->a7 (dT K dS H) us ts
 | [],us,h=>by rw[da] at h;unfold RepL at h;subst h;exact .nil
 | a::as,xs,h=>by
  rw[aY] at h;unfold RepL at h;obtain⟨v,vs,rfl,r,l⟩:=h;exact .cons (repTupS r) (repTups l)
theorem repIdx {M:Am} {H:Hp} {ds:List D} {us:List V} (l:RepL K M H ds us):∀ (idx:List Nat),(∀ i∈idx,i < us.length)->RepL K M H (idx.map fun i=>ds.getD i .non) (idx.map fun i=>us.getD i .non)
 | [],_=>RepL.nil
 | i::idx,h=>by
  have hi:=h i am;refine RepL.cons ?_ (repIdx l idx fun j hj=>h j (aq _ hj));obtain⟨d,ed,rd⟩:=l.get' (ag hi);show RepV K M H (ds.getD i .non) (us.getD i .non);rw[aB,aB,ed,ag hi];exact rd
theorem cd_srt {b:Bool}:CallD K (rSrtA K) (srtD b):=by
 intro F S H ds vs Q QD r l h c
 match ds,h with
 | [d],h =>
  obtain⟨v,rfl,rv⟩:=l.one;rcases h with⟨ss,h1,h64,q⟩ | ⟨ss,h1,h64,q⟩ | ⟨ts,h1,nd,h64,q⟩
  ·obtain⟨us,hs,lu⟩:=h1.src r rv;rw[repStr' lu] at hs;exact .inl ⟨v,ss,rfl,hs,h64,fun p out hp o1 o2=>by
    rw[srS_eq o1 o2];exact c.new r hp strRep' q⟩
  ·obtain⟨us,hs,lu⟩:=h1.src r rv;rw[repInts lu] at hs;exact .inr (.inl ⟨v,ss,rfl,hs,h64,fun p out hp o1 o2=>by
    rw[srI_eq o1 o2];exact c.new r hp intsRep q⟩)
  ·obtain⟨us,hs,lu⟩:=h1.src r rv;refine .inr (.inr ⟨v,us,ts,rfl,hs,repTups lu,nd,h64,fun p idx hp i1 i2 i3=>c.new r hp ?_ q⟩);have hl:=lu.length;rw[aj] at hl;have hin:∀ i∈idx,i < us.length:=fun i hi=>bj.mp (i1.mem_iff.mp hi)
   have:=repIdx lu idx hin
   rw[<- srT_eq i3 i2,cf];have e:(idx.map fun i=>(ts.map tupS).getD i .non)=idx.map (tupS ∘ fun i=>ts.getD i []):=dh fun i hi=>by
    have hi':i < ts.length:=by have:=hin i hi;lia
    show(ts.map tupS).getD i .non=tupS (ts.getD i []);rw[aB,aB,bv,ag hi']
    rfl
   rw[<- e];exact this
theorem e_sorted {b:Bool} (hr:Room k X.A) (hg:Gl X "sorted") (hm:X.mg "sorted" = none) (ha:PAD K X [e] t) (hK:X.K=K:=by rfl) (hc:X.calm=true:=by rfl) (he:au [e] X.env=(false,eval e X.env)::au [] X.env:=by rfl) (hpl:(bD pos (au [] X.env)).any (·.1)=false:=by rfl):PD K X (.Call (.Name "sorted" p) [e] [] pos) (dCB (srtD b) t):=e_callB ((call_srtS hK hc).or ((call_srtI hK hc).or (call_srtT (lt10 hr) hK hc))) cd_srt hg hm bt_sorted ha (by decide) (by decide) he hpl
end
theorem md {a b:Int} (h:0 < b):0<=a % b/\a % b < b:=⟨Int.emod_nonneg _ (by lia),Int.emod_lt_of_pos _ h⟩
theorem loop_ind {g:GD} {tt:TD} {tb:BD} {G:Sto->Prop} {Γ0:Gm} {xs acc:List D} {S:Sto} {Q:List D->Sto->Prop} (I:Nat->List D->Sto->Prop) (h0:I 0 acc S)
  (hs:∀ i x acc S (N:List D->Sto->Prop),xs[i]?=some x->I i acc S->(∀ acc' S',I (i + 1) acc' S'->N acc' S')->G S/\g x Γ0 S fun Γ2 S2=>tt Γ2 S2 fun b S3=>if b=true then tb Γ2 S3 acc N else N acc S3)
  (hd:∀ acc S,I xs.length acc S->G S/\Q acc S):loopD g tt tb G Γ0 xs acc S Q:=by
 have gen:∀ n i acc S,i + n=xs.length->I i acc S->loopD g tt tb G Γ0 (xs.drop i) acc S Q:=by
  intro n
  induction n with
  | zero =>
   intro i acc S hi h;have e:i=xs.length:=by lia
   subst e;rw[gP];exact hd acc S h
  | succ n ih =>
   intro i acc S hi h;have hlt:i < xs.length:=by lia
   rw[drop_cons hlt];exact hs i xs[i] acc S (fun acc' S4=>loopD g tt tb G Γ0 (xs.drop (i + 1)) acc' S4 Q) (ag hlt) h fun acc' S' h'=>ih (i + 1) acc' S' (by lia) h'
 simpa using gen xs.length 0 acc S (by lia) h0
theorem for_ind {g:GD} {tb:SD} {G:Sto->Prop} {E:EndsD} {xs:List D} {Γ:Gm} {S:Sto} (I:Nat->Gm->Sto->Prop) (h0:I 0 Γ S)
  (hs:∀ i x Γ S (N:Gm->Sto->Prop),xs[i]?=some x->I i Γ S->(∀ Γ' S',I (i + 1) Γ' S'->N Γ' S')->G S/\g x Γ S fun Γ2 S2=>tb { E with nx:=N,ct:=N,bk:=E.nx } Γ2 S2)
  (hd:∀ Γ S,I xs.length Γ S->G S/\E.nx Γ S):forD g tb G E xs Γ S:=by
 have gen:∀ n i Γ S,i + n=xs.length->I i Γ S->forD g tb G E (xs.drop i) Γ S:=by
  intro n
  induction n with
  | zero =>
   intro i Γ S hi h;have e:i=xs.length:=by lia
   subst e;rw[gP];exact hd Γ S h
  | succ n ih =>
   intro i Γ S hi h;have hlt:i < xs.length:=by lia
   rw[drop_cons hlt];exact hs i xs[i] Γ S (forD g tb G E (xs.drop (i + 1))) (ag hlt) h fun Γ' S' h'=>ih (i + 1) Γ' S' (by lia) h'
 simpa using gen xs.length 0 Γ S (by lia) h0
theorem loop_map {α:Type} {i:Nat} {te:ED} {Γ0:Gm} {S:Sto} {Q:List D->Sto->Prop} {enc:α->D} {f:α->D} {xs:List α} {acc:List D} (h:∀ x∈xs,∀ Q:DK,Q (f x) S->te (Γ0.set i (some (enc x))) S Q) (hn:acc.length + xs.length<=sizeLine)
  (q:Q (acc++xs.map f) S):loopD (gdName i) dYes (emitD te) (fun _=>True) Γ0 (xs.map enc) acc S Q:=by
 induction xs generalizing acc with
 | nil=>exact⟨trivial,by simpa using q⟩
 | cons x xs ih =>
  refine⟨trivial,?_⟩;show emitD te (Γ0.set i (some (enc x))) S acc (fun acc' S4=>loopD (gdName i) dYes (emitD te) (fun _=>True) Γ0 (xs.map enc) acc' S4 Q);refine h x am _ ⟨by simp at hn;lia,ih (fun y hy=>h y (aq _ hy)) (by simp at hn ⊢;lia) (by simpa using q)⟩
theorem loop_filt {α:Type} {i:Nat} {tt:TD} {te:ED} {Γ0:Gm} {S:Sto} {Q:List D->Sto->Prop} {enc:α->D} {p:α->Bool} {f:α->D} {xs:List α} {acc:List D} (ht:∀ x∈xs,∀ Q:Bool->Sto->Prop,Q (p x) S->tt (Γ0.set i (some (enc x))) S Q) (h:∀ x∈xs,p x=true->∀ Q:DK,Q (f x) S->te (Γ0.set i (some (enc x))) S Q) (hn:acc.length + xs.length<=sizeLine)
  (q:Q (acc++(xs.filter p).map f) S):loopD (gdName i) tt (emitD te) (fun _=>True) Γ0 (xs.map enc) acc S Q:=by
 induction xs generalizing acc with
 | nil=>exact⟨trivial,by simpa using q⟩
 | cons x xs ih =>
  refine⟨trivial,?_⟩;show tt (Γ0.set i (some (enc x))) S _;refine ht x am _ ?_;cases hp:p x with
  | true =>
   rw[if_pos rfl];refine h x am hp _ ⟨by simp at hn;lia,ih (fun y hy=>ht y (aq _ hy)) (fun y hy=>h y (aq _ hy)) (by simp at hn ⊢;lia) ?_⟩
   rw[cz,hp] at q;simpa using q
  | false =>
   rw[if_neg (by simp)]
   refine ih (fun y hy=>ht y (aq _ hy)) (fun y hy=>h y (aq _ hy)) (by simp at hn ⊢;lia) ?_
   rw[cz,hp] at q;simpa using q
def sg (c:Nat):Str:=⟨#[c]⟩
theorem sg_len (c:Nat):(sg c).length=1:=rfl
theorem app_mk (a b:List Nat):((⟨a.toArray⟩:Str)++(⟨b.toArray⟩:Str))=⟨(a++b).toArray⟩:=by
 show Str.mk (a.toArray++b.toArray)=_;simp
theorem empty_mk:(aM "" : Str)=⟨#[]⟩:=by decide
theorem join_sg:∀ cs:List Nat,Txt.join (aM "") (cs.map sg)=⟨cs.toArray⟩:=fun cs=>by
 show cP.Str.glued _ _=_;rw[StrLaws.glued_eq_join]
 induction cs with
 | nil=>rfl
 | cons c cs ih =>
  cases cs with
  | nil=>rfl
  | cons d cs =>
   rw[aY] at ih;show sg c++aM ""++Str.join (aM "") (sg d::cs.map sg)=_;rw[ih,empty_mk];show((⟨[c].toArray⟩:Str)++(⟨([]:List Nat).toArray⟩:Str))++(⟨(d::cs).toArray⟩:Str)=_;rw[app_mk,app_mk]
   rfl
theorem cutD_map {α:Type} (f:α->D) (xs:List α) (lo hi:Option Int):cutD (xs.map f) lo hi=((xs.drop (HT.sIx xs.length 0 lo)).take (HT.sIx xs.length xs.length hi - HT.sIx xs.length 0 lo)).map f:=by
 unfold cutD;rw[aj,kz,List.map_drop]
theorem atI_map {α β:Type} (f:α->β) (xs:List α) (i:Int):atI (xs.map f) i=(atI xs i).map f:=by
 unfold atI;rw[aj];cases ixN xs.length i with
 | none=>rfl
 | some j=>simp
theorem rng_at {n i:Nat} {x:D} (h:(rngD 0 n)[i]?=some x):i < n/\x=.int (i:Nat):=by
 obtain⟨h1,h2⟩:=rngD_get n 0 i x h;exact⟨h1,by rw[h2,Int.zero_add]⟩
section
variable {X:Cx} {K:Fg} {pos:Pos} {k:Nat} {e:Expr} {te:ED}
def lenSD (d:D) (S:Sto) (Q:DK):Prop:=(∃ ts:List (List Str),d=.tup (ts.map tupS)/\ts.length + 1<=300/\∀ n:Nat,SzOk ts n->Q (.int n) S)\/∃ ss:List Str,d=.lst (ss.map D.str)/\ss.length + 1<=300/\∀ n:Nat,SzOk ss n->Q (.int n) S
def dLenS (te:ED):ED:=fun Γ S Q=>te Γ S fun d S1=>lenSD d S1 Q
theorem e_lenS {p p' pos':Pos} (hr:Room k X.A) (hg:Gl X "len") (hm:X.mg "len" = none) (hg':Gl X "set") (hm':X.mg "set" = none) (he:PD K X e te) (hK:X.K=K:=by rfl) (hc:X.calm=true:=by rfl)
  (h1:au [e] X.env=(false,eval e X.env)::au [] X.env:=by rfl) (h2:au [jE (.Name "set" p') [e] [] pos'] X.env=(false,eval (jE (.Name "set" p') [e] [] pos') X.env)::au [] X.env:=by rfl) (h3:(bD pos (au [] X.env)).any (·.1)=false:=by rfl) (h4:(bD pos' (au [] X.env)).any (·.1)=false:=by rfl) :
  PD K X (.Call (.Name "len" p) [.Call (.Name "set" p') [e] [] pos'] [] pos) (dLenS te) :=
 .of (pe_callB call_lenZ hg hm bt_len (pa_cons (pe_callTy ((call_setTTK (lt64 hr) hK hc).or (call_setLSK (lt64 hr) hK hc)) hg' hm' bt_set (pa_cons he.o pa_nil h1) (by decide) (by decide) h1 h4) pa_nil h2) (by decide) (by decide) h2 h3) fun σ H Q z0=>z0.el fun F S Γ QD r g q c =>
 ⟨F,S,Γ,_,r,g,q,fun v d H1 S1 x1 r1 v1 q1=>by
  have go:∀ (n p:Nat) (hn:n < 300),H1 p=none->QD (.int n) S1->∃ p' n',[V.ref p]=[V.ref p']/\upd H1 p (szO p n) p'=some (szO p' n')/\n' < 1000000/\Q (.int n') (upd H1 p (szO p n)):=fun n p hn hp hq =>
   ⟨p,n,rfl,upd_same,by lia,c (.int n) (.int n) _ S1 (x1.trans (Ext.same (same_upd hp))) (r1.same (same_upd hp)) (by unfold RepV;rfl) hq⟩
  rcases q1 with⟨ts,rfl,hn,q⟩ | ⟨ss,rfl,hn,q⟩
  ·unfold RepV at v1;obtain⟨a,us,rfl,t,l⟩:=v1;exact .inl ⟨_,ts,rfl,⟨a,us,rfl,t.sq,repTups l⟩,hn,fun p n hp hz=>go n p (by have:=hz.1;lia) hp (q n hz)⟩
  ·unfold RepV at v1;obtain⟨a,us,rfl,t,l⟩:=v1;exact .inr ⟨_,ss,rfl,⟨a,us,rfl,t.sq,repStrs l⟩,hn,fun p n hp hz=>go n p (by have:=hz.1;lia) hp (q n hz)⟩⟩
end
end L2
set_option maxHeartbeats 1000000
namespace L2
open PySem PySem.Spec PyProof.Rows
section
variable {X:Cx} {K:Fg} {pos:Pos} {k:Nat}
def exrD:D->List D->Sto->DK->Prop:=fun o ds S Q=>match o,ds with
 | .ref a,[.ref b]=>∃ xs ys,S a=some (.lst xs)/\S b=some (.lst ys)/\xs.length + ys.length<=sizeLine/\Q .non (supd S a (.lst (xs++ys)))
 | _,_=>False
theorem md_exr:MtD K "list" rExtend exrD ckL:=⟨fun F S H d x r h c=>ty_L r h c,fun F S H d ds x vs Q QD r h l q c=>by
 match d,ds,q with
 | .ref a,[.ref b],⟨xs,ys,hS,hS2,hz,q⟩ =>
  obtain⟨v,rfl,rv⟩:=l.one;obtain⟨us,hu,lu⟩:=r.obj a _ hS;obtain⟨ws,hw,lw⟩:=r.obj b _ hS2;rw[rref h,rref rv];exact⟨a,b,us,ws,rfl,rfl,hu,hw,by rw[lu.length,lw.length];exact hz,c.write r (us:=us) hS (lu.app lw) (by unfold RepV;rfl) q⟩⟩
theorem e_extend {o e:Expr} {to:ED} {t:AD} {apos cpos:Pos} (ho:PD K X o to) (ha:PAD K X [e] t) (hK:X.K=K:=by rfl)
  (hbase:cJ o "extend" X.env (eval o X.env)=eval o X.env:=by rfl)
  (hfew:((bD cpos (au [e] X.env)).all (fun x=>!x.1) && (fg cpos (di [] X.env)).all (fun x=>x.1.isSome)
   && decide (([e]:List Expr).length + ([]:List fK).length + (if ([]:List fK).isEmpty then 0 else 1) < 30))=true:=by rfl)
  (hline:(apos.endLine == cpos.line)=true:=by rfl) (hs:au [e] X.env=(false,eval e X.env)::au [] X.env:=by rfl) (hplain:(bD cpos (au [] X.env)).any (·.1)=false:=by rfl) :
  PD K X (.Call (.Attribute o "extend" apos) [e] [] cpos) (dMt exrD ckL to t):=e_bm md_exr dN PySem.F.slot_list_extend PySem.F.type_list_extend mt_extend ho ha hK hbase hfew hline hs hplain
def dChain (r r':R2D) (ta tb tc:ED):ED:=fun Γ S Q=>ta Γ S fun x S1=>tb Γ S1 fun y S2=>r x y S2 fun z S3=>∃ k,z=.bl k/\(if k=true then tc Γ S3 fun w S4=>r' y w S4 Q else Q (.bl false) S3)
theorem up_chain {r r':R2} {rd rd':R2D} {ta tb tc:ED} (h:OpD K r rd) (h':OpD K r' rd'):∀ σ H Q,upE K (dChain rd rd' ta tb tc) σ H Q->tChain r r' (upE K ta) (upE K tb) (upE K tc) σ H Q:=fun σ H Q z0=>z0.el fun F S Γ QD r g q c =>
 ⟨F,S,Γ,_,r,g,q,fun x d H1 S1 x1 r1 v1 q1=>⟨F,S1,Γ,_,r1,g.ext x1,q1,fun y e H2 S2 x2 r2 v2 q2=>h F S2 H2 d e x y _ _ r2 (v1.ext x2) v2 q2 fun v z H3 S3 x3 r3 v3 ⟨kk,e3,q3⟩=>by
  subst e3;refine⟨kk,rbl v3,?_⟩;cases kk with
  | true=>exact⟨F,S3,Γ,_,r3,g.ext (x1.trans (x2.trans x3)),q3,fun w f H4 S4 x4 r4 v4 q4=>h' F S4 H4 e f y w Q QD r4 (v2.ext (x3.trans x4)) v4 q4 fun v z H5 S5 x5=>c v z H5 S5 (x1.trans (x2.trans (x3.trans (x4.trans x5))))⟩
  | false=>exact c _ _ _ S3 (x1.trans (x2.trans x3)) r3 (rbl v3 ▸ v3) q3⟩⟩
theorem dt_chain {op op':CmpOp} {r r':R2} {rd rd':R2D} {a b c:Expr} {ta tb tc:ED} (ho:OpR X (bE op) r) (ho':OpR X (bE op') r') (h:OpD K r rd) (h':OpD K r' rd') (ha:PD K X a ta) (hb:PD K X b tb) (hc:PD K X c tc)
  (hm:lastMarks [op,op'] [b,c]=false:=by with_unfolding_all rfl):PTD K X (.Compare a [op,op'] [b,c] pos) (dTest (dChain rd rd' ta tb tc)):=.of (pt_chain ho ho' ha.o hb.o hc.o hm) fun σ H Q q=>up_chain h h' σ H _ (by
 obtain⟨F,S,Γ,QD,r,g,q,c⟩:=q;refine⟨F,S,Γ,_,r,g,q,fun v d H1 S1 x1 r1 v1 ⟨b,e,q1⟩=>?_⟩;subst e;exact⟨b,rbl v1,c b H1 S1 x1 r1 q1⟩)
theorem dt_ltle {a b c:Expr} {ta tb tc:ED} (ha:PD K X a ta) (hb:PD K X b tb) (hc:PD K X c tc) (hm:lastMarks [.Lt,.LtE] [b,c]=false:=by with_unfolding_all rfl) :
  PTD K X (.Compare a [.Lt,.LtE] [b,c] pos) (dTest (dChain (iiD0 fun i j=>.bl (decide (i < j))) (iiD0 fun i j=>.bl (decide (i<=j))) ta tb tc)):=dt_chain op_lt op_le od_B0 od_B0 ha hb hc hm
end
end L2
set_option maxHeartbeats 4000000
namespace L2
open PySem PySem.Spec PyProof.Rows
end L2
set_option maxHeartbeats 1000000
namespace L2
open PySem PySem.Spec PyProof.Rows
end L2
set_option maxHeartbeats 4000000
namespace L2
open PySem PySem.Spec PyProof.Rows
section
variable {X:Cx}
def rSortStN (w:aK) (K:Fg):List V->Hp->VK->Prop:=fun xs H Q=>∃ x ms,xs=[x]/\dSt w K H x ms/\ms.Nodup/\ms.length < 64/\∀ l ys out,H l=none->out.Perm ms->out.Pairwise (fun a b=>HT.lexS a b=true)->a7 (dT K dS H) ys out->Q (.ref l) (upd H l (.lst ys))
theorem call_sortedStN {K:Fg} {w:aK} (hu:X.A.units + 8 < bK) (hK:X.K=K:=by rfl) (hw:X.w=w:=by rfl) (hc:X.calm=true:=by rfl):CallR X (.builtin "sorted") (rSortStN w K):=by
 subst hw;intro pins s σ H xs us Q I r h;obtain⟨x,ms,rfl,⟨p,es,ep,t,ps,rfl,hH,hf,hled,hpl,pp,rfl⟩,nd,h64,q⟩:=h;obtain⟨u,rfl,rx⟩:=vals1 r;cases rx;obtain⟨hg,_⟩:=I.hok p _ hH;have hl:es.size=ps.length:=by have:=bT pp;simpa using this
 have hpl':ps.length < 64:=by simpa using h64
 have hh:=I.ok.hd hc;refine iY kind_sorted plain_sorted entry_sorted (args_sorted1 _) ?_;unfold cP.«sorted»;refine ad (m:=checkCount "sorted" 1 1 _) (af ?_);refine ad (ST.collectT (by simp[hh]) hg hf hled hpl (by lia) fun vals h1 d hperm kp=>?_)
 obtain⟨ps',hps',pv'⟩:=ST.paired_perm hperm pp;have hvl:vals.length=ps'.length:=bT pv';have hpl2:ps'.length=ps.length:=hps'.length_eq;have I1:Inv X pins σ H { s with heap:=h1,drawn:=d }:=(I.kept (t':=s.toks) kp).drawn d
 refine ad (wpAny_newList ?_ (by rw[bu];lia))
 have hoL:(h1.push (cD "list" vals.toArray 0)).get? h1.objs.size=some (cD "list" vals.toArray 0):=aw _ rfl;refine ad (bB (cZ slot_list_sort ⟨_,hoL,rfl⟩ entry_list_sort ?body (args_list_sort _)))
 case body =>
  refine KS.sort_tups (s:={ s with heap:=h1.push (cD "list" vals.toArray 0),drawn:=d }) (ds:=ps'.map (·.2)) (by show X.A.units + 1 + 1 < _;lia) hoL (ts_of I1 hK (fun b o e=>ah _ e) pv') ((hps'.map (·.2)).nodup_iff.mpr nd) (by lia) fun idx h' c i1 i2 i3 g kk=>⟨_,rfl,af ⟨_,rfl,?_⟩⟩
  have hin:∀ i∈idx,i < vals.length:=fun i hi=>bj.mp (i1.mem_iff.mp hi);have zv:=KS.paired_idx pv' ci (V.non,[]) idx hin;obtain⟨z1,z2⟩:=pv_split zv;have eo:(idx.map fun i=>(ps'.map (·.2)).getD i [])=(idx.map fun i=>ps'.getD i (V.non,[])).map (·.2):=by
   rw[cf];exact dh fun i _=>getD_snd ps' i
  rw[eo] at i2 i3;have hfr:H h1.objs.size=none:=I1.hok.fresh (ar _);have sm:Same H (upd H h1.objs.size (.lst ((idx.map fun i=>ps'.getD i (V.non,[])).map (·.1)))):=same_upd hfr;have il:idx.length=vals.length:=by have:=i1.length_eq;simpa using this
  have I2:Inv X pins σ (upd H h1.objs.size (.lst ((idx.map fun i=>ps'.getD i (V.non,[])).map (·.1)))) { s with heap:=h',drawn:=d }:=I1.laid (t':=s.toks) (fun b o e=>kk b o (aH (ay e)) (ah _ e)) (ar _)
   ⟨by simp only[aj];rw[bu];lia,_,c,z1,g⟩
  exact⟨.ref h1.objs.size,_,I2,rfl,q _ _ _ hfr (i3.trans (hps'.map (·.2))) i2 z2⟩
end
section
variable {X:Cx} {K:Fg} {pos:Pos} {k:Nat} {F:Am} {S:Sto} {H:Hp}
theorem Rp.ntup (r:Rp K F S H) {a:Addr} {xs:List V} (h:Rd H a (.tup xs)):¬ mt S F a:=fun z=>by
 have no:∀ u,H a=some u->(∀ ys,u≠.tup ys)->(∀ o ys,u≠.frz o (.tup ys))->False:=fun u e n1 n2=>by
  rcases h with h | ⟨o,h⟩
  ·rw[e] at h;exact n1 _ (aJ h)
  ·rw[e] at h;exact n2 _ _ (aJ h)
 rcases z with z | z
 ·cases e:S a with
  | none=>exact z e
  | some o =>
   have q:=r.obj a o e;cases o with
   | lst ds=>obtain⟨us,hu,_⟩:=q;exact no _ hu (fun _ z=>by cases z) fun _ _ z=>by cases z
   | dk kvs=>obtain⟨us,hu,_⟩:=q;exact no _ hu (fun _ z=>by cases z) fun _ _ z=>by cases z
   | dt kvs=>obtain⟨us,hu,_⟩:=q;exact no _ hu (fun _ z=>by cases z) fun _ _ z=>by cases z
   | tb ps ql=>obtain⟨us,hu,_⟩:=q;exact no _ hu (fun _ z=>by cases z) fun _ _ z=>by cases z
   | ex f hk hl=>obtain⟨us,hu,xo⟩:=hl _ _ _ q;exact no _ hu (fun _ z=>by subst z;exact xo) fun _ _ z=>by subst z;exact xo
 ·obtain⟨⟨zs,e,ct⟩,_⟩:=r.frm a z;exact no _ e (fun _ z=>by subst z;exact ct) fun _ _ z=>by subst z;exact ct
theorem tups_rep (r:Rp K F S H):∀ {xs:List V} {ts:List (List Str)},a7 (dT K dS H) xs ts->RepL K (mt S F) H (ts.map tupS) xs
 | _,_,.nil=>RepL.nil
 | _,_,.cons ⟨a,us,e,sq,p⟩ q=>by
  refine RepL.cons ?_ (tups_rep r q);subst e;unfold tupS RepV;refine⟨a,us,rfl,?_,strsRep p⟩;rcases sq with h | h
  ·exact .inl ⟨r.ntup h,h⟩
  ·exact .inr (.inr h)
def dSrtSet (b:Bool) (te:ED):ED:=fun Γ S Q=>te Γ S fun d S1=>∃ ts:List (List Str),lsIs S1 d (ts.map tupS)/\ts.length < 64/\∀ out:List (List Str),out.Nodup->(∀ t,t∈out↔t∈ts)->out.Pairwise (fun a b=>HT.lexS a b=true)->newL b (out.map tupS) S1 Q
theorem e_sortedSet {b:Bool} {e:Expr} {te:ED} {p p' pos':Pos} (hr:Room k X.A) (hg:Gl X "sorted") (hm:X.mg "sorted" = none) (hg':Gl X "set") (hm':X.mg "set" = none) (he:PD K X e te) (hK:X.K=K:=by rfl) (hc:X.calm=true:=by rfl)
  (h1:au [e] X.env=(false,eval e X.env)::au [] X.env:=by rfl) (h2:au [jE (.Name "set" p') [e] [] pos'] X.env=(false,eval (jE (.Name "set" p') [e] [] pos') X.env)::au [] X.env:=by rfl) (h3:(bD pos (au [] X.env)).any (·.1)=false:=by rfl) (h4:(bD pos' (au [] X.env)).any (·.1)=false:=by rfl) :
  PD K X (.Call (.Name "sorted" p) [.Call (.Name "set" p') [e] [] pos'] [] pos) (dSrtSet b te) :=
 .of (pe_callB (call_sortedStN (lt64 hr) hK rfl hc) hg hm bt_sorted (pa_cons (pe_callTy (call_setLT (lt64 hr) hK rfl hc) hg' hm' bt_set (pa_cons he.o pa_nil h1) (by decide) (by decide) h1 h4) pa_nil h2) (by decide) (by decide) h2 h3) fun σ H Q z0=>z0.el fun F S Γ QD r g q c =>
 ⟨F,S,Γ,_,r,g,q,fun v d H1 S1 x1 r1 v1 ⟨ts,hl,h64,q1⟩=>by
  obtain⟨a,us,rfl,sq,lu⟩:=lsIs.sl r1 v1 hl;refine⟨_,ts,rfl,⟨a,us,rfl,sq,repTups lu⟩,by lia,fun p ms H2 s2 nd mem st=>⟨_,ms,rfl,st,nd,?_,fun l ys out hfr pm pw pp=>?_⟩⟩
  ·exact eV (szOk_of nd mem).1 h64
  ·have r2:Rp K F S1 H2:=r1.same s2;have x2:Ext S1 H1 S1 H2:=Ext.same s2;exact Cn.new (Cn.shift c (x1.trans x2)) r2 hfr (tups_rep r2 pp) (q1 out (pm.nodup_iff.mpr nd) (fun t=>(pm.mem_iff).trans (mem t)) pw)⟩
end
end L2
set_option maxHeartbeats 1000000
namespace L2
open PySem PySem.Spec PyProof.Rows
end L2
set_option maxHeartbeats 4000000
namespace L2
open PySem PySem.Spec PyProof.Rows
end L2
set_option maxHeartbeats 1000000
namespace L2
open PySem PySem.Spec PyProof.Rows
end L2
namespace ST
open PySem PySem.SetTable PySem.Spec PyProof.Rows
end ST
namespace L2
open PySem PySem.Spec PyProof.Rows
section
variable {X:Cx} {K:Fg} {pos:Pos} {k:Nat} {κ:Type}
theorem map_inj {α β:Type} {f:α->β} (hf:∀ x y,f x=f y->x=y):∀ {l m:List α},l.map f=m.map f->l=m
 | [],[],_=>rfl
 | [],_::_,h=>by cases h
 | _::_,[],h=>by cases h
 | x::l,y::m,h=>by
  rw[aY,aY] at h;injection h with h1 h2
  rw[hf _ _ h1,map_inj hf h2]
theorem tupS_inj (x y:List Str) (h:tupS x=tupS y):x=y:=by
 unfold tupS at h;injection h with h
 exact map_inj (fun a b e=>by injection e) h
end
end L2
set_option maxHeartbeats 4000000
namespace HT
open PySem PyProof.Rows
def LtAt (A:aQ) (s:ai) (u v:ae) (b:Bool):Prop:=∀ (prog:aD) (w:aK) (E:ae->ai->Prop) (Q:ae->ai->Prop),Q (.bool b) s->ax (aC prog w) A (richCompare .Lt u v) Q E s
inductive LexAt (A:aQ) (s:ai):List ae->List ae->Bool->Prop
 | nn:LexAt A s [] [] false
 | nc {v vs}:LexAt A s [] (v::vs) true
 | cn {u us}:LexAt A s (u::us) [] false
 | eq {u v us vs b}:cA A s u v true->LexAt A s us vs b->LexAt A s (u::us) (v::vs) b
 | ne {u v us vs b}:cA A s u v false->LtAt A s u v b->LexAt A s (u::us) (v::vs) b
section
open PySem.SeqAt
open PySem.AutoSeq1 (wpAny_loadPart')
open PySem.MeetsSeq PySem.MeetsSeq2 PySem.MeetsSeq3
theorem lex_size {A:aQ} {s:ai}:∀ {us vs:List ae} {o:Bool},LexAt A s us vs o->us.zip vs=[]->o=decide (us.length < vs.length)
 | _,_,_,.nn,_=>by simp
 | _,_,_,.nc,_=>by simp
 | _,_,_,.cn,_=>by simp
 | _,_,_,.eq _ _,h=>by rw[cu] at h;cases h
 | _,_,_,.ne _ _,h=>by rw[cu] at h;cases h
theorem tuple_lt_gen (l b:Addr) (items items2:Array ae) (n n2:Nat) (dd dd2:Option Addr) (sl sl2:Array (Option ae)) (o:Bool) :
  Meets (cP.«tuple.__lt__» ⟨[.ref l,.ref b],[]⟩)
   (fun A R s=>s.heap.get? l=some { cls:=.type "tuple",dict:=dd,data:=.seq items n,slots:=sl }/\s.heap.get? b=some { cls:=.type "tuple",dict:=dd2,data:=.seq items2 n2,slots:=sl2 } /\
    LexAt A.in1 s items.toList items2.toList o/\R (.ok (.ret (.bool o))) s) :=
 .of_wp fun prog w A R s h=>by
  obtain⟨hp,g,d,tk,os⟩:=s;obtain⟨hl,hb,hx,h⟩:=h;have f2:=fU;have z1:items.size=items.toList.length:=by simp
  have z2:items2.size=items2.toList.length:=by simp
  wp_walk using bc hl,bc hb,fM _ (fun rest b s'=>b.1=none/\s'=⟨hp,g,d,tk,os⟩/\∃ (vs ws:List ae),rest=vs.zip ws /\
   LexAt A.in1 ⟨hp,g,d,tk,os⟩ vs ws o/\vs.length + items2.size=ws.length + items.size) _
  case turn =>
   rintro⟨y,x⟩ rest b s' ⟨hb',rfl,vs,ws,hz,hx,hlen⟩;cases hx with
   | nn=>rw[fA] at hz;cases hz
   | nc=>rw[fA] at hz;cases hz
   | cn=>rw[cH] at hz;cases hz
   | eq he hx =>
    rw[cu] at hz;injection hz with hyx hrest
    injection hyx with hy hx'
    subst hy hx';simp only[aE] at hlen;refine ad (he prog w _ _ ?_)
    wp_walk
    exact⟨rfl,rfl,_,_,hrest,hx,by lia⟩
   | ne he hlt =>
    rw[cu] at hz;injection hz with hyx hrest
    injection hyx with hy hx'
    subst hy hx';refine ad (he prog w _ _ ?_);have hri:=fun Q E h=>hlt prog w E Q h
    wp_walk using hri
    exact⟨_,rfl,by simpa using h⟩
  case fin =>
   rintro⟨b1,b2⟩ s' ⟨hb',rfl,vs,ws,hz,hx,hlen⟩;simp only at hb';subst hb';have hv:o=decide (items.size < items2.size):=by
    rw[lex_size hx hz.symm]
    congr 1
    apply propext;lia
   rw[hv] at h
   wp_walk
   exact⟨_,rfl,by simpa [eL] using h⟩
  case h =>
   exact⟨rfl,rfl,items.toList,items2.toList,rfl,hx,by lia⟩
theorem lst_lt_loop (l b:Addr) (us vs:Array ae) (n n2:Nat) (dd dd2:Option Addr) (sl sl2:Array (Option ae)) (o:Bool) (k:Nat):∀ i:Nat,us.size - i=k->i<=us.size->i<=vs.size ->
  Meets (cP.«list.__eq__.loop» ⟨[.ref l,.ref b,fD i,fD 0],[]⟩) (fun A R s=>(s.heap.get? l=some { cls:=.type "list",dict:=dd,data:=.seq us n,slots:=sl }/\s.heap.get? b=some { cls:=.type "list",dict:=dd2,data:=.seq vs n2,slots:=sl2 }) /\
   LexAt A.in1 s (us.toList.drop i) (vs.toList.drop i) o/\R (.ok (.ret (.bool o))) s):=by
 have dn:∀ (xs:Array ae) (i:Nat),xs.size<=i->xs.toList.drop i=[]:=fun xs i h=>dW (by simpa using h)
 have dc:∀ (xs:Array ae) (i:Nat) (h:i < xs.size),xs.toList.drop i=xs[i]::xs.toList.drop (i + 1):=fun xs i h=>by rw[d8 (by simpa using h)];simp
 have an:∀ (xs:Array ae) (i:Nat),xs.size<=i->xs[((i:Nat):Int).toNat]?=none:=fun xs i h=>by simp;exact h
 have ac:∀ (xs:Array ae) (i:Nat) (h:i < xs.size),xs[((i:Nat):Int).toNat]?=some xs[i]:=fun xs i h=>by simp[h]
 have tail:∀ {A:aQ} {s:ai} {o:Bool} {i:Nat},i<=us.size->i<=vs.size->us.size<=i\/vs.size<=i->LexAt A s (us.toList.drop i) (vs.toList.drop i) o->o=decide (us.size < vs.size):=fun {A s o i} h1 h2 h hx=>by
  have hz:(us.toList.drop i).zip (vs.toList.drop i)=[]:=by rcases h with h | h <;> rw[dn _ _ h] <;> simp
  rw[lex_size hx hz]
  congr 1
  apply propext;simp;lia
 induction k with
 | zero =>
  intro i hk hi hi2 prog w A R s h;obtain⟨hp,g,d,tk,os⟩:=s;obtain⟨⟨gl,gb⟩,hx,h⟩:=h
  wp_walk using bc gl,bc gb
  rw[an us i (by lia)]
  wp_walk using bc gl,bc gb
  rw[tail hi hi2 (.inl (by lia)) hx] at h
  exact h
 | succ k ih =>
  intro i hk hi hi2 prog w A R s h;obtain⟨hp,g,d,tk,os⟩:=s;obtain⟨⟨gl,gb⟩,hx,h⟩:=h
  wp_walk using bc gl,bc gb
  rw[ac us i (by lia)]
  rcases bH i vs.size with hv | hv
  ·rw[ac vs i hv];have hc:((i:Int) + 1)=((i + 1:Nat):Int):=by push_cast;rfl
   rw[dc us i (by lia),dc vs i hv] at hx
   cases hx with
   | eq he hx =>
    refine ad (he prog w _ _ ?_)
    wp_walk
    rw[hc];exact⟨cU plain_eq_loop _,bJ entry_eq_loop (by
     rw[bo plain_eq_loop _];exact ih (i + 1) (by lia) (by lia) (by lia) prog w A R _ ⟨⟨gl,gb⟩,hx,h⟩)⟩
   | ne he hlt =>
    refine ad (he prog w _ _ ?_)
    wp_walk using bc gl,bc gb
    rw[ac us i (by lia),ac vs i hv]
    have hri:=fun Q E h=>hlt prog w E Q h
    wp_walk using hri
    exact h
  ·rw[an vs i hv]
   wp_walk using bc gl,bc gb
   rw[tail hi hi2 (.inr hv) hx] at h;exact h
theorem lst_lt (l b:Addr) (us vs:Array ae) (n n2:Nat) (dd dd2:Option Addr) (sl sl2:Array (Option ae)) (o:Bool) :
  Meets (cP.«list.__lt__» ⟨[.ref l,.ref b],[]⟩) (fun A R s=>(s.heap.get? l=some { cls:=.type "list",dict:=dd,data:=.seq us n,slots:=sl }/\s.heap.get? b=some { cls:=.type "list",dict:=dd2,data:=.seq vs n2,slots:=sl2 }) /\
   LexAt A.in1 s us.toList vs.toList o/\R (.ok (.ret (.bool o))) s):=by
 intro prog w A R s h;obtain⟨hp,g,d,tk,os⟩:=s;obtain⟨⟨gl,gb⟩,hx,h⟩:=h;have _sub:=AutoSeq1.sub_list_list
 wp_walk using bc gl,bc gb
 exact⟨cU plain_eq_loop _,bJ entry_eq_loop (by
  rw[bo plain_eq_loop _];exact lst_lt_loop l b us vs n n2 dd dd2 sl sl2 o _ 0 rfl (bA _) (bA _) prog w A R _ ⟨⟨gl,gb⟩,hx,h⟩)⟩
end
theorem ltAt_lst {A:aQ} {s:ai} {l b:Addr} {us vs:Array ae} {o:Bool} (hl:s.heap.IsList l us) (hb:s.heap.IsList b vs) (hx:LexAt A.in1 s us.toList vs.toList o) (hu:A.units < bK):LtAt A s (.ref l) (.ref b) o:=by
 intro prog w E Q h;obtain⟨⟨cls,dd,data,sl⟩,ho,hc,n,hd⟩:=id hl;obtain⟨⟨cls2,dd2,data2,sl2⟩,ho2,hc2,n2,hd2⟩:=id hb;simp only at hc hd hc2 hd2;subst hc hd hc2 hd2;exact eY (op:=.Lt) ⟨_,ho,rfl⟩ ⟨_,ho2,rfl⟩ PySem.F.slot_list_lt PySem.F.entry_list_lt (PySem.F.args_list_lt_2 _ _) (lst_lt l b us vs n n2 dd dd2 sl sl2 o) ⟨⟨ho,ho2⟩,hx,show gG o≠fG/\Q (.bool o) s from⟨(fun x=>nomatch x),h⟩⟩ hu
theorem ltAt_tup {A:aQ} {s:ai} {l b:Addr} {items items2:Array ae} {o:Bool} (hl:gX s.heap l items) (hb:gX s.heap b items2) (hx:LexAt A.in1 s items.toList items2.toList o) (hu:A.units < bK):LtAt A s (.ref l) (.ref b) o:=by
 intro prog w E Q h;obtain⟨⟨cls,dd,data,sl⟩,ho,hc,n,hd⟩:=id hl;obtain⟨⟨cls2,dd2,data2,sl2⟩,ho2,hc2,n2,hd2⟩:=id hb;simp only at hc hd hc2 hd2;subst hc hd hc2 hd2;exact eY (op:=.Lt) ⟨_,ho,rfl⟩ ⟨_,ho2,rfl⟩ fx gz (gf _ _) (tuple_lt_gen l b items items2 n n2 dd dd2 sl sl2 o)
  ⟨ho,ho2,hx,show gG o≠fG/\Q (.bool o) s from⟨(fun x=>nomatch x),h⟩⟩ hu
end HT
namespace L2
open PySem PySem.Spec PyProof.Rows
def lexN (lt:D->D->Bool):List D->List D->Bool
 | [],[]=>false
 | [],_::_=>true
 | _::_,[]=>false
 | x::xs,y::ys=>if x=y then lexN lt xs ys else lt x y
def ltN:Nat->D->D->Bool
 | _,.int i,.int j=>decide (i < j)
 | _,.str x,.str y=>HT.ltS x y
 | n + 1,.tup xs,.tup ys=>lexN (ltN n) xs ys
 | n + 1,.lst xs,.lst ys=>lexN (ltN n) xs ys
 | _,_,_=>false
def okLs (ok:D->D->Bool) (n:Nat):List D->List D->Bool
 | x::xs,y::ys=>okE n x y && (if x=y then okLs ok n xs ys else ok x y)
 | _,_=>true
def okL:Nat->D->D->Bool
 | _,.int _,.int _=>true
 | _,.str _,.str _=>true
 | n + 1,.tup xs,.tup ys=>okLs (okL n) n xs ys
 | n + 1,.lst xs,.lst ys=>okLs (okL n) n xs ys
 | _,_,_=>false
section
variable {X:Cx} {pins:List (Addr × Obj)} {σ:St} {H:Hp} {s:ai} {M:Am}
theorem lex_at {n:Nat} {A:aQ} (heq:∀ {d e:D} {x y:V} {u v:ae},RepV X.K M H d x->RepV X.K M H e y->RelV x u->RelV y v->okE n d e=true->cA A s u v (decide (d=e)))
  (hlt:∀ {d e:D} {x y:V} {u v:ae},RepV X.K M H d x->RepV X.K M H e y->RelV x u->RelV y v->okL n d e=true->HT.LtAt A s u v (ltN n d e)) :
  ∀ {ds es:List D} {xs ys:List V} {us vs:List ae},RepL X.K M H ds xs->RepL X.K M H es ys->Vals xs us->Vals ys vs->okLs (okL n) n ds es=true->HT.LexAt A s us vs (lexN (ltN n) ds es)
 | [],[],_,_,_,_,p,q,r,t,_=>by
  unfold RepL at p q;subst p;subst q;cases r;cases t;exact .nn
 | [],e::es,_,_,_,_,p,q,r,t,_=>by
  unfold RepL at p q;subst p;obtain⟨v,vs,rfl,_,_⟩:=q;cases r;cases t;exact .nc
 | d::ds,[],_,_,_,_,p,q,r,t,_=>by
  unfold RepL at p q;subst q;obtain⟨v,vs,rfl,_,_⟩:=p;cases r;cases t;exact .cn
 | d::ds,e::es,_,_,_,_,p,q,r,t,o=>by
  unfold RepL at p q;obtain⟨x,xs,rfl,p1,p2⟩:=p;obtain⟨y,ys,rfl,q1,q2⟩:=q;cases r with
  | cons r1 r2 =>
   cases t with
   | cons t1 t2 =>
    unfold okLs at o;rw[aG] at o;have h1:=heq p1 q1 r1 t1 o.1;unfold lexN
    by_cases hde:d=e
    ·rw[if_pos hde];rw[if_pos hde] at o;rw[decide_eq_true hde] at h1;exact .eq h1 (lex_at heq hlt p2 q2 r2 t2 o.2)
    ·rw[if_neg hde];rw[if_neg hde] at o;rw[decide_eq_false hde] at h1;exact .ne h1 (hlt p1 q1 r1 t1 o.2)
theorem lt_at (I:Inv X pins σ H s):∀ (n:Nat) {A:aQ} {d e:D} {x y:V} {u v:ae},A.units + n < bK->RepV X.K M H d x->RepV X.K M H e y->RelV x u->RelV y v->okL n d e=true->HT.LtAt A s u v (ltN n d e):=by
 intro n
 induction n with
 | zero =>
  intro A d e x y u v hu h h' r r' o;cases d <;> cases e <;> first | (cases o;done) | skip
  all_goals unfold RepV at h h';subst h;subst h';obtain⟨t,rfl⟩:=r;obtain⟨t',rfl⟩:=r'
  ·intro prog w E Q q;exact(km q:ax (aC prog w) A (bE .Lt _ _) Q E s)
  ·intro prog w E Q q;exact HT.rcLt_st A s _ _ _ _ prog w E Q q
 | succ n ih =>
  intro A d e x y u v hu h h' r r' o;cases d <;> cases e <;> first | (cases o;done) | skip
  ·unfold RepV at h h';subst h;subst h';obtain⟨t,rfl⟩:=r;obtain⟨t',rfl⟩:=r';intro prog w E Q q;exact(km q:ax (aC prog w) A (bE .Lt _ _) Q E s)
  ·unfold RepV at h h';subst h;subst h';obtain⟨t,rfl⟩:=r;obtain⟨t',rfl⟩:=r';intro prog w E Q q;exact HT.rcLt_st A s _ _ _ _ prog w E Q q
  ·rename_i ds es;unfold RepV at h h';obtain⟨a,xs,rfl,t,l⟩:=h;obtain⟨b,ys,rfl,t',l'⟩:=h';cases r;cases r';obtain⟨us,ru,pl,_⟩:=I.tuple t.sq;obtain⟨vs,rv,pl',_⟩:=I.tuple t'.sq;refine HT.ltAt_tup pl pl' ?_ (by lia)
   exact lex_at (fun p q r r' o=>(eq3 I n (show A.units + 1 + n < bK by lia) p q r r' o).eq) (fun p q r r' o=>ih (show A.units + 1 + n < bK by lia) p q r r' o) l l' ru rv o
  ·rename_i ds es;unfold RepV at h h';obtain⟨a,xs,rfl,t,l⟩:=h;obtain⟨b,ys,rfl,t',l'⟩:=h';cases r;cases r';obtain⟨us,ru,pl,_⟩:=I.list t.sq;obtain⟨vs,rv,pl',_⟩:=I.list t'.sq;refine HT.ltAt_lst pl.isList pl'.isList ?_ (by lia)
   exact lex_at (fun p q r r' o=>(eq3 I n (show A.units + 1 + n < bK by lia) p q r r' o).eq) (fun p q r r' o=>ih (show A.units + 1 + n < bK by lia) p q r r' o) l l' ru rv o
end
end L2
set_option maxHeartbeats 1000000
namespace L2
open PySem PySem.Spec PyProof.Rows
def Kp (h h':aW):Prop:=∀ b o,h.get? b=some o->h'.get? b=some o
section
variable {prog:aD} {w:aK} {A:aQ} {R:Result->ai->Prop} {s0:ai} {vs:List ae} {I S:Addr} {fp:List Addr} {St:Nat->aW->Prop} {bt:Nat->Nat->Bool} {kw:List (Str × ae)}
theorem min_from (W:Walks prog w A.in1 I fp [I] vs.length (fun i v=>vs[i]?=some v) St) (hI:s0.heap.objs.size<=I) (hS:s0.heap.objs.size<=S) (hSf:S∉fp) (hIf:I∈fp)
  (cmp:∀ i j vi vj h tk,vs[i]?=some vi->vs[j]?=some vj->Kp s0.heap h->HT.LtAt A.in1 { s0 with heap:=h,toks:=tk } vi vj (bt i j))
  (fin:∀ v h tk,vs[eI bt (vs.length - 1)]?=some v->Kp s0.heap h->R (.ok (.ret v)) { s0 with heap:=h,toks:=tk }) :
  ∀ (left j:Nat) (h:aW) (tk:Nat) (vb:ae) (c:Nat),j + 1 + left=vs.length->Kp s0.heap h->St (j + 1) h->vs[eI bt j]?=some vb->h.get? S=some (cD "list" #[vb,vb] c) ->
   eT (aC prog w) A (.builtin "min.loop" ⟨[.ref I,.none,.ref S],kw⟩) R { s0 with heap:=h,toks:=tk }:=by
 have hSI:S≠I:=by rintro rfl;exact hSf hIf
 have nI:∀ b o,s0.heap.get? b=some o->b≠I:=fun b o e z=>absurd (ay e) (by rw[z];exact gL.mpr (by assumption))
 have nS:∀ b o,s0.heap.get? b=some o->b≠S:=fun b o e z=>absurd (ay e) (by rw[z];exact gL.mpr (by assumption))
 have word:(toString "min"++toString ".loop" : String) = "min.loop":=by decide
 intro left
 induction left with
 | zero =>
  intro j h tk vb c hj kp st hb hs;refine bJ F.entry_min_loop ?_;rw[bo F.plain_min_loop _];show ax (aC prog w) A.in1 (jz (.ref S) >>= _) _ _ { s0 with heap:=h,toks:=tk }
  refine ad (dG hs rfl ?_);show ax (aC prog w) A.in1 (tryCatch (fq (.ref I)) _ >>= _) _ _ { s0 with heap:=h,toks:=tk }
  refine ad (gA (W.done { s0 with heap:=h,toks:=tk } _ _ ((show j + 1=vs.length from hj) ▸ st) fun h1 tk1 k1=>?_))
  have hs1:=k1 S _ (by simpa using hSI) hs
  show ax (aC prog w) A.in1 (updateSeq S (fun _=>#[]) >>= _) _ _ _;refine ad ?_;refine fk hs1 rfl (ad (wpAny_letGo (af (fin vb _ tk1 ?_ fun b o e=>?_))))
  ·have e:vs.length - 1=j:=by omega
   rw[e];exact hb
  ·exact(be _ _ (aZ (nS b o e))).trans (k1 b o (by simpa using nI b o e) (kp b o e))
 | succ left ih =>
  intro j h tk vb c hj kp st hb hs;refine bJ F.entry_min_loop ?_;rw[bo F.plain_min_loop _];show ax (aC prog w) A.in1 (jz (.ref S) >>= _) _ _ { s0 with heap:=h,toks:=tk }
  refine ad (dG hs rfl ?_);show ax (aC prog w) A.in1 (tryCatch (fq (.ref I)) _ >>= _) _ _ { s0 with heap:=h,toks:=tk }
  refine ad (gA (W.item (j + 1) { s0 with heap:=h,toks:=tk } _ _ (by omega) st fun v h1 tk1 hv st1 k1=>?_))
  have hs1:=k1 S _ (by simpa using hSI) hs
  have kp1:Kp s0.heap h1:=fun b o e=>k1 b o (by simpa using nI b o e) (kp b o e)
  show ax (aC prog w) A.in1 (tryCatch (eO [v,v] (richCompare .Lt v vb >>= _)) _ >>= _) _ _ _;refine ad (gA (bB (ad (cmp (j + 1) (eI bt j) v vb h1 tk1 hv hb kp1 _ _ _ _ ?_))));refine ad (bB (c6 (ad (wpAny_letGo (af ?_)))));cases e:bt (j + 1) (eI bt j) with
  | true =>
   rw[if_pos rfl];refine ad ?_;refine fk hs1 rfl (ad (wpAny_letGo ?_));rw[word];have hs2:(h1.update S (bW fun _=>#[v,v])).get? S=some (cD "list" #[v,v] _):=fm hs1 fun _=>#[v,v];refine af ⟨cU F.plain_min_loop _,ih (j + 1) _ tk1 v _ (by omega) (fun b o eo=>(be _ _ (aZ (nS b o eo))).trans (kp1 b o eo)) (W.frame _ _ _ st1 fun b hb' o eo=>?_) ?_ hs2⟩
   ·exact(be _ _ (fun z:S=b=>hSf (by rw[z];exact hb'))).trans eo
   ·simp only[eI,e,if_true];exact hv
  | false =>
   rw[if_neg (by simp)]
   refine ad (wpAny_letGo ?_);rw[word];refine af ⟨cU F.plain_min_loop _,ih (j + 1) h1 tk1 vb c (by omega) kp1 st1 ?_ hs1⟩
   simp only[eI,e,aF,if_false];exact hb
theorem min_call {E:ae->ai->Prop} {x:ae} {Q:ae->ai->Prop} {s:ai} (kwOk:(kw=[]/\vs≠[])\/∃ d,kw=[(aM "default",d)]/\(vs=[]->∀ h tk,Kp s.heap h->Q d { s with heap:=h,toks:=tk }))
  (it:∀ R':ae->ai->Prop,(∀ I h fp St,s.heap.objs.size<=I->I∈fp->(∀ b∈fp,b < h.objs.size)->Kp s.heap h->St 0 h->Walks prog w A.in1 I fp [I] vs.length (fun i v=>vs[i]?=some v) St->R' (.ref I) { s with heap:=h })->ax (aC prog w) A.in1 (je x) R' E s)
  (cmp:∀ i j vi vj h tk,vs[i]?=some vi->vs[j]?=some vj->Kp s.heap h->HT.LtAt A.in1 { s with heap:=h,toks:=tk } vi vj (bt i j))
  (fin:∀ v h tk,vs[eI bt (vs.length - 1)]?=some v->Kp s.heap h->Q v { s with heap:=h,toks:=tk }) :
  ax (aC prog w) A (call (.builtin "min") [x] kw) Q E s:=by
 have word:(toString "min"++toString ".loop" : String) = "min.loop":=by decide
 have args:argsOk "min" ⟨[x],kw⟩:=by
  rcases kwOk with⟨e,_⟩ | ⟨d,e,_⟩
  ·rw[e];exact F.args_min1 _
  ·rw[e];unfold argsOk;kernel_rfl
 refine kmk_tree F.kind_min F.plain_min F.entry_min args ?_;have bp:∃ od,iz "min" ["key", "default"] 0 ⟨[],kw⟩=pure [none,od]/\(od.toList.map fun d=>(aM "default",d))=kw:=by
  rcases kwOk with⟨e,_⟩ | ⟨d,e,_⟩
  ·rw[e];exact⟨none,rfl,rfl⟩
  ·rw[e];exact⟨some d,rfl,rfl⟩
 obtain⟨od,bp,ekw⟩:=bp;show ax (aC prog w) A.in1 (iz "min" ["key", "default"] 0 ⟨[],kw⟩ >>= _) _ _ s;refine ad (i9 bp ?_);show ax (aC prog w) A.in1 (pure x >>= fun items=>je items >>= _) _ _ s;refine ad (af ?_);refine ad (it _ fun I h fp St hI hIf hfp kp st W=>ad (bh ?_));rw[word];have hSf:h.objs.size∉fp:=fun z=>cy _ (hfp _ z);have hS:s.heap.objs.size<=h.objs.size:=by
  rcases bH h.objs.size s.heap.objs.size with z | z
  ·exact absurd (a8 (hfp I hIf) (io (a8 z hI))) (cy _)
  ·exact z
 rw[ekw];show ax (aC prog w) A.in1 (again (Code.builtin "min.loop" ⟨[.ref I,.none,.ref h.objs.size],kw⟩)) _ _ { s with heap:=h.push (cD "list" #[] 0) }
 have hs1:(h.push (cD "list" #[] 0)).get? h.objs.size=some (cD "list" #[] 0):=aw _ rfl;have kp1:Kp s.heap (h.push (cD "list" #[] 0)):=fun b o e=>ah _ (kp b o e);have st1:St 0 (h.push (cD "list" #[] 0)):=W.frame _ _ _ st fun b _ o e=>ah _ e;have hSI:h.objs.size≠I:=by rintro e;exact hSf (by rw[e];exact hIf)
 have nI:∀ b o,s.heap.get? b=some o->b≠I:=fun b o e z=>absurd (ay e) (by rw[z];exact gL.mpr (by assumption))
 have nS:∀ b o,s.heap.get? b=some o->b≠h.objs.size:=fun b o e z=>absurd (ay e) (by rw[z];exact gL.mpr (by assumption))
 refine af ⟨cU F.plain_min_loop _,bJ F.entry_min_loop ?_⟩;rw[bo F.plain_min_loop _];show ax (aC prog w) A.in1 (jz (.ref h.objs.size) >>= _) _ _ { s with heap:=h.push (cD "list" #[] 0) }
 refine ad (dG hs1 rfl ?_);show ax (aC prog w) A.in1 (tryCatch (fq (.ref I)) _ >>= _) _ _ { s with heap:=h.push (cD "list" #[] 0) }
 by_cases hv0:vs=[]
 ·rcases kwOk with⟨_,e⟩ | ⟨d,e,hd⟩
  ·exact absurd hv0 e
  ·subst e;refine ad (gA (W.done { s with heap:=h.push (cD "list" #[] 0) } _ _ (by rw[hv0];exact st1) fun h1 tk1 k1=>?_))
   show ax (aC prog w) A.in1 (rule _ >>= _) _ _ _;exact ad (f7 (af (hd hv0 h1 tk1 fun b o e=>k1 b o (by simpa using nI b o e) (kp1 b o e))))
 ·have hn:0 < vs.length:=eQ.mpr hv0;refine ad (gA (W.item 0 { s with heap:=h.push (cD "list" #[] 0) } _ _ hn st1 fun v h1 tk1 hv st2 k1=>?_))
  have hs2:=k1 h.objs.size _ (by simpa using hSI) hs1
  have kp2:Kp s.heap h1:=fun b o e=>k1 b o (by simpa using nI b o e) (kp1 b o e)
  show ax (aC prog w) A.in1 (updateSeq h.objs.size (fun _=>#[v,v]) >>= _) _ _ _;refine ad ?_;refine fk hs2 rfl ?_;rw[word];have hs3:(h1.update h.objs.size (bW fun _=>#[v,v])).get? h.objs.size=some (cD "list" #[v,v] _):=fm hs2 fun _=>#[v,v];refine af ⟨cU F.plain_min_loop _,min_from (s0:=s) (bt:=bt) (R:=wants Q E) W hI hS hSf hIf cmp fin (vs.length - 1) 0 _ tk1 v _ (by omega) (fun b o e=>(be _ _ (aZ (nS b o e))).trans (kp2 b o e)) (W.frame _ _ _ st2 fun b hb' o eo=>?_) hv hs3⟩
  exact(be _ _ (fun z:h.objs.size=b=>hSf (by rw[z];exact hb'))).trans eo
end
end L2
set_option maxHeartbeats 4000000
namespace L2
open PySem PySem.Spec PyProof.Rows
def CmpV (K:Fg) (H:Hp) (us:List V) (bt:Nat->Nat->Bool):Prop:=∀ {X:Cx} {pins:List (Addr × Obj)} {σ:St} {s:ai},Inv X pins σ H s->X.K=K->∀ A:aQ,A.units + 9 < bK->∀ i j x y u v,us[i]?=some x->us[j]?=some y->RelV x u->RelV y v->HT.LtAt A s u v (bt i j)
section
variable {X:Cx} {K:Fg} {pos:Pos} {k:Nat}
theorem min_run {kw:List (Str × ae)} {pins:List (Addr × Obj)} {s:ai} {σ:St} {H:Hp} {a:Addr} {us:List V} {bt:Nat->Nat->Bool} {Q:VK} (I:Inv X pins σ H s) (hK:X.K=K) (hu:X.A.units + 10 < bK) (hc:X.calm=true) (sq:SqL K H a us\/SqT K H a us) (cv:CmpV K H us bt)
  (kwOk:(kw=[]/\us≠[])\/∃ d y,kw=[(aM "default",d)]/\RelV y d/\(us=[]->Q y H)) (q:∀ v,us[eI bt (us.length - 1)]?=some v->Q v H) :
  ax (aC X.prog X.w) X.A (call (.builtin "min") [.ref a] kw) (fun v s'=>∃ x H',Inv X pins σ H' s'/\RelV x v/\Q x H') X.xe s:=by
 subst hK;have hh:X.A.in1.handled=none:=by simp[I.ok.hd hc]
 have main:∀ (its:List ae),Vals us its->(∀ R':ae->ai->Prop,(∀ I' h fp St,s.heap.objs.size<=I'->I'∈fp->(∀ b∈fp,b < h.objs.size)->Kp s.heap h->St 0 h->Walks X.prog X.w X.A.in1 I' fp [I'] its.length (fun i v=>its[i]?=some v) St->R' (.ref I') { s with heap:=h })->ax (aC X.prog X.w) X.A.in1 (je (.ref a)) R' X.xe s) ->
   ax (aC X.prog X.w) X.A (call (.builtin "min") [.ref a] kw) (fun v s'=>∃ x H',Inv X pins σ H' s'/\RelV x v/\Q x H') X.xe s:=by
  intro its rv it;have hl:=rv.length;refine min_call (bt:=bt) (vs:=its) ?_ it (fun i j vi vj h tk hi hj kp=>?_) fun v h tk hv kp=>?_
  ·rcases kwOk with⟨e,hn⟩ | ⟨d,y,e,ry,hd⟩
   ·exact .inl ⟨e,by rintro rfl;exact hn (bC (by simpa using hl))⟩
   ·exact .inr ⟨d,e,fun z h tk kp=>⟨y,H,I.kept kp,ry,hd (by subst z;exact bC (by simpa using hl))⟩⟩
  ·have i1:i < its.length:=by
    rcases bH i its.length with z | z
    ·exact z
    ·rw[br z] at hi;cases hi
   have j1:j < its.length:=by
    rcases bH j its.length with z | z
    ·exact z
    ·rw[br z] at hj;cases hj
   obtain⟨u1,e1,r1⟩:=rv.get (ag (show i < us.length by lia))
   obtain⟨u2,e2,r2⟩:=rv.get (ag (show j < us.length by lia))
   rw[hi] at e1;cases e1;rw[hj] at e2;cases e2;exact cv (I.kept (t':=tk) kp) rfl X.A.in1 (show X.A.units + 1 + 9 < bK by lia) i j _ _ _ _ (ag (by lia)) (ag (by lia)) r1 r2
  ·have i1:eI bt (its.length - 1) < its.length:=by
    rcases bH (eI bt (its.length - 1)) its.length with z | z
    ·exact z
    ·rw[br z] at hv;cases hv
   have e0:us[eI bt (us.length - 1)]?=us[eI bt (its.length - 1)]?:=by rw[hl]
   obtain⟨u1,e1,r1⟩:=rv.get (ag (show eI bt (its.length - 1) < us.length by lia))
   rw[hv] at e1;cases e1;exact⟨_,H,I.kept kp,r1,q _ (e0.trans (ag (by lia)))⟩
 rcases sq with sq | sq
 ·refine hd fun Gq kq=>?_;obtain⟨its,rv,p,hz⟩:=I.list sq;refine kq ?_;refine main its rv fun R' h=>gy p.isList ?_;refine hd fun Gq kq=>?_;obtain⟨o,n,ho,_⟩:=id p;refine kq ?_;have hlt:a < s.heap.objs.size:=ay ho;have W:=Walks.list (prog:=X.prog) (w:=X.w) (A:=X.A.in1) hh s.heap.objs.size a (aH hlt) its.toArray;have e1:its.toArray.size=its.length:=by simp
  have e2:(fun i v=>its.toArray[i]?=some v)=(fun(i:Nat) (v:ae)=>its[i]?=some v):=by funext i v;simp
  rw[e1,e2] at W;exact h _ _ _ _ (ar _) (by simp) (fun b hb=>by
   rw[bR];rcases aA.mp hb with rfl | hb
   ·exact du _
   ·rw[az.mp hb];exact cS hlt) (fun b o e=>ah _ e) ⟨⟨_,aw _ rfl,rfl,rfl⟩,p.isList.at fun o e=>ah _ e⟩ W
 ·refine hd fun Gq kq=>?_;obtain⟨its,rv,p,hz⟩:=I.tuple sq;refine kq ?_;refine main its rv fun R' h=>eX (show s.heap.IsTuple a its.toArray from p) ?_
  refine hd fun Gq kq=>?_;obtain⟨o,ho,_⟩:=id p;refine kq ?_;have hlt:a < s.heap.objs.size:=ay ho;have W:=Walks.tuple (prog:=X.prog) (w:=X.w) (A:=X.A.in1) hh s.heap.objs.size a (aH hlt) its.toArray;have e1:its.toArray.size=its.length:=by simp
  have e2:(fun i v=>its.toArray[i]?=some v)=(fun(i:Nat) (v:ae)=>its[i]?=some v):=by funext i v;simp
  rw[e1,e2] at W;exact h _ _ _ _ (ar _) (by simp) (fun b hb=>by
   rw[bR];rcases aA.mp hb with rfl | hb
   ·exact du _
   ·rw[az.mp hb];exact cS hlt) (fun b o e=>ah _ e) ⟨⟨_,aw _ rfl,rfl,rfl⟩,(show s.heap.IsTuple a its.toArray from p).at fun o e=>ah _ e⟩ W
def tMinD (K:Fg) (te td:TE):TE:=fun σ H Q=>te σ H fun x H1=>td σ H1 fun y H2=>∃ a us bt,x=.ref a/\(SqL K H2 a us\/SqT K H2 a us)/\CmpV K H2 us bt/\(us=[]->Q y H2)/\∀ v,us[eI bt (us.length - 1)]?=some v->Q v H2
theorem pe_minD {e d:Expr} {p kp:Pos} {te td:TE} (hu:X.A.units + 10 < bK) (hg:Gl X "min") (hm:X.mg "min" = none) (he:PE X e te) (hd:PE X d td) (hK:X.K=K:=by rfl) (hc:X.calm=true:=by rfl)
  (h1:bD pos (au [e] X.env)=[(false,eval e X.env)]:=by rfl) (h2:(fg pos (di [⟨some "default",d,kp⟩] X.env)).filterMap (·.1)=[("default" : Str)]:=by rfl) :
  PE X (.Call (.Name "min" p) [e] [⟨some "default",d,kp⟩] pos) (tMinD K te td):=by
 intro pins s σ H Q I h;refine eU (ld_blt I hg hm (show bY "min" = some (.builtin "min") from rfl) ?_ (by decide) (by decide))
 have h3:(bD pos (au [e] X.env)).any (·.1)=false:=by rw[h1];rfl
 have h4:bD pos (au [e] X.env)=(false,eval e X.env)::bD pos (au [] X.env):=by rw[h1];rfl
 refine callWith_kw ?_ h4 h3 rfl rfl;rw[h1,h2];refine Calls.spliced_cons (thn (he pins s σ H _ I h) fun v s1 ⟨x,H1,I1,r1,q1⟩=>Calls.spliced_nil ?_);refine kws_cons (thn (hd pins s1 σ H1 _ I1 q1) fun u s2 ⟨y,H2,I2,r2,a,us,bt,e1,sq,cv,q2,q3⟩=>kws_nil ?_);subst e1;cases r1;exact min_run (kw:=[(aM "default",u)]) I2 hK hu hc sq cv (.inr ⟨u,y,rfl,r2,q2⟩) q3
end
section
variable {X:Cx} {K:Fg} {pos:Pos} {k:Nat}
def bestD (b:D):List D->D
 | []=>b
 | x::xs=>bestD (if ltN 8 x b=true then x else b) xs
def allOk (xs:List D):Prop:=∀ a∈xs,∀ b∈xs,okL 8 a b=true
abbrev btD (xs:List D):Nat->Nat->Bool:=fun i j=>ltN 8 (xs.getD i .non) (xs.getD j .non)
theorem bestD_snoc (b:D) (xs:List D) (y:D):bestD b (xs++[y])=if ltN 8 y (bestD b xs)=true then y else bestD b xs:=by
 induction xs generalizing b with
 | nil=>rfl
 | cons x xs ih=>exact ih _
theorem arg_best (x:D) (xs:List D):∀ m,m<=xs.length->(x::xs)[eI (btD (x::xs)) m]?=some (bestD x (xs.take m))
 | 0,_=>rfl
 | m + 1,hm=>by
  have ih:=arg_best x xs m (by lia)
  have e1:(x::xs).getD (m + 1) .non=xs[m]'(by lia):=by
   rw[aB,gc,ag (by lia)];rfl
  have e2:(x::xs).getD (eI (btD (x::xs)) m) .non=bestD x (xs.take m):=by
   rw[aB,ih];rfl
  have e3:xs.take (m + 1)=xs.take m++[xs[m]'(by lia)]:=by rw[dJ,ag (by lia)];rfl
  rw[e3,bestD_snoc];show(x::xs)[if ltN 8 ((x::xs).getD (m + 1) .non) ((x::xs).getD (eI (btD (x::xs)) m) .non)=true then m + 1 else eI (btD (x::xs)) m]?=_
  rw[e1,e2]
  split
  ·rw[gc,ag (by lia)]
  ·exact ih
theorem cmp_of {M:Am} {H:Hp} {ds:List D} {us:List V} (l:RepL K M H ds us) (ok:allOk ds):CmpV K H us (btD ds):=by
 intro X pins σ s I hK A hA i j x y u v hi hj rx ry;subst hK;obtain⟨d,ed,rd⟩:=l.get' hi;obtain⟨e,ee,re⟩:=l.get' hj;have e1:ds.getD i .non=d:=by rw[aB,ed];rfl
 have e2:ds.getD j .non=e:=by rw[aB,ee];rfl
 show HT.LtAt A s u v (ltN 8 (ds.getD i .non) (ds.getD j .non));rw[e1,e2];exact lt_at I 8 (by lia) rd re rx ry (ok d (bz ed) e (bz ee))
def dMinD (te td:ED):ED:=fun Γ S Q=>te Γ S fun d S1=>td Γ S1 fun y S2=>∃ xs,sqIs S2 d xs/\allOk xs/\Q (match xs with | []=>y | x::xs=>bestD x xs) S2
theorem e_minD {e d:Expr} {te td:ED} {p kp:Pos} (hr:Room k X.A) (hg:Gl X "min") (hm:X.mg "min" = none) (he:PD K X e te) (hd:PD K X d td) (hK:X.K=K:=by rfl) (hc:X.calm=true:=by rfl)
  (h1:bD pos (au [e] X.env)=[(false,eval e X.env)]:=by rfl) (h2:(fg pos (di [⟨some "default",d,kp⟩] X.env)).filterMap (·.1)=[("default" : Str)]:=by rfl) :
  PD K X (.Call (.Name "min" p) [e] [⟨some "default",d,kp⟩] pos) (dMinD te td) :=
 .of (pe_minD (lt64 hr) hg hm he.o hd.o hK hc h1 h2) fun σ H Q z0=>z0.el fun F S Γ QD r g q c =>
  ⟨F,S,Γ,_,r,g,q,fun v d H1 S1 x1 r1 v1 q1=>⟨F,S1,Γ,_,r1,g.ext x1,q1,fun y e H2 S2 x2 r2 v2 z1=>by
   obtain⟨xs,hs,ok,q2⟩:=z1;obtain⟨a,us,rfl,sq,lu⟩:=hs.sq r2 (v1.ext x2);have c2:=Cn.shift c (x1.trans x2);refine⟨a,us,btD xs,rfl,sq,cmp_of lu ok,fun z=>?_,fun v hv=>?_⟩
   ·subst z
    have:xs=[]:=bC (by simpa using lu.length.symm)
    subst this;exact c2.here r2 v2 q2
   ·cases xs with
    | nil =>
     unfold RepL at lu;subst lu;cases hv
    | cons x xs =>
     have hl:=lu.length;have e:us.length - 1=xs.length:=by rw[hl];simp
     rw[e] at hv;obtain⟨d,ed,rd⟩:=lu.get' hv;rw[arg_best x xs xs.length (ar _),d3] at ed;cases ed;exact c2.here r2 rd q2⟩⟩
end
end L2
set_option maxHeartbeats 1000000
namespace L2
open PySem PySem.Spec PyProof.Rows
end L2
namespace L2
open PySem PyProof.Rows
section
variable {K:ao} {k:Nat}
theorem e_fn {P:aD} {w:aK} {mg:Str->Option ae} {base:aW} {x:Str} {st:Stmt} {N ps:List Str} {sp:SpD} {f:Addr} {fd:cC} (Fn:Fun K x x st f fd) (S:FnScope N ps (defScope st))
  (len:∀ ds S Q,sp ds S Q->ds.length=ps.length)
  (h:∀ (cdv:ae) (A:aQ) (outer:List Env) (s:ai) (H:Hp) (E:XK),Room k (A.deeper (envOfC x (defScope st) s.heap.objs.size f cdv)) ->
   ∃ t,PSsD K (cxOf CX0 P w K mg base N x (defScope st) f cdv A outer s H E).nox (defBody st) t/\∀ ds S Q,sp ds S Q->t (endsD Q) (startD N ds) S):FnOk P w K mg base CX0 (k + 1) f fd ps (spU K sp):=by
 refine Fn.ok S (fun vs H Q E z1=>by obtain⟨F,S,ds,QD,r,l,hsp,c⟩:=z1;rw[l.length];exact len ds S QD hsp) (fun cdv A outer s H vs Q E' hr z1=>?_)
 obtain⟨F,S,ds,QD,r,l,hsp,c⟩:=z1;obtain⟨t,h1,h2⟩:=h cdv A outer s H E' hr;have fin:∀ v d H' S',Ext S H S' H'->Rp K F S' H'->RepV K (mt S' F) H' d v->rtD QD d S'->Q v H':=fun v d H' S' x1 r1 v1 z2=>by
  obtain⟨d',S2,hs,fz,q⟩:=z2;exact c v d' H' S2 (x1.trans (Ext.less hs)) (r1.less hs) ((frz_ok r1 hs fz).1 v v1) q
 exact⟨_,h1.o,F,S,startD N ds,endsD QD,r,repStart l,h2 ds S QD hsp,fun Γ' S' σ' H' x1 r1 g1 q=>fin .non .non H' S' x1 r1 (by unfold RepV;rfl) q,fin,fun _ _ _ _ _ _ _ q=>q.elim,fun _ _ _ _ _ _ _ q=>q.elim⟩
end
theorem us1 {p:List ae->Prop} (h:∀ a,p [a]) (us:List ae) (ee:us.length=1):p us:=by
 cases us with
 | nil=>cases ee
 | cons a us =>
  cases us with
  | nil=>exact h a
  | cons z us=>exact absurd (dX ee) (gQ _)
theorem us2 {p:List ae->Prop} (h:∀ a b,p [a,b]) (us:List ae) (ee:us.length=2):p us:=by
 cases us with
 | nil=>cases ee
 | cons a us =>
  cases us with
  | nil=>cases ee
  | cons b us =>
   cases us with
   | nil=>exact h a b
   | cons z us=>exact absurd (dX (dX ee)) (gQ _)
theorem us3 {p:List ae->Prop} (h:∀ a b c,p [a,b,c]) (us:List ae) (ee:us.length=3):p us:=by
 cases us with
 | nil=>cases ee
 | cons a us =>
  cases us with
  | nil=>cases ee
  | cons b us =>
   cases us with
   | nil=>cases ee
   | cons c us =>
    cases us with
    | nil=>exact h a b c
    | cons z us=>exact absurd (dX (dX (dX ee))) (gQ _)
theorem us4 {p:List ae->Prop} (h:∀ a b c d,p [a,b,c,d]) (us:List ae) (ee:us.length=4):p us:=by
 cases us with
 | nil=>cases ee
 | cons a us =>
  cases us with
  | nil=>cases ee
  | cons b us =>
   cases us with
   | nil=>cases ee
   | cons c us =>
    cases us with
    | nil=>cases ee
    | cons d us =>
     cases us with
     | nil=>exact h a b c d
     | cons z us=>exact absurd (dX (dX (dX (dX ee)))) (gQ _)
theorem fsc {N ps:List Str} {sc:Scope} (a:sc.kind=.function:=by rfl) (b:sc.isCoroutine=false:=by rfl) (c:sc.isGenerator=false:=by rfl) (d:N.Nodup:=by decide +kernel) (e:N.take ps.length=ps:=by rfl) (f:∀ x∈ps,sc.names.lookup x=some .local\/sc.names.lookup x=some .cell:=by decide +kernel) (g:∀ y∈sc.names,y.2≠.free:=by decide +kernel):FnScope N ps sc:=⟨a,b,c,d,e,f,g⟩
theorem walkD {l:j0} {q:aD} {loose:List Str} {XP:(Str->Option ae)->aW->Prop} {YP:aK->aW->Prop} {d:DefRec} {K:Params->ao} (hn:l.most=some 63) (hdf:d.params.defaults=[])
  (hY:∀ (w:aK) (h:aW),YP w h->(K w.params).In h)
  (F:∀ (w:aK) (mg:Str->Option ae) (fa:Addr) (h:aW),(K w.params).In h->h.Ns aO mg->mg d.name=some (.ref fa) ->
   ∃ fd:cC,(∀ (s:ai) (u:ae),BindsTo s fd ⟨[u],[]⟩ [("script",u)])/\∀ base:aW,(K w.params).In base->base.Ns aO mg->FnOk l.prog w (K w.params) mg base CX0 50 fa fd ["script"] (spU (K w.params) (spLawD 63))) :
  PySem.W.WalkO q loose XP YP l.row.toRowW d [] (fun f vs=>PySem.call f vs) :=
 L2.walk_of (n:=63) (k:=50) (x := "script") (CX:=fun _=>CX0) (sp:=fun w=>spU (K w.params) (spLawD 63)) hn (by decide) hdf ⟨rfl,by decide,by decide⟩ hY F (fun _ _ a ns hl _ hS=>law_sp hl hS) fun _ _ _ _ _ z=>z
end L2
namespace Toy
open PySem L2
def top (i:Nat):Stmt:=PySem.Challenge.pw_corepetals_k38_kept_sets_held.main.body.getD i (.Pass ⟨0,0,0,0⟩)
end Toy
set_option maxHeartbeats 4000000
namespace L2
open PySem PySem.Spec PyProof.Rows
theorem pick_take {α:Type} (l:List α) (i:Nat):∀ m,(aP m).filterMap (fun k=>l[i + k]?)=(l.drop i).take m
 | 0=>rfl
 | m + 1=>by
  rw[List.range_succ,gF,pick_take l i m,dJ]
  congr 1
  rw[List.getElem?_drop];simp only[bU,List.filterMap_nil];cases l[i + m]? <;> rfl
theorem idx_eq (lo hi:Option Int) (n:Nat):bO lo hi 1 n=(aP (HT.sIx n n hi - HT.sIx n 0 lo)).map fun k=>HT.sIx n 0 lo + k:=by
 have e:bO lo hi 1 n=jV (eC lo hi none n).1 (eC lo hi none n).2.1 1:=rfl;obtain⟨h1,h2,_⟩:=slice_bounds lo hi n;rw[e,h1,h2];unfold jV;have hc:(if (1:Int) > 0 then (if ((HT.sIx n 0 lo:Nat):Int) < ((HT.sIx n n hi:Nat):Int) then (((HT.sIx n n hi:Nat):Int) - ((HT.sIx n 0 lo:Nat):Int) + 1 - 1) / 1 else 0) else (if ((HT.sIx n 0 lo:Nat):Int) > ((HT.sIx n n hi:Nat):Int) then (((HT.sIx n 0 lo:Nat):Int) - ((HT.sIx n n hi:Nat):Int) - 1 - 1) / (-1) else 0)).toNat=HT.sIx n n hi - HT.sIx n 0 lo:=by
  rw[if_pos (by decide),jN]
  split <;> lia
 show(aP _).map _=_;rw[hc];apply dh;intro k _;lia
theorem cutS_eq (z:Str) (lo hi:Option Int):cutS z lo hi=⟨((z.cps.toList.drop (HT.sIx z.length 0 lo)).take (HT.sIx z.length z.length hi - HT.sIx z.length 0 lo)).toArray⟩:=by
 unfold cutS;rw[idx_eq,aj,eE];have hj:HT.sIx z.length z.length hi<=z.length:=HT.sIx_le _ _ (ar _) hi;have hzl:z.cps.toList.length=z.length:=b9
 by_cases h:(HT.sIx z.length z.length hi - HT.sIx z.length 0 lo == z.length)=true
 ·rw[if_pos h];have h':=fJ h
  by_cases h0:z.length=0
  ·have:z.cps=#[]:=Array.eq_empty_of_size_eq_zero h0
   cases z;simp only at this;subst this;simp
  ·have hi0:HT.sIx z.length 0 lo=0:=by lia
   rw[h',hi0,d6,bZ (by lia)]
 ·rw[if_neg h,iI]
  congr 1
  have:=pick_take z.cps.toList (HT.sIx z.length 0 lo) (HT.sIx z.length z.length hi - HT.sIx z.length 0 lo)
  rw[<- this]
  congr 2
  funext k;show z.cps[HT.sIx z.length 0 lo + k]?=_;rw[bS]
end L2
set_option maxHeartbeats 1000000
namespace L2
open PySem
def lettersZ:Str:=aM "abcdefghijklmnopqrstuvwxyz"
theorem letter_at {i:Nat} (h:i < 26):atI lettersZ.cps.toList (i:Int)=some (97 + i):=by
 have:∀ j:Fin 26,lettersZ.cps.toList[j.val]?=some (97 + j.val):=by decide +kernel
 exact atI_nat (this ⟨i,h⟩)
end L2
set_option maxHeartbeats 4000000
namespace L2
open PySem
theorem z9999 {n:Nat} (h:n<=9999):n<=sizeLine:=by rw[bu];lia
theorem erase_perm' {α:Type}:∀ (l:List α) (j:Nat) (h:j < l.length),(l[j]::l.eraseIdx j).Perm l
 | a::l,0,_=>.refl _
 | a::l,j + 1,h=>by
  have ih:=erase_perm' l j (by simpa using h)
  show(l[j]'(by simpa using h)::a::l.eraseIdx j).Perm (a::l)
  exact(List.Perm.swap _ _ _).trans (ih.cons a)
theorem perm_back {α β:Type} {f:α->β} (g:β->α) (hg:∀ x,g (f x)=x) {vs us:List β} {xs:List α} (h:(vs++us).Perm (xs.map f)):∃ as bs:List α,vs=as.map f/\us=bs.map f/\(as++bs).Perm xs:=by
 have mem:∀ y∈vs++us,f (g y)=y:=fun y hy=>by
  obtain⟨x,_,rfl⟩:=b4.mp (h.mem_iff.mp hy);rw[hg]
 have lift:∀ l:List β,(∀ y∈l,f (g y)=y)->l=(l.map g).map f:=fun l hl=>by
  rw[cf];apply eS (by simp)
  intro i h1 h2;rw[gN];exact(hl _ (d0 h1)).symm
 refine⟨vs.map g,us.map g,lift vs fun y hy=>mem y (bd _ hy),lift us fun y hy=>mem y (aL _ hy),?_⟩;have p:=h.map g;rw[aN,cf] at p;have e:xs.map (g ∘ f)=xs:=by
  apply eS (by simp)
  intro i h1 h2;rw[gN];exact hg _
 rwa [e] at p
def dStr':D->Str
 | .str s=>s
 | _=>⟨#[]⟩
theorem plains_strs':∀ l:List Str,plains (l.map D.str)=true
 | []=>rfl
 | x::l=>by show(true && plains (l.map D.str))=true;rw[plains_strs' l];rfl
end L2
namespace Toy
open PySem L2
theorem app_len (a b:Str):(a++b).length=a.length + b.length:=by
 show(a.cps++b.cps).size=_;rw[Array.size_append];rfl
end Toy
namespace Toy
variable {α:Type}
def ch:List α->Nat->List (List α)
 | _,0=>[[]]
 | [],_ + 1=>[]
 | x::xs,n + 1=>(ch xs n).map (x::·)++ch xs (n + 1)
theorem ch_zero (xs:List α):ch xs 0=[[]]:=by cases xs <;> rfl
theorem ch_nil (n:Nat):ch ([]:List α) (n + 1)=[]:=rfl
theorem ch_cons (x:α) (xs:List α) (n:Nat):ch (x::xs) (n + 1)=(ch xs n).map (x::·)++ch xs (n + 1):=rfl
theorem ch_big:∀ (xs:List α) (n:Nat),xs.length < n->ch xs n=[]
 | [],0,h=>by simp at h
 | [],n + 1,_=>rfl
 | x::xs,0,h=>by simp at h
 | x::xs,n + 1,h=>by
  simp only[aE] at h;rw[ch_cons,ch_big xs n (by lia),ch_big xs (n + 1) (by lia)]
  rfl
theorem ch_len:∀ (xs:List α) (n:Nat),(ch xs n).length<=2 ^ xs.length
 | [],0=>by simp[ch]
 | [],n + 1=>by simp[ch]
 | x::xs,0=>by
  rw[ch_zero];exact Nat.one_le_two_pow
 | x::xs,n + 1=>by
  rw[ch_cons,av,aj,aE,Nat.pow_succ]
  have:=ch_len xs n
  have:=ch_len xs (n + 1)
  lia
theorem ch_mem:∀ {xs:List α} {n:Nat} {s:List α},s∈ch xs n->s.length=n/\s.Sublist xs
 | [],0,s,h=>by
  have:s=[]:=by simpa [ch] using h
  subst this;exact⟨rfl,.slnil⟩
 | [],n + 1,s,h=>by simp[ch] at h
 | x::xs,0,s,h=>by
  have:s=[]:=by simpa [ch] using h
  subst this;exact⟨rfl,List.nil_sublist _⟩
 | x::xs,n + 1,s,h=>by
  rw[ch_cons,aU,b4] at h;rcases h with⟨r,hr,rfl⟩ | h
  ·obtain⟨a,b⟩:=ch_mem hr;exact⟨by simp[a],b.cons_cons x⟩
  ·obtain⟨a,b⟩:=ch_mem h;exact⟨a,b.cons x⟩
theorem ch_drop (xs:List α) (i n:Nat) (h:i < xs.length):ch (xs.drop i) (n + 1)=(ch (xs.drop (i + 1)) n).map (xs[i]::·)++ch (xs.drop (i + 1)) (n + 1):=by
 rw[d8 h]
 rfl
theorem mem_ch:∀ {xs:List α} {s:List α},s.Sublist xs->s∈ch xs s.length
 | [],s,h=>by
  have:s=[]:=List.sublist_nil.mp h
  subst this;simp[ch]
 | x::xs,[],h=>by simp[ch]
 | x::xs,y::s,h=>by
  rw[aE,ch_cons,aU,b4];cases h with
  | cons _ h=>right;exact mem_ch (s:=y::s) h
  | cons_cons _ h=>left;exact⟨s,mem_ch h,rfl⟩
end Toy
namespace Toy
variable {α:Type}
def ext (lt:α->α->Bool) (z:α) (sets:List α) (s:List α):List (List α):=(sets.filter fun o=>lt (s.getLastD z) o).map fun o=>s++[o]
theorem getLastD_mem {z:α}:∀ {s:List α},s≠[]->s.getLastD z∈s
 | [],h=>absurd rfl h
 | [x],_=>by simp
 | x::y::s,_=>by
  have:=getLastD_mem (z:=z) (s:=y::s) (by simp)
  simp only[iR] at this ⊢;exact aq _ this
theorem getLastD_cons' {z x:α}:∀ {s:List α},s≠[]->(x::s).getLastD z=s.getLastD z
 | [],h=>absurd rfl h
 | y::s,_=>by simp[iR]
theorem ch_one:∀ xs:List α,ch xs 1=xs.map fun x=>[x]
 | []=>rfl
 | x::xs=>by rw[ch_cons,ch_zero,ch_one xs];rfl
theorem fm_congr {β:Type} {f g:α->List β}:∀ {l:List α},(∀ a∈l,f a=g a)->l.flatMap f=l.flatMap g
 | [],_=>rfl
 | a::l,h=>by rw[cq,cq,h a am,fm_congr fun b hb=>h b (aq _ hb)]
theorem ch_ext {lt:α->α->Bool} {z:α}:∀ {sets:List α},sets.Pairwise (fun a b=>lt a b=true/\lt b a=false)->(∀ a,lt a a=false)->∀ k,(ch sets (k + 1)).flatMap (ext lt z sets)=ch sets (k + 2)
 | [],_,_,k=>rfl
 | x::xs,hp,irr,k=>by
  obtain⟨hx,hp'⟩:=a9.mp hp;have out:∀ s:List α,s≠[]->(∀ o∈s,o∈xs)->ext lt z (x::xs) s=ext lt z xs s:=fun s hs hm=>by
   unfold ext;rw[cz,(hx _ (hm _ (getLastD_mem hs))).2]
   rfl
  have tail:(ch xs (k + 1)).flatMap (ext lt z (x::xs))=ch xs (k + 2):=by
   rw[<- ch_ext hp' irr k];refine fm_congr fun s hs=>?_;obtain⟨h1,h2⟩:=ch_mem hs;exact out s (by rintro rfl;simp at h1) fun o ho=>h2.subset ho
  rw[ch_cons,ic,tail,ch_cons (n:=k + 1)]
  congr 1
  cases k with
  | zero =>
   rw[ch_zero,ch_one];simp only[aY,da,cq,List.flatMap_nil,bI];unfold ext;have e:([x]:List α).getLastD z=x:=rfl;rw[e,cz,irr x];simp only[aF,if_false];rw[ie.mpr fun o ho=>(hx o ho).1,cf]
   rfl
  | succ k =>
   rw[<- ch_ext hp' irr k,List.flatMap_map,List.map_flatMap];refine fm_congr fun s hs=>?_;obtain⟨h1,h2⟩:=ch_mem hs;have hne:s≠[]:=by rintro rfl;simp at h1
   unfold ext;rw[getLastD_cons' hne,cz,(hx _ (h2.subset (getLastD_mem hne))).2];simp only[aF,if_false,cf]
   rfl
theorem sub_flatMap {β:Type} {f:α->List β}:∀ {l m:List α},l.Sublist m->(l.flatMap f).Sublist (m.flatMap f)
 | _,_,.slnil=>.slnil
 | _,_,.cons a h=>by rw[cq];exact(sub_flatMap h).trans (dl _ _)
 | _,_,.cons_cons a h=>by rw[cq,cq];exact(eJ _).append (sub_flatMap h)
def flw (lt:α->α->Bool) (z:α) (ok:List α->Bool) (sets:List α):Nat->List (List α)
 | 0=>ch sets 2
 | j + 1=>((flw lt z ok sets j).flatMap (ext lt z sets)).filter ok
theorem flw_sub {lt:α->α->Bool} {z:α} {ok:List α->Bool} {sets:List α} (hp:sets.Pairwise (fun a b=>lt a b=true/\lt b a=false)) (irr:∀ a,lt a a=false):∀ j,(flw lt z ok sets j).Sublist (ch sets (j + 2))
 | 0=>eJ _
 | j + 1=>by
  refine(ig ..).trans ?_;rw[<- ch_ext (z:=z) hp irr (j + 1)];exact sub_flatMap (flw_sub hp irr j)
theorem filter_flatMap {β:Type} {f:α->List β} {q:β->Bool}:∀ l:List α,(l.flatMap f).filter q=l.flatMap fun a=>(f a).filter q
 | []=>rfl
 | a::l=>by rw[cq,cq,iS,filter_flatMap l]
theorem flw_eq {lt:α->α->Bool} {z:α} {ok:List α->Bool} {sets:List α} (hp:sets.Pairwise (fun a b=>lt a b=true/\lt b a=false)) (irr:∀ a,lt a a=false) (h2:∀ s∈ch sets 2,ok s=true)
  (pre:∀ s o,2<=s.length->(s++[o]).Sublist sets->ok (s++[o])=true->ok s=true):∀ j,flw lt z ok sets j=(ch sets (j + 2)).filter ok
 | 0=>(ie.mpr h2).symm
 | j + 1=>by
  show((flw lt z ok sets j).flatMap (ext lt z sets)).filter ok=_;rw[flw_eq hp irr h2 pre j,<- ch_ext (z:=z) hp irr (j + 1),filter_flatMap,filter_flatMap];have key:∀ l:List (List α),(∀ s∈l,s∈ch sets (j + 2))->(l.filter ok).flatMap (fun a=>(ext lt z sets a).filter ok)=l.flatMap fun a=>(ext lt z sets a).filter ok:=fun l=>by
   induction l with
   | nil=>intro _;rfl
   | cons s l ih =>
    intro h;rw[cz,cq];cases hs:ok s with
    | true=>rw[if_pos rfl,cq,ih fun t ht=>h t (aq _ ht)]
    | false =>
     rw[if_neg (by simp),ih fun t ht=>h t (aq _ ht)]
     have:(ext lt z sets s).filter ok=[]:=by
      rw[dg];intro t ht;unfold ext at ht;rw[b4] at ht;obtain⟨o,ho,rfl⟩:=ht;intro hk;have hmem:s++[o]∈ch sets (j + 3):=by
       rw[<- ch_ext (z:=z) hp irr (j + 1),List.mem_flatMap];exact⟨s,h s am,by unfold ext;rw[b4];exact⟨o,ho,rfl⟩⟩
      have:=pre s o (by rw[(ch_mem (h s am)).1];lia) (ch_mem hmem).2 hk
      rw[hs] at this;cases this
     rw[this,bQ]
  exact key _ fun s hs=>hs
end Toy
namespace Toy
variable {β:Type} [DecidableEq β]
def Sun (s:List (List β)):Prop:=s.Pairwise fun a b=>∀ n,n∈a->n∈b->∀ o∈s,n∈o
def naG (s:List (List β)):List β:=(s.headD []).filter fun n=>s.all fun o=>decide (n∈o)
def lfG (s:List (List β)):List β:=s.flatMap fun o=>o.filter fun d=>!decide (d∈naG s)
def coG (s:List (List β)):Option (List β):=if s.length < 2\/¬ s.Nodup then none else if (lfG s).Nodup then some (naG s) else none
theorem mem_na {s:List (List β)} (hs:s≠[]) {n:β}:n∈naG s↔∀ o∈s,n∈o:=by
 unfold naG;rw[bP,bn];simp only[decide_eq_true_eq];refine⟨fun h=>h.2,fun h=>⟨?_,h⟩⟩;cases s with
 | nil=>exact absurd rfl hs
 | cons a s=>exact h a am
theorem lf_nodup {s:List (List β)} (hs:s≠[]) (hn:∀ o∈s,o.Nodup):(lfG s).Nodup↔Sun s:=by
 unfold lfG Sun List.Nodup;rw[List.pairwise_flatMap];refine⟨fun h=>h.2.imp_of_mem ?_,fun h=>⟨fun o ho=>(hn o ho).filter _,h.imp_of_mem ?_⟩⟩
 ·intro a b ha hb hab n na nb;refine aX fun hc=>?_;have hnn:n∉naG s:=fun z=>hc ((mem_na hs).mp z);exact hab n (bP.mpr ⟨na,by simp[hnn]⟩) n (bP.mpr ⟨nb,by simp[hnn]⟩) rfl
 ·intro a b ha hb hab x hx y hy e;subst e;obtain⟨x1,x2⟩:=bP.mp hx;obtain⟨y1,_⟩:=bP.mp hy
  have:x∉naG s:=by simpa using x2
  exact this ((mem_na hs).mpr (hab x x1 y1))
theorem co_some {s:List (List β)} (hn:∀ o∈s,o.Nodup):(coG s).isSome=true↔2<=s.length/\s.Nodup/\Sun s:=by
 unfold coG
 by_cases h:s.length < 2\/¬ s.Nodup
 ·rw[if_pos h];simp only[Option.isSome_none,aF,false_iff];rintro⟨h1,h2,_⟩;rcases h with h | h
  ·lia
  ·exact h h2
 ·rw[if_neg h];have h2:¬ s.length < 2:=fun z=>h (.inl z);have nd:s.Nodup:=Classical.not_not.mp fun z=>h (.inr z);have hs:s≠[]:=by rintro rfl;simp at h2
  have hi:=lf_nodup hs hn
  by_cases hl:(lfG s).Nodup
  ·rw[if_pos hl];simp only[Option.isSome_some,true_iff];exact⟨by lia,nd,hi.mp hl⟩
  ·rw[if_neg hl];simp only[Option.isSome_none,aF,false_iff];rintro⟨_,_,h3⟩;exact hl (hi.mpr h3)
theorem sun_pre {s:List (List β)} {o:List β} (h:Sun (s++[o])):Sun s:=by
 unfold Sun at h ⊢;exact(eF.mp h).1.imp fun hab n na nb p hp=>hab n na nb p (bd _ hp)
theorem sorted_eq {lt:β->β->Prop} (irr:∀ a,¬ lt a a) (asy:∀ a b,lt a b->¬ lt b a):∀ {l m:List β},l.Pairwise lt->m.Pairwise lt->(∀ n,n∈l↔n∈m)->l=m
 | [],[],_,_,_=>rfl
 | [],b::m,_,_,h=>by have:=(h b).mpr am;simp at this
 | a::l,[],_,_,h=>by have:=(h a).mp am;simp at this
 | a::l,b::m,hl,hm,h=>by
  obtain⟨la,hl'⟩:=a9.mp hl;obtain⟨mb,hm'⟩:=a9.mp hm;have e:a=b:=by
   rcases aA.mp ((h a).mp am) with z | z
   ·exact z
   ·rcases aA.mp ((h b).mpr am) with y | y
    ·exact y.symm
    ·exact absurd (mb a z) (asy _ _ (la b y))
  subst e
  congr 1
  refine sorted_eq irr asy hl' hm' fun n=>⟨fun hn=>?_,fun hn=>?_⟩
  ·rcases aA.mp ((h n).mp (aq _ hn)) with z | z
   ·subst z;exact absurd (la n hn) (irr n)
   ·exact z
  ·rcases aA.mp ((h n).mpr (aq _ hn)) with z | z
   ·subst z;exact absurd (mb n hn) (irr n)
   ·exact z
def meG (a b:List β):List β:=a.filter fun n=>decide (n∈b)
theorem mem_me {a b:List β} {n:β}:n∈meG a b↔n∈a/\n∈b:=by unfold meG;rw[bP];simp
def laG (s:List (List β)):Option (List β):=match s with
 | a::b::_=>if s.Pairwise fun other one=>meG one other=meG a b then some (meG a b) else none
 | _=>none
theorem la_co {lt:β->β->Prop} (irr:∀ a,¬ lt a a) (asy:∀ a b,lt a b->¬ lt b a) {s:List (List β)} (h2:2<=s.length) (nd:s.Nodup) (hs:∀ o∈s,o.Pairwise lt):laG s=coG s:=by
 classical
 have hne:s≠[]:=by rintro rfl;simp at h2
 have hnd:∀ o∈s,o.Nodup:=fun o ho=>(hs o ho).imp (fun {x y} (h:lt x y) (e:x=y)=>irr y (e ▸ h));obtain⟨a,b,r,rfl⟩:∃ a b r,s=a::b::r:=by
  match s,h2 with
  | a::b::r,_=>exact⟨a,b,r,rfl⟩
 have hs1:∀ x∈a::b::r,∀ y,(meG x y).Pairwise lt:=fun x hx y=>(hs x hx).filter _;have hco:coG (a::b::r)=if Sun (a::b::r) then some (naG (a::b::r)) else none:=by
  unfold coG;have hno:¬ ((a::b::r).length < 2\/¬ (a::b::r).Nodup):=fun z=>z.elim (fun z=>by simp only[aE] at z;lia) fun z=>z nd
  rw[if_neg hno]
  have:=lf_nodup hne hnd
  by_cases h:Sun (a::b::r)
  ·rw[if_pos h,if_pos (this.mpr h)]
  ·rw[if_neg h,if_neg fun z=>h (this.mp z)]
 rw[hco];show(if (a::b::r).Pairwise (fun other one=>meG one other=meG a b) then some (meG a b) else none)=_
 have hab:Sun (a::b::r)->meG a b=naG (a::b::r):=fun h=>by
  refine sorted_eq irr asy (hs1 a am b) ((hs a am).filter _) fun n=>?_;rw[mem_me,mem_na hne];refine⟨fun⟨na,nb⟩=>(a9.mp h).1 b am n na nb,fun z=>⟨z a am,z b (aq _ am)⟩⟩
 have iff:(a::b::r).Pairwise (fun other one=>meG one other=meG a b)↔Sun (a::b::r):=by
  constructor
  ·intro h;refine h.imp_of_mem fun {x y} hx hy hxy n nx ny o ho=>?_;have hn:n∈meG a b:=hxy ▸ mem_me.mpr ⟨ny,nx⟩;have all:∀ u∈a::b::r,∀ v∈a::b::r,u≠v->n∈u/\n∈v:=by
    have sym:∀ {l:List (List β)},l.Pairwise (fun other one=>meG one other=meG a b)->∀ u∈l,∀ v∈l,u≠v->n∈u/\n∈v:=by
     intro l hl
     induction hl with
     | nil=>intro u hu;cases hu
     | @cons p l hp _ ih =>
      intro u hu v hv hne;rcases aA.mp hu with eu | hu' <;> rcases aA.mp hv with ev | hv'
      ·exact absurd (eu.trans ev.symm) hne
      ·have:=mem_me.mp ((hp v hv').symm ▸ hn);rw[eu];exact⟨this.2,this.1⟩
      ·have:=mem_me.mp ((hp u hu').symm ▸ hn);rw[ev];exact this
      ·exact ih u hu' v hv' hne
    exact sym h
   have nab:a≠b:=fun e=>(bX.mp nd).1 (e ▸ am)
   by_cases hoa:o=a
   ·rw[hoa];exact(mem_me.mp hn).1
   ·exact(all o ho a am hoa).1
  ·intro h;refine h.imp_of_mem fun {x y} hx hy hxy=>?_;refine sorted_eq irr asy (hs1 y hy x) (hs1 a am b) fun n=>?_;rw[mem_me,hab h,mem_na hne];exact⟨fun⟨ny,nx⟩=>hxy n nx ny,fun z=>⟨z y hy,z x hx⟩⟩
 by_cases h:Sun (a::b::r)
 ·rw[if_pos h,if_pos (iff.mpr h),hab h]
 ·rw[if_neg h,if_neg fun z=>h (iff.mp z)]
end Toy
namespace Toy
variable {α β:Type}
theorem ch_map (f:α->β):∀ (l:List α) (k:Nat),ch (l.map f) k=(ch l k).map fun s=>s.map f
 | [],0=>rfl
 | [],k + 1=>rfl
 | x::l,0=>by rw[ch_zero,ch_zero];rfl
 | x::l,k + 1=>by
  rw[aY,ch_cons,ch_cons,ch_map f l k,ch_map f l (k + 1),aN,cf,cf]
  rfl
end Toy
set_option maxHeartbeats 1000000
namespace L2
open PySem
abbrev Srt (t:List Str):Prop:=t.Pairwise fun a b=>HT.ltS a b=true
abbrev SrtT (ts:List (List Str)):Prop:=ts.Pairwise fun a b=>HT.lexS a b=true
theorem Srt.ext {l m:List Str} (hl:Srt l) (hm:Srt m) (h:∀ n,n∈l↔n∈m):l=m :=
 Toy.sorted_eq (lt:=fun a b=>HT.ltS a b=true) (fun a=>by rw[HT.ltS_ir];simp) (fun a b h=>by rw[HT.ltS_as h];simp) hl hm h
theorem SrtT.ext {l m:List (List Str)} (hl:SrtT l) (hm:SrtT m) (h:∀ n,n∈l↔n∈m):l=m :=
 Toy.sorted_eq (lt:=fun a b=>HT.lexS a b=true) (fun a=>by rw[lexS_irr];simp) (fun a b h=>by rw[HT.lexS_as h];simp) hl hm h
theorem Srt.nodup {t:List Str} (h:Srt t):t.Nodup:=h.imp fun {a b} h e=>by subst e;rw[HT.ltS_ir] at h;cases h
theorem SrtT.nodup {t:List (List Str)} (h:SrtT t):t.Nodup:=h.imp fun {a b} h e=>by subst e;rw[lexS_irr] at h;cases h
theorem srt_of {t:List Str} (nd:t.Nodup) (h:t.Pairwise fun x y=>leS x y=true):Srt t:=by
 induction t with
 | nil=>exact .nil
 | cons a t ih =>
  rw[a9] at h;rw[bX] at nd;refine a9.mpr ⟨fun b hb=>?_,ih nd.2 h.2⟩
  have:=h.1 b hb
  unfold leS at this;rw[dM] at this;exact HT.ltS_tot this fun e=>nd.1 (by rw[<- e];exact hb)
theorem srtT_of {t:List (List Str)} (nd:t.Nodup) (h:t.Pairwise fun x y=>leT x y=true):SrtT t:=by
 induction t with
 | nil=>exact .nil
 | cons a t ih =>
  rw[a9] at h;rw[bX] at nd;refine a9.mpr ⟨fun b hb=>?_,ih nd.2 h.2⟩
  have:=h.1 b hb
  unfold leT at this;rw[dM] at this;exact HT.lexS_tot this fun e=>nd.1 (by rw[<- e];exact hb)
theorem srS_srt {l:List Str} (nd:l.Nodup):Srt (srS l):=srt_of ((srS_perm l).nodup_iff.mpr nd) (srS_pw l)
theorem srT_srt {l:List (List Str)} (nd:l.Nodup):SrtT (srT l):=srtT_of ((srT_perm l).nodup_iff.mpr nd) (srT_pw l)
theorem mem_srS {l:List Str} {x:Str}:x∈srS l↔x∈l:=(srS_perm l).mem_iff
theorem mem_srT {l:List (List Str)} {x:List Str}:x∈srT l↔x∈l:=(srT_perm l).mem_iff
def dd {α:Type} [DecidableEq α]:List α->List α
 | []=>[]
 | x::xs=>if x∈xs then dd xs else x::dd xs
theorem mem_dd {α:Type} [DecidableEq α] {x:α}:∀ {l:List α},x∈dd l↔x∈l
 | []=>Iff.rfl
 | y::l=>by
  unfold dd
  split
  ·next h =>
   rw[mem_dd,aA];exact⟨.inr,fun z=>z.elim (fun e=>by rw[e];exact h) id⟩
  ·rw[aA,aA,mem_dd]
theorem nodup_dd {α:Type} [DecidableEq α]:∀ l:List α,(dd l).Nodup
 | []=>fF
 | y::l=>by
  unfold dd
  split
  ·exact nodup_dd l
  ·next h=>exact bX.mpr ⟨fun z=>h (mem_dd.mp z),nodup_dd l⟩
def nms (ts:List (List Str)):List Str:=srS (dd ts.flatten)
theorem nms_srt (ts:List (List Str)):Srt (nms ts):=srS_srt (nodup_dd _)
theorem mem_nms {ts:List (List Str)} {x:Str}:x∈nms ts↔∃ t∈ts,x∈t:=by
 unfold nms;rw[mem_srS,mem_dd,List.mem_flatten]
def wo {α:Type} [DecidableEq α] (one row:List α):List α:=one.filter fun d=>!decide (d∈row)
end L2
set_option maxHeartbeats 4000000
namespace L2
open PySem
structure Enc (α:Type) where
 e:α->D
 inj:∀ {x y},e x=e y->x=y
 pl:∀ x,plain (e x)=true
 dep:Nat
 ok:∀ n x y,dep<=n->okE n (e x) (e y)=true
 lt:α->α->Bool
 okl:∀ n x y,dep<=n->okL n (e x) (e y)=true
 lte:∀ n x y,dep<=n->ltN n (e x) (e y)=lt x y
def lexG {α:Type} [DecidableEq α] (lt:α->α->Bool):List α->List α->Bool
 | [],[]=>false
 | [],_::_=>true
 | _::_,[]=>false
 | x::xs,y::ys=>if x=y then lexG lt xs ys else lt x y
def strE:Enc Str where
 e:=D.str
 inj:=fun h=>by injection h
 pl:=fun _=>rfl
 dep:=0
 ok:=fun n x y _=>by cases n <;> rfl
 lt:=HT.ltS
 okl:=fun n x y _=>by cases n <;> rfl
 lte:=fun n x y _=>by cases n <;> rfl
def tupE {α:Type} [DecidableEq α] (E:Enc α):Enc (List α) where
 e:=fun l=>.tup (l.map E.e)
 inj:=fun {x y} h=>by
  injection h with h
  exact map_inj (fun a b e=>E.inj e) h
 pl:=fun l=>by
  show plains (l.map E.e)=true
  induction l with
  | nil=>rfl
  | cons x l ih=>show(plain (E.e x) && plains (l.map E.e))=true;rw[E.pl,ih];rfl
 dep:=E.dep + 1
 ok:=fun n x y h=>by
  obtain⟨m,rfl⟩:∃ m,n=m + 1:=⟨n - 1,by lia⟩
  show((x.map E.e).zip (y.map E.e)).all (fun p=>okE m p.1 p.2)=true;rw[List.zip_map,eZ,bn];exact fun p _=>E.ok m p.1 p.2 (by lia)
 lt:=lexG E.lt
 okl:=fun n x y h=>by
  obtain⟨m,rfl⟩:∃ m,n=m + 1:=⟨n - 1,by lia⟩
  show okLs (okL m) m (x.map E.e) (y.map E.e)=true
  induction x generalizing y with
  | nil=>cases y <;> rfl
  | cons a x ih =>
   cases y with
   | nil=>rfl
   | cons b y =>
    show(okE m (E.e a) (E.e b) && (if E.e a=E.e b then okLs (okL m) m (x.map E.e) (y.map E.e) else okL m (E.e a) (E.e b)))=true
    rw[E.ok m a b (by lia),gW]
    split
    ·exact ih y
    ·exact E.okl m a b (by lia)
 lte:=fun n x y h=>by
  obtain⟨m,rfl⟩:∃ m,n=m + 1:=⟨n - 1,by lia⟩
  show lexN (ltN m) (x.map E.e) (y.map E.e)=lexG E.lt x y
  induction x generalizing y with
  | nil=>cases y <;> rfl
  | cons a x ih =>
   cases y with
   | nil=>rfl
   | cons b y =>
    show(if E.e a=E.e b then lexN (ltN m) (x.map E.e) (y.map E.e) else ltN m (E.e a) (E.e b))=if a=b then lexG E.lt x y else E.lt a b
    by_cases hab:a=b
    ·subst hab;rw[if_pos rfl,if_pos rfl];exact ih y
    ·rw[if_neg fun z=>hab (E.inj z),if_neg hab];exact E.lte m a b (by lia)
theorem lexG_S:lexG HT.ltS=HT.lexS:=by
 funext x y
 induction x generalizing y with
 | nil=>cases y <;> rfl
 | cons a x ih =>
  cases y with
  | nil=>rfl
  | cons b y =>
   show(if a=b then lexG HT.ltS x y else HT.ltS a b)=if a=b then HT.lexS x y else HT.ltS a b
   rw[ih]
abbrev setE:Enc (List Str):=tupE strE
abbrev flE:Enc (List (List Str)):=tupE setE
theorem setE_lt:setE.lt=HT.lexS:=lexG_S
section
variable {α:Type} [DecidableEq α] {E:Enc α}
theorem plains_e:∀ l:List α,plains (l.map E.e)=true
 | []=>rfl
 | x::l=>by show(plain (E.e x) && plains (l.map E.e))=true;rw[E.pl,plains_e l];rfl
theorem mem_e {x:α} {l:List α}:E.e x∈l.map E.e↔x∈l:=by
 rw[b4];exact⟨fun⟨y,h,e⟩=>by rw[<- E.inj e];exact h,fun h=>⟨x,h,rfl⟩⟩
theorem in_e {neg:Bool} {x:α} {l:List α} [dm:Decidable (x∈l)] {d:D} {S:Sto} {Q:DK} (hE:E.dep<=8) (hd:sqIs S d (l.map E.e)) (q:Q (.bl (if neg then !decide (x∈l) else decide (x∈l))) S):inD neg (E.e x) d S Q:=by
 refine⟨l.map E.e,hd,plains_e l,by rw[eZ,bn];exact fun y _=>E.ok 8 y x hE,?_⟩
 rw[decide_eq_decide.mpr (mem_e (E:=E) (x:=x) (l:=l))];exact q
theorem eq_e {neg:Bool} {x y:α} [dm:Decidable (x=y)] {S:Sto} {Q:DK} (hE:E.dep<=9) (q:Q (.bl (if neg then !decide (x=y) else decide (x=y))) S):eqD neg (E.e x) (E.e y) S Q:=by
 have key:okE 9 (E.e x) (E.e y)=true/\Q (.bl (if neg then !decide (E.e x=E.e y) else decide (E.e x=E.e y))) S:=by
  refine⟨E.ok 9 x y hE,?_⟩;rw[show decide (E.e x=E.e y)=decide (x=y) from decide_eq_decide.mpr ⟨fun e=>E.inj e,fun e=>by rw[e]⟩]
  exact q
 have px:=E.pl x;generalize E.e x=d at key px;generalize E.e y=e at key;unfold eqD;cases d <;> first | (cases px;done) | exact key
theorem in_t {neg:Bool} {x:α} {l:List α} [dm:Decidable (x∈l)] {d:D} {S:Sto} {Q:Bool->Sto->Prop} (hE:E.dep<=8) (hd:sqIs S d (l.map E.e)) (q:Q (if neg then !decide (x∈l) else decide (x∈l)) S):inD neg (E.e x) d S (fun d S1=>∃ b,d=.bl b/\Q b S1):=in_e hE hd ⟨_,rfl,q⟩
end
def fzIs (d:D) (xs:List D):Prop:=d=.tup xs\/d=.lst xs
theorem fzIs.sq {S:Sto} {d:D} {xs:List D} (h:fzIs d xs):sqIs S d xs:=by rcases h with rfl | rfl <;> rfl
end L2
namespace Toy
open PySem L2
def opD:Option (List Str)->D
 | none=>.non
 | some t=>tupS t
def sp_without_names:SpD:=fun ds S Q=>∃ (α:Type) (_:DecidableEq α) (E:Enc α) (one row:List α) (d1 d2:D),ds=[d1,d2]/\E.dep<=4/\fzIs d1 (one.map E.e)/\fzIs d2 (row.map E.e)/\one.length<=9999/\Q (.tup ((wo one row).map E.e)) S
end Toy
namespace L2
open PySem
def lastOf (t:List Str):Str:=t.getLastD ⟨#[]⟩
def emptyS:Str:=aM ""
theorem allOk_e {α:Type} [DecidableEq α] {E:Enc α} (hE:E.dep<=8) (l:List α):allOk (l.map E.e):=fun a ha b hb=>by
 obtain⟨x,_,rfl⟩:=b4.mp ha;obtain⟨y,_,rfl⟩:=b4.mp hb;exact E.okl 8 x y hE
theorem at_last {α:Type} {xs:List α} (h:xs≠[]) (z:α):atI xs (-1)=some (xs.getLastD z):=by
 rw[at_m1 xs h];cases xs with
 | nil=>exact absurd rfl h
 | cons x xs=>rw[iR,List.getLast_eq_getLastD]
theorem okS (x:Str) (t:List Str):((t.map D.str).all fun y=>okE 8 y (.str x))=true:=by rw[eZ,bn];exact fun x _=>rfl
theorem mem_strs {x:Str} {l:List Str}:D.str x∈l.map D.str↔x∈l:=mem_e (E:=strE)
theorem lt_empty {x:Str} (h:1<=x.length):HT.ltS emptyS x=true:=by
 unfold HT.ltS;refine decide_eq_true ?_;obtain⟨⟨l⟩⟩:=x;cases l with
 | nil=>exact absurd h (by decide)
 | cons c l =>
  show([]:List Nat) < c::l;exact List.nil_lt_cons _ _
end L2
namespace Toy
open PySem L2
structure CollB (most:Nat) (ts:List (List Str)):Prop where
 srt:SrtT ts
 each:∀ t∈ts,Srt t/\t.length<=6
 len:ts.length<=most
 nms:(nms ts).length<=12
 ne:∀ x∈L2.nms ts,HT.ltS emptyS x=true
end Toy
namespace L2
open PySem
end L2
namespace Toy
open PySem L2
def DeckC (S:Sto) (a c:Addr):Prop:=∃ (cs:List Int) (n sd:Int),S a=some (.lst [.ref c,.int n,.int sd])/\S c=some (.lst (cs.map D.int))/\a≠c/\cs≠[]/\cs.length<=64
theorem DeckC.ne {S:Sto} {a c p:Addr} (h:DeckC S a c) (hp:S p=none):p≠a/\p≠c:=by
 refine hd fun Gq kq=>?_;obtain⟨cs,n,sd,h1,h2,_⟩:=h;refine kq ?_;refine⟨fun e=>?_,fun e=>?_⟩
 ·rw[e,h1] at hp;cases hp
 ·rw[e,h2] at hp;cases hp
theorem DeckC.eq {S S':Sto} {a c:Addr} (h:DeckC S a c) (e1:S' a=S a) (e2:S' c=S c):DeckC S' a c:=by
 refine hd fun Gq kq=>?_;obtain⟨cs,n,sd,h1,h2,h⟩:=h;refine kq ?_;exact⟨cs,n,sd,e1.trans h1,e2.trans h2,h⟩
theorem DeckC.supd {S:Sto} {a c p:Addr} {o:DO} (h:DeckC S a c) (h1:p≠a) (h2:p≠c):DeckC (L2.supd S p o) a c:=h.eq (supd_ne (aZ h1)) (supd_ne (aZ h2))
def Off2 (a c:Addr) (S S':Sto):Prop:=∀ b,b≠a->b≠c->S' b=S b
theorem Off2.trans {a c:Addr} {S S1 S2:Sto} (h:Off2 a c S S1) (h':Off2 a c S1 S2):Off2 a c S S2:=fun b h1 h2=>(h' b h1 h2).trans (h b h1 h2)
def spc_deck:SpD:=fun ds S Q=>∃ ns:List Int,ds=[.lst (ns.map D.int)]/\ns.length<=63/\∀ a c S',S a=none->S c=none->Off2 a c S S'->DeckC S' a c->Q (.ref a) S'
def spc_take:SpD:=fun ds S Q=>∃ (a c:Addr) (m:Int),ds=[.ref a,.int m]/\DeckC S a c/\1<=m/\m < 1000000/\∀ (r:Int) S',0<=r->r < m->Off2 a c S S'->DeckC S' a c->Q (.int r) S'
def Nm (w:Str):Prop:=1<=w.length/\w.length<=8/\∀ x∈w.cps.toList,97<=x/\x<=122
def spc_names:SpD:=fun ds S Q=>∃ (a c:Addr) (many:Nat),ds=[.ref a,.int many]/\DeckC S a c/\many<=12/\∀ (names:List Str) S',names.Nodup->names.length=many->(∀ n∈names,Nm n)->Off2 a c S S'->DeckC S' a c->Q (.lst (names.map D.str)) S'
def spc_shuffled:SpD:=fun ds S Q=>∃ (a c:Addr) (d:D) (xs:List D),ds=[.ref a,d]/\fzIs d xs/\DeckC S a c/\xs.length<=99/\∀ (p:Addr) (ys:List D) S',ys.Perm xs->S p=none->S' p=some (.lst ys)->(∀ b,b≠a->b≠c->b≠p->S' b=S b)->DeckC S' a c->Q (.ref p) S'
theorem ixN_nat {n k:Nat} (h:k < n):ixN n (k:Int)=some k:=by
 unfold ixN;simp;lia
theorem pop_c {a c lp:Addr} (hla:lp≠a) (hlc:lp≠c) {S:Sto} {xs:List D} {m:Nat} (hS:S lp=some (.lst xs)) (hm:m<=xs.length) (hx:xs.length<=9999) (dk:DeckC S a c) {Q:List D->Sto->Prop}
  (q:∀ vs us S',(vs++us).Perm xs->vs.length=m->S' lp=some (.lst us)->DeckC S' a c->(∀ b,b≠a->b≠c->b≠lp->S' b=S b)->Q vs S') :
  loopD (gdName 0) dYes (emitD (dMt popAtD ckL (dVar 1) (dCons (dCB spc_take (dCons (dVar 2) (dCons (dCB lenD (dCons (dVar 1) dNil)) dNil))) dNil))) (fun _=>True) [none,some (.ref lp),some (.ref a)] (rngD 0 m) [] S Q:=by
 refine loop_ind (fun i acc S'=>∃ us:List D,acc.length=i/\S' lp=some (.lst us)/\(acc++us).Perm xs/\DeckC S' a c/\∀ b,b≠a->b≠c->b≠lp->S' b=S b) ⟨xs,rfl,hS,.refl _,dk,fun _ _ _ _=>rfl⟩ ?_ ?_
 ·intro i x vs S' N hx' zq hN;refine hd fun Gq kq=>?_;obtain⟨us,hvl,hl,pm,dk',off'⟩:=zq;refine kq ?_;obtain⟨hi,rfl⟩:=rng_at hx';have hul:us.length + i=xs.length:=by have:=pm.length_eq;rw[av] at this;lia
  refine⟨trivial,⟨_,hl⟩,_,hl,a,c,us.length,rfl,dk',by lia,by lia,fun r2 S2 r20 r21 off2 dk2=>?_⟩
  have hl2:S2 lp=some (.lst us):=(off2 lp hla hlc).trans hl;obtain⟨j,rfl⟩:∃ j:Nat,r2=j:=⟨r2.toNat,by lia⟩
  have hj:j < us.length:=by lia
  refine⟨_,j,us[j],hl2,rfl,by lia,ag hj,by rw[bu];lia,hN _ _ ⟨us.eraseIdx j,?_,supd_same,?_,dk2.supd hla hlc,fun b h1 h2 h3=>(supd_ne h3).trans ((off2 b h1 h2).trans (off' b h1 h2 h3))⟩⟩
  ·rw[av,hvl];rfl
  ·refine j4 ?_ pm;rw[bG];exact(iZ vs).mpr (erase_perm' us j hj)
 ·intro vs S' zq;refine hd fun Gq kq=>?_;obtain⟨us,hvl,hl,pm,dk',off'⟩:=zq;refine kq ?_;rw[rngD_len] at hvl;exact⟨trivial,q vs us S' pm hvl hl dk' off'⟩
def w14L:List Str:=["a", "b", "ab", "ba", "aa", "bb", "aab", "abb", "aba", "bab", "baa", "bba", "aaa", "bbb"]
theorem w14L_nd:w14L.Nodup:=by decide +kernel
theorem w14L_nm:∀ w∈w14L,Nm w:=by unfold Nm;decide +kernel
theorem nm_app {w:Str} {k:Nat} (h:∀ x∈w.cps.toList,97<=x/\x<=122) (hk:k < 26):∀ x∈(w++(⟨#[97 + k]⟩:Str)).cps.toList,97<=x/\x<=122:=fun x hx=>by
 have e:(w++(⟨#[97 + k]⟩:Str)).cps.toList=w.cps.toList++[97 + k]:=by
  show(w.cps++#[97 + k]).toList=_;rw[Array.toList_append]
 rw[e] at hx;rcases aU.mp hx with z | z
 ·exact h x z
 ·rw[az.mp z];lia
theorem nm_one {k:Nat} (hk:k < 26):Nm (⟨#[97 + k]⟩:Str):=⟨by show 1<=1;decide,by show 1<=8;decide,fun x hx=>by rw[az.mp (show x∈[97 + k] from hx)];lia⟩
theorem nm_cut {w:Str} (h1:1<=w.length) (h:∀ x∈w.cps.toList,97<=x/\x<=122):Nm (cutS w none (some 8)):=by
 have hl:w.cps.toList.length=w.length:=by show _=w.cps.size;simp
 have e8:HT.sIx w.length w.length (some (8:Int))=min 8 w.length:=HT.sIx_nat w.length w.length 8;have e:cutS w none (some 8)=⟨(w.cps.toList.take (min 8 w.length)).toArray⟩:=by
  rw[cutS_eq,HT.sIx_none,e8,fL,d6]
 rw[e];have ln:(⟨(w.cps.toList.take (min 8 w.length)).toArray⟩:Str).length=min 8 w.length:=by
  show(w.cps.toList.take (min 8 w.length)).toArray.size=_;rw[ak,bw,hl];lia
 exact⟨by rw[ln];lia,by rw[ln];lia,fun x hx=>h x (dF (by simpa using hx))⟩
def tw (i:Nat):Str:=(⟨#[97 + i]⟩:Str)++(⟨#[97]⟩:Str)
theorem tw_inj {i j:Nat} (h:tw i=tw j):i=j:=by
 have h2:#[97 + i]++#[97]=#[97 + j]++#[97]:=congrArg Str.cps h
 have:=congrArg Array.toList h2
 simp at this;lia
theorem tw_few {found:List Str} {t:Nat} (h:∀ i,i < t->tw i∈found):t<=found.length:=by
 have nd:((aP t).map tw).Nodup:=by
  unfold List.Nodup;rw[gu];refine(gv (n:=t)).imp fun {a b} hlt e=>?_
  have:=tw_inj e
  lia
 have:=nd.length_le_of_subset (l₂:=found) fun x hx=>by
  obtain⟨i,hi,rfl⟩:=b4.mp hx;exact h i (bj.mp hi)
 rwa [aj,eE] at this
def spc_set:SpD:=fun ds S Q=>∃ (a c:Addr) (d:D) (pool:List Str) (most:Nat),ds=[.ref a,d,.int most]/\fzIs d (pool.map D.str)/\DeckC S a c/\pool.Nodup/\pool.length<=24/\most<=24/\∀ t S',Srt t->(∀ n∈t,n∈pool)->t.length<=most->Off2 a c S S'->DeckC S' a c->Q (tupS t) S'
def SetIn (pool:List Str) (t:List Str):Prop:=Srt t/\(∀ n∈t,n∈pool)/\t.length<=6
def spc_planted:SpD:=fun ds S Q=>∃ (a c:Addr) (d:D) (pool:List Str),ds=[.ref a,d]/\fzIs d (pool.map D.str)/\DeckC S a c/\pool.Nodup/\pool.length<=12/\∀ p (ts:List (List Str)) S',S p=none->S' p=some (.lst (ts.map tupS))->(∀ t∈ts,SetIn pool t)->ts.length<=13->(∀ b,b≠a->b≠c->b≠p->S' b=S b)->DeckC S' a c->Q (.ref p) S'
structure CollC (most:Nat) (ts:List (List Str)):Prop extends CollB most ts where
 nm:∀ x∈L2.nms ts,Nm x
def spc_collection:SpD:=fun ds S Q=>∃ (a c:Addr) (most:Nat),ds=[.ref a,.int most]/\DeckC S a c/\most<=14/\∀ ts S',CollC most ts->Off2 a c S S'->DeckC S' a c->Q (.tup (ts.map tupS)) S'
theorem cutN (xs:List D) {i:Int} (h0:0<=i) (h:i.toNat<=xs.length):cutD xs none (some i)=xs.take i.toNat:=by
 have e:i=((i.toNat:Nat):Int):=by lia
 rw[e];show((xs.drop 0).take (HT.sIx xs.length xs.length (some ((i.toNat:Nat):Int)) - 0))=_;rw[HT.sIx_nat,hX h];rfl
theorem perm_strs {ys:List D} {xs:List Str} (h:ys.Perm (xs.map D.str)):∃ as:List Str,ys=as.map D.str/\as.Perm xs:=by
 obtain⟨as,bs,rfl,e,pn⟩:=perm_back (f:=D.str) dStr' (fun _=>rfl) (vs:=ys) (us:=[]) (by rw[bI];exact h)
 have:bs=[]:=by simpa using e.symm
 subst this;exact⟨as,rfl,by rwa [bI] at pn⟩
theorem pop_e {lp:Addr} {S:Sto} {xs:List D} {m:Nat} (hS:S lp=some (.lst xs)) (hm:m<=xs.length) (hx:xs.length<=9999) {Q:List D->Sto->Prop}
  (q:∀ vs us S',(vs++us).Perm xs->vs.length=m->S' lp=some (.lst us)->(∀ b,b≠lp->S' b=S b)->Q vs S') :
  loopD (gdName 0) dYes (emitD (dMt popD ckL (dVar 1) dNil)) (fun _=>True) [none,some (.ref lp)] (rngD 0 m) [] S Q:=by
 refine loop_ind (fun i acc S'=>∃ us:List D,acc.length=i/\S' lp=some (.lst us)/\(acc++us).Perm xs/\∀ b,b≠lp->S' b=S b) ⟨xs,rfl,hS,.refl _,fun _ _=>rfl⟩ ?_ ?_
 ·intro i x vs S' N hx' zq hN;refine hd fun Gq kq=>?_;obtain⟨us,hvl,hl,pm,off'⟩:=zq;refine kq ?_;obtain⟨hi,rfl⟩:=rng_at hx';have hul:us.length + i=xs.length:=by have:=pm.length_eq;rw[av] at this;lia
  have hne:us≠[]:=by rintro rfl;simp at hul;lia
  have hlast:us[us.length - 1]?=some (us.getLast hne):=by rw[jB,ag]
  refine⟨trivial,⟨_,hl⟩,_,_,hl,hlast,by rw[bu];lia,hN _ _ ⟨us.dropLast,by rw[av,hvl];rfl,supd_same,?_,fun b hb=>(supd_ne hb).trans (off' b hb)⟩⟩
  refine j4 ?_ pm;rw[bG];refine(iZ vs).mpr ?_;have e:=hZ hne
  have:(us.dropLast++[us.getLast hne]).Perm us:=by rw[e]
  exact j4 List.perm_append_comm this
 ·intro vs S' zq;refine hd fun Gq kq=>?_;obtain⟨us,hvl,hl,pm,off'⟩:=zq;refine kq ?_;rw[rngD_len] at hvl;exact⟨trivial,q vs us S' pm hvl hl off'⟩
theorem min2 (x y:Nat):∃ m:Nat,(fun i j:Int=>if j < i then j else i) (x:Int) (y:Int)=(m:Int)/\m<=x/\m<=y/\(m=x\/m=y):=by
 show ∃ m:Nat,(if (y:Int) < (x:Int) then (y:Int) else (x:Int))=(m:Int)/\_
 split
 ·exact⟨y,rfl,by lia,ar _,.inr rfl⟩
 ·exact⟨x,rfl,ar _,by lia,.inl rfl⟩
theorem setIn_of {pool t:List Str} (nd:t.Nodup) (h:∀ n∈t,n∈pool) (hl:t.length<=6):SetIn pool (srS t):=⟨srS_srt nd,fun n hn=>h n (mem_srS.mp hn),by rw[(srS_perm t).length_eq];exact hl⟩
end Toy
set_option maxHeartbeats 1000000
namespace Toy
open PySem L2
abbrev s_law_deck:Stmt:=top 15
theorem sc_law_deck:FnScope ["script", "cells", "seed", "k", "mixed"] ["script"] (defScope s_law_deck):=fsc
section
variable {P:aD} {w:aK} {K:ao} {mg:Str->Option ae} {base:aW} {pt cc cNoSet cKeptSets:Addr}
theorem ok_law_deck (T:Tx K mg "_law_deck" s_law_deck) (B:Bs mg):Df P w K mg base 1 "_law_deck" ["script"] (spU K spc_deck):=by
 refine e_def T sc_law_deck (fun F=>F.binds fun _ _ _ _ _ _=>us1 fun _=>rfl) ?_ fun f cdv A outer s H E hr=>⟨_,(dss_cons (ds_set (i:=1) sc_law_deck.nd rfl (aR rfl) (e_add (k:=true) (e_sl (b:=false) (dv 0) do_none (do_some e_int)) (e_lst (b:=false) (da_cons (e_len rfl B.len (da_cons (dv 0) da_nil)) da_nil))))
  (dss_cons (ds_set (i:=2) sc_law_deck.nd rfl (aR rfl) (e_mod (e_add (k:=false) (e_add (k:=false) (e_mul (e_sum rfl B.sum (da_cons (e_sl (b:=false) (dv 0) do_none (do_some e_int)) da_nil)) e_int) (e_mul e_int (e_len rfl B.len (da_cons (dv 0) da_nil)))) e_int) e_int))
  (dss_cut (ds_if (dt_eq hr (e_mod (e_sum rfl B.sum (da_cons (e_sl (b:=false) (dv 0) do_none (do_some e_int)) da_nil)) e_int) e_int) (dss_one (ds_for cK rfl (di_range1 rfl B.range (da_cons (e_len rfl B.len (da_cons (dv 1) da_nil)) da_nil)) (dg_name (i:=3) sc_law_deck.nd rfl (aR rfl)) (dss_cons (ds_set (i:=4) sc_law_deck.nd rfl (aR rfl) (e_mod (e_mul (e_add (k:=false) (e_add (k:=false) (e_mod (e_ix (dv 1) (dv 3)) e_int) (e_mul e_int (dv 3))) e_int) e_int) e_int))
  (dss_cons (ds_set (i:=4) sc_law_deck.nd rfl (aR rfl) (e_mod (e_mul (e_mod (e_add (k:=false) (e_mul (dv 4) (dv 4)) (e_mul e_int (dv 3))) e_int) e_int) e_int))
  (dss_one (ds_asg (e_add (k:=false) (e_mul (e_mul (dv 4) (dv 4)) e_int) (e_mod (e_mul (dv 4) e_int) e_int)) (dg_sub (dv 1) (dv 3)))))))) dss_nil)
  (dss_one (ds_ret (e_lst (b:=true) (da_cons (dv 1) (da_cons e_int (da_cons (dv 2) da_nil))))))))),?_⟩
 ·rintro ds S Q ⟨ns,rfl,_⟩;rfl
 ·rintro ds S Q ⟨ns,rfl,h63,q⟩;have hcut:cutD (ns.map D.int) none (some 63)=ns.map D.int:=by
   rw[cutD_map];have e:HT.sIx ns.length ns.length (some (63:Int))=ns.length:=(HT.sIx_nat ns.length ns.length 63).trans (by omega)
   rw[e,HT.sIx_none,fL,d6,d3]
  have hsum:∀ (P:Int->Prop),P ns.sum->∃ ns':List Int,lsIs S (.lst (cutD (ns.map D.int) none (some 63))) (ns'.map D.int)/\P ns'.sum:=fun P h=>⟨ns,hcut,h⟩;refine⟨63,rfl,_,rfl,_,rfl,z9999 (by show 1<=9999;decide),_,_,rfl,rfl,?_,fun cp hcp=>?_⟩
  ·rw[hcut,aj];exact z9999 (by show ns.length + 1<=9999;omega)
  have hcs:(cutD (ns.map D.int) none (some 63))++[D.int ((ns.map D.int).length:Int)]=(ns++[((ns.map D.int).length:Int)]).map D.int:=by rw[hcut,aN];rfl
  rw[hcs];have hcl:(ns++[((ns.map D.int).length:Int)]).length=ns.length + 1:=av;have hcne:ns++[((ns.map D.int).length:Int)]≠[]:=by simp
  generalize ns++[((ns.map D.int).length:Int)]=cs at hcl hcne;refine⟨63,rfl,_,rfl,ns,hcut,.inr ⟨by decide,by decide⟩,_,rfl,.inl ⟨by decide,by decide⟩,by show(0:Int) < 2147483647;decide,?_⟩
  refine⟨fun Γ' S'=>∃ (x3 x4:Option D) (cs':List Int) (sd:Int),Γ'=[some (.lst (ns.map D.int)),some (.ref cp),some (.int sd),x3,x4]/\S' cp=some (.lst (cs'.map D.int))/\cs'.length=cs.length/\∀ b,b≠cp->S' b=S b,⟨63,rfl,_,rfl,ns,hcut,by show(0:Int) < 2;decide,rfl,_,rfl,ite2 (fun _=>?_) fun _=>⟨none,none,cs,_,rfl,supd_same,rfl,fun b hb=>supd_ne hb⟩⟩,?_⟩
  ·refine⟨_,supd_same,⟨by omega,by rw[aj];omega⟩,?_⟩
   refine for_ind (fun i Γ S'=>∃ (x3 x4:Option D) (cs':List Int) (sd:Int),Γ=[some (.lst (ns.map D.int)),some (.ref cp),some (.int sd),x3,x4]/\S' cp=some (.lst (cs'.map D.int))/\cs'.length=cs.length/\∀ b,b≠cp->S' b=S b) ⟨none,none,cs,_,rfl,supd_same,rfl,fun b hb=>supd_ne hb⟩ ?_ ?_
   ·rintro i x Γ S' N hx ⟨x3,x4,cs',sd,rfl,h1,h2,off⟩ hN;obtain⟨hi,rfl⟩:=rng_at hx;have hi':i < cs'.length:=by rw[aj] at hi;omega
    have i64:i < 64:=by omega
    have hat:atI (cs'.map D.int) (i:Int)=some (.int cs'[i]):=atI_nat (by rw[bv,ag hi'];rfl)
    generalize cs'[i]=cell at hat
    have hix:ixN (cs'.map D.int).length (i:Int)=some i:=ixN_nat (by rw[aj];exact hi')
    have key:∀ v:Int,∃ cs2:List Int,(cs'.map D.int).set i (.int v)=cs2.map D.int/\cs2.length=cs'.length:=fun v=>⟨cs'.set i v,List.map_set.symm,fY⟩;refine⟨trivial,_,_,h1,hat,by show(0:Int) < 2147483587;decide,.inl ⟨by decide,by decide⟩,.inr ⟨by decide,by decide⟩,by show(0:Int) < 2147483629;decide,?_⟩
    refine⟨.inl ⟨by omega,by omega⟩,.inl ⟨by decide,by decide⟩,by show(0:Int) < 2147483563;decide,.inr ⟨by decide,by decide⟩,by show(0:Int) < 2147483549;decide,?_⟩
    refine⟨.inl ⟨by omega,by omega⟩,.inr ⟨by decide,by decide⟩,.inr ⟨by decide,by decide⟩,by show(0:Int) < 2147483579;decide,_,_,h1,hix,(key _).elim fun cs2 h=>hN _ _ ⟨_,_,cs2,sd,rfl,supd_same.trans (congrArg (fun z=>some (DO.lst z)) h.1),h.2.trans h2,fun b hb=>(supd_ne hb).trans (off b hb)⟩⟩
   ·rintro Γ S' ⟨x3,x4,cs',sd,rfl,h1,h2,off⟩;exact⟨trivial,x3,x4,cs',sd,rfl,h1,h2,off⟩
  rintro Γ' S' ⟨x3,x4,cs',sd,rfl,h1,h2,off⟩;refine⟨z9999 (by show 3<=9999;decide),fun ap hap=>rt_same (q ap cp _ ?_ hcp (fun b hb1 hb2=>(supd_ne hb1).trans (off b hb2)) ⟨cs',0,sd,supd_same,?_,?_,?_,by omega⟩)⟩
  ·have:ap≠cp:=by rintro rfl;rw[h1] at hap;cases hap
   rw[<- off ap this];exact hap
  ·rw[supd_ne (by rintro rfl;rw[h1] at hap;cases hap)];exact h1
  ·rintro rfl;rw[h1] at hap;cases hap
  ·rintro rfl;simp at h2;omega
end
abbrev s_law_take:Stmt:=top 16
theorem sc_law_take:FnScope ["deck", "many", "at", "cell", "one"] ["deck", "many"] (defScope s_law_take):=fsc
section
variable {P:aD} {w:aK} {K:ao} {mg:Str->Option ae} {base:aW} {pt cc cNoSet cKeptSets:Addr}
theorem ok_law_take (T:Tx K mg "_law_take" s_law_take) (B:Bs mg):Df P w K mg base 1 "_law_take" ["deck", "many"] (spU K spc_take):=by
 refine e_def T sc_law_take (fun F=>F.binds fun _ _ _ _ _ _=>us2 fun _ _=>rfl) ?_ fun f cdv A outer s H E hr=>⟨_,(dss_cons (ds_set (i:=2) sc_law_take.nd rfl (aR rfl) (e_mod (e_ix (dv 0) e_int) (e_len rfl B.len (da_cons (e_ix (dv 0) e_int) da_nil))))
  (dss_cons (ds_asg (e_add (k:=false) (e_ix (dv 0) e_int) e_int) (dg_sub (dv 0) e_int))
  (dss_cons (ds_set (i:=3) sc_law_take.nd rfl (aR rfl) (e_ix (e_ix (dv 0) e_int) (dv 2)))
  (dss_cut (ds_if (PWD.pt (dw_or (dt_eq hr (dv 3) e_int) (dw_or1 (dt_eq hr (dv 3) (e_neg e_int))))) (dss_cons (ds_set (i:=4) sc_law_take.nd rfl (aR rfl) (e_mod (e_mul (e_mod (e_add (k:=false) (e_ix (dv 0) e_int) (e_mul e_int (e_ix (dv 0) e_int))) e_int) e_int) e_int))
  (dss_cons (ds_set (i:=4) sc_law_take.nd rfl (aR rfl) (e_mod (e_mul (e_mod (e_add (k:=false) (e_mul (dv 4) (dv 4)) (e_mul e_int (e_ix (dv 0) e_int))) e_int) e_int) e_int))
  (dss_one (ds_ret (e_mod (e_fdiv (dv 4) e_int) (dv 1)))))) dss_nil)
  (dss_cons (ds_asg (e_fdiv (dv 3) (dv 1)) (dg_sub (e_ix (dv 0) e_int) (dv 2)))
  (dss_one (ds_ret (e_mod (dv 3) (dv 1))))))))),?_⟩
 ·rintro ds S Q ⟨a,c,m,rfl,_⟩;rfl
 ·rintro ds S Q ⟨a,c,m,rfl,⟨cs,n,sd,hS,hC,hac,hne,h64⟩,m1,m2,q⟩;have h1:1<=cs.length:=eQ.mpr hne;have hlen:((cs.map D.int).length:Int)=(cs.length:Int):=by rw[aj]
  have hm:=md (a:=n) (b:=(cs.length:Int)) (by omega)
  refine⟨_,_,hS,rfl,_,_,hS,rfl,_,hC,?_,?_⟩
  ·show(0:Int) < ((cs.map D.int).length:Int);omega
  have eN:n % ((cs.map D.int).length:Int)=((n % (cs.length:Int)).toNat:Int):=by rw[hlen];omega
  have hk:(n % (cs.length:Int)).toNat < cs.length:=by omega
  generalize (n % (cs.length:Int)).toNat=k at eN hk;show gdName 2 (.int (n % ((cs.map D.int).length:Int))) _ _ _;rw[eN];have hat:atI (cs.map D.int) (k:Int)=some (.int cs[k]):=atI_nat (by rw[bv,ag hk];rfl)
  generalize cs[k]=cell at hat
  have hS1:supd S a (.lst [.ref c,.int (n + 1),.int sd]) a=some (.lst [.ref c,.int (n + 1),.int sd]):=supd_same;have hC1:supd S a (.lst [.ref c,.int (n + 1),.int sd]) c=some (.lst (cs.map D.int)):=(supd_ne (aZ hac)).trans hC;refine⟨_,_,hS,rfl,_,_,hS,rfl,_,_,hS1,rfl,_,_,hC1,hat,?_⟩;refine⟨fun Γ' S'=>Γ'=[some (.ref a),some (.int m),some (.int (k:Nat)),some (.int cell),none]/\S'=supd S a (.lst [.ref c,.int (n + 1),.int sd]) ,?_,?_⟩
  ·have hz:∀ z:Prop,z->z:=fun _ h=>h;refine⟨rfl,_,rfl,ite2 (fun _=>?_) fun _=>⟨rfl,_,rfl,ite2 (fun _=>?_) fun _=>⟨rfl,rfl⟩⟩⟩
   all_goals
    refine⟨_,_,hS1,rfl,_,_,hS1,rfl,.inl ⟨by decide,by decide⟩,by show(0:Int) < 2147483587;decide,.inr ⟨by decide,by decide⟩,by show(0:Int) < 2147483629;decide,?_⟩
    refine⟨.inl ⟨by omega,by omega⟩,_,_,hS1,rfl,.inl ⟨by decide,by decide⟩,by show(0:Int) < 2147483563;decide,.inr ⟨by decide,by decide⟩,by show(0:Int) < 2147483549;decide,?_⟩
    exact⟨⟨by decide,by decide⟩,by show(0:Int) < m;omega,rt_same (q _ _ (md m1).1 (md m1).2 (fun b hb _=>supd_ne hb) ⟨cs,n + 1,sd,hS1,hC1,hac,hne,h64⟩)⟩
  ·rintro Γ' S' ⟨rfl,rfl⟩;have hix:ixN (cs.map D.int).length (k:Int)=some k:=ixN_nat (by rw[aj];exact hk)
   refine⟨⟨by omega,by omega⟩,_,_,hS1,rfl,_,_,hC1,hix,by show(0:Int) < m;omega,rt_same (q _ _ (md m1).1 (md m1).2 (fun b hb hb2=>(supd_ne hb2).trans (supd_ne hb)) ⟨cs.set k (cell / m),n + 1,sd,(supd_ne hac).trans hS1,?_,hac,?_,by rw[fY];exact h64⟩)⟩
   ·rw[supd_same,List.map_set]
   ·intro e
    have:=congrArg f9 e
    rw[fY] at this;simp at this;exact hne this
end
abbrev s_law_names:Stmt:=top 17
theorem sc_law_names:FnScope ["deck", "many", "letters", "found", "left", "any_word", "ahead", "word", "turn"] ["deck", "many"] (defScope s_law_names):=fsc
section
variable {P:aD} {w:aK} {K:ao} {mg:Str->Option ae} {base:aW} {pt cc cNoSet cKeptSets:Addr}
theorem ok_law_names (T:Tx K mg "_law_names" s_law_names) (B:Bs mg) (d_law_take:Df P w K mg base 1 "_law_take" ["deck", "many"] (spU K spc_take)):Df P w K mg base 2 "_law_names" ["deck", "many"] (spU K spc_names):=by
 refine e_def T sc_law_names (fun F=>F.binds fun _ _ _ _ _ _=>us2 fun _ _=>rfl) ?_ fun f cdv A outer s H E hr=>⟨_,(dss_cons (ds_set (i:=2) sc_law_names.nd rfl (gO rfl) e_str)
  (dss_cons (ds_set (i:=3) sc_law_names.nd rfl (aR rfl) (e_lst (b:=true) da_nil))
  (dss_cons (ds_if (dt_eq hr (e_callD d_law_take hr rfl (da_cons (dv 0) (da_cons e_int da_nil))) e_int) (dss_cons (ds_set (i:=4) sc_law_names.nd rfl (gO rfl) (e_lst (b:=true) (da_cons e_str (da_cons e_str (da_cons e_str (da_cons e_str (da_cons e_str (da_cons e_str (da_cons e_str (da_cons e_str (da_cons e_str (da_cons e_str (da_cons e_str (da_cons e_str (da_cons e_str (da_cons e_str da_nil))))))))))))))))
  (dss_one (ds_ret (e_comp (N':=["k", "left", "deck"]) (oc:=none) (b:=false) [0] [] rfl sc_law_names.nd (fun _ _ _=>turn_one _ _ _ _ _ _ _ _ _) (.own (.cap (i:=4) rfl (by decide +kernel) (.cap (i:=0) rfl (by decide +kernel) .nil))) (free_of rfl) (di_range1 rfl B.range (da_cons (dv 1) da_nil)) (cg_name (i:=0)) (fun _ _ _ _ _=>pg_name (i:=0) (nd_ ["k", "left", "deck"]) rfl (aR rfl) (.inr rfl)) (fun _ _ _ _ _=>dts_nil) bo_emit (fun _ _ _ _ _ _=>pb_emit rfl (by exact PD.o (e_popAt (dv 1) (da_cons (e_callD d_law_take hr rfl (da_cons (dv 2) (da_cons (e_len rfl B.len (da_cons (dv 1) da_nil)) da_nil))) da_nil)))))))) dss_nil)
  (dss_cons (ds_while cK (dt_lt hr (e_len rfl B.len (da_cons (dv 3) da_nil)) (dv 1)) (dss_cons (ds_set (i:=5) sc_law_names.nd rfl (aR rfl) (e_join e_str (da_cons (e_comp (N':=["k", "letters", "deck"]) (oc:=none) (b:=false) [0] [] rfl sc_law_names.nd (fun _ _ _=>turn_one _ _ _ _ _ _ _ _ _) (.own (.cap (i:=2) rfl (by decide +kernel) (.cap (i:=0) rfl (by decide +kernel) .nil))) (free_of rfl) (di_range1 rfl B.range (da_cons (e_add (k:=false) e_int (e_callD d_law_take hr rfl (da_cons (dv 0) (da_cons e_int da_nil)))) da_nil)) (cg_name (i:=0)) (fun _ _ _ _ _=>pg_name (i:=0) (nd_ ["k", "letters", "deck"]) rfl (aR rfl) (.inr rfl)) (fun _ _ _ _ _=>dts_nil) bo_emit (fun _ _ _ _ _ _=>pb_emit rfl (by exact PD.o (e_ix (dv 1) (e_callD d_law_take hr rfl (da_cons (dv 2) (da_cons e_int da_nil))))))) da_nil)))
  (dss_cons (ds_set (i:=6) sc_law_names.nd rfl (aR rfl) (e_add (k:=false) (e_ix (e_add (k:=false) (e_lst (b:=false) (da_cons e_str da_nil)) (dv 3)) (e_neg e_int)) (e_ix (dv 2) (e_callD d_law_take hr rfl (da_cons (dv 0) (da_cons e_int da_nil))))))
  (dss_cons (ds_set (i:=7) sc_law_names.nd rfl (aR rfl) (e_ix (e_lst (b:=false) (da_cons (dv 5) (da_cons (e_sl (b:=false) (dv 6) do_none (do_some e_int)) (da_cons (e_ix (dv 2) (e_callD d_law_take hr rfl (da_cons (dv 0) (da_cons e_int da_nil)))) da_nil)))) (e_callD d_law_take hr rfl (da_cons (dv 0) (da_cons e_int da_nil)))))
  (dss_cons (ds_set (i:=8) sc_law_names.nd rfl (aR rfl) e_int)
  (dss_cons (ds_while cK (dt_in hr (dv 7) (dv 3)) (dss_cons (ds_set (i:=7) sc_law_names.nd rfl (aR rfl) (e_add (k:=false) (e_ix (dv 2) (e_mod (dv 8) e_int)) (e_ix (dv 2) (e_fdiv (dv 8) e_int))))
  (dss_one (ds_set (i:=8) sc_law_names.nd rfl (aR rfl) (e_add (k:=false) (dv 8) e_int)))))
  (dss_one (ds_expr (e_append (dv 3) (da_cons (dv 7) da_nil))))))))))
  (dss_one (ds_ret (dv 3))))))),?_⟩
 ·rintro ds S Q ⟨a,c,many,rfl,_⟩;rfl
 ·rintro ds S Q ⟨a,c,many,rfl,dk,h12,q⟩;refine⟨z9999 (by decide),fun fp hfp=>?_⟩
  obtain⟨hfa,hfc⟩:=dk.ne hfp;refine⟨a,c,4,rfl,dk.supd hfa hfc,by decide,by decide,fun r1 S1 r10 r11 off1 dk1=>⟨rfl,_,rfl,ite2 (fun c1=>?_) fun c1=>?_⟩⟩
  ·refine⟨z9999 (by show 14<=9999;decide),fun lp hlp=>?_⟩
   obtain⟨hla,hlc⟩:=dk1.ne hlp;have hlf:lp≠fp:=by rintro rfl;rw[off1 _ hla hlc,supd_same] at hlp;cases hlp
   refine⟨⟨by omega,by omega⟩,?_⟩
   rw[bF];refine pop_c hla hlc (xs:=w14L.map D.str) supd_same (by show many<=14;omega) (by show 14<=9999;decide) (dk1.supd hla hlc) fun vs us S' pm hvl hl dk' off'=>?_
   obtain⟨as,bs,rfl,rfl,pn⟩:=perm_back (f:=D.str) dStr' (fun _=>rfl) pm;rw[aj] at hvl;refine rt_drop (S':=sdel (sdel S' lp) fp) (fun b o e=>lessDel b o (lessDel b o e)) (q as _ (b0.mp (pn.nodup_iff.mpr w14L_nd)).1 hvl (fun n hn=>w14L_nm n (pn.mem_iff.mp (bd _ hn))) (fun b h1 h2=>?_) ((dk'.eq (sdel_ne (aZ hla)) (sdel_ne (aZ hlc))).eq (sdel_ne (aZ hfa)) (sdel_ne (aZ hfc))))
   by_cases e1:b=fp
   ·subst e1;rw[sdel_same,hfp]
   ·rw[sdel_ne e1]
    by_cases e2:b=lp
    ·subst e2;rw[sdel_same];rw[off1 b h1 h2,supd_ne e1] at hlp;exact hlp.symm
    ·rw[sdel_ne e2,off' b h1 h2 e2,supd_ne e2,off1 b h1 h2,supd_ne e1]
  ·refine⟨fun m Γ S'=>∃ (x4 x5 x6 x7 x8:Option D) (found:List Str),Γ=[some (.ref a),some (.int many),some (.str lettersZ),some (.ref fp),x4,x5,x6,x7,x8]/\m=many - found.length/\found.length<=many/\found.Nodup/\(∀ n∈found,Nm n)/\S' fp=some (.lst (found.map D.str))/\DeckC S' a c/\∀ b,b≠a->b≠c->b≠fp->S' b=S b,⟨_,none,none,none,none,none,[],rfl,rfl,bA _,fF,by simp,(off1 fp hfa hfc).trans supd_same,dk1,fun b h1 h2 h3=>(off1 b h1 h2).trans (supd_ne h3)⟩,?_⟩
   rintro m Γ S' ⟨x4,x5,x6,x7,x8,found,rfl,rfl,hfl,hnd,hnm,hf,dk2,off2⟩;refine⟨_,hf,_,rfl,ite2 (fun c2=>?_) fun c2=>?_⟩
   ·have hlt:found.length < many:=by
     have:=of_decide_eq_true c2
     rw[aj] at this;omega
    refine⟨trivial,a,c,8,rfl,dk2,by decide,by decide,fun r2 S2 r20 r21 off3 dk3=>⟨⟨by omega,by omega⟩,?_⟩⟩
    refine loop_ind (fun i acc Sx=>∃ cs:List Nat,acc=(cs.map sg).map D.str/\cs.length=i/\(∀ x∈cs,97<=x/\x<=122)/\Off2 a c S' Sx/\DeckC Sx a c) ⟨[],rfl,rfl,by simp,off3,dk3⟩ ?_ ?_
    ·rintro i x acc Sx N hx ⟨cs,rfl,hcl,hcs,ox,dkx⟩ hN;refine⟨trivial,a,c,26,rfl,dkx,by decide,by decide,fun r3 S3 r30 r31 off4 dk4=>?_⟩
     obtain⟨k,rfl⟩:∃ k:Nat,r3=k:=⟨r3.toNat,by omega⟩
     have hi8:i < 9:=by
      have:=(bi.mp hx).1
      rw[rngD_len] at this;omega
     refine⟨z9999 (by decide),_,letter_at (by omega:k < 26),z9999 (by rw[aj,aj];omega),hN _ _ ⟨cs++[97 + k],by rw[aN,aN];rfl,by rw[av,hcl];rfl,fun x hx=>?_,ox.trans off4,dk4⟩⟩
     rcases aU.mp hx with z | z
     ·exact hcs x z
     ·rw[az.mp z];omega
    ·rintro acc S3 ⟨cs,rfl,hcl,hcs,off4,dk4⟩;rw[rngD_len] at hcl;have c9:cs.length<=8/\1<=cs.length:=by omega
     have hf3:S3 fp=some (.lst (found.map D.str)):=(off4 fp hfa hfc).trans hf;have sl:((cs.map sg).map (·.length)).sum=cs.length:=by
      clear hcl hcs c9
      induction cs with
      | nil=>rfl
      | cons x cs ih=>rw[aY,aY,List.sum_cons,ih,sg_len,aE];omega
     refine⟨trivial,cs.map sg,rfl,?_,?_⟩
     ·rw[sl];show cs.length + _ * 0<=_;omega
     rw[join_sg];have nm5:Nm (⟨cs.toArray⟩:Str):=⟨by show 1<=cs.toArray.size;rw[ak];omega,by show cs.toArray.size<=8;rw[ak];omega,fun x hx=>hcs x (by simpa using hx)⟩
     generalize (⟨cs.toArray⟩:Str)=w5 at nm5;have lst:atI ((aM "a"::found).map D.str) (-1)=some (D.str (lastOf (aM "a"::found))):=by rw[atI_map,at_last (by simp) ⟨#[]⟩];rfl
     have lm:Nm (lastOf (aM "a"::found)):=by
      have:lastOf (aM "a"::found)∈aM "a"::found:=getLastD_mem (by simp)
      rcases aA.mp this with e | e
      ·rw[e];exact w14L_nm _ (by decide +kernel)
      ·exact hnm _ e
     generalize lastOf (aM "a"::found)=lw at lst lm;refine⟨z9999 (by show 1<=9999;decide),_,_,rfl,hf3,z9999 (by show 1 + (found.map D.str).length<=9999;rw[aj];omega),_,_,rfl,lst,a,c,26,rfl,dk4,by decide,by decide,fun r4 S4 r40 r41 off5 dk5=>?_⟩
     obtain⟨k4,rfl⟩:∃ k:Nat,r4=k:=⟨r4.toNat,by omega⟩
     have al:(lw++(⟨#[97 + k4]⟩:Str)).length=lw.length + 1:=app_len _ _;have nm6:=nm_cut (w:=lw++(⟨#[97 + k4]⟩:Str)) (by omega) (nm_app lm.2.2 (by omega))
     refine⟨z9999 (by decide),_,letter_at (by omega:k4 < 26),z9999 (by show lw.length + 1<=9999;have:=lm.2.1;omega),?_⟩
     refine⟨8,rfl,by have:=lm.2.1;rw[al];omega,a,c,26,rfl,dk5,by decide,by decide,fun r5 S5 r50 r51 off6 dk6=>?_⟩
     obtain⟨k5,rfl⟩:∃ k:Nat,r5=k:=⟨r5.toNat,by omega⟩
     refine⟨z9999 (by decide),_,letter_at (by omega:k5 < 26),z9999 (by show 3<=9999;decide),a,c,3,rfl,dk6,by decide,by decide,fun r6 S6 r60 r61 off7 dk7=>?_⟩
     obtain⟨word,hw,nmw⟩:∃ word:Str,atI [D.str w5,D.str (cutS (lw++(⟨#[97 + k4]⟩:Str)) none (some 8)),D.str (⟨#[97 + k5]⟩:Str)] r6=some (.str word)/\Nm word:=by
      have h:r6=0\/r6=1\/r6=2:=by omega
      rcases h with rfl | rfl | rfl
      ·exact⟨_,rfl,nm5⟩
      ·exact⟨_,rfl,nm6⟩
      ·exact⟨_,rfl,nm_one (by omega)⟩
     have offA:Off2 a c S' S6:=((off4.trans off5).trans off6).trans off7;have hf6:S6 fp=some (.lst (found.map D.str)):=(offA fp hfa hfc).trans hf;refine⟨_,_,rfl,hw,?_⟩;refine⟨fun m Γ Sx=>Sx=S6/\∃ (x5 x6:Option D) (t:Nat) (wd:Str),Γ=[some (.ref a),some (.int many),some (.str lettersZ),some (.ref fp),x4,x5,x6,some (.str wd),some (.int (t:Nat))]/\m=found.length + 2 - t/\t<=found.length + 1/\Nm wd/\(t=0\/wd=tw (t - 1))/\∀ i,i + 1 < t->tw i∈found,⟨_,rfl,_,_,0,word,rfl,rfl,by omega,nmw,.inl rfl,fun i h=>by omega⟩,?_⟩
     rintro m2 Γ Sx ⟨rfl,y5,y6,t,wd,rfl,rfl,ht,nwd,hwd,htw⟩;refine⟨_,hf6,plains_strs' found,okS wd found,_,rfl,ite2 (fun c3=>?_) fun c3=>?_⟩
     ·have hin:wd∈found:=mem_strs.mp (of_decide_eq_true c3);have hall:∀ i,i < t->tw i∈found:=fun i hi=>by
       rcases bH (i + 1) t with z | z
       ·exact htw i z
       ·rcases hwd with e | e
        ·omega
        ·have:i=t - 1:=by omega
         rw[this,<- e];exact hin
      have tf:=tw_few hall;have t26:((t:Int) % 26)=(t:Int):=by omega
      have t0:((t:Int) / 26)=((0:Nat):Int):=by omega
      refine⟨by show(0:Int) < 26;decide,z9999 (by decide),97 + t,(by rw[t26];exact letter_at (by omega:t < 26):atI lettersZ.cps.toList ((t:Int) % 26)=some (97 + t)),⟨by decide,by decide⟩,z9999 (by decide),_,(by rw[t0];exact letter_at (by decide:0 < 26):atI lettersZ.cps.toList ((t:Int) / 26)=some (97 + 0)),z9999 (by show 1 + 1<=9999;decide),?_⟩
      refine⟨found.length + 2 - (t + 1),by omega,rfl,_,_,t + 1,tw t,rfl,rfl,by omega,?_,.inr rfl,fun i hi=>hall i (by omega)⟩
      exact⟨by show 1<=2;decide,by show 2<=8;decide,nm_app (k:=0) (nm_one (by omega:t < 26)).2.2 (by decide)⟩
     ·have hno:wd∉found:=fun z=>c3 (decide_eq_true (mem_strs.mpr z));refine⟨⟨_,hf6⟩,_,hf6,z9999 (by rw[aj];omega),many - (found.length + 1),by omega,x4,y5,y6,_,_,found++[wd],rfl,by rw[av];rfl,by rw[av];show _ + 1<=_;omega,?_,fun n hn=>?_,by rw[supd_same,aN];rfl,dk7.supd hfa hfc,fun b h1 h2 h3=>(supd_ne h3).trans ((offA b h1 h2).trans (off2 b h1 h2 h3))⟩
      ·rw[b0];exact⟨hnd,bX.mpr ⟨by simp,fF⟩,fun u hu v hv=>by rw[az.mp hv];rintro rfl;exact hno hu⟩
      ·rcases aU.mp hn with z | z
       ·exact hnm n z
       ·rw[az.mp z];exact nwd
   ·have he:found.length=many:=by
     have:¬ ((found.map D.str).length:Int) < (many:Int):=fun z=>c2 (decide_eq_true z)
     rw[aj] at this;omega
    refine rt_frz (S':=sdel S' fp) hf lessDel sdel_same (q found _ hnd he hnm (fun b h1 h2=>?_) (dk2.eq (sdel_ne (aZ hfa)) (sdel_ne (aZ hfc))))
    by_cases e:b=fp
    ·subst e;rw[sdel_same,hfp]
    ·rw[sdel_ne e];exact off2 b h1 h2 e
end
abbrev s_law_shuffled:Stmt:=top 18
theorem sc_law_shuffled:FnScope ["deck", "things", "left"] ["deck", "things"] (defScope s_law_shuffled):=fsc
section
variable {P:aD} {w:aK} {K:ao} {mg:Str->Option ae} {base:aW} {pt cc cNoSet cKeptSets:Addr}
theorem ok_law_shuffled (T:Tx K mg "_law_shuffled" s_law_shuffled) (B:Bs mg) (d_law_take:Df P w K mg base 1 "_law_take" ["deck", "many"] (spU K spc_take)):Df P w K mg base 2 "_law_shuffled" ["deck", "things"] (spU K spc_shuffled):=by
 refine e_def T sc_law_shuffled (fun F=>F.binds fun _ _ _ _ _ _=>us2 fun _ _=>rfl) ?_ fun f cdv A outer s H E hr=>⟨_,(dss_cons (ds_set (i:=2) sc_law_shuffled.nd rfl (gO rfl) (e_list (b:=true) rfl B.list (da_cons (dv 1) da_nil)))
  (dss_one (ds_ret (e_comp (N':=["k", "left", "deck"]) (oc:=none) (b:=true) [0] [] rfl sc_law_shuffled.nd (fun _ _ _=>turn_one _ _ _ _ _ _ _ _ _) (.own (.cap (i:=2) rfl (by decide +kernel) (.cap (i:=0) rfl (by decide +kernel) .nil))) (free_of rfl) (di_range1 rfl B.range (da_cons (e_len rfl B.len (da_cons (dv 2) da_nil)) da_nil)) (cg_name (i:=0)) (fun _ _ _ _ _=>pg_name (i:=0) (nd_ ["k", "left", "deck"]) rfl (aR rfl) (.inr rfl)) (fun _ _ _ _ _=>dts_nil) bo_emit (fun _ _ _ _ _ _=>pb_emit rfl (by exact PD.o (e_popAt (dv 1) (da_cons (e_callD d_law_take hr rfl (da_cons (dv 2) (da_cons (e_len rfl B.len (da_cons (dv 1) da_nil)) da_nil))) da_nil)))))))),?_⟩
 ·rintro ds S Q ⟨a,c,d,xs,rfl,_⟩;rfl
 ·rintro ds S Q ⟨a,c,d,xs,rfl,hd,dk,h99,q⟩;refine⟨xs,hd.sq,fun lp hlp=>?_⟩;obtain⟨hla,hlc⟩:=dk.ne hlp;refine⟨_,supd_same,⟨by omega,by omega⟩,?_⟩
  rw[bF];refine pop_c hla hlc (xs:=xs) supd_same (ar _) (by omega) (dk.supd hla hlc) fun vs us S' pm hvl hl dk' off'=>?_
  have eu:us=[]:=by
   have:=pm.length_eq
   rw[av] at this;exact bC (by omega)
  subst eu;rw[bI] at pm;intro p hp;have hpl:p≠lp:=by rintro rfl;rw[hl] at hp;cases hp
  obtain⟨hpa,hpc⟩:=dk'.ne hp;refine rt_drop (S':=sdel (supd S' p (.lst vs)) lp) lessDel (q p vs _ pm ?_ ?_ (fun b h1 h2 h3=>?_) ?_)
  ·rw[<- (supd_ne hpl:supd S lp _ p=S p),<- off' p hpa hpc hpl];exact hp
  ·rw[sdel_ne hpl];exact supd_same
  ·by_cases e:b=lp
   ·subst e;rw[sdel_same,hlp]
   ·rw[sdel_ne e,supd_ne h3,off' b h1 h2 e,supd_ne e]
  ·exact(dk'.supd hpa hpc).eq (sdel_ne (aZ hla)) (sdel_ne (aZ hlc))
end
abbrev s_law_planted:Stmt:=top 20
theorem sc_law_planted:FnScope ["deck", "pool", "left", "core", "found", "size", "more"] ["deck", "pool"] (defScope s_law_planted):=fsc
section
variable {P:aD} {w:aK} {K:ao} {mg:Str->Option ae} {base:aW} {pt cc cNoSet cKeptSets:Addr}
theorem ok_law_planted (T:Tx K mg "_law_planted" s_law_planted) (B:Bs mg) (d_law_take:Df P w K mg base 2 "_law_take" ["deck", "many"] (spU K spc_take)) (d_law_shuffled:Df P w K mg base 2 "_law_shuffled" ["deck", "things"] (spU K spc_shuffled)):Df P w K mg base 3 "_law_planted" ["deck", "pool"] (spU K spc_planted):=by
 refine e_def T sc_law_planted (fun F=>F.binds fun _ _ _ _ _ _=>us2 fun _ _=>rfl) ?_ fun f cdv A outer s H E hr=>⟨_,(dss_cons (ds_set (i:=2) sc_law_planted.nd rfl (gO rfl) (e_callD d_law_shuffled hr rfl (da_cons (dv 0) (da_cons (dv 1) da_nil))))
  (dss_cons (ds_setC (i:=3) rfl (aR rfl) (N':=["k", "left"]) (oc:=none) (b:=false) [0] [] rfl sc_law_planted.nd (fun _ _ _=>turn_one _ _ _ _ _ _ _ _ _) (.own (.cap (i:=2) rfl (by decide +kernel) .nil)) (free_of rfl) (di_range1 rfl B.range (da_cons (e_min rfl B.min (da_cons (e_len rfl B.len (da_cons (dv 2) da_nil)) (da_cons (e_callD d_law_take hr rfl (da_cons (dv 0) (da_cons e_int da_nil))) da_nil))) da_nil)) (cg_name (i:=0)) (fun _ _ _ _ _=>pg_name (i:=0) (nd_ ["k", "left"]) rfl (aR rfl) (.inr rfl)) (fun _ _ _ _ _=>dts_nil) bo_emit (fun _ _ _ _ _ _=>pb_emit rfl (by exact PD.o (e_pop (dv 1)))))
  (dss_cons (ds_set (i:=4) sc_law_planted.nd rfl (aR rfl) (e_lst (b:=true) da_nil))
  (dss_cut (ds_if (dt_eq hr (e_callD d_law_take hr rfl (da_cons (dv 0) (da_cons e_int da_nil))) e_int) (dss_one (ds_expr (e_append (dv 4) (da_cons (e_tuple rfl B.tuple (da_cons (e_sorted (b:=false) hr rfl B.sorted (da_cons (dv 3) da_nil)) da_nil)) da_nil)))) dss_nil)
  (dss_cons (ds_while cK (dt_ne hr (dv 2) (e_lst (b:=false) da_nil)) (dss_cons (ds_set (i:=5) sc_law_planted.nd rfl (aR rfl) (e_add (k:=false) e_int (e_callD d_law_take hr rfl (da_cons (dv 0) (da_cons (e_ix (e_lst (b:=false) (da_cons e_int (da_cons e_int (da_cons e_int da_nil)))) (e_callD d_law_take hr rfl (da_cons (dv 0) (da_cons e_int da_nil)))) da_nil)))))
  (dss_cons (ds_setC (i:=6) rfl (aR rfl) (N':=["k", "left"]) (oc:=none) (b:=false) [0] [] rfl sc_law_planted.nd (fun _ _ _=>turn_one _ _ _ _ _ _ _ _ _) (.own (.cap (i:=2) rfl (by decide +kernel) .nil)) (free_of rfl) (di_range1 rfl B.range (da_cons (e_min rfl B.min (da_cons (e_len rfl B.len (da_cons (dv 2) da_nil)) (da_cons (dv 5) da_nil))) da_nil)) (cg_name (i:=0)) (fun _ _ _ _ _=>pg_name (i:=0) (nd_ ["k", "left"]) rfl (aR rfl) (.inr rfl)) (fun _ _ _ _ _=>dts_nil) bo_emit (fun _ _ _ _ _ _=>pb_emit rfl (by exact PD.o (e_pop (dv 1)))))
  (dss_one (ds_expr (e_append (dv 4) (da_cons (e_tuple rfl B.tuple (da_cons (e_sorted (b:=false) hr rfl B.sorted (da_cons (e_add (k:=false) (dv 3) (dv 6)) da_nil)) da_nil)) da_nil)))))))
  (dss_one (ds_ret (dv 4)))))))),?_⟩
 ·rintro ds S Q ⟨a,c,d,pool,rfl,_⟩;rfl
 ·rintro ds S Q ⟨a,c,d,pool,rfl,hd,dk,nd,n12,q⟩;refine⟨a,c,d,pool.map D.str,rfl,hd,dk,by rw[aj];omega,fun lp ys S1 pm hlp h1 off1 dk1=>?_⟩
  obtain⟨as,rfl,pa⟩:=perm_strs pm;have al:=pa.length_eq;obtain⟨hla,hlc⟩:=dk.ne hlp;refine⟨_,h1,a,c,4,rfl,dk1,by decide,by decide,fun r2 S2 r20 r21 off2 dk2=>?_⟩
  obtain⟨k2,rfl⟩:∃ k:Nat,r2=k:=⟨r2.toNat,by omega⟩
  obtain⟨m,hm,mm,mp,_⟩:=min2 (as.map D.str).length k2;rw[aj] at mm;have h2:S2 lp=some (.lst (as.map D.str)):=(off2 lp hla hlc).trans h1;refine⟨?_,?_⟩
  ·rw[hm];exact⟨by omega,by omega⟩
  rw[hm,bF];refine pop_e h2 (by rw[aj];exact mm) (by rw[aj];omega) fun vs us S3 pm3 hvl h3 off3=>?_
  obtain⟨cs,us,rfl,rfl,pn⟩:=perm_back (f:=D.str) dStr' (fun _=>rfl) pm3;rw[aj] at hvl;have pp:(cs++us).Perm pool:=pn.trans pa;have cnd:(cs++us).Nodup:=pp.nodup_iff.mpr nd;have dk3:DeckC S3 a c:=dk2.eq (off3 a (aZ hla)) (off3 c (aZ hlc));have kp3:∀ b,b≠a->b≠c->b≠lp->S3 b=S b:=fun b h4 h5 h6=>(off3 b h6).trans ((off2 b h4 h5).trans (off1 b h4 h5 h6));refine⟨z9999 (by decide),fun fp hfp=>?_⟩
  obtain⟨hfa,hfc⟩:=dk3.ne hfp;have hfl:fp≠lp:=by rintro rfl;rw[h3] at hfp;cases hfp
  have hSfp:S fp=none:=(kp3 fp hfa hfc hfl).symm.trans hfp;have ul:us.length<=12:=by have:=pp.length_eq;rw[av] at this;omega
  refine⟨fun Γ' S'=>∃ (ts:List (List Str)),Γ'=[some (.ref a),some d,some (.ref lp),some (.lst (cs.map D.str)),some (.ref fp),none,none]/\S' fp=some (.lst (ts.map tupS))/\ts.length<=1/\(∀ t∈ts,SetIn pool t)/\S' lp=some (.lst (us.map D.str))/\DeckC S' a c/\∀ b,b≠a->b≠c->b≠lp->b≠fp->S' b=S b,?_,?_⟩
  ·refine⟨a,c,3,rfl,dk3.supd hfa hfc,by decide,by decide,fun r4 S4 r40 r41 off4 dk4=>⟨rfl,_,rfl,?_⟩⟩
   have h4f:S4 fp=some (.lst []):=(off4 fp hfa hfc).trans supd_same;have h4l:S4 lp=some (.lst (us.map D.str)):=(off4 lp hla hlc).trans ((supd_ne (aZ hfl)).trans h3);have kp4:∀ b,b≠a->b≠c->b≠lp->b≠fp->S4 b=S b:=fun b h5 h6 h7 h8=>(off4 b h5 h6).trans ((supd_ne h8).trans (kp3 b h5 h6 h7));refine ite2 (fun _=>?_) fun _=>⟨[],rfl,h4f,bA _,by simp,h4l,dk4,kp4⟩
   refine⟨⟨_,h4f⟩,.inl ⟨cs,rfl,by omega,_,rfl,_,h4f,z9999 (by decide),[srS cs],rfl,supd_same,ar _,fun t ht=>?_,(supd_ne (aZ hfl)).trans h4l,dk4.supd hfa hfc,fun b h5 h6 h7 h8=>(supd_ne h8).trans (kp4 b h5 h6 h7 h8)⟩⟩
   rw[az.mp ht];exact setIn_of (b0.mp cnd).1 (fun n hn=>pp.mem_iff.mp (bd _ hn)) (by omega)
  rintro Γ' S' ⟨ts,rfl,hf,tl,hts,hl,dk',kp⟩;refine⟨fun m Γ S'=>∃ (x5 x6:Option D) (ts:List (List Str)) (us:List Str),Γ=[some (.ref a),some d,some (.ref lp),some (.lst (cs.map D.str)),some (.ref fp),x5,x6]/\m=us.length/\S' fp=some (.lst (ts.map tupS))/\ts.length + us.length<=13/\(∀ t∈ts,SetIn pool t)/\S' lp=some (.lst (us.map D.str))/\(cs++us).Nodup/\(∀ n∈us,n∈pool)/\DeckC S' a c/\∀ b,b≠a->b≠c->b≠lp->b≠fp->S' b=S b,⟨_,none,none,ts,us,rfl,rfl,hf,by omega,hts,hl,cnd,fun n hn=>pp.mem_iff.mp (aL _ hn),dk',kp⟩,?_⟩
  have csp:∀ n∈cs,n∈pool:=fun n hn=>pp.mem_iff.mp (bd _ hn);clear hf tl hts hl dk' kp pp cnd ul pn kp3 h3 dk3 off3 pm3 hfp;rintro m' Γ S5 ⟨x5,x6,ts,us,rfl,rfl,hf,tl,hts,hl,cnd,usp,dk5,kp⟩;refine⟨z9999 (by decide),_,_,hl,rfl,?_,_,rfl,ite2 (fun c1=>?_) fun c1=>?_⟩
  ·unfold okEs;rw[cH];rfl
  ·have une:us≠[]:=by
    rintro rfl
    have:(!decide (([]:List Str).map D.str=[]))=true:=c1
    simp at this
   have u1:1<=us.length:=eQ.mpr une;refine⟨z9999 (by show 3<=9999;decide),a,c,3,rfl,dk5,by decide,by decide,fun r6 S6 r60 r61 off6 dk6=>?_⟩
   obtain⟨s,hs,hs1,hs3⟩:∃ s:Nat,atI [D.int 1,.int 2,.int 3] r6=some (.int (s:Nat))/\1<=s/\s<=3:=by
    have h:r6=0\/r6=1\/r6=2:=by omega
    rcases h with rfl | rfl | rfl
    ·exact⟨1,rfl,by decide,by decide⟩
    ·exact⟨2,rfl,by decide,by decide⟩
    ·exact⟨3,rfl,by decide,by decide⟩
   refine⟨_,_,rfl,hs,a,c,s,rfl,dk6,by omega,by omega,fun r7 S7 r70 r71 off7 dk7=>?_⟩
   obtain⟨k7,hk7⟩:∃ k:Nat,1 + r7=(k:Int):=⟨(1 + r7).toNat,by omega⟩
   have offA:Off2 a c S5 S7:=off6.trans off7;have hl7:S7 lp=some (.lst (us.map D.str)):=(offA lp hla hlc).trans hl;obtain⟨m8,hm8,mm8,mp8,mo8⟩:=min2 (us.map D.str).length k7;rw[aj] at mm8 mo8;have hm8':(fun i j:Int=>if j < i then j else i) ((us.map D.str).length:Int) (1 + r7)=(m8:Int):=by rw[hk7];exact hm8
   refine⟨_,hl7,?_,?_⟩
   ·rw[hm8'];exact⟨by omega,by omega⟩
   rw[hm8',bF];refine pop_e hl7 (by rw[aj];exact mm8) (by rw[aj];omega) fun vs us' S8 pm8 hvl8 h8 off8=>?_
   obtain⟨ms,us',rfl,rfl,pn8⟩:=perm_back (f:=D.str) dStr' (fun _=>rfl) pm8;rw[aj] at hvl8;have ul8:=pn8.length_eq;rw[av] at ul8;have hf8:S8 fp=some (.lst (ts.map tupS)):=(off8 fp hfl).trans ((offA fp hfa hfc).trans hf);have dk8:DeckC S8 a c:=dk7.eq (off8 a (aZ hla)) (off8 c (aZ hlc));have cnd8:(cs++(ms++us')).Nodup:=(j9 cs pn8).nodup_iff.mpr cnd;have cm:(cs++ms).Nodup:=cnd8.sublist (ko (eJ _) (fV _ _));have cml:(cs++ms).length<=6:=by rw[av];omega
   refine⟨⟨_,hf8⟩,_,_,rfl,rfl,z9999 (by rw[aj,aj];rw[av] at cml;omega),.inl ⟨cs++ms,(by rw[aN];rfl),by omega,_,rfl,_,hf8,z9999 (by rw[aj];omega),us'.length,by omega,_,_,ts++[srS (cs++ms)],us',rfl,rfl,by rw[supd_same,aN];rfl,by rw[av];show _ + 1 + _<=13;omega,fun t ht=>?_,(supd_ne (aZ hfl)).trans h8,cnd8.sublist (ko (eJ _) (dl _ _)),fun n hn=>usp n (pn8.mem_iff.mp (aL _ hn)),dk8.supd hfa hfc,fun b h5 h6 h7 h9=>(supd_ne h9).trans ((off8 b h7).trans ((offA b h5 h6).trans (kp b h5 h6 h7 h9)))⟩⟩
   rcases aU.mp ht with z | z
   ·exact hts t z
   ·rw[az.mp z];refine setIn_of cm (fun n hn=>?_) cml;rcases aU.mp hn with z | z
    ·exact csp n z
    ·exact usp n (pn8.mem_iff.mp (bd _ z))
  ·refine rt_drop (S':=sdel S5 lp) lessDel (q fp ts _ hSfp ((sdel_ne hfl).trans hf) hts (by omega) (fun b h5 h6 h7=>?_) (dk5.eq (sdel_ne (aZ hla)) (sdel_ne (aZ hlc))))
   by_cases e:b=lp
   ·subst e;rw[sdel_same,hlp]
   ·rw[sdel_ne e];exact kp b h5 h6 e h7
end
abbrev s_law_set:Stmt:=top 19
theorem sc_law_set:FnScope ["deck", "pool", "most"] ["deck", "pool", "most"] (defScope s_law_set):=fsc
section
variable {P:aD} {w:aK} {K:ao} {mg:Str->Option ae} {base:aW} {pt cc cNoSet cKeptSets:Addr}
theorem ok_law_set (T:Tx K mg "_law_set" s_law_set) (B:Bs mg) (d_law_take:Df P w K mg base 2 "_law_take" ["deck", "many"] (spU K spc_take)) (d_law_shuffled:Df P w K mg base 2 "_law_shuffled" ["deck", "things"] (spU K spc_shuffled)):Df P w K mg base 3 "_law_set" ["deck", "pool", "most"] (spU K spc_set):=by
 refine e_def T sc_law_set (fun F=>F.binds fun _ _ _ _ _ _=>us3 fun _ _ _=>rfl) ?_ fun f cdv A outer s H E hr=>⟨_,(dss_one (ds_ret (e_tuple rfl B.tuple (da_cons (e_sorted (b:=false) hr rfl B.sorted (da_cons (e_sl (b:=false) (e_callD d_law_shuffled hr rfl (da_cons (dv 0) (da_cons (dv 1) da_nil))) do_none (do_some (e_callD d_law_take hr rfl (da_cons (dv 0) (da_cons (e_add (k:=false) (e_min rfl B.min (da_cons (dv 2) (da_cons (e_len rfl B.len (da_cons (dv 1) da_nil)) da_nil))) e_int) da_nil))))) da_nil)) da_nil)))),?_⟩
 ·rintro ds S Q ⟨a,c,d,pool,most,rfl,_⟩;rfl
 ·rintro ds S Q ⟨a,c,d,pool,most,rfl,hd,dk,nd,n24,m24,q⟩;refine⟨a,c,d,pool.map D.str,rfl,hd,dk,by rw[aj];omega,fun p ys S1 pm hp h1 off1 dk1=>?_⟩
  obtain⟨as,rfl,pa⟩:=perm_strs pm;obtain⟨hpa,hpc⟩:=dk.ne hp;obtain⟨m,hm,mm,mp,_⟩:=min2 most (pool.map D.str).length;have al:=pa.length_eq;rw[aj] at mp;rcases hd with rfl | rfl
  all_goals
   refine⟨_,rfl,a,c,(m:Int) + 1,congrArg (fun z:Int=>[D.ref a,.int (z + 1)]) hm,dk1,by omega,by omega,fun r S2 r0 r1 off2 dk2=>⟨r,rfl,_,(off2 p hpa hpc).trans h1,?_⟩⟩
   rw[cutN _ r0 (by rw[aj];omega),<- kz]
   have tl:(as.take r.toNat).length<=most:=by rw[bw];omega
   have tnd:(as.take r.toNat).Nodup:=(pa.nodup_iff.mpr nd).sublist (dH _ _);refine .inl ⟨as.take r.toNat,rfl,by omega,_,rfl,rt_drop (S':=sdel S2 p) lessDel (q _ _ (srS_srt tnd) (fun n hn=>pa.mem_iff.mp (dF (mem_srS.mp hn))) (by rw[(srS_perm _).length_eq];exact tl) (fun b h2 h3=>?_) (dk2.eq (sdel_ne (aZ hpa)) (sdel_ne (aZ hpc))))⟩
   by_cases e:b=p
   ·subst e;rw[sdel_same,hp]
   ·rw[sdel_ne e,off2 b h2 h3,off1 b h2 h3 e]
end
abbrev s_law_collection:Stmt:=top 21
theorem sc_law_collection:FnScope ["deck", "most", "pool", "way", "some", "many", "size", "k", "one"] ["deck", "most"] (defScope s_law_collection):=fsc
section
variable {P:aD} {w:aK} {K:ao} {mg:Str->Option ae} {base:aW} {pt cc cNoSet cKeptSets:Addr}
theorem ok_law_collection (T:Tx K mg "_law_collection" s_law_collection) (B:Bs mg) (d_law_take:Df P w K mg base 3 "_law_take" ["deck", "many"] (spU K spc_take)) (d_law_names:Df P w K mg base 3 "_law_names" ["deck", "many"] (spU K spc_names)) (d_law_planted:Df P w K mg base 3 "_law_planted" ["deck", "pool"] (spU K spc_planted)) (d_law_set:Df P w K mg base 3 "_law_set" ["deck", "pool", "most"] (spU K spc_set)) (d_law_shuffled:Df P w K mg base 3 "_law_shuffled" ["deck", "things"] (spU K spc_shuffled)):Df P w K mg base 4 "_law_collection" ["deck", "most"] (spU K spc_collection):=by
 refine e_def T sc_law_collection (fun F=>F.binds fun _ _ _ _ _ _=>us2 fun _ _=>rfl) ?_ fun f cdv A outer s H E hr=>⟨_,(dss_cons (ds_set (i:=2) sc_law_collection.nd rfl (aR rfl) (e_callD d_law_names hr rfl (da_cons (dv 0) (da_cons (e_add (k:=false) e_int (e_callD d_law_take hr rfl (da_cons (dv 0) (da_cons (e_ix (e_lst (b:=false) (da_cons e_int (da_cons e_int da_nil))) (e_callD d_law_take hr rfl (da_cons (dv 0) (da_cons e_int da_nil)))) da_nil)))) da_nil))))
  (dss_cons (ds_set (i:=3) sc_law_collection.nd rfl (aR rfl) (e_callD d_law_take hr rfl (da_cons (dv 0) (da_cons e_int da_nil))))
  (dss_cons (ds_set (i:=4) sc_law_collection.nd rfl (aR rfl) (e_lst (b:=true) da_nil))
  (dss_cut (ds_if (dt_lt hr (dv 3) e_int) (dss_one (ds_set (i:=4) sc_law_collection.nd rfl (aR rfl) (e_callD d_law_planted hr rfl (da_cons (dv 0) (da_cons (dv 2) da_nil))))) dss_nil)
  (dss_cons (ds_set (i:=5) sc_law_collection.nd rfl (aR rfl) (e_callD d_law_take hr rfl (da_cons (dv 0) (da_cons (e_add (k:=false) (dv 1) e_int) da_nil))))
  (dss_cons (ds_set (i:=6) sc_law_collection.nd rfl (aR rfl) (e_callD d_law_take hr rfl (da_cons (dv 0) (da_cons e_int da_nil))))
  (dss_cons (ds_for cK rfl (di_range1 rfl B.range (da_cons (e_mul (dv 5) (e_int1 rfl B.int (da_cons (e_gt hr (dv 3) e_int) da_nil))) da_nil)) (dg_name (i:=7) sc_law_collection.nd rfl (aR rfl)) (dss_cons (ds_set (i:=8) sc_law_collection.nd rfl (aR rfl) (e_callD d_law_set hr rfl (da_cons (dv 0) (da_cons (dv 2) (da_cons e_int da_nil)))))
  (dss_cut (ds_if (dt_eq hr (dv 3) e_int) (dss_one (ds_set (i:=8) sc_law_collection.nd rfl (aR rfl) (e_tuple rfl B.tuple (da_cons (e_sorted (b:=false) hr rfl B.sorted (da_cons (e_sl (b:=false) (e_callD d_law_shuffled hr rfl (da_cons (dv 0) (da_cons (dv 2) da_nil))) do_none (do_some (dv 6))) da_nil)) da_nil)))) dss_nil)
  (dss_one (ds_expr (e_append (dv 4) (da_cons (dv 8) da_nil)))))))
  (dss_one (ds_ret (e_tuple rfl B.tuple (da_cons (e_sortedSet (b:=false) hr rfl B.sorted rfl B.set (e_sl (b:=false) (dv 4) do_none (do_some (dv 1)))) da_nil))))))))))),?_⟩
 ·rintro ds S Q ⟨a,c,most,rfl,_⟩;rfl
 ·rintro ds S Q ⟨a,c,most,rfl,dk,h14,q⟩;refine⟨z9999 (by show 2<=9999;decide),a,c,2,rfl,dk,by decide,by decide,fun r1 S1 r10 r11 off1 dk1=>?_⟩
  obtain⟨s,hs,hs1,hs3⟩:∃ s:Nat,atI [D.int 12,.int 5] r1=some (.int (s:Nat))/\1<=s/\s<=12:=by
   have h:r1=0\/r1=1:=by omega
   rcases h with rfl | rfl
   ·exact⟨12,rfl,by decide,by decide⟩
   ·exact⟨5,rfl,by decide,by decide⟩
  refine⟨_,_,rfl,hs,a,c,s,rfl,dk1,by omega,by omega,fun r2 S2 r20 r21 off2 dk2=>?_⟩
  obtain⟨k2,hk2⟩:∃ k:Nat,1 + r2=(k:Int):=⟨(1 + r2).toNat,by omega⟩
  refine⟨a,c,k2,congrArg (fun z:Int=>[D.ref a,.int z]) hk2,dk2,by omega,fun pool S3 nd pl hnm off3 dk3=>?_⟩
  refine⟨a,c,4,rfl,dk3,by decide,by decide,fun r4 S4 r40 r41 off4 dk4=>?_⟩
  have offA:Off2 a c S S4:=((off1.trans off2).trans off3).trans off4;refine⟨z9999 (by decide),fun sp0 hsp0=>?_⟩
  obtain⟨hsa,hsc⟩:=dk4.ne hsp0;refine⟨fun Γ' S'=>∃ (sp:Addr) (ts:List (List Str)),Γ'=[some (.ref a),some (.int most),some (.lst (pool.map D.str)),some (.int r4),some (.ref sp),none,none,none,none]/\S sp=none/\S' sp=some (.lst (ts.map tupS))/\ts.length<=13/\(∀ t∈ts,SetIn pool t)/\DeckC S' a c/\∀ b o,b≠a->b≠c->S b=some o->S' b=some o,?_,?_⟩
  ·have kp0:∀ b o,b≠a->b≠c->S b=some o->supd S4 sp0 (.lst []) b=some o:=fun b o h1 h2 e=>by
    have:=(offA b h1 h2).trans e
    rw[supd_ne (by rintro rfl;rw[this] at hsp0;cases hsp0)];exact this
   have hS0:S sp0=none:=(offA sp0 hsa hsc).symm.trans hsp0;refine⟨_,rfl,ite2 (fun _=>?_) fun _=>⟨sp0,[],rfl,hS0,supd_same,by decide,by simp,dk4.supd hsa hsc,kp0⟩⟩
   refine⟨a,c,_,pool,rfl,.inr rfl,dk4.supd hsa hsc,nd,by omega,fun p ts S' hp h5 hts tl off5 dk5=>⟨p,ts,rfl,?_,h5,tl,hts,dk5,fun b o h1 h2 e=>?_⟩⟩
   ·obtain⟨hpa,hpc⟩:=(dk4.supd hsa hsc).ne hp;cases e:S p with
    | none=>rfl
    | some o=>rw[kp0 p o hpa hpc e] at hp;cases hp
   ·have h6:=kp0 b o h1 h2 e;rw[off5 b h1 h2 (by rintro rfl;rw[hp] at h6;cases h6)];exact h6
  rintro Γ' S5 ⟨sp,ts,rfl,hSsp,h5,tl,hts,dk5,kp5⟩;clear hsp0 hsa hsc;have hsa:sp≠a/\sp≠c:=dk.ne hSsp;refine⟨a,c,(most:Int) + 1,rfl,dk5,by omega,by omega,fun r6 S6 r60 r61 off6 dk6=>?_⟩
  refine⟨a,c,7,rfl,dk6,by decide,by decide,fun r7 S7 r70 r71 off7 dk7=>?_⟩
  have kp7:∀ b o,b≠a->b≠c->S b=some o->S7 b=some o:=fun b o h1 h2 e=>(off7 b h1 h2).trans ((off6 b h1 h2).trans (kp5 b o h1 h2 e));have h7:S7 sp=some (.lst (ts.map tupS)):=(off7 sp hsa.1 hsa.2).trans ((off6 sp hsa.1 hsa.2).trans h5);obtain⟨n8,hn8,hn14⟩:∃ n:Nat,r6 * (if decide (r4 > 0) then 1 else 0)=(n:Int)/\n<=14:=by
   split
   ·exact⟨r6.toNat,by omega,by omega⟩
   ·exact⟨0,by omega,by omega⟩
  refine⟨.inr ⟨by split <;> decide,by split <;> decide⟩,?_,?_⟩
  ·show _/\_;rw[hn8];exact⟨by omega,by omega⟩
  have en:(r6 * (if decide (r4 > 0) then 1 else 0)).toNat=n8:=by rw[hn8];rfl
  refine for_ind (fun i Γ S'=>∃ (x7 x8:Option D) (ts:List (List Str)),Γ=[some (.ref a),some (.int most),some (.lst (pool.map D.str)),some (.int r4),some (.ref sp),some (.int r6),some (.int r7),x7,x8]/\S' sp=some (.lst (ts.map tupS))/\ts.length<=13 + i/\(∀ t∈ts,SetIn pool t)/\DeckC S' a c/\∀ b o,b≠a->b≠c->S b=some o->S' b=some o) ⟨none,none,ts,rfl,h7,by omega,hts,dk7,kp7⟩ ?_ ?_
  ·rintro i x Γ S8 N hx ⟨x7,x8,ts,rfl,h8,tl,hts,dk8,kp8⟩ hN;have hi:i < n8:=by
    have:=(bi.mp hx).1
    rwa [rngD_len,en] at this
   refine⟨trivial,a,c,_,pool,6,rfl,.inr rfl,dk8,nd,by omega,by decide,fun t S9 t1 t2 t3 off9 dk9=>?_⟩
   refine⟨fun Γ' S'=>∃ t:List Str,Γ'=[some (.ref a),some (.int most),some (.lst (pool.map D.str)),some (.int r4),some (.ref sp),some (.int r6),some (.int r7),some x,some (tupS t)]/\SetIn pool t/\S' sp=some (.lst (ts.map tupS))/\DeckC S' a c/\∀ b o,b≠a->b≠c->S b=some o->S' b=some o,?_,?_⟩
   ·have h9:S9 sp=some (.lst (ts.map tupS)):=(off9 sp hsa.1 hsa.2).trans h8;have kp9:∀ b o,b≠a->b≠c->S b=some o->S9 b=some o:=fun b o h1 h2 e=>(off9 b h1 h2).trans (kp8 b o h1 h2 e);refine⟨rfl,_,rfl,ite2 (fun _=>?_) fun _=>⟨t,rfl,⟨t1,t2,t3⟩,h9,dk9,kp9⟩⟩;refine⟨a,c,_,pool.map D.str,rfl,.inr rfl,dk9,by rw[aj];omega,fun p ys S10 pm hp h10 off10 dk10=>?_⟩
    obtain⟨as,rfl,pa⟩:=perm_strs pm;have hps:sp≠p:=by rintro rfl;rw[h9] at hp;cases hp
    have e7:r7=((r7.toNat:Nat):Int):=by omega
    have ecut:cutD (as.map D.str) none (some r7)=(as.take r7.toNat).map D.str:=by
     rw[cutD_map]
     have:HT.sIx as.length as.length (some r7)=min r7.toNat as.length:=by rw[e7,HT.sIx_nat,bF]
     rw[this,HT.sIx_none,fL,d6]
     congr 1
     rcases Nat.le_total r7.toNat as.length with z | z
     ·rw[hX z]
     ·rw[Nat.min_eq_right z,d3,bZ z]
    have tnd:(as.take r7.toNat).Nodup:=(pa.nodup_iff.mpr nd).sublist (dH _ _);refine⟨r7,rfl,_,h10,?_⟩;rw[ecut];refine .inl ⟨as.take r7.toNat,rfl,by rw[bw];have:=pa.length_eq;omega,_,rfl,srS (as.take r7.toNat),rfl,setIn_of tnd (fun n hn=>pa.mem_iff.mp (dF hn)) (by rw[bw];omega),?_,dk10,fun b o h1 h2 e=>?_⟩
    ·rw[off10 sp hsa.1 hsa.2 hps];exact h9
    ·have h6:=kp9 b o h1 h2 e;rw[off10 b h1 h2 (by rintro rfl;rw[hp] at h6;cases h6)];exact h6
   ·rintro Γ' S' ⟨t,rfl,hst,h9,dk9,kp9⟩;refine⟨⟨_,h9⟩,_,h9,z9999 (by rw[aj];omega),hN _ _ ⟨_,_,ts++[t],rfl,by rw[supd_same,aN];rfl,by rw[av];show _ + 1<=_;omega,fun u hu=>?_,dk9.supd hsa.1 hsa.2,fun b o h1 h2 e=>?_⟩⟩
    ·rcases aU.mp hu with z | z
     ·exact hts u z
     ·rw[az.mp z];exact hst
    ·rw[supd_ne (by rintro rfl;rw[hSsp] at e;cases e)];exact kp9 b o h1 h2 e
  ·rintro Γ S8 ⟨x7,x8,ts,rfl,h8,tl,hts,dk8,kp8⟩;rw[rngD_len,en] at tl;have ecut:cutD (ts.map tupS) none (some (most:Int))=(ts.take most).map tupS:=by
    rw[cutD_map,HT.sIx_none,HT.sIx_nat,fL,d6]
    congr 1
    rcases Nat.le_total most ts.length with z | z
    ·rw[hX z]
    ·rw[Nat.min_eq_right z,d3,bZ z]
   refine⟨trivial,(most:Int),rfl,_,h8,?_⟩;rw[ecut];have tk:(ts.take most).length<=most:=by rw[bw];omega
   refine⟨ts.take most,rfl,by omega,fun out ond omem opw=>⟨_,rfl,?_⟩⟩
   have osi:∀ t∈out,SetIn pool t:=fun t ht=>hts t (dF ((omem t).mp ht));have onm:∀ x∈L2.nms out,x∈pool:=fun x hx=>by
    obtain⟨t,ht,hxt⟩:=mem_nms.mp hx;exact(osi t ht).2.1 x hxt
   have ol:out.length<=most:=aV (ond.length_le_of_subset fun t ht=>(omem t).mp ht) tk;refine rt_drop (S':=fun b=>if b=a\/b=c then S8 b else S b) (fun b o e=>?_) (q out _ { srt:=opw,each:=fun t ht=>⟨(osi t ht).1,(osi t ht).2.2⟩,len:=ol,nms:=aV ((nms_srt _).nodup.length_le_of_subset onm) (by omega),ne:=fun x hx=>lt_empty (hnm x (onm x hx)).1,nm:=fun x hx=>hnm x (onm x hx) } (fun b h1 h2=>if_neg (by rintro(z | z);exact h1 z;exact h2 z)) (dk8.eq (if_pos (.inl rfl)) (if_pos (.inr rfl))))
   by_cases h:b=a\/b=c
   ·rw[if_pos h] at e;exact e
   ·rw[if_neg h] at e;exact kp8 b o (fun z=>h (.inl z)) (fun z=>h (.inr z)) e
end
end Toy
set_option maxHeartbeats 4000000
namespace L2
open PySem
theorem cut_from (xs:List D) (i:Nat):cutD xs (some ((i:Int) + 1)) none=xs.drop (i + 1):=by
 rcases bH i xs.length with h | h
 ·have e:cutD xs (some ((i:Int) + 1)) none=cutD (xs.map id) (some (((i + 1:Nat):Int))) none:=by rw[kh];rfl
  rw[e,cutD_map,HT.sIx_none,HT.sIx_nat,hX (by lia),bZ (by rw[dw];exact ar _),kh]
 ·have e:cutD xs (some ((i:Int) + 1)) none=cutD (xs.map id) (some (((i + 1:Nat):Int))) none:=by rw[kh];rfl
  rw[e,cutD_map,HT.sIx_none,HT.sIx_nat,dW (by lia),dW (by lia),List.take_nil]
  rfl
end L2
namespace Toy
open PySem L2
def cn_of (n:Nat):SpD:=fun ds S Q=>∃ (xs:List D) (m:Nat),ds=[.tup xs,.int m]/\m < n/\xs.length<=20/\Q (.lst ((ch xs m).map D.tup)) S
def sp_names_of_all:SpD:=fun ds S Q=>∃ ts:List (List Str),ds=[.tup (ts.map tupS)]/\ts≠[]/\ts.length<=99/\(∀ t∈ts,t.length<=99)/\Q (tupS (naG ts)) S
def sp_core_of:SpD:=fun ds S Q=>∃ ts:List (List Str),ds=[.tup (ts.map tupS)]/\ts.length<=99/\(∀ t∈ts,t.length<=99)/\(lfG ts).length<=99/\Q (opD (coG ts)) S
end Toy
namespace L2
open PySem
open Toy (ch ch_cons ch_zero ch_mem mem_ch coG naG lfG meG laG Sun co_some sun_pre la_co flw flw_eq mem_na mem_me)
theorem ch_lex {α:Type} [DecidableEq α] {lt:α->α->Bool} (irr:∀ a,lt a a=false):∀ {N:List α} (k:Nat),N.Pairwise (fun a b=>lt a b=true)->(ch N k).Pairwise fun a b=>lexG lt a b=true
 | N,0,_=>by rw[ch_zero];exact cj _ _
 | [],k + 1,_=>kE
 | a::N,k + 1,hN=>by
  have hN':=a9.mp hN;rw[ch_cons];refine eF.mpr ⟨?_,ch_lex irr (k + 1) hN'.2,?_⟩
  ·rw[gu];refine(ch_lex irr k hN'.2).imp fun {x y} h=>?_;show(if a=a then lexG lt x y else lt a a)=true
   rw[if_pos rfl];exact h
  ·intro x hx y hy;obtain⟨r,hr,rfl⟩:=b4.mp hx;obtain⟨h1,h2⟩:=ch_mem hy;cases y with
   | nil=>simp at h1
   | cons b y =>
    have hb:b∈N:=h2.subset am;have hab:=hN'.1 b hb;show(if a=b then lexG lt r y else lt a b)=true
    rw[if_neg (by rintro rfl;rw[irr] at hab;cases hab)]
    exact hab
def flO (ts:List (List Str)) (m:Nat):List (List (List Str)):=(ch ts m).filter fun s=>(coG s).isSome
theorem srtT_hp {ts:List (List Str)} (h:SrtT ts):ts.Pairwise fun a b=>HT.lexS a b=true/\HT.lexS b a=false:=h.imp fun h=>⟨h,HT.lexS_as h⟩
theorem flw_flO {ts:List (List Str)} (hs:SrtT ts) (he:∀ t∈ts,Srt t) (j:Nat):flw HT.lexS [] (fun s=>(coG s).isSome) ts j=flO ts (j + 2):=by
 refine flw_eq (srtT_hp hs) lexS_irr (fun s h=>?_) (fun s o h2 sub ok=>?_) j
 ·obtain⟨h1,h2⟩:=ch_mem h;refine(co_some fun o ho=>(he o (h2.subset ho)).nodup).mpr ⟨by lia,hs.nodup.sublist h2,?_⟩
  match s,h1 with
  | [a,b],_ =>
   unfold Sun;refine a9.mpr ⟨fun y hy n na nb o ho=>?_,cj _ _⟩;rw[az.mp hy] at nb;rcases aA.mp ho with rfl | ho
   ·exact na
   ·rw[az.mp ho];exact nb
 ·have nd:∀ o'∈s++[o],o'.Nodup:=fun o' ho=>(he o' (sub.subset ho)).nodup;obtain⟨_,h4,h5⟩:=(co_some nd).mp ok;exact(co_some fun o' ho=>nd o' (bd _ ho)).mpr ⟨h2,(b0.mp h4).1,sun_pre h5⟩
theorem mem_flO {ts:List (List Str)} {m:Nat} {s:List (List Str)}:s∈flO ts m↔s.length=m/\s.Sublist ts/\(coG s).isSome=true:=by
 unfold flO;rw[bP];constructor
 ·rintro⟨h1,h2⟩;exact⟨(ch_mem h1).1,(ch_mem h1).2,h2⟩
 ·rintro⟨rfl,h2,h3⟩;exact⟨mem_ch h2,h3⟩
theorem flO_lex {ts:List (List Str)} (hs:SrtT ts) (m:Nat):(flO ts m).Pairwise fun a b=>flE.lt a b=true:=by
 have e:flE.lt=lexG HT.lexS:=by show lexG setE.lt=_;rw[setE_lt]
 rw[e];exact(ch_lex lexS_irr m hs).filter _
theorem lexG_as {α:Type} [DecidableEq α] {lt:α->α->Bool} (as:∀ {a b},lt a b=true->lt b a=false):∀ {a b:List α},lexG lt a b=true->lexG lt b a=false
 | [],[],h=>by cases h
 | [],_::_,_=>rfl
 | _::_,[],h=>by cases h
 | x::a,y::b,h=>by
  have h':(if x=y then lexG lt a b else lt x y)=true:=h
  show(if y=x then lexG lt b a else lt y x)=false
  by_cases e:x=y
  ·rw[if_pos e] at h';rw[if_pos e.symm];exact lexG_as as h'
  ·rw[if_neg e] at h';rw[if_neg fun z=>e z.symm];exact as h'
theorem flE_as {a b:List (List Str)} (h:flE.lt a b=true):flE.lt b a=false:=by
 have e:flE.lt=lexG HT.lexS:=by show lexG setE.lt=_;rw[setE_lt]
 rw[e] at h ⊢;exact lexG_as HT.lexS_as h
theorem best_head {α:Type} [DecidableEq α] {E:Enc α} (hE:E.dep<=8) (as:∀ {a b},E.lt a b=true->E.lt b a=false) {x:α}:∀ {xs:List α},(∀ y∈xs,E.lt x y=true)->bestD (E.e x) (xs.map E.e)=E.e x
 | [],_=>rfl
 | y::xs,h=>by
  show bestD (if ltN 8 (E.e y) (E.e x)=true then E.e y else E.e x) (xs.map E.e)=_
  rw[E.lte 8 y x hE,as (h y am),if_neg (by simp)]
  exact best_head hE as fun z hz=>h z (aq _ hz)
theorem lf_len {ts:List (List Str)} {a b:Nat} (hl:ts.length<=a) (he:∀ t∈ts,t.length<=b):(lfG ts).length<=a * b:=by
 have gen:∀ l:List (List Str),(∀ t∈l,t.length<=b)->(l.flatMap fun o=>o.filter fun d=>!decide (d∈naG ts)).length<=l.length * b:=by
  intro l
  induction l with
  | nil=>intro _;simp
  | cons t l ih =>
   intro h;rw[cq,av,aE,Nat.succ_mul];have h1:=dq (fun d=>!decide (d∈naG ts)) t;have h2:=h t am;have h3:=ih fun t ht=>h t (aq _ ht);lia
 exact aV (gen ts he) (Nat.mul_le_mul_right b hl)
end L2
namespace Toy
open PySem L2
def sp_flowers_of:SpD:=fun ds S Q=>∃ (ts:List (List Str)) (m:Nat),ds=[.tup (ts.map tupS),.int m]/\2<=m/\m<=6/\SrtT ts/\ts.length<=15/\(∀ t∈ts,Srt t/\t.length<=12)/\Q (.lst ((flO ts m).map flE.e)) S
def opF:Option (List (List Str))->D
 | none=>.non
 | some s=>flE.e s
def sp_first_flower:SpD:=fun ds S Q=>∃ (ts:List (List Str)) (m:Nat),ds=[.tup (ts.map tupS),.int m]/\2<=m/\m<=6/\SrtT ts/\ts.length<=15/\(∀ t∈ts,Srt t/\t.length<=12)/\Q (opF (flO ts m).head?) S
end Toy
namespace Toy
section
variable {A:Type} (J:List A->A->Bool)
def extS:List A->List A->Nat->List (List A)
 | s,_,0=>[s]
 | _,[],_ + 1=>[]
 | s,a::r,k + 1=>(if J s a=true then extS (s++[a]) r k else [])++extS s r (k + 1)
def kidS (go:A->Bool) (s:List A):List A->List (List A × List A)
 | []=>[]
 | a::r=>if go a=true/\J s a=true then (s++[a],r)::kidS go s r else kidS go s r
theorem extS_zero (s r:List A):extS J s r 0=[s]:=by cases r <;> rfl
theorem extS_mem {k:Nat}:∀ {r s c:List A},c∈extS J s r k->∀ x∈c,x∈s\/x∈r:=by
 induction k with
 | zero =>
  intro r s c h x hx;rw[extS_zero,az] at h;exact .inl (h ▸ hx)
 | succ k ih =>
  intro r
  induction r with
  | nil=>intro s c h;cases h
  | cons a r ir =>
   intro s c h x hx;rcases aU.mp h with h | h
   ·by_cases e:J s a=true
    ·rw[if_pos e] at h;rcases ih h x hx with h | h
     ·rcases aU.mp h with h | h
      ·exact .inl h
      ·exact .inr (az.mp h ▸ am)
     ·exact .inr (aq _ h)
    ·rw[if_neg e] at h;cases h
   ·rcases ir h x hx with h | h
    ·exact .inl h
    ·exact .inr (aq _ h)
def wanS (ok:List A->Bool) (s r:List A) (k:Nat):List (List A):=(extS J s r k).filter ok
theorem wanS_kid (ok:List A->Bool) (go:A->Bool) (s:List A) (k:Nat):∀ (r:List A),(∀ l a r',r=l++a::r'->go a=false->J s a=true->wanS J ok (s++[a]) r' k=[])->wanS J ok s r (k + 1)=((kidS J go s r).map fun x=>wanS J ok x.1 x.2 k).flatten
 | [],_=>rfl
 | a::r,h=>by
  have ih:=wanS_kid ok go s k r fun l b r' e=>h (a::l) b r' (by rw[e];rfl)
  show((if J s a=true then extS J (s++[a]) r k else [])++extS J s r (k + 1)).filter ok=((if go a=true/\J s a=true then (s++[a],r)::kidS J go s r else kidS J go s r).map _).flatten
  rw[iS]
  by_cases hj:J s a=true
  ·rw[if_pos hj];cases hg:go a with
   | true =>
    rw[if_pos ⟨rfl,hj⟩,aY,gB,<- ih];rfl
   | false =>
    rw[if_neg (fun z=>by cases z.1),<- ih,show(extS J (s++[a]) r k).filter ok=[] from h [] a r rfl hg hj];rfl
  ·rw[if_neg hj,if_neg (fun z=>hj z.2),<- ih];rfl
theorem wanS_none {w:A} {ok:List A->Bool} (ho:∀ c,ok c=true->w∈c) {s r:List A} {k:Nat} (h1:w∉s) (h2:w∉r):wanS J ok s r k=[] :=
 dg.mpr fun c hc hw=>by
  rcases extS_mem J hc w (ho c hw) with h | h
  ·exact h1 h
  ·exact h2 h
def wgtS (p:List (List A × List A)):Nat:=(p.map fun x=>2 ^ x.2.length).sum
theorem wgtS_append (p q:List (List A × List A)):wgtS (p++q)=wgtS p + wgtS q:=by unfold wgtS;rw[aN,List.sum_append]
theorem wgtS_kid (go:A->Bool) (s:List A):∀ r:List A,wgtS (kidS J go s r) < 2 ^ r.length
 | []=>ar _
 | a::r=>by
  have ih:=wgtS_kid go s r;rw[aE,Nat.pow_succ];show wgtS (if _ then _ else _) < _
  split
  ·show 2 ^ r.length + wgtS (kidS J go s r) < _;omega
  ·omega
theorem wgtS_rev (p:List (List A × List A)):wgtS p.reverse=wgtS p:=by unfold wgtS;rw[gR,List.sum_reverse]
def lowS (p:List (List A × List A)) (B:Nat):Prop:=∀ (i:Nat) (h:i < p.length),p[i].2.length * (p[i].2.length + 1) / 2 + 1 + i<=B
theorem lowS_len {p:List (List A × List A)} {B:Nat} (h:lowS p B):p.length<=B:=by
 rcases Nat.eq_zero_or_pos p.length with z | z
 ·omega
 ·have:=h (p.length - 1) (by omega)
  omega
theorem kidS_at (go:A->Bool) (s:List A):∀ (r:List A) (i:Nat) (h:i < (kidS J go s r).length),(kidS J go s r)[i].2.length + i + 1<=r.length/\(kidS J go s r).length<=r.length
 | [],i,h=>absurd h (cV _)
 | a::r,i,h=>by
  by_cases c:go a=true/\J s a=true
  ·have e:kidS J go s (a::r)=(s++[a],r)::kidS J go s r:=if_pos c;simp only[e] at h ⊢;cases i with
   | zero =>
    refine⟨ar _,?_⟩;rw[aE,aE];cases hk:kidS J go s r with
    | nil=>exact gK (bA _)
    | cons x l =>
     have:=(kidS_at go s r 0 (by rw[hk];exact iq _)).2
     rw[hk] at this;omega
   | succ i =>
    have:=kidS_at go s r i (by simpa using h)
    simp only[List.getElem_cons_succ,aE];omega
  ·have e:kidS J go s (a::r)=kidS J go s r:=if_neg c;simp only[e] at h ⊢
   have:=kidS_at go s r i h
   rw[aE];omega
theorem lowS_step {p:List (List A × List A)} {s r:List A} {B:Nat} (go:A->Bool) (h:lowS (p++[(s,r)]) B):lowS (p++(kidS J go s r).reverse) B:=by
 intro i hi;rcases bH i p.length with c | c
 ·have:=h i (by rw[av];omega)
  rw[jp c] at this ⊢;exact this
 ·have h0:=h p.length (by rw[av];exact du _)
  rw[i4 (ar _)] at h0;simp only[iu,List.getElem_cons_zero] at h0;rw[av,dQ] at hi;rw[i4 c,List.getElem_reverse];obtain⟨j,hj⟩:∃ j,j=(kidS J go s r).length - 1 - (i - p.length):=⟨_,rfl⟩;have k:=kidS_at J go s r j (by omega)
  simp only[<- hj];generalize hx:((kidS J go s r)[j]'(by omega)).2.length=x at k ⊢
  have:x * (x + 1) / 2 + r.length<=r.length * (r.length + 1) / 2:=by
   obtain⟨n,hn⟩:∃ n,r.length=n + 1:=⟨r.length - 1,by omega⟩
   rw[hn];have h2:x * (x + 1)<=n * (n + 1):=Nat.mul_le_mul (by omega) (by omega)
   have h3:(n + 1) * (n + 1 + 1)=n * (n + 1) + (n + 1) * 2:=by rw[Nat.mul_comm n,<- Nat.mul_add]
   omega
  omega
def tellS (ok:List A->Bool) (m:Nat) (p:List (List A × List A)):Option (List A):=((p.reverse.map fun x=>wanS J ok x.1 x.2 (m - x.1.length)).flatten).head?
theorem tellS_full {ok:List A->Bool} {m:Nat} {p:List (List A × List A)} {s r:List A} (h:s.length=m) (o:ok s=true):tellS J ok m (p++[(s,r)])=some s:=by
 unfold tellS;rw[fP,gC,fv,aY,gB];show(wanS J ok s r (m - s.length)++_).head?=_;rw[h,iu];unfold wanS;rw[extS_zero,cz,if_pos o]
 rfl
theorem tellS_over {ok:List A->Bool} {m:Nat} {p:List (List A × List A)} {s r:List A} (h:s.length=m) (o:ok s=false):tellS J ok m (p++[(s,r)])=tellS J ok m p:=by
 unfold tellS;rw[fP,gC,fv,aY,gB];show(wanS J ok s r (m - s.length)++_).head?=_;rw[h,iu];unfold wanS;rw[extS_zero,cz,if_neg (by rw[o];exact aS)]
 rfl
theorem tellS_kid {ok:List A->Bool} {m:Nat} {p:List (List A × List A)} {s r:List A} (go:A->Bool) (h:s.length < m) (hp:∀ l a r',r=l++a::r'->go a=false->J s a=true->wanS J ok (s++[a]) r' (m - s.length - 1)=[]):tellS J ok m (p++[(s,r)])=tellS J ok m (p++(kidS J go s r).reverse):=by
 unfold tellS;rw[fP,gC,fv,aY,gB,fP,List.reverse_reverse,aN,List.flatten_append]
 congr 2
 obtain⟨k,hk⟩:∃ k,m - s.length=k + 1:=⟨m - s.length - 1,by omega⟩
 show wanS J ok s r (m - s.length)=_;rw[hk];rw[hk,Nat.add_sub_cancel] at hp;rw[wanS_kid J ok go s k r hp]
 congr 1
 refine dh fun x hx=>?_
 have:∀ (r:List A),∀ x∈kidS J go s r,x.1.length=s.length + 1:=fun r=>by
  induction r with
  | nil=>intro x hx;cases hx
  | cons a r ih =>
   intro x hx;unfold kidS at hx
   split at hx
   ·rcases aA.mp hx with rfl | hx
    ·show(s++[a]).length=_;rw[av];rfl
    ·exact ih x hx
   ·exact ih x hx
 rw[this r x hx,show m - (s.length + 1)=k by omega]
end
end Toy
set_option maxHeartbeats 1000000
namespace L2
open PySem
open Toy (ch ch_zero ch_cons ch_mem mem_ch)
end L2
set_option maxHeartbeats 4000000
namespace L2
open PySem Toy
end L2
namespace L2
open PySem
open Toy (ch ch_cons ch_zero ch_mem mem_ch coG naG lfG meG laG Sun co_some sun_pre la_co flw flw_eq mem_na mem_me)
end L2
namespace L2
open PySem
open Toy (ch ch_cons ch_zero ch_mem mem_ch coG naG lfG meG laG Sun co_some sun_pre la_co flw flw_eq mem_na mem_me)
theorem me_comm {a b:List Str} (ha:Srt a) (hb:Srt b):meG a b=meG b a:=Srt.ext (fH _ ha) (fH _ hb) fun n=>by rw[mem_me,mem_me];exact⟨fun h=>⟨h.2,h.1⟩,fun h=>⟨h.2,h.1⟩⟩
def Fm (s:List (List Str)) (c:List Str):Prop:=s.Pairwise fun a b=>meG a b=c
theorem co_Fm {s:List (List Str)} (h2:2<=s.length) (nd:s.Nodup) (hs:∀ o∈s,Srt o) {c:List Str}:coG s=some c↔Fm s c:=by
 rw[<- la_co (lt:=fun a b=>HT.ltS a b=true) (fun a=>by rw[HT.ltS_ir];simp) (fun a b h=>by rw[HT.ltS_as h];simp) h2 nd hs]
 match s,h2,hs with
 | a::b::r,_,hs =>
  have eq:∀ d:List Str,((a::b::r).Pairwise fun other one=>meG one other=d)↔Fm (a::b::r) d:=fun d=>by
   unfold Fm;constructor
   ·intro h;refine fW ?_ h;intro x y hx hy e;rw[me_comm (hs x hx) (hs y hy)];exact e
   ·intro h;refine fW ?_ h;intro x y hx hy e;rw[me_comm (hs y hy) (hs x hx)];exact e
  have hab:∀ d,Fm (a::b::r) d->meG a b=d:=fun d h=>(a9.mp h).1 b am;show(if (a::b::r).Pairwise (fun other one=>meG one other=meG a b) then some (meG a b) else none)=some c↔_
  constructor
  ·intro h
   split at h
   ·next hp=>cases h;exact(eq _).mp hp
   ·cases h
  ·intro h
   have:=hab c h
   subst this;rw[if_pos ((eq _).mpr h)]
end L2
namespace Toy
open PySem L2
end Toy
namespace L2
open PySem
open Toy (ch ch_mem mem_ch ch_len meG opD)
end L2
namespace L2
open PySem
open Toy (ch ch_mem mem_ch coG naG lfG meG mem_na mem_me)
end L2
namespace L2
open PySem
open Toy (meG mem_me)
end L2
namespace L2
open PySem
open Toy
theorem tsn_f {P:Prop} [Decidable P] (h:P):D.bl (if true=true then !decide P else decide P)=D.bl false:=by rw[decide_eq_true h];rfl
end L2
set_option maxHeartbeats 1000000
namespace L2
open PySem Toy
end L2
set_option maxHeartbeats 4000000
namespace L2
open PySem Toy
section
variable {α:Type} [DecidableEq α] (ok:List α->Bool)
variable {ok}
variable {lt:α->α->Bool}
variable (ok lt) in
end
end L2
set_option maxHeartbeats 1000000
namespace Toy
open PySem L2
end Toy
namespace L2
open PySem Toy
end L2
namespace L2
open PySem PySem.Spec PyProof.Rows
end L2
set_option maxHeartbeats 4000000
namespace L2
open PySem
open Toy
end L2
set_option maxHeartbeats 1000000
namespace L2
open PySem Toy
end L2
namespace L2
open PySem PySem.Spec PyProof.Rows
end L2
set_option maxHeartbeats 4000000
namespace Toy
open PySem L2
end Toy
set_option maxHeartbeats 1000000
namespace L2
open PySem Toy
theorem me_swap {a b:List Str} (ha:Srt a) (hb:Srt b):meG a b=meG b a:=Srt.ext (fH _ ha) (fH _ hb) fun x=>by rw[mem_me,mem_me];exact And.comm
theorem pw_all {α:Type} {l:List α} {R:α->α->Prop} (sy:∀ a∈l,∀ b∈l,R a b->R b a) (h:l.Pairwise R):∀ a∈l,∀ b∈l,a≠b->R a b:=fun a ha b hb ne=>by
 obtain⟨i,hi,rfl⟩:=bV ha;obtain⟨j,hj,rfl⟩:=bV hb;rcases gp i j with q | q | q
 ·exact cM.mp h i j hi hj q
 ·subst q;exact absurd rfl ne
 ·exact sy _ hb _ ha (cM.mp h j i hj hi q)
theorem co_all {p:List (List Str)} (h2:2<=p.length) (nd:p.Nodup) (hs:∀ o∈p,Srt o):(coG p).isSome=true↔∃ c,∀ a∈p,∀ b∈p,a≠b->meG a b=c:=by
 constructor
 ·intro h;obtain⟨c,hc⟩:=b5.mp h;exact⟨c,pw_all (fun a ha b hb e=>by rw[me_swap (hs b hb) (hs a ha)];exact e) ((co_Fm h2 nd hs).mp hc)⟩
 ·rintro⟨c,hc⟩
  have:coG p=some c:=(co_Fm h2 nd hs).mpr (fW (fun {a b} ha hb n=>hc a ha b hb n) nd)
  rw[this];rfl
section
variable {ns ms:List Str} (hl:ms.length=ns.length) (nn:ns.Nodup) (nm:ms.Nodup)
include hl nm
include nn in
include nn in
end
end L2
namespace Toy
open PySem L2
section
variable {A:Type} (J:List A->A->Bool)
def chnS:List A->List A->Bool
 | _,[]=>true
 | s,a::c=>J s a && chnS (s++[a]) c
theorem chnS_snoc:∀ (c s:List A) (a:A),chnS J s (c++[a])=(chnS J s c && J (s++c) a)
 | [],s,a=>by
  show(J s a && true)=(true && J (s++[]) a);rw[bI,Bool.and_true,gW]
 | b::c,s,a=>by
  show(J s b && chnS J (s++[b]) (c++[a]))=((J s b && chnS J (s++[b]) c) && J (s++b::c) a);rw[chnS_snoc c (s++[b]) a,Bool.and_assoc,bG];rfl
theorem extS_ch:∀ (k:Nat) (r s:List A),extS J s r k=((ch r k).filter (chnS J s)).map fun c=>s++c:=by
 intro k
 induction k with
 | zero =>
  intro r s;rw[extS_zero,ch_zero];show [s]=[s++[]];rw[bI]
 | succ k ih =>
  intro r
  induction r with
  | nil=>intro s;rfl
  | cons a r ir =>
   intro s;show(if J s a=true then extS J (s++[a]) r k else [])++extS J s r (k + 1)=_
   rw[ch_cons,iS,aN,ir s]
   congr 1
   rw[List.filter_map,cf]
   by_cases h:J s a=true
   ·rw[if_pos h,ih r (s++[a])];have e:(chnS J s ∘ fun c=>a::c)=chnS J (s++[a]):=funext fun c=>by
     show(J s a && chnS J (s++[a]) c)=_;rw[h,gW]
    rw[e];refine dh fun c _=>?_;show s++[a]++c=s++a::c;rw[bG];rfl
   ·rw[if_neg h];have e:(ch r k).filter (chnS J s ∘ fun c=>a::c)=[]:=dg.mpr fun c _ z=>by
     have z:(J s a && chnS J (s++[a]) c)=true:=z;rw[aG] at z;exact h z.1
    rw[e];rfl
end
def joiG (s:List (List Str)) (x:List Str):Bool:=decide (s.length < 2) || decide (∀ o∈s,meG o x=meG (s.getD 0 []) (s.getD 1 []))
theorem chn_co:∀ (n:Nat) (s:List (List Str)),s.length=n + 2->s.Nodup->(∀ o∈s,Srt o)->chnS joiG [] s=(coG s).isSome
 | 0,[a,b],_,nd,hs=>by
  have e:(coG [a,b]).isSome=true:=(co_all (ar _) nd hs).mpr ⟨meG a b,fun x hx y hy n=>by
   have hab:∀ z,z∈[a,b]->z=a\/z=b:=fun z hz=>by simpa using hz
   rcases hab x hx with rfl | rfl <;> rcases hab y hy with rfl | rfl
   ·exact absurd rfl n
   ·rfl
   ·exact me_swap (hs _ hx) (hs _ hy)
   ·exact absurd rfl n⟩
  rw[e];rfl
 | n + 1,s,h,nd,hs=>by
  obtain⟨c,x,rfl⟩:∃ c x,s=c++[x]:=⟨s.dropLast,s.getLast (by rintro rfl;cases h),(hZ _).symm⟩
  have hc:c.length=n + 2:=by rw[av] at h;simpa using h
  have ndc:=(b0.mp nd).1;have hx:x∉c:=fun z=>(b0.mp nd).2.2 x z x am rfl;have sc:∀ o∈c,Srt o:=fun o ho=>hs o (bd _ ho);have sx:Srt x:=hs x (aL _ am);rw[chnS_snoc,chn_co n c hc ndc sc,bQ,fj,aG,co_all (by omega) ndc sc,co_all (by omega) nd hs]
  have a0:c.getD 0 []∈c:=by rw[aB,ag (by omega)];exact d0 (by omega)
  have a1:c.getD 1 []∈c:=by rw[aB,ag (by omega)];exact d0 (by omega)
  have n01:c.getD 0 []≠c.getD 1 []:=fun e=>by
   rw[aB,aB,ag (by omega:0 < c.length),ag (by omega:1 < c.length)] at e
   have:=(gH ndc).mp (show c[0]=c[1] from e)
   omega
  have jo:joiG c x=true↔∀ o∈c,meG o x=meG (c.getD 0 []) (c.getD 1 []):=by
   unfold joiG;rw[Bool.or_eq_true,decide_eq_true_iff,decide_eq_true_iff];exact⟨fun z=>z.resolve_left (by omega),.inr⟩
  rw[jo];constructor
  ·rintro⟨⟨k,hk⟩,hj⟩;have e:=hk _ a0 _ a1 n01;rw[e] at hj;refine⟨k,fun a ha b hb nab=>?_⟩;rcases aU.mp ha with ha | ha <;> rcases aU.mp hb with hb | hb
   ·exact hk a ha b hb nab
   ·rw[az.mp hb];exact hj a ha
   ·rw[az.mp ha,me_swap sx (sc b hb)];exact hj b hb
   ·exact absurd ((az.mp ha).trans (az.mp hb).symm) nab
  ·rintro⟨k,hk⟩;have up:∀ a∈c,a∈c++[x]:=fun a ha=>bd _ ha;refine⟨⟨k,fun a ha b hb nab=>hk a (up a ha) b (up b hb) nab⟩,fun o ho=>?_⟩;rw[hk _ (up _ a0) _ (up _ a1) n01];exact hk o (up o ho) x (aL _ am) fun e=>hx (e ▸ ho)
theorem ext_flO {ts:List (List Str)} (hs:SrtT ts) (he:∀ t∈ts,Srt t) {m:Nat} (m2:2<=m):extS joiG [] ts m=flO ts m:=by
 rw[extS_ch];unfold flO;rw[show(fun c:List (List Str)=>[]++c)=id from funext fun c=>bQ c,kh]
 refine List.filter_congr fun s h=>?_;obtain⟨h1,h2⟩:=ch_mem h;exact chn_co (m - 2) s (by omega) (hs.nodup.sublist h2) fun o ho=>he o (h2.subset ho)
theorem tellS_start {ts:List (List Str)} (hs:SrtT ts) (he:∀ t∈ts,Srt t) {m:Nat} (m2:2<=m) (ok:List (List Str)->Bool):tellS joiG ok m [([],ts)]=((flO ts m).filter ok).head?:=by
 rw[<- ext_flO hs he m2];show((wanS joiG ok [] ts (m - 0))++[]).head?=_;rw[bI,fL];rfl
theorem wan_skip {ts:List (List Str)} (hs:SrtT ts) {w:List Str} {k:Nat} {s l r:List (List Str)} {a:List Str} (ht:(l++a::r).Sublist ts) (hw:w∉s) (h:HT.lexS w a=true):wanS joiG (fun c=>decide (w∈c)) (s++[a]) r k=[]:=by
 have p:=hs.sublist ht;have p2:=a9.mp (eF.mp p).2.1;refine wanS_none joiG (w:=w) (fun c h=>of_decide_eq_true h) ?_ ?_
 ·intro z;rcases aU.mp z with z | z
  ·exact hw z
  ·rw[az.mp z,lexS_irr] at h;cases h
 ·intro z
  have:=HT.lexS_as (p2.1 w z)
  rw[this] at h;cases h
abbrev s_law_joins:Stmt:=top 22
theorem sc_law_joins:FnScope ["some", "one", "core"] ["some", "one"] (defScope s_law_joins):=fsc
def sp_law_joins:SpD:=fun ds S Q=>∃ (s:List (List Str)) (x:List Str),ds=[.lst (s.map tupS),tupS x]/\s.length<=14/\(∀ o∈s,o.length<=6)/\x.length<=6/\Q (.bl (joiG s x)) S
theorem dl_eq (l m:List Str):decide (D.lst (l.map D.str)=D.lst (m.map D.str))=decide (l=m):=by
 refine fj.mpr ?_;rw[decide_eq_true_iff,decide_eq_true_iff];refine⟨fun h=>?_,fun h=>by rw[h]⟩
 injection h with h
 exact map_inj (fun a b e=>strE.inj e) h
section
variable {P:aD} {w:aK} {K:ao} {mg:Str->Option ae} {base:aW} {pt cc cNoSet cKeptSets:Addr}
theorem ok_law_joins (T:Tx K mg "_law_joins" s_law_joins) (B:Bs mg):Df P w K mg base 1 "_law_joins" ["some", "one"] (spU K sp_law_joins):=by
 refine e_def T sc_law_joins (fun F=>F.binds fun _ _ _ _ _ _=>us2 fun _ _=>rfl) ?_ fun f cdv A outer s H E hr=>⟨_,(dss_cons (ds_if (dt_lt hr (e_len rfl B.len (da_cons (dv 0) da_nil)) e_int) (dss_one (ds_ret e_bl)) dss_nil)
  (dss_cons (ds_set (i:=2) sc_law_joins.nd rfl (gO rfl) (e_comp (N':=["name", "some"]) (oc:=none) (b:=false) [0] [] rfl sc_law_joins.nd (fun _ _ _=>turn_one _ _ _ _ _ _ _ _ _) (.own (.cap (i:=0) rfl (by decide +kernel) .nil)) (free_of rfl) (di_sq (e_ix (dv 0) e_int)) (cg_name (i:=0)) (fun _ _ _ _ _=>pg_name (i:=0) (nd_ ["name", "some"]) rfl (aR rfl) (.inr rfl)) (fun _ _ _ _ _=>dts_one (by exact(dt_in hr (dv 0) (e_ix (dv 1) e_int)))) bo_emit (fun _ _ _ _ _ _=>pb_emit rfl (by exact PD.o (dv 0)))))
  (dss_one (ds_ret (e_eq hr (e_comp (N':=["other", "one", "core"]) (oc:=none) (b:=false) [0] [] rfl sc_law_joins.nd (fun _ _ _=>turn_one _ _ _ _ _ _ _ _ _) (.own (.cap (i:=1) rfl (by decide +kernel) (.cap (i:=2) rfl (by decide +kernel) .nil))) (free_of rfl) (di_sq (dv 0)) (cg_name (i:=0)) (fun _ _ _ _ _=>pg_name (i:=0) (nd_ ["other", "one", "core"]) rfl (aR rfl) (.inr rfl)) (fun _ _ _ _ _=>dts_one (by exact(dt_ne hr (e_comp (N':=["name", "one"]) (oc:=none) (b:=false) [0] [] rfl (nd_ ["other", "one", "core"]) (fun _ _ _=>turn_one _ _ _ _ _ _ _ _ _) (.own (.cap (i:=1) rfl (by decide +kernel) .nil)) (free_of rfl) (di_sq (dv 0)) (cg_name (i:=0)) (fun _ _ _ _ _=>pg_name (i:=0) (nd_ ["name", "one"]) rfl (aR rfl) (.inr rfl)) (fun _ _ _ _ _=>dts_one (by exact(dt_in hr (dv 0) (dv 1)))) bo_emit (fun _ _ _ _ _ _=>pb_emit rfl (by exact PD.o (dv 0)))) (dv 2)))) bo_emit (fun _ _ _ _ _ _=>pb_emit rfl (by exact PD.o (dv 0)))) (e_lst (b:=false) da_nil)))))),?_⟩
 ·rintro ds S Q ⟨s,x,rfl,_⟩;rfl
 ·rintro ds S Q ⟨s,x,rfl,l14,l6,x6,q⟩;refine⟨_,rfl,_,rfl,ite2 (fun c0=>?_) fun c0=>?_⟩
  ·have c0:((s.map tupS).length:Int) < 2:=of_decide_eq_true c0;have e:joiG s x=true:=by
    unfold joiG;rw[decide_eq_true (show s.length < 2 by rw[aj] at c0;omega)]
    rfl
   rw[e] at q;exact rt_same q
  have c0:¬ ((s.map tupS).length:Int) < 2:=fun z=>c0 (decide_eq_true z);obtain⟨a,b,r,rfl⟩:∃ a b r,s=a::b::r:=by
   rw[aj] at c0;cases s with
   | nil=>exact absurd (show((0:Nat):Int) < 2 by decide) c0
   | cons a s =>
    cases s with
    | nil=>exact absurd (show((1:Nat):Int) < 2 by decide) c0
    | cons b s=>exact⟨a,b,s,rfl⟩
  have a6:=l6 a am;have b6:=l6 b (aq _ am);refine⟨_,_,rfl,atI_nat (j:=0) rfl,_,rfl,loop_filt (p:=fun n=>decide (n∈b)) (f:=D.str) (fun n hn Q' h=>⟨_,_,rfl,atI_nat (j:=1) rfl,in_t (neg:=false) (E:=strE) (by decide) rfl h⟩) (fun n hn _ Q' h=>h) (z9999 (by show 0 + a.length<=_;omega)) ?_⟩
  rw[bQ];refine⟨_,rfl,loop_filt (p:=fun o=>!decide (meG o x=meG a b)) (f:=tupS) (fun o ho Q' h=>?_) (fun o ho _ Q' h=>h) (z9999 (by show 0 + (a::b::r).length<=_;omega)) ?_⟩
  ·refine⟨_,rfl,loop_filt (p:=fun n=>decide (n∈x)) (f:=D.str) (fun n hn Q' h=>in_t (neg:=false) (E:=strE) (by decide) rfl h) (fun n hn _ Q' h=>h) (z9999 (by have:=l6 o ho;show 0 + o.length<=_;omega)) ?_⟩
   rw[bQ];refine⟨(tupE strE).ok 9 _ _ (by decide),_,rfl,?_⟩
   show Q' (!decide _) S;rw[dl_eq];exact h
  rw[bQ];refine⟨z9999 (by decide),by unfold okE;rw[cH];rfl,rt_same ?_⟩
  have e:decide (D.lst (((a::b::r).filter fun o=>!decide (meG o x=meG a b)).map tupS)=D.lst [])=joiG (a::b::r) x:=by
   refine fj.mpr ?_;unfold joiG;rw[decide_eq_true_iff,Bool.or_eq_true,decide_eq_true_iff,decide_eq_true_iff];constructor
   ·intro h;injection h with h
    rw[ij,dg] at h;refine .inr fun o ho=>?_
    have:=h o ho
    simpa using this
   ·rintro(h | h)
    ·exact absurd h (by rw[aE,aE];omega)
    ·congr 1
     rw[ij,dg];intro o ho
     have:=h o ho
     show ¬ (!decide (meG o x=meG a b))=true;rw[decide_eq_true (show meG o x=meG a b from this)]
     exact aS
  show Q (.bl (decide _)) S;rw[e];exact q
end
end Toy
namespace L2
open PySem PySem.Spec PyProof.Rows
section
variable {X:Cx} {K:Fg} {pos:Pos} {k:Nat}
def ckSq (d:D) (S:Sto):Prop:=∃ xs,lsIs S d xs
end
section
variable {X:Cx} {K:Fg} {pos:Pos} {k:Nat}
def rIndexLt (K:Fg):V->List V->Hp->VK->Prop:=fun x vs H Q=>∃ (a:Addr) (us:List V) (j:Nat) (y:V) (M:Am) (ds:List D) (d:D),x=.ref a/\vs=[y]/\SqL K H a us/\RepL K M H ds us/\RepV K M H d y/\(ds.all fun e=>okE 8 e d)=true/\ds[j]?=some d/\(∀ m,m < j->ds[m]?≠some d)/\j < 10000/\Q (.int j) H
theorem mt_indexLt (hu:X.A.units + 10 < bK) (hK:X.K=K:=by rfl):MtR X "list.index" (rIndexLt K):=by
 subst hK;intro pins s σ H x xs v us Q I rx rs h;obtain⟨a,ws,j,y,M,ds,d,rfl,rfl,sq,lu,ry,ok,hj,hno,hs,q⟩:=h;cases rx;obtain⟨u,rfl,ru⟩:=rs.one;obtain⟨its,r,⟨⟨oc,od,dt,sl⟩,n,e,hc,hd,hsq⟩,hz⟩:=I.list sq;have l1:=lu.length;have l2:=r.length;have jl:j < ds.length:=(bi.mp hj).1;dsimp only at hc hd hsq;subst hc hsq;have at':∀ m (hm:m < its.length),∃ c w,ds[m]?=some c/\RepV X.K M H c w/\RelV w its[m]:=fun m hm=>by
  obtain⟨c,e1,e2⟩:=lu.get' (ag (show m < ws.length by omega))
  obtain⟨u',eu,ru'⟩:=r.get (ag (show m < ws.length by omega))
  rw[ag hm] at eu;cases eu;exact⟨c,_,e1,e2,ru'⟩
 have un:∀ m m' (hm:m < its.length) (hm':m' < its.length),its[m]=its[m']->ds[m']?=some d->ds[m]?=some d:=fun m m' hm hm' ev e1=>by
  obtain⟨c,w,e2,c1,r1⟩:=at' m hm;obtain⟨c',w',e3,c2,r2⟩:=at' m' hm';rw[e1] at e3;cases e3;rw[ev] at r1;rw[RelV.inj r2 r1] at c2;rw[e2,uniq I 8 c1 c2 (bn.mp ok c (bz e2))]
 refine iK F.slot_list_index ⟨_,e,rfl⟩ F.entry_list_index (F.args_list_index_2 _ _) (SeqAt.list_indexAt a its.toArray n od sl u (fun z=>decide (∃ m,∃ (_:m < its.length),its[m]=z/\ds[m]?=some d)) j (by rw[ak];omega) (by omega) ?_ ?_) ⟨e,fun z hz=>?_,⟨.int j,H,I.tok _,⟨_,rfl⟩,q⟩⟩
 ·refine decide_eq_true ⟨j,by omega,?_,hj⟩
  rw[eG]
 ·intro m hm hlt;refine decide_eq_false fun⟨m',hm',e1,e2⟩=>hno m hlt ?_;rw[ak] at hm;rw[eG] at e1;exact un m m' hm hm' e1.symm e2
 ·obtain⟨m,hm,rfl⟩:=Array.mem_iff_getElem.mp hz;rw[ak] at hm;obtain⟨c,w,e1,e2,e3⟩:=at' m hm;have h1:=(eq3 I 8 (show X.A.in1.units + 8 < _ by show X.A.units + 1 + 8 < _;omega) e2 ry e3 ru (bn.mp ok c (bz e1))).eq
  have h2:decide (∃ m',∃ (_:m' < its.length),its[m']=its.toArray[m]'(by rw[ak];exact hm)/\ds[m']?=some d)=decide (c=d):=by
   refine fj.mpr ?_;rw[decide_eq_true_iff,decide_eq_true_iff];rw[eG];constructor
   ·rintro⟨m',hm',e4,e5⟩
    have:=un m m' hm hm' e4.symm e5
    rw[e1] at this;exact aJ this
   ·rintro rfl;exact⟨m,hm,rfl,e1⟩
  rw[h2];rw[eG];exact h1
def idxLtD:D->List D->Sto->DK->Prop:=fun o ds S Q=>∃ (xs:List D) (d:D) (j:Nat),lsIs S o xs/\ds=[d]/\(xs.all fun e=>okE 8 e d)=true/\xs[j]?=some d/\(∀ m,m < j->xs[m]?≠some d)/\j < 10000/\Q (.int j) S
theorem md_indexLt:MtD K "list" (rIndexLt K) idxLtD ckSq:=⟨fun F S H d x r h c=>by
 obtain⟨xs,hx⟩:=c;obtain⟨a,us,rfl,sq,_⟩:=lsIs.sl r h hx;exact .inl ⟨rfl,us,sq⟩,fun F S H d ds x vs Q QD r h l q c=>by
 obtain⟨xs,y,j,h1,rfl,ok,h3,h4,h5,q⟩:=q;obtain⟨v,rfl,rv⟩:=l.one;obtain⟨a,us,rfl,sq,lu⟩:=lsIs.sl r h h1;exact⟨a,us,j,v,_,xs,y,rfl,rfl,sq,lu,rv,ok,h3,h4,h5,c _ _ _ S (Ext.refl _ _) r (by unfold RepV;rfl) q⟩⟩
theorem e_indexLt {o e:Expr} {to:ED} {t:AD} {apos cpos:Pos} (hr:Room k X.A) (ho:PD K X o to) (ha:PAD K X [e] t) (hK:X.K=K:=by rfl)
  (hbase:cJ o "index" X.env (eval o X.env)=eval o X.env:=by rfl)
  (hfew:((bD cpos (au [e] X.env)).all (fun x=>!x.1) && (fg cpos (di [] X.env)).all (fun x=>x.1.isSome)
   && decide (([e]:List Expr).length + ([]:List fK).length + (if ([]:List fK).isEmpty then 0 else 1) < 30))=true:=by rfl)
  (hline:(apos.endLine == cpos.line)=true:=by rfl) (hs:au [e] X.env=(false,eval e X.env)::au [] X.env:=by rfl) (hplain:(bD cpos (au [] X.env)).any (·.1)=false:=by rfl) :
  PD K X (.Call (.Attribute o "index" apos) [e] [] cpos) (dMt idxLtD ckSq to t):=e_bm md_indexLt dN PySem.F.slot_list_index PySem.F.type_list_index (mt_indexLt (lt64 hr) hK) ho ha hK hbase hfew hline hs hplain
end
end L2
set_option maxHeartbeats 4000000
namespace HT
open PySem PyProof.Rows
theorem rcLe_st (A:aQ) (s:ai) (a:Str) (t:Tok) (c:Str) (u:Tok) (prog:aD) (w:aK) (E:ae->ai->Prop) (Q:ae->ai->Prop) (h:Q (.bool (!ltS c a)) s) :
  ax (aC prog w) A (richCompare .LtE (.str a t) (.str c u)) Q E s :=
 (PySem.P.le_str h:ax (aC prog w) A (bE .LtE (.str a t) (.str c u)) Q E s)
section
open PySem.SeqAt
open PySem.AutoSeq1 (wpAny_loadPart')
open PySem.MeetsSeq PySem.MeetsSeq2 PySem.MeetsSeq3
theorem tuple_le_strs (l b:Addr) (items items2:Array ae) (n n2:Nat) (dd dd2:Option Addr) (sl sl2:Array (Option ae)) (ns ms:List Str) (hi:SAre items.toList ns) (hj:SAre items2.toList ms) :
  Meets (cP.«tuple.__le__» ⟨[.ref l,.ref b],[]⟩)
   (fun _ R s=>s.heap.get? l=some { cls:=.type "tuple",dict:=dd,data:=.seq items n,slots:=sl }/\s.heap.get? b=some { cls:=.type "tuple",dict:=dd2,data:=.seq items2 n2,slots:=sl2 } /\
    R (.ok (.ret (.bool (!lexS ms ns)))) s) :=
 .of_wp fun prog w A R s h=>by
  obtain⟨hp,g,d,tk,os⟩:=s;obtain⟨hl,hb,h⟩:=h;have f2:=fU;have z1:items.size=ns.length:=by rw[<- hi.len];simp
  have z2:items2.size=ms.length:=by rw[<- hj.len];simp
  wp_walk using bc hl,bc hb,fM _ (fun rest b s'=>b.1=none/\s'=⟨hp,g,d,tk,os⟩/\∃ (vs ws:List ae) (ns' ms':List Str),rest=vs.zip ws /\
   SAre vs ns'/\SAre ws ms'/\ns'.length + items2.size=ms'.length + items.size/\R (.ok (.ret (.bool (!lexS ms' ns')))) ⟨hp,g,d,tk,os⟩) _
  case turn =>
   rintro⟨y,x⟩ rest b s' ⟨hb',rfl,vs,ws,ns',ms',hz,hvi,hwi,hlen,hR⟩;cases hvi with
   | nil=>rw[fA] at hz;cases hz
   | @cons va a _ _ ha hvi' =>
    obtain⟨t,rfl⟩:=ha;cases hwi with
    | nil=>rw[cH] at hz;cases hz
    | @cons vc c _ _ hc hwi' =>
     obtain⟨u,rfl⟩:=hc;rw[cu] at hz;injection hz with hyx hrest
     injection hyx with hy hx
     subst hy hx;rw[lexS_cons] at hR;simp only[aE] at hlen;obtain⟨e,he,hiff⟩:=eqAt_st A.in1 ⟨hp,g,d,tk,os⟩ a t c u;refine ad (he prog w _ _ ?_);cases e with
     | true =>
      rw[if_pos (hiff.mp rfl).symm] at hR
      wp_walk
      exact⟨rfl,rfl,_,_,_,_,hrest,hvi',hwi',by lia,hR⟩
     | false =>
      rw[if_neg (fun q=>absurd (hiff.mpr q.symm) aS)] at hR;have hri:=rcLe_st A.in1 ⟨hp,g,d,tk,os⟩ a t c u prog w
      wp_walk using hri
      exact⟨_,rfl,by simpa using hR⟩
  case fin =>
   rintro⟨b1,b2⟩ s' ⟨hb',rfl,vs,ws,ns',ms',hz,hvi,hwi,hlen,hR⟩;simp only at hb';subst hb';have hv:(!lexS ms' ns')=decide (items.size<=items2.size):=by
    cases hvi with
    | nil =>
     cases hwi with
     | nil =>
      simp only[dj] at hlen;rw[lexS_nil_nil];exact(decide_eq_true (by lia)).symm
     | cons hc hw =>
      simp only[dj,aE] at hlen;rw[lexS_cons_nil];exact(decide_eq_true (by lia)).symm
    | cons ha hv =>
     cases hwi with
     | nil =>
      simp only[dj,aE] at hlen;rw[lexS_nil_cons];exact(decide_eq_false (by lia)).symm
     | cons hc hw =>
      rw[cu] at hz;cases hz
   rw[hv] at hR
   wp_walk
   exact⟨_,rfl,by simpa [eL] using hR⟩
  case h =>
   exact⟨rfl,rfl,items.toList,items2.toList,ns,ms,rfl,hi,hj,by lia,h⟩
end
section
variable {prog:aD} {w:aK} {A:aQ} {E:ae->ai->Prop} {s:ai}
theorem le_tupStrs {l b:Addr} {items items2:Array ae} {ns ms:List Str} {Q:ae->ai->Prop} (hl:gX s.heap l items) (hb:gX s.heap b items2) (hi:SAre items.toList ns) (hj:SAre items2.toList ms)
  (hu:A.units < bK) (h:Q (.bool (!lexS ms ns)) s):ax (aC prog w) A (bE .LtE (.ref l) (.ref b)) Q E s:=by
 obtain⟨⟨cls,dd,data,sl⟩,ho,hc,n,hd⟩:=id hl;obtain⟨⟨cls2,dd2,data2,sl2⟩,ho2,hc2,n2,hd2⟩:=id hb;simp only at hc hd hc2 hd2;subst hc hd hc2 hd2;exact eY (op:=.LtE) ⟨_,ho,rfl⟩ ⟨_,ho2,rfl⟩ PySem.F.slot_tuple_le PySem.F.entry_tuple_le (PySem.F.args_tuple_le_2 _ _) (tuple_le_strs l b items items2 n n2 dd dd2 sl sl2 ns ms hi hj)
  ⟨ho,ho2,show gG (!lexS ms ns)≠fG/\Q (.bool (!lexS ms ns)) s from⟨(fun x=>nomatch x),h⟩⟩ hu
end
end HT
namespace L2
open PySem PySem.Spec PyProof.Rows
section
variable {X:Cx} {K:Fg} {pos:Pos} {k:Nat}
def rLeT (K:Fg):R2:=fun x y H Q=>∃ d e,dT K dS H x d/\dT K dS H y e/\Q (.bl (!HT.lexS e d)) H
theorem op_leT (hu:X.A.units < bK) (hK:X.K=K:=by rfl):OpR X (bE .LtE) (rLeT K):=by
 subst hK;intro pins s σ H x y v u Q I rx ry h;obtain⟨d,e,⟨a,xs,rfl,ha,pa⟩,⟨b,ys,rfl,hb,pb⟩,q⟩:=h;cases rx;cases ry;obtain⟨its,r1,p1,_⟩:=I.tuple ha;obtain⟨its2,r2,p2,_⟩:=I.tuple hb;exact HT.le_tupStrs p1 p2 (sare_of pa r1) (sare_of pb r2) hu ⟨.bl (!HT.lexS e d),H,I,rfl,q⟩
def leTD:R2D:=fun d e S Q=>∃ a b:List Str,d=tupS a/\e=tupS b/\Q (.bl (!HT.lexS b a)) S
theorem od_leT:OpD K (rLeT K) leTD:=by
 intro F S H d e x y Q QD r hd he h c;obtain⟨a,b,rfl,rfl,q⟩:=h;have one:∀ {t:List Str} {v:V},RepV K (mt S F) H (tupS t) v->dT K dS H v t:=fun {t v} h=>by
  unfold tupS RepV at h;obtain⟨p,us,rfl,tt,l⟩:=h;exact⟨p,us,rfl,tt.sq,repStrs l⟩
 exact⟨a,b,one hd,one he,c.bl r q⟩
theorem dt_leT {a b:Expr} {ta tb:ED} (hr:Room k X.A) (ha:PD K X a ta) (hb:PD K X b tb) (hK:X.K=K:=by rfl):PTD K X (.Compare a [.LtE] [b] pos) (dTest (dOp leTD ta tb)):=dt_cmp (op_leT (lt10 (n:=0) hr) hK) od_leT ha hb (nomark _)
end
end L2
set_option maxHeartbeats 1000000
namespace L2
open PySem PySem.Spec PyProof.Rows
def CX1 (P:aD) (w:aK):CXT:=fun outer H s E e s'=>∃ (ea t L C:Addr) (G B:aW) (H':Hp),e=.ref ea/\s'.os=s.os/\ik s'.gens/\Un (frs outer) [] H H' s.heap G/\HOk P w H' G/\s.heap.get? L=none/\H' L=none /\
 (∀ b o,G.get? b=some o->b∉frs outer->b≠L->B.get? b=some o)/\G.UpToSlots s'.heap/\aW.FlyingW B outer ea (.ref C) (.ref t) s'.heap/\E (.ref C) none H'
section
variable {P:aD} {w:aK} {K:ao} {mg:Str->Option ae} {base:aW} {N:List Str} {qual:Str} {scope:Scope} {f:Addr} {cd:ae} {A:aQ} {outer:List Env} {s₀:ai} {H₀:Hp} {E:XK}
theorem leave_made {pins:List (Addr × Obj)} {σ:St} {H:Hp} {s:ai} {h':aW} {ea C:Addr} {us:List ae} (I:Inv (cxOf (CX1 P w) P w K mg base N qual scope f cd A outer s₀ H₀ E) pins σ H s)
  (hx:aW.MadeExcOf s.heap h' ea (.ref C) us) (q:E (.ref C) none H):(cxOf (CX1 P w) P w K mg base N qual scope f cd A outer s₀ H₀ E).xe (.ref ea) { s with heap:=h' }:=by
 have stk:=I.stack;have hin:∀ env∈(envOfC qual scope s₀.heap.objs.size f cd::outer),∀ b,env.frame=some b->b∈frs (envOfC qual scope s₀.heap.objs.size f cd::outer):=fun env he b hb=>cW.mpr ⟨env,he,hb⟩;refine wpAny_leaves_madeW (base:=PySem.W.hideAll s.heap (frs (envOfC qual scope s₀.heap.objs.size f cd::outer))) (outer:=outer) (L:=s₀.heap.objs.size) I.ok.frames rfl (fun b o q=>PySem.W.of_hideAll _ q) (PySem.W.funFrames_hide stk hin) hx fun h2 t x1 x2 x3 x4=>?_;have lk:s₀.heap.get? s₀.heap.objs.size=none:=by
  cases e:s₀.heap.get? s₀.heap.objs.size with
  | none=>rfl
  | some o=>exact absurd (ay e) (cy _)
 refine⟨ea,t,s₀.heap.objs.size,C,s.heap,_,H,rfl,I.os,I.bare,I.base,I.hok,lk,I.free,fun b o e hb hL=>PySem.W.hideAll_get _ e fun hm=>?_,?_,x1,q⟩
 ·refine hd fun Gq kq=>?_;obtain⟨env,he,hf⟩:=cW.mp hm;refine kq ?_;rcases aA.mp he with rfl | he
  ·exact hL (aJ hf).symm
  ·exact hb (cW.mpr ⟨env,he,hf⟩)
 ·exact(aW.UpToSlots.of_keeps hx.keeps).trans x4
theorem ps_raise {x:Str} {C:Addr} {bmB:List ae} {B newId initId:String} {e:Expr} {ta:TA} {np cpos pos:Pos} (O:OwnCls x C bmB newId mg base) (FB:ExcBaseFacts B newId initId bmB)
  (hg:Gl (cxOf (CX1 P w) P w K mg base N qual scope f cd A outer s₀ H₀ E) x) (ha:PA (cxOf (CX1 P w) P w K mg base N qual scope f cd A outer s₀ H₀ E) [e] ta) (hdb:(x == ("__debug__" : Str))=false:=by decide)
  (he:au [e] (envOfC qual scope s₀.heap.objs.size f cd)=(false,eval e (envOfC qual scope s₀.heap.objs.size f cd))::au [] (envOfC qual scope s₀.heap.objs.size f cd):=by rfl) :
  PS (cxOf (CX1 P w) P w K mg base N qual scope f cd A outer s₀ H₀ E) (.Raise (some (.Call (.Name x np) [e] [] cpos)) none pos) (fun D σ H=>ta σ H fun vs H1=>vs.length<=9/\E (.ref C) none H1):=by
 intro pins s σ H D I h;refine hd fun Gq kq=>?_;obtain⟨tl,N',nm,q,bs,hdct,sn,sub,ab,col,dd,k0,k1,k2,k3,k5,mN,hC,hN,hni,T⟩:=O.obj;refine kq ?_;refine wpAny_Raise_call_subT (C:=C) (nm:=nm) (q:=q) (N:=N') (bs:=bs) (bm:=tl) (hdct:=hdct) (sn:=sn) (sub:=sub) (ab:=ab) (col:=col) (dd:=dd) (k0:=k0) (k1:=k1) (k2:=k2) (k3:=k3) (k5:=k5)
  FB (mN:=mN) (T.hasType FB.hasBase) (I.ok.hd rfl) (by show(bD cpos (au [e] (envOfC qual scope s₀.heap.objs.size f cd))).any (·.1)=false;rw[he];rfl) hni (ld_glob I hg O.bound ⟨rfl,?_⟩ hdb)
 have hh:=ha cpos pins s σ H _ I h;have he':au [e] (cxOf (CX1 P w) P w K mg base N qual scope f cd A outer s₀ H₀ E).env=(false,eval e (cxOf (CX1 P w) P w K mg base N qual scope f cd A outer s₀ H₀ E).env)::au [] (cxOf (CX1 P w) P w K mg base N qual scope f cd A outer s₀ H₀ E).env:=he;rw[he'] at hh ⊢;refine Calls.evalArgs_plain (dP hh (fun us s₂ ⟨vs,H2,I2,r2,hl,q2⟩=>?_) fun _ _ y=>y);have kp:∀ b o,base.get? b=some o->s₂.heap.get? b=some o:=I2.bk;exact⟨rfl,by rw[<- r2.length,bu];omega,kp _ _ hC,hN.keeps kp,T.keeps kp,fun h' ea hm=>leave_made I2 hm q2⟩
end
abbrev SpX:=List D->Sto->DK->(Sto->Prop)->Prop
abbrev SX:=EndsD->(Sto->Prop)->Gm->Sto->Prop
def spUX (K:Fg) (C:Addr) (sp:SpX):Sp:=fun vs H Q E=>∃ F S ds QD XD,Rp K F S H/\RepL K (mt S F) H ds vs/\sp ds S QD XD/\Cn K F S H QD Q/\∀ H' S',Ext S H S' H'->Rp K F S' H'->XD S'->E (.ref C) none H'
def upX (K:Fg) (E:XK) (C:Addr) (t:SX):TS:=fun D' σ H=>∃ F S Γ ED XD,Rp K F S H/\RepG K (mt S F) H Γ σ/\t ED XD Γ S/\CnS K F S H ED D'/\∀ H' S',Ext S H S' H'->Rp K F S' H'->XD S'->E (.ref C) none H'
theorem PSs.le {X:Cx} {st:List Stmt} {t t':TS} (h:PSs X st t) (i:∀ D' σ H,t' D' σ H->t D' σ H):PSs X st t':=fun pins s σ H D' I q=>h pins s σ H D' I (i D' σ H q)
section
variable {X:Cx} {K:Fg} {E:XK} {C:Addr} {pos:Pos}
def xLast (t:SD):SX:=fun ED _ Γ S=>t ED Γ S
theorem xs_last {st:List Stmt} {t:SD} (h:PSsD K X.nox st t):PSs X st (upX K E C (xLast t)) :=
 (PSs.nox h.o).le fun D' σ H ⟨F,S,Γ,ED,XD,r,g,q,c,cx⟩=>⟨F,S,Γ,ED,r,g,q,c⟩
def xIfR (tt:TD) (u:SX):SX:=fun ED XD Γ S=>tt Γ S fun b S1=>if b=true then XD S1 else u ED XD Γ S1
theorem xs_ifR {c:Expr} {st:Stmt} {rest:List Stmt} {tt:TD} {ta:TA} {u:SX} (h:PTD K X.nox c tt) (hs:PS X st (fun D σ H=>ta σ H fun vs H1=>vs.length<=9/\E (.ref C) none H1)) (ht:∀ σ H (Q:List V->Hp->Prop),(∀ v,Q [v] H)->ta σ H Q)
  (hr:PSs X rest (upX K E C u)):PSs X (.If c [st] [] pos::rest) (upX K E C (xIfR tt u)) :=
 (pss_cons (ps_if (PT.nox h.o) (pss_one hs) pss_nil) hr).le fun D' σ H ⟨F,S,Γ,ED,XD,r,g,q,cn,cx⟩ =>
  ⟨F,S,Γ,_,r,g,q,fun b H1 S1 x1 r1 q1=>by
   cases b with
   | true=>exact ht _ _ _ fun v=>⟨by show 1<=9;decide,cx H1 S1 x1 r1 q1⟩
   | false=>exact⟨F,S1,Γ,ED,XD,r1,g.ext x1,q1,cn.ext x1,fun H2 S2 x2=>cx H2 S2 (x1.trans x2)⟩⟩
end
section
variable {K:Fg} {k:Nat}
def xlD (XQ:Sto->Prop):Sto->Prop:=fun S=>∃ S',(∀ a o,S' a=some o->S a=some o)/\XQ S'
end
theorem own_at {K:ao} {h:aW} {mg:Str->Option ae} {x nm qn:Str} {C N:Addr} {dd:Option Addr} {bs bm sub:List ae} {hd ab:Bool} {sn:List Str} {col:Option Bool} {k0 k1 k2 k3 k5:Option ae} (X:K.In h) (G:h.Ns aO mg) (e:bq K aO x=some (some (.ref C)))
  (l:K.lookup C=some (excClassObj nm qn C N bs bm hd sn sub ab col dd k0 k1 k2 k3 k5 "ValueError.__new__")) (q:kA K C [.type "ValueError",.type "Exception",.type "BaseException",.type "object"] "ValueError.__new__" = true) :
  OwnCls x C [.type "ValueError",.type "Exception",.type "BaseException",.type "object"] "ValueError.__new__" mg h:=by
 unfold kA at q;rw[l] at q;have q:(C == C && "ValueError.__new__" == "ValueError.__new__" && !false && PySem.W.tailIn K [.type "ValueError",.type "Exception",.type "BaseException",.type "object"] bm && PySem.W.nsOkIn K N && bq K N "__init__" == some none)=true:=q;rw[aG,aG,aG] at q;exact⟨gU X G e,bm,N,nm,qn,bs,hd,sn,sub,ab,col,dd,k0,k1,k2,k3,k5,_,X _ _ l,.of_isNs (PySem.W.isNs_of_in X q.1.2),PySem.W.nsMap_none_of_in X q.1.2 (fJ q.2),PySem.W.tail_of_in X q.1.1.2⟩
open PySem.W
end L2
namespace L2
open PySem PySem.Spec PyProof.Rows
abbrev FX (K:Fg) (M:Am) (H:Hp) (p:Str × V) (q:Str × D):Prop:=p.1=q.1/\RepV K M H q.2 p.2
def insF (K:Fg) (C:Addr) (fds:List (Str × D)):Am->Hp->Addr->Prop:=fun M H a=>∃ dx fs,H a=some (.ins C dx fs)/\a7 (FX K M H) fs fds
theorem insF.keep {K:Fg} {C:Addr} {fds:List (Str × D)} {M M':Am} {H H':Hp} {a:Addr} (k:Keep M H M' H') (e:H' a=H a) (h:insF K C fds M H a):insF K C fds M' H' a:=by
 refine hd fun Gq kq=>?_;obtain⟨dx,fs,h1,h2⟩:=h;refine kq ?_;exact⟨dx,fs,e.trans h1,Paired.imp (fun _ _ z=>⟨z.1,z.2.keep k⟩) h2⟩
def instD (K:Fg) (C:Addr) (fds:List (Str × D)):DO:=.ex (insF K C fds) (fun _ _ _ _ _ k e h=>h.keep k e) fun _ _ _ h=>by
 refine hd fun Gq kq=>?_;obtain⟨dx,fs,h1,_⟩:=h;refine kq ?_;exact⟨_,h1,trivial⟩
def putD (f:Str) (d:D):List (Str × D)->List (Str × D)
 | []=>[(f,d)]
 | (g,x)::r=>if g=f then (g,d)::r else (g,x)::putD f d r
section
variable {K:Fg} {M:Am} {H:Hp}
theorem fx_look {fs:List (Str × V)} {fds:List (Str × D)} (h:a7 (FX K M H) fs fds) (f:Str):(fs.lookup f=none/\fds.lookup f=none)\/∃ v d,fs.lookup f=some v/\fds.lookup f=some d/\RepV K M H d v:=by
 induction h with
 | nil=>exact .inl ⟨rfl,rfl⟩
 | @cons p q ps qs h t ih =>
  refine hd fun Gq kq=>?_;obtain⟨a,x⟩:=p;refine kq ?_;refine hd fun Gq kq=>?_;obtain⟨b,y⟩:=q;refine kq ?_;obtain⟨rfl,r⟩:=h
  by_cases e:f=a
  ·subst e;exact .inr ⟨x,y,by simp[eA],by simp[eA],r⟩
  ·have e':(f == a)=false:=beq_eq_false_iff_ne.mpr e;simp only[eA,e'];exact ih
theorem fx_put {fs:List (Str × V)} {fds:List (Str × D)} (h:a7 (FX K M H) fs fds) (f:Str) {v:V} {d:D} (r:RepV K M H d v):a7 (FX K M H) (putF f v fs) (putD f d fds):=by
 induction h with
 | nil=>exact .cons ⟨rfl,r⟩ .nil
 | @cons p q ps qs h t ih =>
  refine hd fun Gq kq=>?_;obtain⟨a,x⟩:=p;refine kq ?_;refine hd fun Gq kq=>?_;obtain⟨b,y⟩:=q;refine kq ?_;refine hd fun Gq kq=>?_;obtain⟨e,r2⟩:=h;refine kq ?_;have e:a=b:=e;subst e;show a7 _ (if a=f then (a,v)::ps else (a,x)::putF f v ps) (if a=f then (a,d)::qs else (a,y)::putD f d qs)
  split
  ·exact .cons ⟨rfl,r⟩ t
  ·exact .cons ⟨rfl,r2⟩ ih
end
section
variable {X:Cx} {K:Fg} {C:Addr} {pos pos':Pos} {f m:Str} {k:Nat}
def dFld (K:Fg) (te:ED) (f:Str):ED:=fun Γ S Q=>te Γ S fun d S1=>∃ a C fds v,d=.ref a/\S1 a=some (instD K C fds)/\Cls K C/\NoAttr K C f/\fds.lookup f=some v/\Q v S1
theorem e_fld {e:Expr} {te:ED} (he:PD K X e te) (hb:cJ e f X.env (eval e X.env)=eval e X.env:=by rfl) (hK:X.K=K:=by rfl):PD K X (.Attribute e f pos) (dFld K te f):=by
 subst hK;refine .of (pe_fld he.o hb) fun σ H Q z0=>z0.el fun F S Γ QD r g q cn=>⟨F,S,Γ,_,r,g,q,fun x d H1 S1 x1 r1 v1 z=>?_⟩;obtain⟨a,C,fds,v,rfl,hS,c,n,hl,q1⟩:=z;refine hd fun Gq kq=>?_;obtain⟨dx,fs,h1,h2⟩:=r1.obj a _ hS;refine kq ?_;rcases fx_look h2 f with⟨_,e2⟩ | ⟨v',d',e1,e2,rv⟩
 ·rw[hl] at e2;cases e2
 ·rw[hl] at e2;cases e2;exact⟨a,C,dx,fs,v',rref v1,h1,c,n,e1,cn v' _ H1 S1 x1 r1 rv q1⟩
def dSetFld (K:Fg) (te tv:ED) (f:Str):SD:=fun E Γ S=>tv Γ S fun v S1=>te Γ S1 fun d S2=>∃ a C fds,d=.ref a/\S2 a=some (instD K C fds)/\Cls K C/\NoAttr K C f/\fds.length < 1000/\E.nx Γ (supd S2 a (instD K C (putD f v fds)))
theorem ds_fld {o value:Expr} {te tv:ED} (ho:PD K X o te) (hv:PD K X value tv) (hs:gI value (some (.Attribute o f pos')) pos.line X.env=pure false:=by rfl) (hK:X.K=K:=by rfl):PSD K X (.Assign [.Attribute o f pos'] value pos) (dSetFld K te tv f):=by
 subst hK;refine .of (ps_fld ho.o hv.o hs) fun D' σ H z0=>z0.el fun F S Γ E r g q c=>⟨F,S,Γ,_,r,g,q,fun v d H1 S1 x1 r1 v1 q1=>⟨F,S1,Γ,_,r1,g.ext x1,q1,fun x od H2 S2 x2 r2 v2 z=>?_⟩⟩;obtain⟨a,C,fds,rfl,hS,cl,n,hl,q2⟩:=z;refine hd fun Gq kq=>?_;obtain⟨dx,fs,h1,h2⟩:=r2.obj a _ hS;refine kq ?_;have hS':S2 a≠none:=by rw[hS];exact fun z=>by cases z
 have x3:Ext S2 H2 (supd S2 a (instD X.K C (putD f d fds))) (upd H2 a (.ins C dx (putF f v fs))):=Ext.write hS';have xx:=x1.trans (x2.trans x3);refine⟨a,C,dx,fs,rref v2,h1,cl,n,by rw[bT h2];exact hl,c.nx Γ _ σ _ xx (r2.write hS' ⟨dx,_,upd_same,fx_put (Paired.imp (fun _ _ z=>⟨z.1,z.2.ext x3⟩) h2) f (v1.ext (x2.trans x3))⟩) (g.ext xx) q2⟩
end
structure TxM (K:ao) (C:Addr) (m qual:Str) (st:Stmt):Prop where
 ex:∃ (f:Addr) (fd:cC),Fun K m qual st f fd/\Meth K C m f
structure DfM (P:aD) (w:aK) (K:ao) (mg:Str->Option ae) (base:aW) (k:Nat) (C:Addr) (m:Str) (ps:List Str) (sp:Sp):Prop where
 ex:∃ (f:Addr) (fd:cC),FnOk P w K mg base CX0 k f fd ps sp/\Binds K fd ps []/\Meth K C m f
structure DfMX (P:aD) (w:aK) (K:ao) (mg:Str->Option ae) (base:aW) (k:Nat) (C:Addr) (m:Str) (ps:List Str) (sp:Sp):Prop where
 ex:∃ (f:Addr) (fd:cC),FnOk P w K mg base (CX1 P w) k f fd ps sp/\Binds K fd ps []/\Meth K C m f
section
variable {P:aD} {w:aK} {K:ao} {mg:Str->Option ae} {base:aW} {j k:Nat} {C C':Addr} {m:Str} {ps:List Str}
theorem DfM.mono {sp:Sp} (D:DfM P w K mg base j C m ps sp) (h:j<=k):DfM P w K mg base k C m ps sp:=by
 refine hd fun Gq kq=>?_;obtain⟨f,fd,a,b,c⟩:=D.ex;refine kq ?_;exact⟨f,fd,a.mono h,b,c⟩
theorem DfMX.mono {sp:Sp} (D:DfMX P w K mg base j C m ps sp) (h:j<=k):DfMX P w K mg base k C m ps sp:=by
 refine hd fun Gq kq=>?_;obtain⟨f,fd,a,b,c⟩:=D.ex;refine kq ?_;exact⟨f,fd,a.mono h,b,c⟩
theorem DfMX.df {sp:SpX} (D:DfMX P w K mg base k C m ps (spUX K C' sp)):DfM P w K mg base k C m ps (spU K fun ds S Q=>sp ds S Q fun _=>False):=by
 refine hd fun Gq kq=>?_;obtain⟨f,fd,a,b,c⟩:=D.ex;refine kq ?_;have up:∀ vs H Q E,spU K (fun ds S Q=>sp ds S Q fun _=>False) vs H Q E->spUX K C' sp vs H Q fun _ _ _=>False:=fun vs H Q E z=>by
  refine hd fun Gq kq=>?_;obtain⟨F,S,ds,QD,r,l,q,cn⟩:=z;refine kq ?_;exact⟨F,S,ds,QD,_,r,l,q,cn,fun _ _ _ _ z=>z.elim⟩
 refine⟨f,fd,⟨fun vs H Q E z=>a.len _ _ _ _ (up vs H Q E z),fun A outer s H args us vs Q E hr e0 hb hv z=>?_⟩,b,c⟩;refine eB (a.run A outer s H args us vs Q _ hr e0 hb hv (up vs H Q E z)) fun r s' hq=>?_;cases r with
 | error e =>
  refine hd fun Gq kq=>?_;obtain⟨_,_,_,_,_,_,_,_,_,_,_,_,_,_,_,_,_,z⟩:=hq;refine kq ?_;exact z.elim
 | ok fl=>cases fl <;> exact hq
theorem e_defM {qual:Str} {st:Stmt} {N:List Str} {sp:SpD} (T:TxM K C m qual st) (S:FnScope N ps (defScope st))
  (b:∀ {f:Addr} {fd:cC},Fun K m qual st f fd->Binds K fd ps []) (len:∀ ds S Q,sp ds S Q->ds.length=ps.length)
  (h:∀ (f:Addr) (cdv:ae) (A:aQ) (outer:List Env) (s:ai) (H:Hp) (E:XK),Room k (A.deeper (envOfC qual (defScope st) s.heap.objs.size f cdv)) ->
   ∃ t,PSsD K (cxOf CX0 P w K mg base N qual (defScope st) f cdv A outer s H E).nox (defBody st) t/\∀ ds S Q,sp ds S Q->t (endsD Q) (startD N ds) S):DfM P w K mg base (k + 1) C m ps (spU K sp):=by
 refine hd fun Gq kq=>?_;obtain⟨f,fd,Fn,M⟩:=T.ex;refine kq ?_;refine⟨f,fd,Fn.ok S (fun vs H Q E z1=>by obtain⟨F,S,ds,QD,r,l,hsp,c⟩:=z1;rw[l.length];exact len ds S QD hsp) (fun cdv A outer s H vs Q E' hr z1=>?_),b Fn,M⟩
 refine hd fun Gq kq=>?_;obtain⟨F,S,ds,QD,r,l,hsp,c⟩:=z1;refine kq ?_;refine hd fun Gq kq=>?_;obtain⟨t,h1,h2⟩:=h f cdv A outer s H E' hr;refine kq ?_;have fin:∀ v d H' S',Ext S H S' H'->Rp K F S' H'->RepV K (mt S' F) H' d v->rtD QD d S'->Q v H':=fun v d H' S' x1 r1 v1 z2=>by
  refine hd fun Gq kq=>?_;obtain⟨d',S2,hs,fz,q⟩:=z2;refine kq ?_;exact c v d' H' S2 (x1.trans (Ext.less hs)) (r1.less hs) ((frz_ok r1 hs fz).1 v v1) q
 exact⟨_,h1.o,F,S,startD N ds,endsD QD,r,repStart l,h2 ds S QD hsp,fun Γ' S' σ' H' x1 r1 g1 q=>fin .non .non H' S' x1 r1 (by unfold RepV;rfl) q,fin,fun _ _ _ _ _ _ _ q=>q.elim,fun _ _ _ _ _ _ _ q=>q.elim⟩
theorem e_defMX {qual:Str} {st:Stmt} {N:List Str} {sp:SpX} (T:TxM K C m qual st) (S:FnScope N ps (defScope st))
  (b:∀ {f:Addr} {fd:cC},Fun K m qual st f fd->Binds K fd ps []) (len:∀ ds S Q XQ,sp ds S Q XQ->ds.length=ps.length)
  (h:∀ (f:Addr) (cdv:ae) (A:aQ) (outer:List Env) (s:ai) (H:Hp) (E:XK),Room k (A.deeper (envOfC qual (defScope st) s.heap.objs.size f cdv)) ->
   ∃ t,PSs (cxOf (CX1 P w) P w K mg base N qual (defScope st) f cdv A outer s H E) (defBody st) (upX K E C' t)/\∀ ds S Q XQ,sp ds S Q XQ->t (endsD Q) (xlD XQ) (startD N ds) S):DfMX P w K mg base (k + 1) C m ps (spUX K C' sp):=by
 refine hd fun Gq kq=>?_;obtain⟨f,fd,Fn,M⟩:=T.ex;refine kq ?_;refine⟨f,fd,?_,b Fn,M⟩;obtain⟨oc,od,kV,doc,pm,an,cdv,ct,osl,rfl,lk,hcd⟩:=Fn.ex;refine fn_of lk hcd S (fun vs H Q E z1=>by obtain⟨F,S,ds,QD,XD,r,l,hsp,c⟩:=z1;rw[l.length];exact len ds S QD XD hsp) fun A outer s H vs Q E' hr z1=>?_
 refine hd fun Gq kq=>?_;obtain⟨F,S,ds,QD,XD,r,l,hsp,c,cx⟩:=z1;refine kq ?_;refine hd fun Gq kq=>?_;obtain⟨t,h1,h2⟩:=h f cdv A outer s H E' hr;refine kq ?_;have fin:∀ v d H' S',Ext S H S' H'->Rp K F S' H'->RepV K (mt S' F) H' d v->rtD QD d S'->Q v H':=fun v d H' S' x1 r1 v1 z2=>by
  refine hd fun Gq kq=>?_;obtain⟨d',S2,hs,fz,q⟩:=z2;refine kq ?_;exact c v d' H' S2 (x1.trans (Ext.less hs)) (r1.less hs) ((frz_ok r1 hs fz).1 v v1) q
 refine⟨_,h1,F,S,startD N ds,endsD QD,xlD XD,r,repStart l,h2 ds S QD XD hsp,⟨fun Γ' S' σ' H' x1 r1 g1 q=>fin .non .non H' S' x1 r1 (by unfold RepV;rfl) q,fin,fun _ _ _ _ _ _ _ q=>q.elim,fun _ _ _ _ _ _ _ q=>q.elim⟩,fun H' S' x1 r1 z2=>?_⟩
 refine hd fun Gq kq=>?_;obtain⟨S2,hs,q⟩:=z2;refine kq ?_;exact cx H' S2 (x1.trans (Ext.less hs)) (r1.less hs) q
end
section
variable {X:Cx} {K:Fg} {C:Addr} {m:Str} {ps:List Str} {k:Nat} {pos apos:Pos}
def dMeth (K:Fg) (C:Addr) (m:Str) (sp:SpD) (te:ED) (ta:AD):ED:=fun Γ S Q=>te Γ S fun d S1=>∃ a fds,d=.ref a/\S1 a=some (instD K C fds)/\fds.lookup m=none/\ta Γ S1 fun ds S2=>sp (.ref a::ds) S2 Q
theorem e_meth {pl:Sem Bool} {o e:Expr} {es:List Expr} {te:ED} {ta:AD} {sp:SpD} (D:DfM X.prog X.w X.K X.mg X.base k C m ps (spU K sp)) (c:Cls K C) (hr:Room k X.A) (ho:PD K X o te) (ha:PAD K X (e::es) ta) (hK:X.K=K:=by rfl)
  (hst:au (e::es) X.env=(false,eval e X.env)::au es X.env:=by rfl) (hpl:(bD pos (au es X.env)).any (·.1)=false:=by rfl)
  (ht:eval (.Call (.Attribute o m apos) (e::es) [] pos) X.env=(do
   let ov <- eval o X.env
   fI apos.atName
   let (f,first) <- eO [ov] (jq ov m pl)
   callWith pos f first (bD pos (au (e::es) X.env)) (fg pos (di [] X.env))):=by rfl) :
  PD K X (.Call (.Attribute o m apos) (e::es) [] pos) (dMeth K C m sp te ta):=by
 subst hK;refine hd fun Gq kq=>?_;obtain⟨f,fd,Fk,hb,hm⟩:=D.ex;refine kq ?_;refine .of (pe_meth (E:=E0) ho.o c hm Fk hr hb .nil pass0 ha.o hst hpl ht) fun σ H Q z0=>z0.el fun F S Γ QD r g q cn=>⟨F,S,Γ,_,r,g,q,fun x d H1 S1 x1 r1 v1 z=>?_⟩;obtain⟨a,fds,rfl,hS,hl,q1⟩:=z;refine hd fun Gq kq=>?_;obtain⟨dx,fs,h1,h2⟩:=r1.obj a _ hS;refine kq ?_;have hn:fs.lookup m=none:=by
  rcases fx_look h2 m with⟨e1,_⟩ | ⟨_,_,_,e2,_⟩
  ·exact e1
  ·rw[hl] at e2;cases e2
 have ev:=rref v1;subst ev;refine⟨a,dx,fs,rfl,h1,hn,F,S1,Γ,_,r1,g.ext x1,q1,fun vs ds H2 S2 x2 r2 l2 q2=>?_⟩;show spU X.K sp (.ref a::(vs++[])) H2 Q E0;rw[bI];exact⟨F,S2,_,QD,r2,RepL.cons (by unfold RepV;rfl) l2,q2,Cn.shift cn (x1.trans x2)⟩
theorem e_meth0 {pl:Sem Bool} {o:Expr} {te:ED} {sp:SpD} (D:DfM X.prog X.w X.K X.mg X.base k C m ps (spU K sp)) (c:Cls K C) (hr:Room k X.A) (ho:PD K X o te) (hK:X.K=K:=by rfl)
  (ht:eval (.Call (.Attribute o m apos) [] [] pos) X.env=(do
   let ov <- eval o X.env
   fI apos.atName
   let (f,first) <- eO [ov] (jq ov m pl)
   callWith pos f first (bD pos (au [] X.env)) (fg pos (di [] X.env))):=by rfl) :
  PD K X (.Call (.Attribute o m apos) [] [] pos) (dMeth K C m sp te dNil):=by
 subst hK;refine hd fun Gq kq=>?_;obtain⟨f,fd,Fk,hb,hm⟩:=D.ex;refine kq ?_;refine .of (pe_meth0 (E:=E0) ho.o c hm Fk hr hb .nil pass0 ht) fun σ H Q z0=>z0.el fun F S Γ QD r g q cn=>⟨F,S,Γ,_,r,g,q,fun x d H1 S1 x1 r1 v1 z=>?_⟩;obtain⟨a,fds,rfl,hS,hl,q1⟩:=z;refine hd fun Gq kq=>?_;obtain⟨dx,fs,h1,h2⟩:=r1.obj a _ hS;refine kq ?_;have hn:fs.lookup m=none:=by
  rcases fx_look h2 m with⟨e1,_⟩ | ⟨_,_,_,e2,_⟩
  ·exact e1
  ·rw[hl] at e2;cases e2
 have ev:=rref v1;subst ev;refine⟨a,dx,fs,rfl,h1,hn,?_⟩;exact⟨F,S1,_,QD,r1,RepL.cons (by unfold RepV;rfl) RepL.nil,q1,Cn.shift cn x1⟩
def dMake (K:Fg) (C:Addr) (sp:SpD) (ta:AD):ED:=fun Γ S Q=>ta Γ S fun ds S1=>∀ x,S1 x=none->sp (.ref x::ds) (supd S1 x (instD K C [])) fun d S2=>d=.non/\Q (.ref x) S2
structure DfI (P:aD) (w:aK) (K:ao) (mg:Str->Option ae) (base:aW) (k:Nat) (C:Addr) (ps:List Str) (sp:Sp):Prop where
 ex:∃ (f:Addr) (fd:cC),FnOk P w K mg base CX0 k f fd ps sp/\Binds K fd ps []/\Mk K C f
theorem e_make {x:Str} {e:Expr} {es:List Expr} {ta:AD} {sp:SpD} {p:Pos} (D:DfI X.prog X.w X.K X.mg X.base k C ps (spU K sp)) (hr:Room (k + 1) X.A) (hg:Gl X x) (hm:X.mg x=some (.ref C)) (ha:PAD K X (e::es) ta) (hK:X.K=K:=by rfl)
  (hdb:(x == ("__debug__" : Str))=false:=by decide) (he:au (e::es) X.env=(false,eval e X.env)::au es X.env:=by rfl) (hpl:(bD pos (au es X.env)).any (·.1)=false:=by rfl) :
  PD K X (.Call (.Name x p) (e::es) [] pos) (dMake K C sp ta):=by
 subst hK;refine hd fun Gq kq=>?_;obtain⟨f,fd,Fk,hb,M⟩:=D.ex;refine kq ?_;refine .of (pe_make (E:=E0) M Fk hr hg hm hb .nil pass0 ha.o hdb he hpl) fun σ H Q z0=>z0.el fun F S Γ QD r g q cn=>⟨F,S,Γ,_,r,g,q,fun vs ds H1 S1 x1 r1 l1 q1 x dx hx hdx ne=>?_⟩;have x2:Ext S1 H1 S1 (upd H1 dx (.own x)):=Ext.same (same_upd hdx);have r2:Rp X.K F S1 (upd H1 dx (.own x)):=r1.same (same_upd hdx);have hx2:upd H1 dx (.own x) x=none:=(upd_ne (aZ ne)).trans hx;have x3:Ext S1 (upd H1 dx (.own x)) (supd S1 x (instD X.K C [])) (upd (upd H1 dx (.own x)) x (.ins C dx [])):=Ext.mk' hx2;have r3:Rp X.K F (supd S1 x (instD X.K C [])) (upd (upd H1 dx (.own x)) x (.ins C dx [])):=r2.mk' hx2 ⟨dx,[],upd_same,.nil⟩;have xx:=x2.trans x3;show spU X.K sp (.ref x::(vs++[])) _ _ E0;rw[bI];refine⟨F,_,_,_,r3,RepL.cons (by unfold RepV;rfl) (l1.ext xx),q1 x (r1.sn hx),fun v d H4 S4 x4 r4 v4 z=>?_⟩
 obtain⟨rfl,q4⟩:=z;unfold RepV at v4;exact⟨v4,cn _ _ H4 S4 (x1.trans (xx.trans x4)) r4 (by unfold RepV;rfl) q4⟩
theorem DfM.init {P:aD} {w:aK} {K:ao} {mg:Str->Option ae} {base:aW} {k:Nat} {sp:Sp} (D:DfM P w K mg base k C "__init__" ps sp) (mk:fX K C=true) (kp:cF K (.ref C)=true):DfI P w K mg base k C ps sp:=by
 refine hd fun Gq kq=>?_;obtain⟨f,fd,a,b,c⟩:=D.ex;refine kq ?_;exact⟨f,fd,a,b,mk,c.at_,c.fn,kp⟩
end
def clsB (s:Stmt) (j:Nat):Stmt:=match s with
 | .ClassDef _ _ _ b _ _ _ _ _ _ _=>b.getD j (.Pass ⟨0,0,0,0⟩)
 | _=>.Pass ⟨0,0,0,0⟩
theorem txm_mk {K:ao} {C:Addr} {m qual:Str} {st:Stmt} {f:Addr} {od an:Option Addr} {sl:Array (Option ae)} {oc kV dc pm cd ct:ae}
  (a:c7 K (.ref C) m=some (some (.ref f))) (l:K.lookup f=some ⟨oc,od,.func (dU m qual (defArgs st) (defBody st) (defScope st) .none kV dc pm an cd ct),sl⟩) (c:fE K cd qual=true) (k:cF K (.ref f)=true) (n:jJ K (.ref f)=true):TxM K C m qual st :=
 ⟨f,_,fun_mk (st:=st) l c k,⟨a,n,k⟩⟩
end L2
namespace Toy
open PySem L2 PyProof.Rows
def keptO (K:Fg) (C:Addr) (m:Nat) (ts:List (List Str)):DO:=instD K C [("many",.int m),("sets",.tup (ts.map tupS))]
structure Kpt (ts:List (List Str)):Prop where
 srt:SrtT ts
 len:ts.length<=14
 each:∀ t∈ts,Srt t/\t.length<=6
def sp_ks_init (K:Fg) (C:Addr):SpD:=fun ds S Q=>∃ (a:Addr) (m:Nat),ds=[.ref a,.int m]/\S a=some (instD K C [])/\Q .non (supd S a (keptO K C m []))
def sp_ks_now (K:Fg) (C:Addr):SpD:=fun ds S Q=>∃ (a:Addr) (m:Nat) (ts:List (List Str)),ds=[.ref a]/\S a=some (keptO K C m ts)/\Q (.tup (ts.map tupS)) S
def sp_ks_has (K:Fg) (C:Addr):SpD:=fun ds S Q=>∃ (a:Addr) (m:Nat) (ts:List (List Str)),ds=[.ref a]/\S a=some (keptO K C m ts)/\2<=m/\m<=6/\Kpt ts/\Q (.bl (flO ts m).head?.isSome) S
def fstW (ts:List (List Str)) (m:Nat) (one:List Str):Option (List (List Str)):=((flO ts m).filter fun s=>decide (one∈s)).head?
def sp_ks_put (K:Fg) (C:Addr):SpX:=fun ds S Q XQ=>∃ (a:Addr) (m:Nat) (ts:List (List Str)) (one:List Str),ds=[.ref a,tupS one]/\S a=some (keptO K C m ts)/\2<=m/\m<=6/\Kpt ts/\Srt one/\one.length<=6/\(one∈ts->XQ S) /\
 (one∉ts->ts.length < 14/\Q (opF (fstW (srT (ts++[one])) m one)) (supd S a (keptO K C m (srT (ts++[one])))))
def wot (ts:List (List Str)) (one:List Str):List (List Str):=ts.filter fun o=>!decide (o=one)
def sp_ks_take (K:Fg) (C:Addr):SpX:=fun ds S Q XQ=>∃ (a:Addr) (m:Nat) (ts:List (List Str)) (one:List Str),ds=[.ref a,tupS one]/\S a=some (keptO K C m ts)/\ts.length<=14/\(one∉ts->XQ S)/\(one∈ts->Q .non (supd S a (keptO K C m (wot ts one))))
theorem kpt_put {ts:List (List Str)} {one:List Str} (k:Kpt ts) (h:one∉ts) (hl:ts.length < 14) (o:Srt one) (o6:one.length<=6):Kpt (srT (ts++[one])):=by
 have nd:(ts++[one]).Nodup:=b0.mpr ⟨k.srt.nodup,cj ..,fun x hx y hy e=>h (by rw[az.mp hy] at e;exact e ▸ hx)⟩
 refine⟨srT_srt nd,by rw[(srT_perm _).length_eq,av];show ts.length + 1<=14;omega,fun t ht=>?_⟩
 rcases aU.mp ((srT_perm _).mem_iff.mp ht) with h | h
 ·exact k.each t h
 ·rw[az.mp h];exact⟨o,o6⟩
theorem kpt_wot {ts:List (List Str)} {one:List Str} (k:Kpt ts):Kpt (wot ts one) :=
 ⟨List.Pairwise.sublist ig k.srt,aV (dq _ _) k.len,fun t ht=>k.each t (bP.mp ht).1⟩
end Toy
namespace Toy
open PySem L2
abbrev s_law_first:Stmt:=top 23
theorem sc_law_first:FnScope ["sets", "many", "wanted", "pile", "some", "lacks", "begin", "further"] ["sets", "many", "wanted"] (defScope s_law_first):=fsc
theorem if_tst {tst:TD} {A B:SD} {E:EndsD} {Γ:Gm} {S:Sto} (b:Bool) (h:∀ Q:Bool->Sto->Prop,Q b S->tst Γ S Q) (ha:b=true->A E Γ S) (hb:b=false->B E Γ S):dIfS tst A B E Γ S:=h _ (by
 cases b with
 | true=>rw[if_pos rfl];exact ha rfl
 | false=>rw[if_neg (by simp)];exact hb rfl)
theorem or_t {t u:TD} {Γ:Gm} {S:Sto} {Q:Bool->Sto->Prop} (h:∀ Q':Bool->Sto->Prop,Q' true S->t Γ S Q') (q:Q true S):dOr t u Γ S Q:=h _ (by rw[if_pos rfl];exact q)
theorem or_f {t u:TD} {Γ:Gm} {S:Sto} {Q:Bool->Sto->Prop} (h:∀ Q':Bool->Sto->Prop,Q' false S->t Γ S Q') (q:u Γ S Q):dOr t u Γ S Q:=h _ (by rw[if_neg (by decide)];exact q)
theorem cut_fromN (xs:List D) (b:Nat):cutD xs (some (b:Int)) none=xs.drop b:=by
 cases b with
 | zero=>exact cutD_all xs (by rfl) (by rfl)
 | succ b=>exact cut_from xs b
def opS:Option (List Str)->D
 | none=>.non
 | some w=>tupS w
def okW:Option (List Str)->List (List Str)->Bool
 | none=>fun _=>true
 | some w=>fun c=>decide (w∈c)
def lackW:Option (List Str)->List (List Str)->Bool
 | none=>fun _=>false
 | some w=>fun s=>!decide (w∈s)
def goW (ow:Option (List Str)) (s:List (List Str)) (a:List Str):Bool:=!lackW ow s || match ow with
 | none=>true
 | some w=>!HT.lexS w a
theorem ok_lack (ow:Option (List Str)) (s:List (List Str)):okW ow s=!lackW ow s:=by
 cases ow with
 | none=>rfl
 | some w=>exact(Bool.not_not _).symm
def ndD (z:List (List Str) × List (List Str)):D:=.lst (z.1.map tupS)
theorem kidS_fst {A:Type} (J:List A->A->Bool) (go:A->Bool) (s:List A):∀ r:List A,(kidS J go s r).map (·.1)=((r.filter go).filter (J s)).map fun a=>s++[a]
 | []=>rfl
 | a::r=>by
  have ih:=kidS_fst J go s r;show(if go a=true/\J s a=true then (s++[a],r)::kidS J go s r else kidS J go s r).map _=_
  cases hg:go a with
  | false =>
   rw[if_neg (fun z=>by cases z.1),ih,cz,if_neg (by rw[hg];exact aS)]
  | true =>
   rw[cz,if_pos hg,cz]
   by_cases hj:J s a=true
   ·rw[if_pos ⟨rfl,hj⟩,if_pos hj,aY,aY,ih]
   ·rw[if_neg (fun z=>hj z.2),if_neg hj,ih]
theorem kidS_mem {A:Type} (J:List A->A->Bool) (go:A->Bool) (s:List A):∀ (r:List A) (z:List A × List A),z∈kidS J go s r->∃ l a,r=l++a::z.2/\z.1=s++[a]
 | a::r,z,h=>by
  have h:z∈(if go a=true/\J s a=true then (s++[a],r)::kidS J go s r else kidS J go s r):=h
  have rec':z∈kidS J go s r->∃ l b,a::r=l++b::z.2/\z.1=s++[b]:=fun h=>by
   obtain⟨l,b,e1,e2⟩:=kidS_mem J go s r z h;exact⟨a::l,b,by rw[e1];rfl,e2⟩
  split at h
  ·rcases aA.mp h with rfl | h
   ·exact⟨[],a,rfl,rfl⟩
   ·exact rec' h
  ·exact rec' h
structure NdS (ts:List (List Str)) (m:Nat) (z:List (List Str) × List (List Str)):Prop where
 sub:(z.1++z.2).Sublist ts
 len:z.1.length<=m
 at0:z.1=[]->z.2=ts
 at1:∀ l a,z.1=l++[a]->∃ p,ts=p++a::z.2
def sp_law_first:SpD:=fun ds S Q=>∃ (ts:List (List Str)) (m:Nat) (ow:Option (List Str)),ds=[.lst (ts.map tupS),.int m,opS ow]/\Kpt ts/\2<=m/\m<=6/\(∀ w,ow=some w->w.length<=6)/\Q (opF ((flO ts m).filter (okW ow)).head?) S
section
variable {P:aD} {w:aK} {K:ao} {mg:Str->Option ae} {base:aW} {pt cc cNoSet cKeptSets:Addr}
theorem ok_law_first (T:Tx K mg "_law_first" s_law_first) (B:Bs mg) (d_law_joins:Df P w K mg base 1 "_law_joins" ["some", "one"] (spU K sp_law_joins)):Df P w K mg base 2 "_law_first" ["sets", "many", "wanted"] (spU K sp_law_first):=by
 refine e_def T sc_law_first (fun F=>F.binds fun _ _ _ _ _ _=>us3 fun _ _ _=>rfl) ?_ fun f cdv A outer s H E hr=>⟨_,(dss_cons (ds_set (i:=3) sc_law_first.nd rfl (aR rfl) (e_lst (b:=true) (da_cons (e_lst (b:=false) da_nil) da_nil)))
  (dss_cons (ds_while cK (dt_ne hr (dv 3) (e_lst (b:=false) da_nil)) (dss_cons (ds_set (i:=4) sc_law_first.nd rfl (gO rfl) (e_pop (dv 3)))
  (dss_cons (ds_set (i:=5) sc_law_first.nd rfl (gO rfl) (e_and (e_isnt hr (dv 2) e_non) (e_one (e_nin hr (dv 2) (dv 4)))))
  (dss_cons (ds_if (PWD.pt (dw_and (dt_eq hr (e_len rfl B.len (da_cons (dv 4) da_nil)) (dv 1)) (dw_and1 (dt_not (dt_tru (dv 5)))))) (dss_one (ds_ret (e_tuple rfl B.tuple (da_cons (dv 4) da_nil)))) dss_nil)
  (dss_one (ds_if (dt_lt hr (e_len rfl B.len (da_cons (dv 4) da_nil)) (dv 1)) (dss_cons (ds_set (i:=6) sc_law_first.nd rfl (aR rfl) e_int)
  (dss_cons (ds_if (dt_ne hr (dv 4) (e_lst (b:=false) da_nil)) (dss_one (ds_set (i:=6) sc_law_first.nd rfl (aR rfl) (e_add (k:=false) (e_indexLt hr (dv 0) (da_cons (e_ix (dv 4) (e_neg e_int)) da_nil)) e_int))) dss_nil)
  (dss_cons (ds_setC (i:=7) rfl (aR rfl) (N':=["one", "lacks", "wanted"]) (oc:=none) (b:=false) [0] [] rfl sc_law_first.nd (fun _ _ _=>turn_one _ _ _ _ _ _ _ _ _) (.own (.cap (i:=5) rfl (by decide +kernel) (.cap (i:=2) rfl (by decide +kernel) .nil))) (free_of rfl) (di_sq (e_sl (b:=false) (dv 0) (do_some (dv 6)) do_none)) (cg_name (i:=0)) (fun _ _ _ _ _=>pg_name (i:=0) (nd_ ["one", "lacks", "wanted"]) rfl (aR rfl) (.inr rfl)) (fun _ _ _ _ _=>dts_one (by exact(PWD.pt (dw_or (dt_not (dt_tru (dv 1))) (dw_or1 (dt_leT hr (dv 0) (dv 2))))))) bo_emit (fun _ _ _ _ _ _=>pb_emit rfl (by exact PD.o (dv 0))))
  (dss_one (ds_expr (e_extend (dv 3) (da_cons (e_comp (N':=["one", "some"]) (oc:=none) (b:=true) [0] [] rfl sc_law_first.nd (fun _ _ _=>turn_one _ _ _ _ _ _ _ _ _) (.own (.cap (i:=4) rfl (by decide +kernel) .nil)) (free_of rfl) (di_sq (e_rv (b:=false) (dv 7))) (cg_name (i:=0)) (fun _ _ _ _ _=>pg_name (i:=0) (nd_ ["one", "some"]) rfl (aR rfl) (.inr rfl)) (fun _ _ _ _ _=>dts_one (by exact(dt_tru (e_callD d_law_joins hr rfl (da_cons (dv 1) (da_cons (dv 0) da_nil)))))) bo_emit (fun _ _ _ _ _ _=>pb_emit rfl (by exact PD.o (e_add (k:=false) (dv 1) (e_lst (b:=false) (da_cons (dv 0) da_nil)))))) da_nil))))))) dss_nil))))))
  (dss_one (ds_ret e_non)))),?_⟩
 ·rintro ds S Q ⟨ts,m,ow,rfl,_⟩;rfl
 ·rintro ds S Q ⟨ts,m,ow,rfl,kp,m2,m6,w6,q⟩;have l14:=kp.len;rw[<- tellS_start kp.srt (fun t ht=>(kp.each t ht).1) m2] at q;generalize hR:tellS joiG (okW ow) m [([],ts)]=R at q;refine⟨z9999 (by decide),z9999 (by show 1<=9999;decide),fun pp hpp=>?_⟩
  have keep:∀ (o:DO) b o',S b=some o'->supd S pp o b=some o':=fun o b o' e=>(supd_ne (fun z=>by rw[z,hpp] at e;cases e)).trans e
  refine⟨fun n Γ S'=>∃ (p:List (List (List Str) × List (List Str))) (x4 x5 x6 x7:Option D),Γ=[some (.lst (ts.map tupS)),some (.int m),some (opS ow),some (.ref pp),x4,x5,x6,x7]/\S' pp=some (.lst (p.map ndD))/\(∀ b o,S b=some o->S' b=some o)/\(∀ z∈p,NdS ts m z)/\lowS p 106/\tellS joiG (okW ow) m p=R/\n=wgtS p,
   ⟨_,[([],ts)],none,none,none,none,rfl,supd_same,keep _,fun z hz=>?_,?_,hR,rfl⟩,?_⟩
  ·rw[az.mp hz];exact⟨eJ _,bA _,fun _=>rfl,fun l a e=>by cases l <;> cases e⟩
  ·intro i hi;have hi:i < 1:=hi;obtain rfl:i=0:=by omega
   show ts.length * (ts.length + 1) / 2 + 1 + 0<=106
   have:ts.length * (ts.length + 1)<=14 * 15:=Nat.mul_le_mul l14 (by omega)
   omega
  rintro n Γ S' ⟨p,x4,x5,x6,x7,rfl,hpp',hk,hn,hl,ht,rfl⟩;refine⟨z9999 (by decide),_,[],hpp',rfl,by unfold okEs;rw[cH];rfl,_,rfl,?_⟩
  rcases List.eq_nil_or_concat p with rfl | ⟨p0,⟨s,r⟩,rfl⟩
  ·rw[if_neg (fun z=>by cases z)]
   have e:none=R:=ht;subst e;exact rt_drop hk q
  rw[List.concat_eq_append] at *
  rw[if_pos (by rw[aN];show(!decide (_++[_]=[]))=true;rw[decide_eq_false (by simp)];rfl)]
  have nd:=hn (s,r) (aL _ am);have sub:=nd.sub;have sl:=nd.len;dsimp only at sub sl;have hin:∀ x,x∈s++r->x∈ts:=fun x hx=>sub.subset hx;have s14:s.length<=14:=by have:=(fV s r).trans sub;have:=this.length_le;omega
  have r14:r.length<=14:=by have:=(dl s r).trans sub;have:=this.length_le;omega
  have e6:∀ x,x∈s++r->x.length<=6:=fun x hx=>(kp.each x (hin x hx)).2;have sn:s.Nodup:=kp.srt.nodup.sublist ((fV s r).trans sub);have w2:wgtS (p0++[(s,r)])=wgtS p0 + 2 ^ r.length:=by rw[wgtS_append];rfl
  have w0:0 < 2 ^ r.length:=Nat.pow_pos (by decide)
  refine⟨⟨_,hpp'⟩,_,ndD (s,r),hpp',by rw[aN];simp,?_⟩
  have h2:supd S' pp (.lst ((p0++[(s,r)]).map ndD).dropLast) pp=some (.lst (p0.map ndD)):=by
   rw[supd_same,aN];simp
  have hk2:∀ b o,S b=some o->supd S' pp (.lst ((p0++[(s,r)]).map ndD).dropLast) b=some o:=fun b o e=>(supd_ne (fun z=>by rw[z,hpp] at e;cases e)).trans (hk b o e)
  generalize supd S' pp (.lst ((p0++[(s,r)]).map ndD).dropLast)=S2 at h2 hk2;have lk:∀ (Q':DK),Q' (.bl (lackW ow s)) S2->dAndV (dOp (isD true) (dVar 2) (dC D.non)) (dOp (inD true) (dVar 2) (dVar 4)) [some (.lst (ts.map tupS)),some (.int m),some (opS ow),some (.ref pp),some (ndD (s,r)),x5,x6,x7] S2 Q':=by
   intro Q' h;cases ow with
   | none=>refine⟨_,rfl,?_⟩;rw[if_neg (by decide)];exact h
   | some w=>refine⟨_,rfl,?_⟩;rw[if_pos rfl];exact in_e (neg:=true) (E:=setE) (by decide) rfl h
  refine lk _ ?_;have ol:=ok_lack ow s;generalize hlb:lackW ow s=lb at ol;have ln:((s.map tupS).length:Int)=(s.length:Int):=by rw[aj]
  refine if_tst (tst:=dAnd (dTest (dOp (eqD false) (dCB lenD (dCons (dVar 4) dNil)) (dVar 1))) (dNot (dTru (dVar 5)))) (A:=dRet (dCB tupD (dCons (dVar 4) dNil))) (B:=dNext) (Γ:=[some (.lst (ts.map tupS)),some (.int m),some (opS ow),some (.ref pp),some (ndD (s,r)),some (.bl lb),x6,x7]) (decide (s.length=m) && !lb) (fun Q' h=>⟨_,rfl,rfl,_,rfl,?_⟩) (fun hb=>?_) fun hb=>?_
  ·have e:decide (D.int ((s.map tupS).length:Int)=D.int (m:Int))=decide (s.length=m):=by
    refine fj.mpr ?_;rw[decide_eq_true_iff,decide_eq_true_iff,ln];exact⟨fun h=>by injection h with h;omega,fun h=>by rw[h]⟩
   show if decide (D.int ((s.map tupS).length:Int)=D.int (m:Int))=true then _ else _
   rw[e];cases hd:decide (s.length=m) with
   | false=>rw[if_neg aS];rw[hd] at h;exact h
   | true=>rw[if_pos rfl];rw[hd] at h;exact h
  ·rw[aG,decide_eq_true_iff] at hb;have e:=tellS_full (J:=joiG) (p:=p0) (r:=r) hb.1 (ol.trans hb.2);rw[e] at ht;subst ht;exact⟨_,rfl,rt_drop hk2 q⟩
  refine if_tst (tst:=dTest (dOp ltD (dCB lenD (dCons (dVar 4) dNil)) (dVar 1))) (B:=dNext) (Γ:=[some (.lst (ts.map tupS)),some (.int m),some (opS ow),some (.ref pp),some (ndD (s,r)),some (.bl lb),x6,x7]) (decide (s.length < m)) (fun Q' h=>⟨_,rfl,_,rfl,?_⟩) (fun hc=>?_) fun hc=>?_
  ·show Q' (decide (((s.map tupS).length:Int) < (m:Int))) S2;rw[show decide (((s.map tupS).length:Int) < (m:Int))=decide (s.length < m) from decide_eq_decide.mpr (by rw[ln];omega)]
   exact h
  case refine_3 =>
   have hc:=of_decide_eq_false hc;have sm:s.length=m:=by omega
   have o0:okW ow s=false:=by
    rw[ol];rw[decide_eq_true sm,gW] at hb;exact hb
   rw[tellS_over joiG sm o0] at ht;exact⟨wgtS p0,by omega,p0,_,_,_,_,rfl,h2,hk2,fun z hz=>hn z (bd _ hz),fun i hi=>by
    have:=hl i (by rw[av];omega)
    rw[jp hi] at this;exact this,ht,rfl⟩
  have hc:=of_decide_eq_true hc;have bg:∀ E':EndsD,(∀ b:Nat,ts.drop b=r->E'.nx [some (.lst (ts.map tupS)),some (.int m),some (opS ow),some (.ref pp),some (ndD (s,r)),some (.bl lb),some (.int (b:Nat)),x7] S2)->dIfS (dTest (dOp (eqD true) (dVar 4) (dLst false dNil))) (dAsg (dOp (addD false) (dMt idxLtD ckSq (dVar 0) (dCons (dOp ixD (dVar 4) (dUn (unD fun i=>D.int (-i)) (dC (D.int 1)))) dNil)) (dC (D.int 1))) (gdName 6)) dNext E' [some (.lst (ts.map tupS)),some (.int m),some (opS ow),some (.ref pp),some (ndD (s,r)),some (.bl lb),some (.int 0),x7] S2:=by
   intro E' main;refine if_tst (tst:=dTest (dOp (eqD true) (dVar 4) (dLst false dNil))) (B:=dNext) (Γ:=[some (.lst (ts.map tupS)),some (.int m),some (opS ow),some (.ref pp),some (ndD (s,r)),some (.bl lb),some (.int 0),x7]) (!decide (s=[])) (fun Q' h=>⟨z9999 (by decide),by show okE 9 (D.lst (s.map tupS)) (D.lst [])=true;unfold okE;rw[cH];rfl,_,rfl,?_⟩) (fun hs=>?_) fun hs=>?_
   ·show Q' (!decide (D.lst (s.map tupS)=D.lst [])) S2;rw[show decide (D.lst (s.map tupS)=D.lst [])=decide (s=[]) from decide_eq_decide.mpr ⟨fun h=>by injection h with h;exact ij.mp h,fun h=>by rw[h];rfl⟩]
    exact h
   ·obtain⟨l,a,rfl⟩:∃ l a,s=l++[a]:=by
     rcases List.eq_nil_or_concat s with rfl | ⟨l,a,rfl⟩
     ·cases hs
     ·exact⟨l,a,by rw[List.concat_eq_append]⟩
    obtain⟨pr,ep⟩:=nd.at1 l a rfl;have hpr:pr.length < ts.length:=by rw[ep,av,aE];omega
    have nn:=kp.srt.nodup;refine⟨⟨_,rfl⟩,_,_,rfl,by rw[aN];exact atI_last _ _,ts.map tupS,tupS a,pr.length,rfl,rfl,?_,?_,fun j hj e=>?_,by omega,?_⟩
    ·rw[eZ];exact bn.mpr fun x _=>setE.ok 8 x a (by decide)
    ·rw[ep,aN,d4 (by rw[aj];exact ar _),aj,iu];rfl
    ·rw[bv,fb] at e;obtain⟨x,hx,e⟩:=e;have e:=tupS_inj _ _ e;subst e;rw[ep,d7 hj] at hx;rw[ep] at nn;exact(b0.mp nn).2.2 x (bz hx) x am rfl
    ·exact main (pr.length + 1) (by rw[ep,List.drop_append,dW (by omega)];simp)
   ·have e:s=[]:=by
     rw[Bool.not_eq_false',decide_eq_true_iff] at hs;exact hs
    exact main 0 (by rw[d6];exact(nd.at0 e).symm)
  refine bg _ fun b hb=>?_;have go1:∀ a∈r,∀ (Q':Bool->Sto->Prop),Q' (goW ow s a) S2->dOr (dNot (dTru (dVar 1))) (dTest (dOp leTD (dVar 0) (dVar 2))) [some (tupS a),some (.bl lb),some (opS ow)] S2 Q':=fun a _ Q' h=>by
   unfold goW at h;rw[hlb] at h;cases lb with
   | false=>exact or_t (fun _ z=>z) h
   | true =>
    cases ow with
    | none=>cases hlb
    | some w=>exact or_f (fun _ z=>z) ⟨a,w,rfl,rfl,_,rfl,h⟩
  refine⟨_,rfl,_,rfl,_,?_,loop_filt (p:=goW ow s) (f:=tupS) go1 (fun a _ _ Q' h=>h) (z9999 (by show 0 + r.length<=_;omega)) ?_⟩
  ·rw[cut_fromN,<- List.map_drop,hb];rfl
  rw[bQ];have fl:(r.filter (goW ow s)).length<=14:=aV (dq _ _) r14;refine⟨⟨_,h2⟩,_,rfl,_,?_,loop_filt (enc:=tupS) (p:=joiG s) (f:=fun a=>D.lst ((s++[a]).map tupS)) (fun a ha Q' h=>?_) (fun a ha _ Q' h=>?_) (xs:=(r.filter (goW ow s)).reverse) (z9999 (by show 0 + _<=_;rw[dQ];omega)) ?_⟩
  ·rw[<- gR];rfl
  ·have ha:a∈r:=(bP.mp (List.mem_reverse.mp ha)).1;exact⟨s,a,rfl,s14,fun o ho=>e6 o (bd _ ho),e6 a (aL _ ha),h⟩
  ·refine⟨z9999 (by show 1<=9999;decide),_,_,rfl,rfl,z9999 (by rw[aj];show s.length + 1<=_;omega),?_⟩
   rw[aN] at h;exact h
  rw[bQ];intro r' hr';have hrp:r'≠pp:=by rintro rfl;rw[h2] at hr';cases hr'
  have ek:(p0.map ndD)++((r.filter (goW ow s)).reverse.filter (joiG s)).map (fun a=>D.lst ((s++[a]).map tupS))=(p0++(kidS joiG (goW ow s) s r).reverse).map ndD:=by
   rw[aN,gR]
   congr 1
   rw[List.filter_reverse,gR]
   congr 1
   have:=kidS_fst joiG (goW ow s) s r
   have:=congrArg (List.map fun l=>D.lst (l.map tupS)) this
   rw[cf,cf] at this;exact this.symm
  have kl:(kidS joiG (goW ow s) s r).length<=14:=by
   have:=congrArg f9 (kidS_fst joiG (goW ow s) s r)
   rw[aj,aj] at this;rw[this];exact aV (dq _ _) fl
  have l0:p0.length<=106:=by have:=lowS_len hl;rw[av] at this;omega
  have hsk:∀ l a r',r=l++a::r'->goW ow s a=false->joiG s a=true->wanS joiG (okW ow) (s++[a]) r' (m - s.length - 1)=[]:=fun l a r' e g _=>by
   unfold goW at g;rw[Bool.or_eq_false_iff] at g;cases ow with
   | none=>exact absurd g.2 (by simp)
   | some w =>
    have hw:w∉s:=fun z=>by
     have g1:(!!decide (w∈s))=false:=g.1;rw[Bool.not_not,decide_eq_true z] at g1;cases g1
    exact wan_skip kp.srt (l:=l) (r:=r') (by rw[<- e];exact(dl s r).trans sub) hw (by simpa using g.2)
  refine⟨_,_,by rw[supd_ne (aZ hrp)];exact h2,supd_same,z9999 (by rw[aj,aj];have:=dq (joiG s) (r.filter (goW ow s)).reverse;rw[dQ] at this;omega),?_⟩
  rw[ek];have w3:=wgtS_kid joiG (goW ow s) s r;refine⟨wgtS (p0++(kidS joiG (goW ow s) s r).reverse),by rw[wgtS_append,wgtS_rev];omega,_,_,_,_,_,rfl,supd_same,fun b' o e=>?_,fun z hz=>?_,lowS_step joiG _ hl,(tellS_kid joiG (goW ow s) hc hsk).symm.trans ht,rfl⟩
  ·rw[supd_ne (by rintro rfl;rw[hpp] at e;cases e),supd_ne (by rintro rfl;rw[hk2 b' o e] at hr';cases hr')]
   exact hk2 b' o e
  ·rcases aU.mp hz with hz | hz
   ·exact hn z (bd _ hz)
   ·obtain⟨l,a,e1,e2⟩:=kidS_mem joiG (goW ow s) s r z (List.mem_reverse.mp hz);obtain⟨z1,z2⟩:=z;dsimp only at e1 e2;subst e2;refine⟨?_,by show(s++[a]).length<=m;rw[av];show s.length + 1<=m;omega,fun e=>absurd (congrArg f9 e) (by show(s++[a]).length≠0;rw[av];show s.length + 1≠0;omega),fun l' a' e=>?_⟩
    ·refine List.Sublist.trans ?_ sub;rw[bG];refine(eJ s).append ?_;rw[e1];exact dl l ([a]++z2)
    ·have e:=List.append_inj_right' e rfl;cases e;exact⟨ts.take b++l,by rw[bG,<- e1,<- hb,fw]⟩
end
end Toy
namespace L2
open PySem PySem.Spec PyProof.Rows
section
variable {X:Cx}
def rSetTT (w:aK) (K:Fg):List V->Hp->VK->Prop:=fun xs H Q=>∃ x ds,xs=[x]/\dT K (dT K dS) H x ds/\ds.length + 1<=300/\∀ p ms H',Same H H'->ms.Nodup->(∀ k,k∈ms↔k∈ds)->dSt w K H' (.ref p) ms->Q (.ref p) H'
theorem call_setTTs {K:Fg} {w:aK} (hu:X.A.units + 8 < bK) (hK:X.K=K:=by rfl) (hw:X.w=w:=by rfl) (hc:X.calm=true:=by rfl):CallR X (.type "set") (rSetTT w K):=by
 subst hK hw;intro pins s σ H xs us Q I r h;obtain⟨x,ds,rfl,⟨a,ys,rfl,hq,p⟩,hn,q⟩:=h;obtain⟨u,rfl,rx⟩:=vals1 r;cases rx;obtain⟨its,ri,pl,_⟩:=I.tuple hq;refine ST.call_setT (ST.restr (ST.tupKd X.prog X.w) fun k v=>∃ x,RelV x v/\dT X.K dS H x k) (I.ok.hd hc) hu pl (keyed' I p ri) (by rw[ak,<- ri.length,p.length];exact hn) fun h' tk ms M _ hk=>?_
 obtain⟨es,ep,t,hI,hled,hp⟩:=M.ex;obtain⟨ps,h1,h2⟩:=pv_of hp;have hfr:H s.heap.objs.size=none:=I.hok.fresh (ar _);have sm:Same H (upd H s.heap.objs.size (stO s.heap.objs.size es ep t)):=same_upd hfr;refine⟨.ref s.heap.objs.size,_,I.laid (t':=tk) (o:=stO s.heap.objs.size es ep t) (fun b o e=>hk b o (ay e) e) (ar _) ?_,rfl,q _ _ _ sm M.nd M.mem ⟨_,es,ep,t,ps,rfl,upd_same,(ST.tupKd X.prog X.w).fits hI.1,hled,fun z=>?_,L2.Paired.imp (fun _ _ z=>⟨z.1,Mo.mo sm z.2⟩) h1,h2⟩⟩
 ·refine⟨(ST.tupKd X.prog X.w).obj hI.1,⟨_,(ST.tupKd X.prog X.w).obj hI.1⟩,fun g1 g2 g k=>k _ g⟩
 ·exact(ST.restr (ST.tupKd X.prog X.w) fun k v=>∃ x,RelV x v/\dT X.K dS H x k).few rfl hI hp M.nd z
end
section
variable {X:Cx} {K:Fg} {pos:Pos} {k:Nat} {F:Am} {S:Sto} {H:Hp}
def dSrtSetT (b:Bool) (te:ED):ED:=fun Γ S Q=>te Γ S fun d S1=>∃ ts:List (List Str),d=.tup (ts.map tupS)/\ts.length < 64/\∀ out:List (List Str),out.Nodup->(∀ t,t∈out↔t∈ts)->out.Pairwise (fun a b=>HT.lexS a b=true)->newL b (out.map tupS) S1 Q
theorem e_sortedSetT {b:Bool} {e:Expr} {te:ED} {p p' pos':Pos} (hr:Room k X.A) (hg:Gl X "sorted") (hm:X.mg "sorted" = none) (hg':Gl X "set") (hm':X.mg "set" = none) (he:PD K X e te) (hK:X.K=K:=by rfl) (hc:X.calm=true:=by rfl)
  (h1:au [e] X.env=(false,eval e X.env)::au [] X.env:=by rfl) (h2:au [jE (.Name "set" p') [e] [] pos'] X.env=(false,eval (jE (.Name "set" p') [e] [] pos') X.env)::au [] X.env:=by rfl) (h3:(bD pos (au [] X.env)).any (·.1)=false:=by rfl) (h4:(bD pos' (au [] X.env)).any (·.1)=false:=by rfl) :
  PD K X (.Call (.Name "sorted" p) [.Call (.Name "set" p') [e] [] pos'] [] pos) (dSrtSetT b te) :=
 .of (pe_callB (call_sortedStN (lt64 hr) hK rfl hc) hg hm bt_sorted (pa_cons (pe_callTy (call_setTTs (lt64 hr) hK rfl hc) hg' hm' bt_set (pa_cons he.o pa_nil h1) (by decide) (by decide) h1 h4) pa_nil h2) (by decide) (by decide) h2 h3) fun σ H Q z0=>z0.el fun F S Γ QD r g q c =>
 ⟨F,S,Γ,_,r,g,q,fun v d H1 S1 x1 r1 v1 ⟨ts,hl,h64,q1⟩=>by
  subst hl;obtain⟨a,us,rfl,sq,lu⟩:=tup.st v1;refine⟨_,ts,rfl,⟨a,us,rfl,sq,repTups lu⟩,by omega,fun p ms H2 s2 nd mem st=>⟨_,ms,rfl,st,nd,?_,fun l ys out hfr pm pw pp=>?_⟩⟩
  ·exact eV (szOk_of nd mem).1 h64
  ·have r2:Rp K F S1 H2:=r1.same s2;have x2:Ext S1 H1 S1 H2:=Ext.same s2;exact Cn.new (Cn.shift c (x1.trans x2)) r2 hfr (tups_rep r2 pp) (q1 out (pm.nodup_iff.mpr nd) (fun t=>(pm.mem_iff).trans (mem t)) pw)⟩
end
end L2
namespace Toy
open PySem L2
abbrev s_law_flower_right:Stmt:=top 24
theorem sc_law_flower_right:FnScope ["sets", "many", "one", "found"] ["sets", "many", "one", "found"] (defScope s_law_flower_right):=fsc
def sp_law_flower_right:SpD:=fun ds S Q=>∃ (ts:List (List Str)) (m:Nat) (o:List Str),ds=[.lst (ts.map tupS),.int m,tupS o,opF (fstW ts m o)]/\Kpt ts/\2<=m/\m<=6/\o.length<=6/\Q (.bl true) S
theorem cutD_to (xs:List D) (j:Nat):cutD xs none (some (j:Int))=xs.take j:=by
 unfold cutD;show((xs.drop 0).take (HT.sIx xs.length xs.length (some (j:Int)) - 0))=_;rw[d6,fL,HT.sIx_nat,<- List.take_eq_take_min]
theorem chn_at {A:Type} (J:List A->A->Bool):∀ (c p:List A) (k:Nat) (x:A),chnS J p c=true->c[k]?=some x->J (p++c.take k) x=true
 | [],_,_,_,_,h=>by cases h
 | a::c,p,0,x,h,e=>by
  cases e;have h:(J p a && chnS J (p++[a]) c)=true:=h;rw[aG] at h;rw[List.take_zero,bI];exact h.1
 | a::c,p,k + 1,x,h,e=>by
  have h:(J p a && chnS J (p++[a]) c)=true:=h;rw[aG] at h
  have:=chn_at J c (p++[a]) k x h.2 e
  rw[bG] at this;exact this
section
variable {P:aD} {w:aK} {K:ao} {mg:Str->Option ae} {base:aW} {pt cc cNoSet cKeptSets:Addr}
theorem ok_law_flower_right (T:Tx K mg "_law_flower_right" s_law_flower_right) (B:Bs mg) (d_law_joins:Df P w K mg base 2 "_law_joins" ["some", "one"] (spU K sp_law_joins)) (d_law_first:Df P w K mg base 2 "_law_first" ["sets", "many", "wanted"] (spU K sp_law_first)):Df P w K mg base 3 "_law_flower_right" ["sets", "many", "one", "found"] (spU K sp_law_flower_right):=by
 refine e_def T sc_law_flower_right (fun F=>F.binds fun _ _ _ _ _ _=>us4 fun _ _ _ _=>rfl) ?_ fun f cdv A outer s H E hr=>⟨_,(dss_cons (ds_if (dt_is hr (dv 3) e_non) (dss_one (ds_ret (e_is hr (e_callD d_law_first hr rfl (da_cons (dv 0) (da_cons (dv 1) (da_cons (dv 2) da_nil)))) e_non))) dss_nil)
  (dss_cons (ds_if (PWD.pt (dw_or (dt_ne hr (e_len rfl B.len (da_cons (dv 3) da_nil)) (dv 1)) (dw_or (dt_nin hr (dv 2) (dv 3)) (dw_or1 (dt_ne hr (e_comp (N':=["other", "sets"]) (oc:=none) (b:=false) [0] [] rfl sc_law_flower_right.nd (fun _ _ _=>turn_one _ _ _ _ _ _ _ _ _) (.own (.cap (i:=0) rfl (by decide +kernel) .nil)) (free_of rfl) (di_sq (dv 3)) (cg_name (i:=0)) (fun _ _ _ _ _=>pg_name (i:=0) (nd_ ["other", "sets"]) rfl (aR rfl) (.inr rfl)) (fun _ _ _ _ _=>dts_one (by exact(dt_nin hr (dv 0) (dv 1)))) bo_emit (fun _ _ _ _ _ _=>pb_emit rfl (by exact PD.o (dv 0)))) (e_lst (b:=false) da_nil)))))) (dss_one (ds_ret e_bl)) dss_nil)
  (dss_cons (ds_if (dt_ne hr (e_list (b:=false) rfl B.list (da_cons (dv 3) da_nil)) (e_sortedSetT (b:=false) hr rfl B.sorted rfl B.set (dv 3))) (dss_one (ds_ret e_bl)) dss_nil)
  (dss_one (ds_ret (e_eq hr (e_comp (N':=["k", "found"]) (oc:=none) (b:=false) [0] [] rfl sc_law_flower_right.nd (fun _ _ _=>turn_one _ _ _ _ _ _ _ _ _) (.own (.cap (i:=3) rfl (by decide +kernel) .nil)) (free_of rfl) (di_range1 rfl B.range (da_cons (dv 1) da_nil)) (cg_name (i:=0)) (fun _ _ _ _ _=>pg_name (i:=0) (nd_ ["k", "found"]) rfl (aR rfl) (.inr rfl)) (fun _ _ _ _ _=>dts_one (by exact(dt_not (dt_tru (e_callD d_law_joins hr rfl (da_cons (e_list (b:=false) rfl B.list (da_cons (e_sl (b:=false) (dv 1) do_none (do_some (dv 0))) da_nil)) (da_cons (e_ix (dv 1) (dv 0)) da_nil))))))) bo_emit (fun _ _ _ _ _ _=>pb_emit rfl (by exact PD.o (dv 0)))) (e_lst (b:=false) da_nil))))))),?_⟩
 ·rintro ds S Q ⟨ts,m,o,rfl,_⟩;rfl
 ·rintro ds S Q ⟨ts,m,o,rfl,kp,m2,m6,o6,q⟩;cases hF:fstW ts m o with
  | none =>
   refine⟨_,rfl,ite2 (fun _=>?_) fun z=>absurd rfl z⟩;refine⟨ts,m,some o,rfl,kp,m2,m6,(fun w e=>by cases e;exact o6),?_⟩
   have e:((flO ts m).filter (okW (some o))).head?=none:=hF;rw[e];exact rt_same q
  | some s =>
   have hm:=List.mem_of_mem_head? (show s∈((flO ts m).filter fun s=>decide (o∈s)).head? from hF)
   obtain⟨hm1,ho⟩:=bP.mp hm;have ho:o∈s:=of_decide_eq_true ho;obtain⟨sl,sub,co⟩:=mem_flO.mp hm1;have l14:=kp.len;have s14:s.length<=14:=aV sub.length_le l14;have ss:SrtT s:=kp.srt.sublist sub;have co1:chnS joiG [] s=true:=by
    have:=chn_co (m - 2) s (by omega) ss.nodup fun x hx=>(kp.each x (sub.subset hx)).1
    rw[this];exact co
   refine⟨_,rfl,ite2 (fun z=>absurd (show false=true from z) aS) fun _=>?_⟩
   have ln:((s.map tupS).length:Int)=(m:Int):=by rw[aj,sl]
   refine if_tst (tst:=dOr (dTest (dOp (eqD true) (dCB lenD (dCons (dVar 3) dNil)) (dVar 1)))
       (dOr (dTest (dOp (inD true) (dVar 2) (dVar 3)))
        (dTest
         (dOp (eqD true)
          (compD false [none,some 0] (dSq (dVar 3)) (gdName 0) (dTest (dOp (inD true) (dVar 0) (dVar 1)))
           (emitD (dVar 0)))
          (dLst false dNil))))) (A:=dRet (dC (.bl false))) (B:=dNext) (Γ:=[some (.lst (ts.map tupS)),some (.int m),some (tupS o),some (opF (some s))]) false (fun Q' h=>or_f (fun Q1 h1=>⟨_,rfl,rfl,_,rfl,?_⟩) (or_f (fun Q1 h1=>in_t (neg:=true) (E:=setE) (l:=s) (by decide) rfl ?_) ⟨_,rfl,loop_filt (enc:=tupS) (p:=fun x=>!decide (x∈ts)) (f:=tupS) (xs:=s) (fun x hx Q2 h2=>in_t (neg:=true) (E:=setE) (by decide) rfl h2) (fun x _ _ Q2 h2=>h2) (z9999 (by show 0 + s.length<=_;omega)) ?_⟩)) (fun z=>jx z) fun _=>?_
   ·show Q1 (!decide (D.int ((s.map tupS).length:Int)=D.int (m:Int))) S;rw[ln,decide_eq_true rfl];exact h1
   ·rw[decide_eq_true ho];exact h1
   ·rw[bQ,show(s.filter fun x=>!decide (x∈ts))=[] from dg.mpr fun x hx=>by rw[decide_eq_true (sub.subset hx)];exact aS]
    exact⟨z9999 (by decide),rfl,_,rfl,h⟩
   refine if_tst (tst:=dTest (dOp (eqD true) (dCB (lstD false) (dCons (dVar 3) dNil)) (dSrtSetT false (dVar 3)))) (A:=dRet (dC (.bl false))) (B:=dNext) (Γ:=[some (.lst (ts.map tupS)),some (.int m),some (tupS o),some (opF (some s))]) false (fun Q' h=>⟨_,rfl,s,rfl,by omega,fun out nd mem pw=>?_⟩) (fun z=>jx z) fun _=>?_
   ·have e:out=s:=SrtT.ext pw ss mem;subst e;refine⟨flE.ok 9 out out (by decide),_,rfl,?_⟩
    show Q' (!decide (D.lst (out.map tupS)=D.lst (out.map tupS))) S;rw[decide_eq_true rfl];exact h
   refine⟨⟨by omega,by omega⟩,loop_ind (fun i acc S'=>S'=S/\acc=[]) ⟨rfl,rfl⟩ ?_ ?_⟩
   ·rintro i x acc S' N hx ⟨rfl,rfl⟩ hN;obtain⟨hi,rfl⟩:=rng_at hx;have hi:i < s.length:=by omega
    have hx:s[i]?=some s[i]:=ag hi;have hj:=chn_at joiG s [] i s[i] co1 hx;rw[bQ] at hj;have s6:∀ x∈s,x.length<=6:=fun x hx=>(kp.each x (sub.subset hx)).2;refine⟨trivial,_,rfl,_,rfl,_,_,rfl,atI_nat (v:=tupS s[i]) (by rw[bv,hx];rfl),s.take i,s[i],?_,by rw[bw];omega,fun x hx=>s6 x (dF hx),s6 _ (d0 hi),?_⟩
    ·rw[cutD_to,<- kz];rfl
    ·rw[hj];exact hN _ _ ⟨rfl,rfl⟩
   ·rintro acc S' ⟨rfl,rfl⟩;exact⟨trivial,z9999 (by decide),rfl,rt_same q⟩
end
abbrev s_KeptSets_init:Stmt:=clsB (top 13) 0
theorem sc_KeptSets_init:FnScope ["self", "many"] ["self", "many"] (defScope s_KeptSets_init):=fsc
section
variable {P:aD} {w:aK} {K:ao} {mg:Str->Option ae} {base:aW} {pt cc cNoSet cKeptSets:Addr}
theorem ok_KeptSets_init (T:TxM K cKeptSets "__init__" "KeptSets.__init__" s_KeptSets_init) (B:Bs mg) (ZKeptSets:Cls K cKeptSets) (AKeptSets_many:NoAttr K cKeptSets "many") (AKeptSets_sets:NoAttr K cKeptSets "sets"):DfM P w K mg base 1 cKeptSets "__init__" ["self", "many"] (spU K (sp_ks_init K cKeptSets)):=by
 refine e_defM T sc_KeptSets_init (fun F=>F.binds fun _ _ _ _ _ _=>us2 fun _ _=>rfl) ?_ fun f cdv A outer s H E hr=>⟨_,(dss_cons (ds_fld (dv 0) (dv 1))
  (dss_one (ds_fld (dv 0) (e_tup da_nil)))),?_⟩
 ·rintro ds S Q ⟨a,m,rfl,_⟩;rfl
 ·rintro ds S Q ⟨a,m,rfl,hS,q⟩;refine⟨a,cKeptSets,[],rfl,hS,ZKeptSets,AKeptSets_many,by decide,z9999 (by decide),a,cKeptSets,_,rfl,supd_same,ZKeptSets,AKeptSets_sets,by show 1 < 1000;decide,?_⟩
  rw[supd_supd];exact rt_same q
end
abbrev s_choices_of:Stmt:=top 5
theorem sc_choices_of:FnScope ["things", "many", "found", "at", "one"] ["things", "many"] (defScope s_choices_of):=fsc
def sp_choices_of:SpD:=cn_of 8
section
variable {P:aD} {w:aK} {K:ao} {mg:Str->Option ae} {base:aW} {pt cc cNoSet cKeptSets:Addr}
theorem ch_step {k n:Nat} (T:Tx K mg "choices_of" s_choices_of) (B:Bs mg) (d_choices_of:Df P w K mg base k "choices_of" ["things", "many"] (spU K (cn_of n))):Df P w K mg base (k + 1) "choices_of" ["things", "many"] (spU K (cn_of (n + 1))):=by
 refine e_def T sc_choices_of (fun F=>F.binds fun _ _ _ _ _ _=>us2 fun _ _=>rfl) ?_ fun f cdv A outer s H E hr=>⟨_,(dss_cons (ds_if (dt_eq hr (dv 1) e_int) (dss_one (ds_ret (e_lst (b:=false) (da_cons (e_tup da_nil) da_nil)))) dss_nil)
  (dss_cons (ds_if (dt_not (dt_ltle e_int (dv 1) (e_len rfl B.len (da_cons (dv 0) da_nil)))) (dss_one (ds_ret (e_lst (b:=false) da_nil))) dss_nil)
  (dss_cons (ds_set (i:=2) sc_choices_of.nd rfl (aR rfl) (e_lst (b:=true) da_nil))
  (dss_cons (ds_for cK rfl (di_enT rfl B.enumerate (da_cons (dv 0) da_nil)) (dg_tup rfl (dgs_cons (dg_name (i:=3) sc_choices_of.nd rfl (aR rfl)) (dgs_cons (dg_name (i:=4) sc_choices_of.nd rfl (gO rfl)) dgs_nil))) (dss_one (ds_expr (e_extend (dv 2) (da_cons (e_comp (N':=["more", "one"]) (oc:=none) (b:=true) [0] [] rfl sc_choices_of.nd (fun _ _ _=>turn_one _ _ _ _ _ _ _ _ _) (.own (.cap (i:=4) rfl (by decide +kernel) .nil)) (free_of rfl) (di_sq (e_callD d_choices_of hr rfl (da_cons (e_sl (b:=false) (dv 0) (do_some (e_add (k:=false) (dv 3) e_int)) do_none) (da_cons (e_sub (dv 1) e_int) da_nil)))) (cg_name (i:=0)) (fun _ _ _ _ _=>pg_name (i:=0) (nd_ ["more", "one"]) rfl (aR rfl) (.inr rfl)) (fun _ _ _ _ _=>dts_nil) bo_emit (fun _ _ _ _ _ _=>pb_emit rfl (by exact PD.o (e_add (k:=false) (e_tup (da_cons (dv 1) da_nil)) (dv 0))))) da_nil)))))
  (dss_one (ds_ret (dv 2))))))),?_⟩
 ·rintro ds S Q ⟨xs,m,rfl,_⟩;rfl
 ·rintro ds S Q ⟨xs,m,rfl,hm,hx,q⟩;refine⟨rfl,_,rfl,ite2 (fun c1=>?_) fun c1=>?_⟩
  ·have e:m=0:=by
    have:=of_decide_eq_true c1
    injection this with this
    omega
   subst e;rw[ch_zero] at q;exact⟨z9999 (by decide),z9999 (by show 1<=9999;decide),rt_same q⟩
  have m0:m≠0:=fun e=>c1 (decide_eq_true (by rw[e];rfl))
  refine⟨_,rfl,ite2 (fun _=>?_) fun c=>absurd (decide_eq_true (by omega)) c⟩
  refine⟨_,rfl,_,rfl,ite2 (fun c2=>?_) fun c2=>?_⟩
  ·have hb:xs.length < m:=by simp at c2;omega
   rw[ch_big xs m hb] at q;exact⟨z9999 (by decide),rt_same q⟩
  have hb:m<=xs.length:=by simp at c2;omega
  obtain⟨c,rfl⟩:∃ c,m=c + 1:=⟨m - 1,by omega⟩
  refine⟨z9999 (by decide),fun fp hfp=>?_⟩
  have hcl:∀ m,(ch xs m).length<=2 ^ 20:=fun m=>aV (ch_len xs m) (g7 (by decide) hx)
  refine for_ind (fun i Γ S'=>∃ (x3 x4:Option D) (acc:List (List D)),Γ=[some (.tup xs),some (.int ((c + 1:Nat):Int)),some (.ref fp),x3,x4]/\S' fp=some (.lst (acc.map D.tup))/\acc++ch (xs.drop i) (c + 1)=ch xs (c + 1)/\∀ b o,S b=some o->S' b=some o)
   ⟨none,none,[],rfl,supd_same,rfl,fun b o e=>by rw[supd_ne (by rintro rfl;rw[hfp] at e;cases e)];exact e⟩ ?_ ?_
  ·rintro i x Γ S' N hxi ⟨x3,x4,acc,rfl,hf,hacc,hs⟩ hN;obtain⟨y,hy,rfl⟩:=pairs_get xs 0 i x hxi;have hi:i < xs.length:=by
    rcases bH i xs.length with z | z
    ·exact z
    ·rw[br z] at hy;cases hy
   have hyi:xs[i]=y:=by rw[ag hi] at hy;exact aJ hy
   have hd:=ch_drop xs i c hi;rw[hyi] at hd;have hlen:acc.length + (ch (xs.drop (i + 1)) c).length<=2 ^ 20:=by
    have h1:=congrArg f9 hacc;rw[hd,av,av,aj] at h1
    have:=hcl (c + 1)
    omega
   refine⟨trivial,rfl,rfl,⟨_,hf⟩,_,rfl,xs.drop (i + 1),c,?_,by omega,by rw[dw];omega,_,rfl,loop_map (enc:=D.tup) (f:=fun more=>D.tup (y::more)) (fun more hm Q q=>?_) ?_ ?_⟩
   ·show [D.tup (cutD xs (some (0 + (i:Int) + 1)) none),D.int (((c + 1:Nat):Int) - 1)]=_;rw[Int.zero_add,cut_from,show((c + 1:Nat):Int) - 1=(c:Int) by omega]
   ·have h1:=(ch_mem hm).1;exact⟨z9999 (by show 1<=9999;decide),z9999 (by show 1 + more.length<=9999;omega),q⟩
   ·rw[bu];show 0 + (ch (xs.drop (i + 1)) c).length<=_;omega
   ·intro p2 hp2;have hne:p2≠fp:=by rintro rfl;rw[hp2] at hf;cases hf
    refine⟨_,_,(supd_ne (aZ hne)).trans hf,supd_same,?_,hN _ _ ⟨_,_,acc++(ch (xs.drop (i + 1)) c).map (y::·),rfl,?_,?_,fun b o e=>?_⟩⟩
    ·rw[bQ,aj,aj,bu];omega
    ·rw[supd_same,aN,cf];rfl
    ·rw[bG,<- hd];exact hacc
    ·rw[supd_ne (by rintro rfl;rw[hfp] at e;cases e),supd_ne (by rintro rfl;rw[hs _ _ e] at hp2;cases hp2)]
     exact hs b o e
  ·rintro Γ S' ⟨x3,x4,acc,rfl,hf,hacc,hs⟩;rw[pairs_len,dW (ar _),ch_nil,bI] at hacc;refine⟨trivial,rt_frz (S':=S) hf hs hfp (hacc ▸ q)⟩
theorem ch_all (T:Tx K mg "choices_of" s_choices_of) (B:Bs mg):∀ n:Nat,Df P w K mg base (1 + n) "choices_of" ["things", "many"] (spU K (cn_of n))
 | 0=>T.df (fun F=>F.binds fun _ _ _ _ _ _=>us2 fun _ _=>rfl) fun F=>F.ok sc_choices_of (fun vs H Q E ⟨_,_,_,_,_,_,⟨_,_,_,h,_⟩,_⟩=>absurd h (cV _)) fun cdv A outer s H vs Q E' hr ⟨_,_,_,_,_,_,⟨_,_,_,h,_⟩,_⟩=>absurd h (cV _)
 | n + 1=>ch_step T B (ch_all T B n)
theorem ok_choices_of (T:Tx K mg "choices_of" s_choices_of) (B:Bs mg):Df P w K mg base 9 "choices_of" ["things", "many"] (spU K sp_choices_of):=by
 exact ch_all T B 8
end
abbrev s_names_of_all:Stmt:=top 8
theorem sc_names_of_all:FnScope ["some"] ["some"] (defScope s_names_of_all):=fsc
section
variable {P:aD} {w:aK} {K:ao} {mg:Str->Option ae} {base:aW} {pt cc cNoSet cKeptSets:Addr}
theorem ok_names_of_all (T:Tx K mg "names_of_all" s_names_of_all) (B:Bs mg):Df P w K mg base 1 "names_of_all" ["some"] (spU K sp_names_of_all):=by
 refine e_def T sc_names_of_all (fun F=>F.binds fun _ _ _ _ _ _=>us1 fun _=>rfl) ?_ fun f cdv A outer s H E hr=>⟨_,(dss_one (ds_ret (e_tuple rfl B.tuple (da_cons (e_comp (N':=["name", "some"]) (oc:=some "name") (b:=false) [0] [] rfl sc_names_of_all.nd (fun _ _ _=>turn_one _ _ _ _ _ _ _ _ _) (.own (.cap (i:=0) rfl (by decide +kernel) .nil)) (free_of rfl) (di_sq (e_ix (dv 0) e_int)) (cg_name (i:=0)) (fun _ _ _ _ _=>pg_name (i:=0) (nd_ ["name", "some"]) rfl (gO rfl) (.inl fn_own)) (fun _ _ _ _ _=>dts_one (by exact(dt_tru (e_all rfl B.all (da_cons (e_comp (N':=["one", "name"]) (oc:=none) (b:=false) [0] [] rfl (nd_ ["name", "some"]) (fun _ _ _=>turn_one _ _ _ _ _ _ _ _ _) (.own (.cap (i:=0) rfl (by decide +kernel) .nil)) (free_of rfl) (di_sq (dv 1)) (cg_name (i:=0)) (fun _ _ _ _ _=>pg_name (i:=0) (nd_ ["one", "name"]) rfl (aR rfl) (.inr rfl)) (fun _ _ _ _ _=>dts_nil) bo_emit (fun _ _ _ _ _ _=>pb_emit rfl (by exact PD.o (e_in hr (dv 1) (dv 0))))) da_nil))))) bo_emit (fun _ _ _ _ _ _=>pb_emit rfl (by exact PD.o (dv 0)))) da_nil)))),?_⟩
 ·rintro ds S Q ⟨ts,rfl,_⟩;rfl
 ·rintro ds S Q ⟨ts,rfl,hne,hl,h,q⟩
  match ts,hne with
  | t::ts',_ =>
   refine⟨(t::ts').map tupS,tupS t,rfl,atI_nat (j:=0) rfl,t.map D.str,rfl,loop_filt (p:=fun n=>(t::ts').all fun o=>decide (n∈o)) (f:=D.str) (fun x hx Q q=>⟨(t::ts').map tupS,rfl,loop_map (f:=fun o=>D.bl (decide (x∈o))) (fun o ho Q q=>in_e (neg:=false) (E:=strE) (l:=o) (by decide) rfl q) (z9999 (by show 0 + (t::ts').length<=_;omega)) ⟨((t::ts').map fun o=>decide (x∈o)),?_,?_⟩⟩) (fun x hx _ Q q=>q) (z9999 (by show 0 + t.length<=_;have:=h t am;omega)) ⟨_,rfl,rt_same q⟩⟩
   ·show _=_;rw[cf];rfl
   ·show Q (((t::ts').map fun o=>decide (x∈o)).all id) S;rw[eZ];exact q
end
abbrev s_without_names:Stmt:=top 4
theorem sc_without_names:FnScope ["one", "row"] ["one", "row"] (defScope s_without_names):=fsc
section
variable {P:aD} {w:aK} {K:ao} {mg:Str->Option ae} {base:aW} {pt cc cNoSet cKeptSets:Addr}
theorem ok_without_names (T:Tx K mg "without_names" s_without_names) (B:Bs mg):Df P w K mg base 1 "without_names" ["one", "row"] (spU K sp_without_names):=by
 refine e_def T sc_without_names (fun F=>F.binds fun _ _ _ _ _ _=>us2 fun _ _=>rfl) ?_ fun f cdv A outer s H E hr=>⟨_,(dss_one (ds_ret (e_tuple rfl B.tuple (da_cons (e_comp (N':=["name", "row"]) (oc:=none) (b:=false) [0] [] rfl sc_without_names.nd (fun _ _ _=>turn_one _ _ _ _ _ _ _ _ _) (.own (.cap (i:=1) rfl (by decide +kernel) .nil)) (free_of rfl) (di_sq (dv 0)) (cg_name (i:=0)) (fun _ _ _ _ _=>pg_name (i:=0) (nd_ ["name", "row"]) rfl (aR rfl) (.inr rfl)) (fun _ _ _ _ _=>dts_one (by exact(dt_nin hr (dv 0) (dv 1)))) bo_emit (fun _ _ _ _ _ _=>pb_emit rfl (by exact PD.o (dv 0)))) da_nil)))),?_⟩
 ·rintro ds S Q ⟨α,dα,E,one,row,d1,d2,rfl,_⟩;rfl
 ·rintro ds S Q ⟨α,dα,E,one,row,d1,d2,rfl,hE,h1,h2,hl,q⟩;have go:∀ Q':List D->Sto->Prop,Q' ((wo one row).map E.e) S->loopD (gdName 0) (dTest (dOp (inD true) (dVar 0) (dVar 1))) (emitD (dVar 0)) (fun _=>True) [none,some d2] (one.map E.e) [] S Q':=fun Q' q' =>
   loop_filt (p:=fun n=>!decide (n∈row)) (f:=E.e) (fun x hx Q q=>in_t (neg:=true) (E:=E) (by omega) h2.sq q) (fun x hx _ Q q=>q) (z9999 (by show 0 + one.length<=_;omega)) q'
  rcases h1 with rfl | rfl
  ·exact⟨one.map E.e,rfl,go _ ⟨_,rfl,rt_same q⟩⟩
  ·exact⟨one.map E.e,rfl,go _ ⟨_,rfl,rt_same q⟩⟩
end
abbrev s_core_of:Stmt:=top 7
theorem sc_core_of:FnScope ["some", "core", "left"] ["some"] (defScope s_core_of):=fsc
section
variable {P:aD} {w:aK} {K:ao} {mg:Str->Option ae} {base:aW} {pt cc cNoSet cKeptSets:Addr}
theorem ok_core_of (T:Tx K mg "core_of" s_core_of) (B:Bs mg) (d_names_of_all:Df P w K mg base 1 "names_of_all" ["some"] (spU K sp_names_of_all)) (d_without_names:Df P w K mg base 1 "without_names" ["one", "row"] (spU K sp_without_names)):Df P w K mg base 2 "core_of" ["some"] (spU K sp_core_of):=by
 refine e_def T sc_core_of (fun F=>F.binds fun _ _ _ _ _ _=>us1 fun _=>rfl) ?_ fun f cdv A outer s H E hr=>⟨_,(dss_cons (ds_if (PWD.pt (dw_or (dt_lt hr (e_len rfl B.len (da_cons (dv 0) da_nil)) e_int) (dw_or1 (dt_lt hr (e_lenS hr rfl B.len rfl B.set (dv 0)) (e_len rfl B.len (da_cons (dv 0) da_nil)))))) (dss_one (ds_ret e_non)) dss_nil)
  (dss_cons (ds_set (i:=1) sc_core_of.nd rfl (gO rfl) (e_callD d_names_of_all hr rfl (da_cons (dv 0) da_nil)))
  (dss_cons (ds_setC (i:=2) rfl (aR rfl) (N':=["one", "name", "core"]) (oc:=none) (b:=false) [0,1] [1] rfl sc_core_of.nd (fun _ _ _=>turn_two0 _ _ _ _ _ _ _ _ _ _ _ _) (.own (.own (.cap (i:=1) rfl (by decide +kernel) .nil))) (free_of rfl) (di_sq (dv 0)) (cg_name (i:=0)) (fun _ _ _ _ _=>pg_name (i:=0) (nd_ ["one", "name", "core"]) rfl (aR rfl) (.inr rfl)) (fun _ _ _ _ _=>dts_nil) (bo_inner (cg_name (i:=1)) bo_emit) (fun _ _ _ _ _ _=>pb_inner (m:=fun acc=>emitOf _ acc _) rfl rfl rfl (fun _=>turn_two1 _ _ _ _ _ _ _ _ _ _ _ _) (by exact PID.o (di_sq (e_callD d_without_names hr rfl (da_cons (dv 0) (da_cons (dv 2) da_nil))))) (pg_name (i:=1) (nd_ ["one", "name", "core"]) rfl (aR rfl) (.inr rfl)) (dts_nil) (pb_emit rfl (by exact PD.o (dv 1))) (fun _=>rfl) (fun _=>rfl) (fun _=>rfl) (fun _=>rfl) (fun _=>rfl)))
  (dss_one (ds_ret (e_ifExp (dt_eq hr (e_lenS hr rfl B.len rfl B.set (dv 2)) (e_len rfl B.len (da_cons (dv 2) da_nil))) (dv 1) e_non)))))),?_⟩
 ·rintro ds S Q ⟨ts,rfl,_⟩;rfl
 ·rintro ds S Q ⟨ts,rfl,hl,h,hlf,q⟩;have hlen:(ts.map tupS).length=ts.length:=aj ..;refine⟨_,rfl,_,rfl,ite2 (fun c1=>?_) fun c1=>?_⟩
  ·have h2:ts.length < 2:=by have:=of_decide_eq_true c1;rw[hlen] at this;omega
   have e:coG ts=none:=by unfold coG;rw[if_pos (.inl h2)]
   rw[e] at q;exact rt_same q
  ·have h2:¬ ts.length < 2:=by simp at c1;omega
   refine .inl ⟨ts,rfl,by omega,fun n hz=>⟨_,rfl,_,rfl,ite2 (fun c2=>?_) fun c2=>?_⟩⟩
   ·have c3:=of_decide_eq_true c2;rw[hlen] at c3;have nd:¬ ts.Nodup:=fun z=>by have:=hz.2.mpr z;omega
    have e:coG ts=none:=by unfold coG;rw[if_pos (.inr nd)]
    rw[e] at q;exact rt_same q
   ·have c3:ts.length<=n:=by simp at c2;exact c2
    have nd:ts.Nodup:=hz.2.mp (by have:=hz.1;omega)
    have hne:ts≠[]:=by rintro rfl;simp at h2
    refine⟨ts,rfl,hne,hl,h,_,rfl,?_⟩;have efl:∀ i t,ts[i]?=some t->(ts.take (i + 1)).flatMap (fun o=>o.filter fun d=>!decide (d∈naG ts))=(ts.take i).flatMap (fun o=>o.filter fun d=>!decide (d∈naG ts))++t.filter fun d=>!decide (d∈naG ts):=fun i t ht=>by
     rw[dJ,ht,ic];show _=_++_
     congr 1
     simp
    have hle:∀ i,((ts.take i).flatMap (fun o=>o.filter fun d=>!decide (d∈naG ts))).length<=99:=fun i=>aV (sub_flatMap (dH i ts)).length_le hlf;refine loop_ind (fun i acc S'=>S'=S/\acc=((ts.take i).flatMap (fun o=>o.filter fun d=>!decide (d∈naG ts))).map D.str) ⟨rfl,rfl⟩ ?_ ?_
    ·rintro i x acc S' N hx ⟨rfl,rfl⟩ hN;rw[bv,fb] at hx;obtain⟨t,ht,rfl⟩:=hx;refine⟨trivial,Str,inferInstance,strE,t,naG ts,tupS t,tupS (naG ts),rfl,by decide,.inl rfl,.inl rfl,by have:=h t (bz ht);omega,_,rfl,loop_map (enc:=D.str) (f:=D.str) (fun x hx Q q=>q) ?_ ?_⟩
     ·have:=hle (i + 1)
      rw[efl i t ht,av] at this;rw[aj];have e9:(wo t (naG ts)).length=(t.filter fun d=>!decide (d∈naG ts)).length:=rfl;exact z9999 (by omega)
     ·refine hN _ _ ⟨rfl,?_⟩;rw[efl i t ht,aN];rfl
    ·rintro acc S' ⟨rfl,rfl⟩;rw[aj,d3];refine⟨trivial,.inr ⟨lfG ts,rfl,by omega,fun n hz2=>⟨_,rfl,rfl,_,rfl,ite2 (fun c4=>?_) fun c4=>?_⟩⟩⟩
     ·have c5:n=(lfG ts).length:=by
       have:=of_decide_eq_true c4
       injection this with this
       rw[aj] at this;exact Int.ofNat_inj.mp this
      have e:coG ts=some (naG ts):=by unfold coG;rw[if_neg (by rintro(z | z);exact h2 z;exact z nd),if_pos (hz2.2.mp c5)]
      rw[e] at q;exact rt_same q
     ·have c5:¬ (lfG ts).Nodup:=fun z=>c4 (decide_eq_true (by rw[aj];exact congrArg (fun n:Nat=>D.int n) (hz2.2.mpr z)))
      have e:coG ts=none:=by unfold coG;rw[if_neg (by rintro(z | z);exact h2 z;exact z nd),if_neg c5]
      rw[e] at q;exact rt_same q
end
abbrev s_flowers_of:Stmt:=top 11
theorem sc_flowers_of:FnScope ["sets", "many", "flowers", "size", "longer"] ["sets", "many"] (defScope s_flowers_of):=fsc
section
variable {P:aD} {w:aK} {K:ao} {mg:Str->Option ae} {base:aW} {pt cc cNoSet cKeptSets:Addr}
theorem ok_flowers_of (T:Tx K mg "flowers_of" s_flowers_of) (B:Bs mg) (d_choices_of:Df P w K mg base 9 "choices_of" ["things", "many"] (spU K sp_choices_of)) (d_core_of:Df P w K mg base 9 "core_of" ["some"] (spU K sp_core_of)):Df P w K mg base 10 "flowers_of" ["sets", "many"] (spU K sp_flowers_of):=by
 refine e_def T sc_flowers_of (fun F=>F.binds fun _ _ _ _ _ _=>us2 fun _ _=>rfl) ?_ fun f cdv A outer s H E hr=>⟨_,(dss_cons (ds_if (dt_lt hr (dv 1) e_int) (dss_one (ds_ret (e_lst (b:=false) da_nil))) dss_nil)
  (dss_cons (ds_set (i:=2) sc_flowers_of.nd rfl (aR rfl) (e_callD d_choices_of hr rfl (da_cons (dv 0) (da_cons e_int da_nil))))
  (dss_cons (ds_for cK rfl (di_range2 rfl B.range (da_cons e_int (da_cons (dv 1) da_nil))) (dg_name (i:=3) sc_flowers_of.nd rfl (aR rfl)) (dss_cons (ds_setC (i:=4) rfl (aR rfl) (N':=["some", "one", "sets"]) (oc:=none) (b:=false) [0,1] [1] rfl sc_flowers_of.nd (fun _ _ _=>turn_two0 _ _ _ _ _ _ _ _ _ _ _ _) (.own (.own (.cap (i:=0) rfl (by decide +kernel) .nil))) (free_of rfl) (di_sq (dv 2)) (cg_name (i:=0)) (fun _ _ _ _ _=>pg_name (i:=0) (nd_ ["some", "one", "sets"]) rfl (aR rfl) (.inr rfl)) (fun _ _ _ _ _=>dts_nil) (bo_inner (cg_name (i:=1)) bo_emit) (fun _ _ _ _ _ _=>pb_inner (m:=fun acc=>emitOf _ acc _) rfl rfl rfl (fun _=>turn_two1 _ _ _ _ _ _ _ _ _ _ _ _) (by exact PID.o (di_sq (dv 2))) (pg_name (i:=1) (nd_ ["some", "one", "sets"]) rfl (aR rfl) (.inr rfl)) (dts_one (by exact(dt_lt hr (e_ix (dv 0) (e_neg e_int)) (dv 1)))) (pb_emit rfl (by exact PD.o (e_add (k:=false) (dv 0) (e_tup (da_cons (dv 1) da_nil))))) (fun _=>rfl) (fun _=>rfl) (fun _=>rfl) (fun _=>rfl) (fun _=>rfl)))
  (dss_one (ds_setC (i:=2) rfl (aR rfl) (N':=["some"]) (oc:=none) (b:=false) [0] [] rfl sc_flowers_of.nd (fun _ _ _=>turn_one _ _ _ _ _ _ _ _ _) (.own .nil) (free_of rfl) (di_sq (dv 4)) (cg_name (i:=0)) (fun _ _ _ _ _=>pg_name (i:=0) (nd_ ["some"]) rfl (aR rfl) (.inr rfl)) (fun _ _ _ _ _=>dts_one (by exact(dt_isnt hr (e_callD d_core_of hr rfl (da_cons (dv 0) da_nil)) e_non))) bo_emit (fun _ _ _ _ _ _=>pb_emit rfl (by exact PD.o (dv 0)))))))
  (dss_one (ds_ret (dv 2)))))),?_⟩
 ·rintro ds S Q ⟨ts,m,rfl,_⟩;rfl
 ·rintro ds S Q ⟨ts,m,rfl,m2,m6,hs,hl,he,q⟩;have big:∀ n:Nat,n<=40000->n<=sizeLine:=fun n h=>by rw[bu];omega
  have chL:∀ k,(ch ts k).length<=32768:=fun k=>aV (ch_len ts k) (g7 (n:=2) (j:=15) (by decide) hl)
  have c2:ch (ts.map tupS) 2=(ch ts 2).map fun s=>s.map tupS:=ch_map tupS ts 2;refine⟨_,rfl,ite2 (fun c=>absurd (of_decide_eq_true c) (by omega)) fun c=>?_⟩
  refine⟨ts.map tupS,2,rfl,by decide,by rw[aj];omega,?_⟩
  have e0:(ch (ts.map tupS) 2).map D.tup=(flw HT.lexS [] (fun s=>(coG s).isSome) ts 0).map flE.e:=by
   rw[c2,cf];rfl
  rw[e0];refine⟨⟨by decide,by decide,by omega,by omega⟩,?_⟩
  have e1:((m:Int) - 2).toNat=m - 2:=by omega
  rw[e1];refine for_ind (fun i Γ S'=>∃ x3 x4:Option D,Γ=[some (.tup (ts.map tupS)),some (.int m),some (.lst ((flw HT.lexS [] (fun s=>(coG s).isSome) ts i).map flE.e)),x3,x4]/\S'=S) ⟨none,none,rfl,rfl⟩ ?_ ?_
  ·rintro i x Γ S' N hx ⟨x3,x4,rfl,rfl⟩ hN;have hi:i < m - 2:=by have:=(bi.mp hx).1;rwa [rngD_len] at this
   have hfm:∀ s∈flw HT.lexS [] (fun s=>(coG s).isSome) ts i,s.length=i + 2/\s.Sublist ts:=fun s h=>by
    rw[flw_flO hs fun t ht=>(he t ht).1] at h;exact⟨(mem_flO.mp h).1,(mem_flO.mp h).2.1⟩
   have hsub:∀ j,((((flw HT.lexS [] (fun s=>(coG s).isSome) ts i).take j).flatMap (ext HT.lexS [] ts))).length<=32768:=fun j=>by
    refine aV ?_ (chL (i + 3));rw[<- ch_ext (z:=[]) (srtT_hp hs) lexS_irr (i + 1)];exact(sub_flatMap ((dH j _).trans (flw_sub (srtT_hp hs) lexS_irr i))).length_le
   have efl:∀ j s,(flw HT.lexS [] (fun s=>(coG s).isSome) ts i)[j]?=some s->((flw HT.lexS [] (fun s=>(coG s).isSome) ts i).take (j + 1)).flatMap (ext HT.lexS [] ts)=((flw HT.lexS [] (fun s=>(coG s).isSome) ts i).take j).flatMap (ext HT.lexS [] ts)++ext HT.lexS [] ts s:=fun j s h=>by
    rw[dJ,h,ic];simp
   refine⟨trivial,_,rfl,loop_ind (fun j acc S2=>S2=S'/\acc=(((flw HT.lexS [] (fun s=>(coG s).isSome) ts i).take j).flatMap (ext HT.lexS [] ts)).map flE.e) ⟨rfl,rfl⟩ ?_ ?_⟩
   ·rintro j y acc S2 N2 hy ⟨rfl,rfl⟩ hN2;rw[bv,fb] at hy;obtain⟨s,hsj,rfl⟩:=hy;obtain⟨hsl,hss⟩:=hfm s (bz hsj);have hne:s≠[]:=by rintro rfl;simp at hsl
    refine⟨trivial,_,rfl,loop_filt (p:=fun o=>HT.lexS (s.getLastD []) o) (f:=fun o=>flE.e (s++[o])) (fun o ho Q q=>?_) (fun o ho _ Q q=>?_) (big _ ?_) ?_⟩
    ·exact⟨_,_,rfl,(by rw[atI_map,at_last hne []];rfl:atI (s.map tupS) (-1)=some (tupS (s.getLastD []))),s.getLastD [],o,rfl,rfl,_,rfl,q⟩
    ·refine⟨z9999 (by show 1<=9999;decide),z9999 (by show(s.map tupS).length + 1<=9999;rw[aj];omega),?_⟩
     have e:flE.e (s++[o])=.tup (s.map tupS++[tupS o]):=by show D.tup ((s++[o]).map setE.e)=_;rw[aN];rfl
     rw[e] at q;exact q
    ·have h1:=hsub j;rw[aj];omega
    ·refine hN2 _ _ ⟨rfl,?_⟩;rw[efl j s hsj,aN];unfold ext;rw[cf];rfl
   ·rintro acc S2 ⟨rfl,rfl⟩;rw[aj,d3];have hL:=hsub (flw HT.lexS [] (fun s=>(coG s).isSome) ts i).length;rw[d3] at hL;refine⟨trivial,_,rfl,loop_filt (p:=fun s=>(coG s).isSome) (f:=flE.e) (fun s hsm Q q=>?_) (fun s _ _ Q q=>q) (big _ (by show 0 + _<=_;omega)) (hN _ _ ⟨_,_,rfl,rfl⟩)⟩
    obtain⟨s0,hs0,hse⟩:=List.mem_flatMap.mp hsm;obtain⟨o,ho,rfl⟩:=b4.mp hse;have hsl:=(hfm s0 hs0).1;have hel:∀ t∈s0++[o],t.length<=12:=fun t ht=>by
     rcases aU.mp ht with ht | ht
     ·exact(he t ((hfm s0 hs0).2.subset ht)).2
     ·rw[az.mp ht];exact(he o (bP.mp ho).1).2
    have hll:(s0++[o]).length<=6:=by rw[av,hsl];show i + 2 + 1<=6;omega
    refine⟨s0++[o],rfl,by omega,fun t ht=>by have:=hel t ht;omega,aV (lf_len hll hel) (by decide),?_⟩
    cases hc:coG (s0++[o]) with
    | none=>rw[hc] at q;exact⟨_,rfl,q⟩
    | some c=>rw[hc] at q;exact⟨_,rfl,q⟩
  ·rintro Γ S' ⟨x3,x4,rfl,rfl⟩;rw[rngD_len,flw_flO hs fun t ht=>(he t ht).1,show m - 2 + 2=m by omega]
   exact⟨trivial,rt_same q⟩
end
end Toy
namespace SF
open PySem PyProof.Rows
end SF
set_option maxHeartbeats 4000000
namespace SF
open PySem PyProof.Rows
end SF
namespace KS
open PySem PySem.W PyProof.Rows
section
variable {prog:aD} {w:aK} {A:aQ} {E:ae->ai->Prop} {s:ai}
open Classical in
end
end KS
set_option maxHeartbeats 1000000
namespace L2
open PySem PySem.Spec PyProof.Rows
end L2
namespace Toy
open PySem L2
abbrev s_KeptSets_put_set:Stmt:=clsB (top 13) 1
theorem sc_KeptSets_put_set:FnScope ["self", "one", "having"] ["self", "one"] (defScope s_KeptSets_put_set):=fsc
open PyProof.Rows
section
variable {P:aD} {w:aK} {K:ao} {mg:Str->Option ae} {base:aW} {pt cc cNoSet cKeptSets:Addr}
theorem ok_KeptSets_put_set (T:TxM K cKeptSets "put_set" "KeptSets.put_set" s_KeptSets_put_set) (B:Bs mg) (ONoSet:OwnCls "NoSet" cNoSet [.type "ValueError",.type "Exception",.type "BaseException",.type "object"] "ValueError.__new__" mg base) (ZKeptSets:Cls K cKeptSets) (AKeptSets_many:NoAttr K cKeptSets "many") (AKeptSets_sets:NoAttr K cKeptSets "sets") (d_flowers_of:Df P w K mg base 10 "flowers_of" ["sets", "many"] (spU K sp_flowers_of)):DfMX P w K mg base 11 cKeptSets "put_set" ["self", "one"] (spUX K cNoSet (sp_ks_put K cKeptSets)):=by
 refine e_defMX T sc_KeptSets_put_set (fun F=>F.binds fun _ _ _ _ _ _=>us2 fun _ _=>rfl) ?_ fun f cdv A outer s H E hr=>⟨_,(xs_ifR (dt_in hr (dv 1) (e_fld (dv 0))) (ps_raise ONoSet iT rfl (pa_cons pe_str pa_nil)) (fun _ _ _ h=>h _)
  (xs_last (dss_cons (ds_fld (dv 0) (e_tuple rfl B.tuple (da_cons (e_sorted (b:=false) hr rfl B.sorted (da_cons (e_add (k:=false) (e_fld (dv 0)) (e_tup (da_cons (dv 1) da_nil))) da_nil)) da_nil)))
  (dss_cons (ds_setC (i:=2) rfl (aR rfl) (N':=["some", "one"]) (oc:=none) (b:=false) [0] [] rfl sc_KeptSets_put_set.nd (fun _ _ _=>turn_one _ _ _ _ _ _ _ _ _) (.own (.cap (i:=1) rfl (by decide +kernel) .nil)) (free_of rfl) (di_sq (e_callD d_flowers_of hr rfl (da_cons (e_fld (dv 0)) (da_cons (e_fld (dv 0)) da_nil)))) (cg_name (i:=0)) (fun _ _ _ _ _=>pg_name (i:=0) (nd_ ["some", "one"]) rfl (aR rfl) (.inr rfl)) (fun _ _ _ _ _=>dts_one (by exact(dt_in hr (dv 1) (dv 0)))) bo_emit (fun _ _ _ _ _ _=>pb_emit rfl (by exact PD.o (dv 0))))
  (dss_one (ds_ret (e_minD hr rfl B.min (dv 2) e_non))))))),?_⟩
 ·rintro ds S Q XQ ⟨a,m,ts,one,rfl,_⟩;rfl
 ·rintro ds S Q XQ ⟨a,m,ts,one,rfl,hS,m2,m6,kp,o1,o6,qx,q⟩;have hit:∀ Q':Bool->Sto->Prop,Q' (decide (one∈ts)) S->dTest (dOp (inD false) (dVar 1) (dFld K (dVar 0) (aM "sets"))) (startD [aM "self",aM "one",aM "having"] [D.ref a,tupS one]) S Q':=fun Q' h=>⟨a,cKeptSets,_,_,rfl,hS,ZKeptSets,AKeptSets_sets,rfl,in_t (neg:=false) (E:=setE) (by decide) rfl h⟩
  refine hit _ ?_
  by_cases hm:one∈ts
  ·rw[decide_eq_true hm];exact⟨S,fun _ _ e=>e,qx hm⟩
  ·rw[decide_eq_false hm];obtain⟨tl,q⟩:=q hm;have kp':=kpt_put kp hm tl o1 o6;have nd:(ts++[one]).Nodup:=b0.mpr ⟨kp.srt.nodup,cj ..,fun x hx y hy e=>hm (by rw[az.mp hy] at e;exact e ▸ hx)⟩
   have e1:ts.map tupS++[tupS one]=(ts++[one]).map tupS:=by rw[aN];rfl
   refine⟨a,cKeptSets,_,_,rfl,hS,ZKeptSets,AKeptSets_sets,rfl,z9999 (by show 1<=9999;decide),z9999 (by rw[aj];show ts.length + 1<=9999;omega),?_⟩
   show srtD false [D.tup (ts.map tupS++[tupS one])] _ _;rw[e1];refine .inr (.inr ⟨ts++[one],rfl,nd,by rw[av];show ts.length + 1 < 64;omega,_,rfl,?_⟩)
   generalize srT (ts++[one])=us at kp' q;have hS1:supd S a (keptO K cKeptSets m us) a=some (keptO K cKeptSets m us):=supd_same;refine⟨a,cKeptSets,_,rfl,hS,ZKeptSets,AKeptSets_sets,by show 2 < 1000;decide,?_⟩
   refine⟨a,cKeptSets,_,_,rfl,hS1,ZKeptSets,AKeptSets_sets,rfl,a,cKeptSets,_,_,rfl,hS1,ZKeptSets,AKeptSets_many,rfl,?_⟩;refine⟨us,m,rfl,m2,m6,kp'.srt,by have:=kp'.len;omega,fun t ht=>⟨(kp'.each t ht).1,by have:=(kp'.each t ht).2;omega⟩,?_⟩
   have fl:(flO us m).length<=32768:=aV (dq _ _) (aV (ch_len us m) (g7 (n:=2) (j:=15) (by decide) (by have:=kp'.len;omega)))
   refine⟨_,rfl,loop_filt (p:=fun s=>decide (one∈s)) (f:=flE.e) (fun s hs Q' h=>in_t (neg:=false) (E:=setE) (by decide) rfl h) (fun s _ _ Q' h=>h) (by rw[bu];show 0 + (flO us m).length<=_;omega) ?_⟩
   rw[bQ];refine⟨_,rfl,allOk_e (by decide) _,?_⟩
   have hp:=(flO_lex kp'.srt m).sublist (ig (p:=fun s=>decide (one∈s)));unfold fstW at q;cases e:(flO us m).filter fun s=>decide (one∈s) with
   | nil=>rw[e] at q;exact rt_same q
   | cons s r =>
    rw[e] at q hp;show rtD Q (bestD (flE.e s) (r.map flE.e)) _;rw[best_head (by decide) flE_as (a9.mp hp).1]
    exact rt_same q
end
end Toy
namespace Toy
open PySem L2
abbrev s_KeptSets_take_set:Stmt:=clsB (top 13) 2
theorem sc_KeptSets_take_set:FnScope ["self", "one"] ["self", "one"] (defScope s_KeptSets_take_set):=fsc
open PyProof.Rows
section
variable {P:aD} {w:aK} {K:ao} {mg:Str->Option ae} {base:aW} {pt cc cNoSet cKeptSets:Addr}
theorem ok_KeptSets_take_set (T:TxM K cKeptSets "take_set" "KeptSets.take_set" s_KeptSets_take_set) (B:Bs mg) (ONoSet:OwnCls "NoSet" cNoSet [.type "ValueError",.type "Exception",.type "BaseException",.type "object"] "ValueError.__new__" mg base) (ZKeptSets:Cls K cKeptSets) (AKeptSets_sets:NoAttr K cKeptSets "sets"):DfMX P w K mg base 1 cKeptSets "take_set" ["self", "one"] (spUX K cNoSet (sp_ks_take K cKeptSets)):=by
 refine e_defMX T sc_KeptSets_take_set (fun F=>F.binds fun _ _ _ _ _ _=>us2 fun _ _=>rfl) ?_ fun f cdv A outer s H E hr=>⟨_,(xs_ifR (dt_nin hr (dv 1) (e_fld (dv 0))) (ps_raise ONoSet iT rfl (pa_cons pe_str pa_nil)) (fun _ _ _ h=>h _)
  (xs_last (dss_one (ds_fld (dv 0) (e_tuple rfl B.tuple (da_cons (e_comp (N':=["other", "one"]) (oc:=none) (b:=false) [0] [] rfl sc_KeptSets_take_set.nd (fun _ _ _=>turn_one _ _ _ _ _ _ _ _ _) (.own (.cap (i:=1) rfl (by decide +kernel) .nil)) (free_of rfl) (di_sq (e_fld (dv 0))) (cg_name (i:=0)) (fun _ _ _ _ _=>pg_name (i:=0) (nd_ ["other", "one"]) rfl (aR rfl) (.inr rfl)) (fun _ _ _ _ _=>dts_one (by exact(dt_ne hr (dv 0) (dv 1)))) bo_emit (fun _ _ _ _ _ _=>pb_emit rfl (by exact PD.o (dv 0)))) da_nil)))))),?_⟩
 ·rintro ds S Q XQ ⟨a,m,ts,one,rfl,_⟩;rfl
 ·rintro ds S Q XQ ⟨a,m,ts,one,rfl,hS,tl,qx,q⟩;have hit:∀ Q':Bool->Sto->Prop,Q' (!decide (one∈ts)) S->dTest (dOp (inD true) (dVar 1) (dFld K (dVar 0) (aM "sets"))) (startD [aM "self",aM "one"] [D.ref a,tupS one]) S Q':=fun Q' h=>⟨a,cKeptSets,_,_,rfl,hS,ZKeptSets,AKeptSets_sets,rfl,in_t (neg:=true) (E:=setE) (by decide) rfl h⟩
  refine hit _ ?_
  by_cases hm:one∈ts
  ·rw[decide_eq_true hm];refine⟨a,cKeptSets,_,_,rfl,hS,ZKeptSets,AKeptSets_sets,rfl,_,rfl,loop_filt (p:=fun o=>!decide (o=one)) (f:=tupS) (fun o ho Q' h=>?_) (fun o ho _ Q' h=>h) (z9999 (by show 0 + ts.length<=_;omega)) ?_⟩
   ·show eqD true (setE.e o) (setE.e one) S fun d S1=>∃ b,d=.bl b/\Q' b S1;exact eq_e (E:=setE) (by decide) ⟨_,rfl,h⟩
   ·rw[bQ];exact⟨_,rfl,a,cKeptSets,_,rfl,hS,ZKeptSets,AKeptSets_sets,by show 2 < 1000;decide,rt_same (q hm)⟩
  ·rw[decide_eq_false hm];exact⟨S,fun _ _ e=>e,qx hm⟩
end
end Toy
namespace Toy
open PySem L2
abbrev s_KeptSets_sets_now:Stmt:=clsB (top 13) 3
theorem sc_KeptSets_sets_now:FnScope ["self"] ["self"] (defScope s_KeptSets_sets_now):=fsc
section
variable {P:aD} {w:aK} {K:ao} {mg:Str->Option ae} {base:aW} {pt cc cNoSet cKeptSets:Addr}
theorem ok_KeptSets_sets_now (T:TxM K cKeptSets "sets_now" "KeptSets.sets_now" s_KeptSets_sets_now) (B:Bs mg) (ZKeptSets:Cls K cKeptSets) (AKeptSets_sets:NoAttr K cKeptSets "sets"):DfM P w K mg base 1 cKeptSets "sets_now" ["self"] (spU K (sp_ks_now K cKeptSets)):=by
 refine e_defM T sc_KeptSets_sets_now (fun F=>F.binds fun _ _ _ _ _ _=>us1 fun _=>rfl) ?_ fun f cdv A outer s H E hr=>⟨_,(dss_one (ds_ret (e_fld (dv 0)))),?_⟩
 ·rintro ds S Q ⟨a,m,ts,rfl,_⟩;rfl
 ·rintro ds S Q ⟨a,m,ts,rfl,hS,q⟩;exact⟨a,cKeptSets,_,_,rfl,hS,ZKeptSets,AKeptSets_sets,rfl,rt_same q⟩
end
abbrev s_first_flower:Stmt:=top 10
theorem sc_first_flower:FnScope ["sets", "many"] ["sets", "many"] (defScope s_first_flower):=fsc
section
variable {P:aD} {w:aK} {K:ao} {mg:Str->Option ae} {base:aW} {pt cc cNoSet cKeptSets:Addr}
theorem ok_first_flower (T:Tx K mg "first_flower" s_first_flower) (B:Bs mg) (d_flowers_of:Df P w K mg base 10 "flowers_of" ["sets", "many"] (spU K sp_flowers_of)):Df P w K mg base 11 "first_flower" ["sets", "many"] (spU K sp_first_flower):=by
 refine e_def T sc_first_flower (fun F=>F.binds fun _ _ _ _ _ _=>us2 fun _ _=>rfl) ?_ fun f cdv A outer s H E hr=>⟨_,(dss_one (ds_ret (e_minD hr rfl B.min (e_callD d_flowers_of hr rfl (da_cons (dv 0) (da_cons (dv 1) da_nil))) e_non))),?_⟩
 ·rintro ds S Q ⟨ts,m,rfl,_⟩;rfl
 ·rintro ds S Q ⟨ts,m,rfl,m2,m6,hs,hl,he,q⟩;refine⟨ts,m,rfl,m2,m6,hs,hl,he,(flO ts m).map flE.e,rfl,allOk_e (by decide) _,?_⟩
  have hp:=flO_lex hs m;cases e:flO ts m with
  | nil=>rw[e] at q;exact rt_same q
  | cons s r =>
   rw[e] at q hp;show rtD Q (bestD (flE.e s) (r.map flE.e)) S;rw[best_head (by decide) flE_as (a9.mp hp).1]
   exact rt_same q
end
abbrev s_KeptSets_has_flower:Stmt:=clsB (top 13) 4
theorem sc_KeptSets_has_flower:FnScope ["self"] ["self"] (defScope s_KeptSets_has_flower):=fsc
section
variable {P:aD} {w:aK} {K:ao} {mg:Str->Option ae} {base:aW} {pt cc cNoSet cKeptSets:Addr}
theorem ok_KeptSets_has_flower (T:TxM K cKeptSets "has_flower" "KeptSets.has_flower" s_KeptSets_has_flower) (B:Bs mg) (ZKeptSets:Cls K cKeptSets) (AKeptSets_many:NoAttr K cKeptSets "many") (AKeptSets_sets:NoAttr K cKeptSets "sets") (d_first_flower:Df P w K mg base 11 "first_flower" ["sets", "many"] (spU K sp_first_flower)):DfM P w K mg base 12 cKeptSets "has_flower" ["self"] (spU K (sp_ks_has K cKeptSets)):=by
 refine e_defM T sc_KeptSets_has_flower (fun F=>F.binds fun _ _ _ _ _ _=>us1 fun _=>rfl) ?_ fun f cdv A outer s H E hr=>⟨_,(dss_one (ds_ret (e_isnt hr (e_callD d_first_flower hr rfl (da_cons (e_fld (dv 0)) (da_cons (e_fld (dv 0)) da_nil))) e_non))),?_⟩
 ·rintro ds S Q ⟨a,m,ts,rfl,_⟩;rfl
 ·rintro ds S Q ⟨a,m,ts,rfl,hS,m2,m6,kp,q⟩;refine⟨a,cKeptSets,_,_,rfl,hS,ZKeptSets,AKeptSets_sets,rfl,a,cKeptSets,_,_,rfl,hS,ZKeptSets,AKeptSets_many,rfl,?_⟩;refine⟨ts,m,rfl,m2,m6,kp.srt,by have:=kp.len;omega,fun t ht=>⟨(kp.each t ht).1,by have:=(kp.each t ht).2;omega⟩,?_⟩
  cases e:(flO ts m).head? with
  | none=>rw[e] at q;exact rt_same q
  | some s=>rw[e] at q;exact rt_same q
end
end Toy
namespace L2
open PySem PySem.Spec PyProof.Rows
def rpOk:Nat->D->Bool
 | _,.non=>true
 | _,.str _=>true
 | n + 1,.tup xs=>xs.all (rpOk n)
 | _,_=>false
def pyD:Nat->D->jW
 | _,.str x=>.str x
 | n + 1,.tup xs=>.tuple (xs.map (pyD n))
 | _,_=>.none
def rpr (d:D):Str:=(pyD 3 d).shown
theorem rpr_non:rpr .non=aM "None":=by
 show dD .none=_;simp only[dD]
theorem rpr_str (x:Str):rpr (.str x)=reprText x:=by
 show dD (.str x)=_;simp only[dD]
theorem py_pure:∀ (n:Nat) (d:D),rpOk n d=true->(pyD n d).showable=true/\(pyD n d).hasDict=false/\(pyD n d).depth<=n:=by
 have at':∀ (n:Nat) (d:D),pyD n d=.none\/(∃ x,pyD n d=.str x)->(pyD n d).showable=true/\(pyD n d).hasDict=false/\(pyD n d).depth<=n:=fun n d h=>by
  rcases h with h | ⟨x,h⟩ <;> rw[h] <;> exact⟨by simp only[jW.showable],by simp only[jW.hasDict],by simp only[jW.depth];exact bA _⟩
 intro n
 induction n with
 | zero =>
  intro d h;refine at' _ _ ?_;cases d with
  | str x=>exact .inr ⟨x,rfl⟩
  | _=>exact .inl rfl
 | succ n ih =>
  intro d h;cases d with
  | str x=>exact at' _ _ (.inr ⟨x,rfl⟩)
  | tup xs =>
   replace h:xs.all (rpOk n)=true:=h;show(jX (xs.map (pyD n))).showable=true/\(jX (xs.map (pyD n))).hasDict=false/\(jX (xs.map (pyD n))).depth<=n + 1;simp only[jW.showable,jW.hasDict,jW.depth]
   suffices iU (xs.map (pyD n))=true/\jc (xs.map (pyD n))=false/\j5 (xs.map (pyD n))<=n from⟨this.1,this.2.1,gK this.2.2⟩
   induction xs with
   | nil=>exact⟨by simp only[da,iU],by simp only[da,jc],by simp only[da,j5];exact bA _⟩
   | cons x xs ix =>
    rw[jn,aG] at h;obtain⟨a1,a2,a3⟩:=ih x h.1;obtain⟨b1,b2,b3⟩:=ix h.2;rw[aY];simp only[iU,jc,j5];exact⟨by rw[a1,b1];rfl,by rw[a2,b2];rfl,Nat.max_le.mpr ⟨a3,b3⟩⟩
  | _=>exact at' _ _ (.inl rfl)
section
variable {X:Cx} {pins:List (Addr × Obj)} {σ:St} {H:Hp} {s:ai} {M:Am}
theorem py_reads (I:Inv X pins σ H s):∀ (n:Nat) (d:D) (v:V) (u:ae),rpOk n d=true->RepV X.K M H d v->RelV v u->∃ as,Reads s.heap u (pyD n d) as:=by
 intro n
 induction n with
 | zero =>
  intro d v u h r ru;cases d with
  | non=>unfold RepV at r;subst r;cases ru;exact⟨_,.none⟩
  | str x=>unfold RepV at r;subst r;obtain⟨t,rfl⟩:=ru;exact⟨_,.str x t⟩
  | _=>cases h
 | succ n ih =>
  intro d v u h r ru;cases d with
  | non=>unfold RepV at r;subst r;cases ru;exact⟨_,.none⟩
  | str x=>unfold RepV at r;subst r;obtain⟨t,rfl⟩:=ru;exact⟨_,.str x t⟩
  | tup ds =>
   replace h:ds.all (rpOk n)=true:=h;unfold RepV at r;obtain⟨a,xs,rfl,t,l⟩:=r;cases ru;obtain⟨its,r,⟨o,ho,hc,m,hd⟩,_⟩:=I.tuple t.sq;have all:∀ (ds:List D) (xs:List V) (its:List ae),ds.all (rpOk n)=true->RepL X.K M H ds xs->Vals xs its->∃ as,ReadsAll s.heap its (ds.map (pyD n)) as:=fun ds=>by
    induction ds with
    | nil =>
     intro xs its _ l r;unfold RepL at l;subst l;cases r;exact⟨_,.nil⟩
    | cons d ds id =>
     intro xs its h l r;rw[jn,aG] at h;unfold RepL at l;obtain⟨v,vs,rfl,rv,l⟩:=l;cases r with
     | cons r1 r2 =>
      obtain⟨a1,q1⟩:=ih d v _ h.1 rv r1;obtain⟨a2,q2⟩:=id vs _ h.2 l r2;exact⟨_,.cons q1 q2⟩
   obtain⟨as,q⟩:=all ds xs its h l r;exact⟨as,.tuple ho hc hd (by rw[List.toList_toArray];exact q)⟩
  | _=>cases h
end
section
variable {X:Cx} {K:Fg} {pos:Pos} {k:Nat}
def rRepr (K:Fg):List V->Hp->VK->Prop:=fun xs H Q=>∃ (M:Am) (d:D) (y:V),xs=[y]/\RepV K M H d y/\rpOk 3 d=true/\(rpr d).length<=sizeLine/\Q (.str (rpr d)) H
theorem call_repr (hu:X.A.units + 10 < bK):CallR X (.builtin "repr") (rRepr X.K):=by
 intro pins s σ H xs us Q I r h;obtain⟨M,d,y,rfl,rv,ok,hz,q⟩:=h;obtain⟨u,rfl,ru⟩:=vals1 r;have p:=py_pure 3 d ok;cases d with
 | non=>unfold RepV at rv;subst rv;cases ru;exact P.repr_of_none ⟨.str (rpr .non),H,I.tok _,⟨_,by rw[rpr_non]⟩,q⟩
 | str x=>unfold RepV at rv;subst rv;obtain⟨t,rfl⟩:=ru;exact P.repr_of_str ⟨.str (rpr (.str x)),H,I.tok _,⟨_,by rw[rpr_str]⟩,q⟩ (by rw[<- rpr_str];exact hz)
 | tup ds =>
  obtain⟨as,rd⟩:=py_reads I 3 _ y u ok rv ru;unfold RepV at rv;obtain⟨a,xs,rfl,_⟩:=rv;cases ru;exact repr_of_reads' rd p.1 (jW.noDict_hsm p.2.1) I.ok.gd (by have:=p.2.2;omega) (fun _ _ e=>e) (fun h' u tk hk=>⟨.str (rpr (.tup ds)),H,I.kept hk,⟨_,rfl⟩,q⟩) hz
 | _=>cases ok
theorem bt_repr:bY "repr" = some (.builtin "repr"):=by decide +kernel
def reprD:RCD:=fun ds S Q=>∃ d,ds=[d]/\rpOk 3 d=true/\(rpr d).length<=16777216/\Q (.str (rpr d)) S
theorem e_repr {e:Expr} {t:AD} {p:Pos} (hr:Room k X.A) (hg:Gl X "repr") (hm:X.mg "repr" = none) (ha:PAD K X [e] t) (hK:X.K=K:=by rfl) (he:au [e] X.env=(false,eval e X.env)::au [] X.env:=by rfl) (hpl:(bD pos (au [] X.env)).any (·.1)=false:=by rfl):PD K X (.Call (.Name "repr" p) [e] [] pos) (dCB reprD t):=by
 subst hK;refine e_callB (call_repr (lt64 hr)) ?_ hg hm bt_repr ha (by decide) (by decide) he hpl
 intro F S H ds vs Q QD r l h c;obtain⟨d,rfl,ok,hz,q⟩:=h;obtain⟨v,rfl,rv⟩:=l.one;exact⟨_,d,v,rfl,rv,ok,by rw[bu];exact hz,c _ _ _ S (Ext.refl _ _) r (by unfold RepV;rfl) q⟩
end
theorem shown_str (x:Str) (hx:∀ c∈x.cps.toList,c < 16 ^ 8):(dD (.str x)).length<=10 * x.length + 2:=by
 simp only[dD];exact StrLaws.reprText_len x hx
theorem tupT_len (ts:List Str) (n:Nat) (h:∀ t∈ts,t.length<=n):(tupleText ts).length<=(n + 2) * ts.length + 3:=by
 have p:piled ts<=(n + 2) * ts.length:=by
  induction ts with
  | nil=>exact ar _
  | cons t ts ih =>
   rw[piled_cons,aE,Nat.mul_add,Nat.mul_one]
   have:=h t am
   have:=ih fun t ht=>h t (aq _ ht)
   omega
 have j:(Str.join ", " ts).length<=piled ts:=by
  by_cases e:ts=[]
  ·subst e;exact ar _
  ·have:=join_length_add ts e;omega
 unfold tupleText;have l1:∀ a b:Str,(a++b).length=a.length + b.length:=fun a b=>Str.length_append a b;rw[l1,l1]
 have:(aM "(").length=1:=by decide
 have h2:(aM (if (ts.length == 1)=true then ",)" else ")")).length<=2:=by
  split <;> decide
 omega
theorem shownAll_map:∀ l:List jW,j6 l=l.map dD
 | []=>by simp only[j6,da]
 | x::l=>by rw[aY,<- shownAll_map l];simp only[j6]
theorem rpr_set {t:List Str} {n m:Nat} (hm:t.length<=m) (h:∀ x∈t,x.length<=n/\∀ c∈x.cps.toList,c < 16 ^ 8) (k:Nat):(pyD (k + 1) (tupS t)).shown.length<=(10 * n + 4) * m + 3:=by
 have e:pyD (k + 1) (tupS t)=.tuple (t.map fun x=>jW.str x):=by
  show jX ((t.map D.str).map (pyD k))=_;rw[cf]
  congr 1
  refine dh fun x _=>?_;cases k <;> rfl
 rw[e];simp only[dD];rw[shownAll_map,cf];refine aV (tupT_len _ (10 * n + 2) fun y hy=>?_) ?_
 ·obtain⟨x,hx,rfl⟩:=b4.mp hy
  have:=h x hx
  have:=shown_str x this.2
  show(dD (.str x)).length<=_;omega
 ·rw[aj]
  have:=Nat.mul_le_mul_left (10 * n + 4) hm
  show(10 * n + 4) * _ + 3<=_;omega
theorem rpr_sets {ts:List (List Str)} {n m l:Nat} (hl:ts.length<=l) (h:∀ t∈ts,t.length<=m/\∀ x∈t,x.length<=n/\∀ c∈x.cps.toList,c < 16 ^ 8):(rpr (.tup (ts.map tupS))).length<=((10 * n + 4) * m + 5) * l + 3:=by
 show(dD (.tuple ((ts.map tupS).map (pyD 2)))).length<=_;simp only[dD];rw[shownAll_map];refine aV (tupT_len _ ((10 * n + 4) * m + 3) fun y hy=>?_) ?_
 ·obtain⟨p,hp,rfl⟩:=b4.mp hy;obtain⟨d,hd,rfl⟩:=b4.mp hp;obtain⟨t,ht,rfl⟩:=b4.mp hd;exact rpr_set (h t ht).1 (h t ht).2 1
 ·rw[aj,aj,aj]
  have:=Nat.mul_le_mul_left ((10 * n + 4) * m + 5) hl
  show((10 * n + 4) * m + 5) * _ + 3<=_;omega
theorem ok_sets (ts:List (List Str)):rpOk 3 (.tup (ts.map tupS))=true:=by
 show(ts.map tupS).all (rpOk 2)=true;rw[eZ];refine bn.mpr fun t _=>?_;show(t.map D.str).all (rpOk 1)=true;rw[eZ];exact bn.mpr fun _ _=>rfl
end L2
namespace Toy
open PySem L2
abbrev s_law:Stmt:=top 25
theorem sc_law:FnScope ["script", "deck", "turn", "many", "kepts", "sets", "there", "held", "deed", "at", "one", "found", "k", "told", "first"] ["script"] (defScope s_law):=fsc
def hedD (d:D):D:=.tup [d,.str (rpr d)]
structure St38 (K:Fg) (C:Addr) (S:Sto) (a c pt ph:Addr) (P M:Nat->Nat) (ts:List (List Str)) (n:Nat) (T:Nat->List (List Str)) (hs:List D):Prop where
 dk:DeckC S a c
 th:S pt=some (.lst [.lst ((T 0).map tupS),.lst ((T 1).map tupS)])
 hd:S ph=some (.lst (hs.map hedD))
 kp:∀ i,i < 2->S (P i)=some (keptO K C (M i) (T i))
 kt:∀ i,i < 2->Kpt (T i)
 sb:∀ i,i < 2->∀ x∈T i,x∈ts
 hok:∀ d∈hs,rpOk 3 d=true/\(rpr d).length<=16777216
 hl:hs.length<=n
structure Ne38 (a c pt ph:Addr) (P:Nat->Nat):Prop where
 ta:pt≠a
 tc:pt≠c
 ha:ph≠a
 hc:ph≠c
 ht:ph≠pt
 pp:P 0≠P 1
 pa:∀ i,i < 2->P i≠a
 pc:∀ i,i < 2->P i≠c
 pt:∀ i,i < 2->P i≠pt
 ph:∀ i,i < 2->P i≠ph
theorem at2 (f:Nat->D) {i:Nat} (h:i < 2):atI [f 0,f 1] (i:Int)=some (f i):=by
 refine atI_nat ?_
 have:i=0\/i=1:=by omega
 rcases this with rfl | rfl <;> rfl
theorem all2 {p:Nat->Prop} (h0:p 0) (h1:p 1):∀ i,i < 2->p i:=fun i h=>by
 have:i=0\/i=1:=by omega
 rcases this with rfl | rfl
 ·exact h0
 ·exact h1
def upN {A:Type} (f:Nat->A) (i:Nat) (x:A):Nat->A:=fun j=>if j=i then x else f j
theorem upN_same {A:Type} {f:Nat->A} {i:Nat} {x:A}:upN f i x i=x:=if_pos rfl
theorem upN_ne {A:Type} {f:Nat->A} {i j:Nat} {x:A} (h:j≠i):upN f i x j=f j:=if_neg h
theorem set2 (f:Nat->List (List Str)) {i:Nat} (h:i < 2) (x:List (List Str)):∃ j,ixN 2 (i:Int)=some j/\[D.lst ((f 0).map tupS),.lst ((f 1).map tupS)].set j (.lst (x.map tupS))=[D.lst ((upN f i x 0).map tupS),.lst ((upN f i x 1).map tupS)]:=by
 have:i=0\/i=1:=by omega
 rcases this with rfl | rfl
 ·exact⟨0,rfl,rfl⟩
 ·exact⟨1,rfl,rfl⟩
section
variable {K:Fg} {C:Addr} {S S':Sto} {a c pt ph:Addr} {P M:Nat->Nat} {ts:List (List Str)} {n:Nat} {T:Nat->List (List Str)} {hs:List D}
theorem St38.off (s:St38 K C S a c pt ph P M ts n T hs) (N:Ne38 a c pt ph P) (o:Off2 a c S S') (dk:DeckC S' a c):St38 K C S' a c pt ph P M ts n T hs :=
 ⟨dk,(o pt N.ta N.tc).trans s.th,(o ph N.ha N.hc).trans s.hd,fun i h=>(o (P i) (N.pa i h) (N.pc i h)).trans (s.kp i h),s.kt,s.sb,s.hok,s.hl⟩
theorem St38.add (s:St38 K C S a c pt ph P M ts n T hs) (N:Ne38 a c pt ph P) {d:D} (h:rpOk 3 d=true/\(rpr d).length<=16777216):St38 K C (supd S ph (.lst (hs.map hedD++[hedD d]))) a c pt ph P M ts (n + 1) T (hs++[d]) :=
 ⟨s.dk.supd N.ha N.hc,(supd_ne (aZ N.ht)).trans s.th,by rw[supd_same,aN];rfl,fun i h=>(supd_ne (N.ph i h)).trans (s.kp i h),s.kt,s.sb,fun d' hd'=>by
  rcases aU.mp hd' with z | z
  ·exact s.hok d' z
  ·rw[az.mp z];exact h,by rw[av];exact gK s.hl⟩
theorem St38.put (s:St38 K C S a c pt ph P M ts n T hs) (N:Ne38 a c pt ph P) {i:Nat} (hi:i < 2) {us:List (List Str)} (ku:Kpt us) (su:∀ x∈us,x∈ts) {S2:Sto} (h1:S2 pt=some (.lst [.lst ((upN T i us 0).map tupS),.lst ((upN T i us 1).map tupS)])) (h2:S2 (P i)=some (keptO K C (M i) us)) (h3:∀ b,b≠pt->b≠P i->S2 b=S b):St38 K C S2 a c pt ph P M ts n (upN T i us) hs:=by
 refine⟨s.dk.eq (h3 a (aZ N.ta) (aZ (N.pa i hi))) (h3 c (aZ N.tc) (aZ (N.pc i hi))),h1,(h3 ph N.ht (aZ (N.ph i hi))).trans s.hd,fun j hj=>?_,fun j hj=>?_,fun j hj=>?_,s.hok,s.hl⟩
 ·by_cases e:j=i
  ·subst e;rw[upN_same];exact h2
  ·rw[upN_ne e];refine(h3 (P j) (N.pt j hj) fun z=>?_).trans (s.kp j hj)
   have:(j=0/\i=1)\/(j=1/\i=0):=by omega
   rcases this with⟨rfl,rfl⟩ | ⟨rfl,rfl⟩
   ·exact N.pp z
   ·exact N.pp z.symm
 ·by_cases e:j=i
  ·subst e;rw[upN_same];exact ku
  ·rw[upN_ne e];exact s.kt j hj
 ·by_cases e:j=i
  ·subst e;rw[upN_same];exact su
  ·rw[upN_ne e];exact s.sb j hj
end
theorem St38.mono {K:Fg} {C:Addr} {S:Sto} {a c pt ph:Addr} {P M:Nat->Nat} {ts:List (List Str)} {n m:Nat} {T:Nat->List (List Str)} {hs:List D} (s:St38 K C S a c pt ph P M ts n T hs) (h:n<=m):St38 K C S a c pt ph P M ts m T hs :=
 ⟨s.dk,s.th,s.hd,s.kp,s.kt,s.sb,s.hok,aV s.hl h⟩
theorem nm_code {ts:List (List Str)} {m:Nat} (hC:CollC m ts):∀ x∈ts,∀ n∈x,n.length<=8/\∀ c∈n.cps.toList,c < 16 ^ 8:=fun x hx n hn=>by
 obtain⟨_,h2,h3⟩:=hC.nm n (mem_nms.mpr ⟨x,hx,hn⟩);exact⟨h2,fun c hc=>eV (h3 c hc).2 (by decide)⟩
theorem told_ok {ts us:List (List Str)} (hC:CollC 14 ts) (h:∀ x∈us,x∈ts) (hl:us.length<=14):rpOk 3 (.tup (us.map tupS))=true/\(rpr (.tup (us.map tupS))).length<=16777216 :=
 ⟨ok_sets us,aV (rpr_sets (n:=8) (m:=6) (l:=14) hl fun t ht=>⟨(hC.each t (h t ht)).2,nm_code hC t (h t ht)⟩) (by decide)⟩
theorem told_okF {ts us:List (List Str)} (hC:CollC 14 ts) (h:∀ x∈us,x∈ts) (hl:us.length<=14) (m:Nat) (o:List Str):rpOk 3 (opF (fstW us m o))=true/\(rpr (opF (fstW us m o))).length<=16777216:=by
 cases e:fstW us m o with
 | none=>exact⟨rfl,by show(rpr .non).length<=_;rw[rpr_non];decide⟩
 | some s =>
  have:=(bP.mp (List.mem_of_mem_head? (show s∈((flO us m).filter fun s=>decide (o∈s)).head? from e))).1
  obtain⟨_,sub,_⟩:=mem_flO.mp this;exact told_ok hC (fun x hx=>h x (sub.subset hx)) (aV sub.length_le hl)
abbrev tail38 (K:Fg) (C:Addr):SD:=dFor (dRng1 (dCons (dC (D.int 2)) dNil)) (gdName 12)
 (dSeq
  (dAsg (dMeth K C (aM "sets_now") (sp_ks_now K C) (dOp ixD (dVar 4) (dVar 12)) dNil) (gdName 13))
  (dSeq
   (dDrop (dMt appD ckL (dVar 7) (dCons (dTup (dCons (dVar 13) (dCons (dCB reprD (dCons (dVar 13) dNil)) dNil))) dNil)))
   (dSeq
    (dIfS (dTest (dOp (eqD true) (dVar 13) (dCB tupD (dCons (dOp ixD (dVar 6) (dVar 12)) dNil)))) (dRet (dC (D.bl false))) dNext)
    (dSeq
     (dAsg (dCB sp_law_first (dCons (dOp ixD (dVar 6) (dVar 12)) (dCons (dOp ixD (dVar 3) (dVar 12)) (dCons (dC D.non) dNil)))) (gdName 14))
     (dIfS
      (dAnd (dTest (dOp (eqD false) (dCB spc_take (dCons (dVar 1) (dCons (dC (D.int 2)) dNil))) (dC (D.int 0))))
       (dTest (dOp (eqD true) (dMeth K C (aM "has_flower") (sp_ks_has K C) (dOp ixD (dVar 4) (dVar 12)) dNil) (dOp (isD true) (dVar 14) (dC D.non)))))
      (dRet (dC (D.bl false))) dNext)))))
theorem tail38_ok {K:Fg} {C:Addr} {S:Sto} {a c pt ph:Addr} {P M:Nat->Nat} {ts:List (List Str)} {n:Nat} {T:Nat->List (List Str)} {hs:List D} (st:St38 K C S a c pt ph P M ts n T hs) (NE:Ne38 a c pt ph P) (hC:CollC 14 ts) (hM:∀ i,i < 2->2<=M i/\M i<=6) (hn:n<=99) {E:EndsD} {g0 g2 x8 x9 x10 x11 x12 x13 x14:Option D}
  (h:∀ (hs:List D) (x12 x13 x14:Option D) (S':Sto),St38 K C S' a c pt ph P M ts (n + 2) T hs->E.nx [g0,some (.ref a),g2,some (.lst [.int (M 0),.int (M 1)]),some (.lst [.ref (P 0),.ref (P 1)]),some (.tup (ts.map tupS)),some (.ref pt),some (.ref ph),x8,x9,x10,x11,x12,x13,x14] S') :
  tail38 K C E [g0,some (.ref a),g2,some (.lst [.int (M 0),.int (M 1)]),some (.lst [.ref (P 0),.ref (P 1)]),some (.tup (ts.map tupS)),some (.ref pt),some (.ref ph),x8,x9,x10,x11,x12,x13,x14] S:=by
 refine⟨⟨by decide,by decide⟩,for_ind (fun i Γ S'=>∃ (hs:List D) (x12 x13 x14:Option D),Γ=[g0,some (.ref a),g2,some (.lst [.int (M 0),.int (M 1)]),some (.lst [.ref (P 0),.ref (P 1)]),some (.tup (ts.map tupS)),some (.ref pt),some (.ref ph),x8,x9,x10,x11,x12,x13,x14]/\St38 K C S' a c pt ph P M ts (n + i) T hs) ⟨hs,x12,x13,x14,rfl,st⟩ ?_ ?_⟩
 ·rintro i y Γ S' N hy ⟨hs,x12,x13,x14,rfl,st⟩ hN;obtain⟨hi,rfl⟩:=rng_at hy;have hi:i < 2:=hi;have kT:=st.kt i hi;obtain⟨m2,m6⟩:=hM i hi;have tk:=told_ok hC (st.sb i hi) kT.len;refine⟨trivial,_,_,rfl,at2 (fun i=>D.ref (P i)) hi,P i,_,rfl,st.kp i hi,rfl,P i,M i,T i,rfl,st.kp i hi,?_⟩;refine⟨⟨_,st.hd⟩,_,rfl,tk.1,tk.2,z9999 (by show 2<=9999;decide),_,st.hd,by rw[aj,bu];have:=st.hl;omega,?_⟩
  have st2:=st.add NE tk;generalize S2e:supd S' ph (.lst (hs.map hedD++[hedD (.tup ((T i).map tupS))]))=S2 at st2;rw[show supd S' ph (.lst (hs.map hedD++[.tup [.tup ((T i).map tupS),.str (rpr (.tup ((T i).map tupS)))]]))=S2 from S2e]
  refine⟨_,_,st2.th,at2 (fun i=>D.lst ((T i).map tupS)) hi,_,rfl,flE.ok 9 (T i) (T i) (by decide),false,tsn_f rfl,?_⟩
  refine⟨_,_,st2.th,at2 (fun i=>D.lst ((T i).map tupS)) hi,_,_,rfl,at2 (fun i=>D.int (M i)) hi,T i,M i,none,rfl,kT,m2,m6,(fun w e=>by cases e),?_⟩
  rw[show(flO (T i) (M i)).filter (okW none)=flO (T i) (M i) from ie.mpr fun _ _=>rfl]
  refine⟨a,c,2,rfl,st2.dk,by decide,by decide,fun r S4 r0 r1 off dk=>⟨rfl,_,rfl,ite2 (fun _=>?_) fun _=>hN _ _ ⟨_,_,_,_,rfl,st2.off NE off dk⟩⟩⟩
  have st4:=st2.off NE off dk;refine⟨_,_,rfl,at2 (fun i=>D.ref (P i)) hi,P i,_,rfl,st4.kp i hi,rfl,P i,M i,T i,rfl,st4.kp i hi,m2,m6,kT,?_⟩;cases (flO (T i) (M i)).head? with
  | none=>exact⟨rfl,false,rfl,hN _ _ ⟨_,_,_,_,rfl,st4⟩⟩
  | some s=>exact⟨rfl,false,rfl,hN _ _ ⟨_,_,_,_,rfl,st4⟩⟩
 ·rintro Γ S' ⟨hs,x12,x13,x14,rfl,st⟩;exact⟨trivial,h _ _ _ _ _ st⟩
section
variable {P:aD} {w:aK} {K:ao} {mg:Str->Option ae} {base:aW} {pt cc cNoSet cKeptSets:Addr}
theorem ok_law {f:Addr} {fd:cC} (Fn:Fun K "law" "law" s_law f fd) (B:Bs mg) (BR:mg "repr" = none) (MKeptSets:mg "KeptSets" = some (.ref cKeptSets)) (K1KeptSets:fX K cKeptSets=true) (K2KeptSets:cF K (.ref cKeptSets)=true) (ZKeptSets:Cls K cKeptSets) (d_law_deck:Df P w K mg base 49 "_law_deck" ["script"] (spU K spc_deck)) (d_law_take:Df P w K mg base 49 "_law_take" ["deck", "many"] (spU K spc_take)) (d_law_collection:Df P w K mg base 49 "_law_collection" ["deck", "most"] (spU K spc_collection)) (d_law_first:Df P w K mg base 49 "_law_first" ["sets", "many", "wanted"] (spU K sp_law_first)) (d_law_flower_right:Df P w K mg base 49 "_law_flower_right" ["sets", "many", "one", "found"] (spU K sp_law_flower_right)) (d_KeptSets_init:DfM P w K mg base 48 cKeptSets "__init__" ["self", "many"] (spU K (sp_ks_init K cKeptSets))) (d_KeptSets_put_set:DfMX P w K mg base 49 cKeptSets "put_set" ["self", "one"] (spUX K cNoSet (sp_ks_put K cKeptSets))) (d_KeptSets_take_set:DfMX P w K mg base 49 cKeptSets "take_set" ["self", "one"] (spUX K cNoSet (sp_ks_take K cKeptSets))) (d_KeptSets_sets_now:DfM P w K mg base 49 cKeptSets "sets_now" ["self"] (spU K (sp_ks_now K cKeptSets))) (d_KeptSets_has_flower:DfM P w K mg base 49 cKeptSets "has_flower" ["self"] (spU K (sp_ks_has K cKeptSets))):FnOk P w K mg base CX0 50 f fd ["script"] (spU K (spLawD 63)):=by
 refine e_fn Fn sc_law ?_ fun cdv A outer s H E hr=>⟨_,(dss_cons (ds_set (i:=1) sc_law.nd rfl (aR rfl) (e_callD d_law_deck hr rfl (da_cons (dv 0) da_nil)))
  (dss_cons (ds_for cK rfl (di_range1 rfl B.range (da_cons e_int da_nil)) (dg_name (i:=2) sc_law.nd rfl (aR rfl)) (dss_cons (ds_set (i:=3) sc_law.nd rfl (aR rfl) (e_lst (b:=false) (da_cons (e_add (k:=false) e_int (e_callD d_law_take hr rfl (da_cons (dv 1) (da_cons e_int da_nil)))) (da_cons (e_add (k:=false) e_int (e_callD d_law_take hr rfl (da_cons (dv 1) (da_cons e_int da_nil)))) da_nil))))
  (dss_cons (ds_set (i:=4) sc_law.nd rfl (aR rfl) (e_lst (b:=false) (da_cons (e_make (d_KeptSets_init.init K1KeptSets K2KeptSets) hr rfl MKeptSets (da_cons (e_ix (dv 3) e_int) da_nil)) (da_cons (e_make (d_KeptSets_init.init K1KeptSets K2KeptSets) hr rfl MKeptSets (da_cons (e_ix (dv 3) e_int) da_nil)) da_nil))))
  (dss_cons (ds_set (i:=5) sc_law.nd rfl (aR rfl) (e_callD d_law_collection hr rfl (da_cons (dv 1) (da_cons e_int da_nil))))
  (dss_cons (ds_set (i:=6) sc_law.nd rfl (aR rfl) (e_lst (b:=true) (da_cons (e_lst (b:=false) da_nil) (da_cons (e_lst (b:=false) da_nil) da_nil))))
  (dss_cons (ds_set (i:=7) sc_law.nd rfl (aR rfl) (e_lst (b:=true) da_nil))
  (dss_cons (ds_for cK rfl (di_range1 rfl B.range (da_cons (e_mul (e_callD d_law_take hr rfl (da_cons (dv 1) (da_cons e_int da_nil))) (e_int1 rfl B.int (da_cons (e_ne hr (dv 5) (e_tup da_nil)) da_nil))) da_nil)) (dg_name (i:=8) sc_law.nd rfl (aR rfl)) (dss_cons (ds_set (i:=9) sc_law.nd rfl (aR rfl) (e_callD d_law_take hr rfl (da_cons (dv 1) (da_cons e_int da_nil))))
  (dss_cons (ds_set (i:=10) sc_law.nd rfl (gO rfl) (e_ix (dv 5) (e_callD d_law_take hr rfl (da_cons (dv 1) (da_cons (e_len rfl B.len (da_cons (dv 5) da_nil)) da_nil)))))
  (dss_cons (ds_if (dt_in hr (dv 10) (e_ix (dv 6) (dv 9))) (dss_cons (ds_expr (e_meth d_KeptSets_take_set.df ZKeptSets hr (e_ix (dv 4) (dv 9)) (da_cons (dv 10) da_nil)))
  (dss_one (ds_asg (e_comp (N':=["other", "one"]) (oc:=none) (b:=false) [0] [] rfl sc_law.nd (fun _ _ _=>turn_one _ _ _ _ _ _ _ _ _) (.own (.cap (i:=10) rfl (by decide +kernel) .nil)) (free_of rfl) (di_sq (e_ix (dv 6) (dv 9))) (cg_name (i:=0)) (fun _ _ _ _ _=>pg_name (i:=0) (nd_ ["other", "one"]) rfl (aR rfl) (.inr rfl)) (fun _ _ _ _ _=>dts_one (by exact(dt_ne hr (dv 0) (dv 1)))) bo_emit (fun _ _ _ _ _ _=>pb_emit rfl (by exact PD.o (dv 0)))) (dg_sub (dv 6) (dv 9))))) (dss_cons (ds_asg (e_sorted (b:=false) hr rfl B.sorted (da_cons (e_add (k:=false) (e_ix (dv 6) (dv 9)) (e_lst (b:=false) (da_cons (dv 10) da_nil))) da_nil)) (dg_sub (dv 6) (dv 9)))
  (dss_cons (ds_set (i:=11) sc_law.nd rfl (aR rfl) (e_meth d_KeptSets_put_set.df ZKeptSets hr (e_ix (dv 4) (dv 9)) (da_cons (dv 10) da_nil)))
  (dss_cons (ds_if (dt_not (dt_tru (e_callD d_law_flower_right hr rfl (da_cons (e_ix (dv 6) (dv 9)) (da_cons (e_ix (dv 3) (dv 9)) (da_cons (dv 10) (da_cons (dv 11) da_nil))))))) (dss_one (ds_ret e_bl)) dss_nil)
  (dss_one (ds_expr (e_append (dv 7) (da_cons (e_tup (da_cons (dv 11) (da_cons (e_repr hr rfl BR (da_cons (dv 11) da_nil)) da_nil))) da_nil))))))))
  (dss_one (ds_for cK rfl (di_range1 rfl B.range (da_cons e_int da_nil)) (dg_name (i:=12) sc_law.nd rfl (aR rfl)) (dss_cons (ds_set (i:=13) sc_law.nd rfl (aR rfl) (e_meth0 d_KeptSets_sets_now ZKeptSets hr (e_ix (dv 4) (dv 12))))
  (dss_cons (ds_expr (e_append (dv 7) (da_cons (e_tup (da_cons (dv 13) (da_cons (e_repr hr rfl BR (da_cons (dv 13) da_nil)) da_nil))) da_nil)))
  (dss_cons (ds_if (dt_ne hr (dv 13) (e_tuple rfl B.tuple (da_cons (e_ix (dv 6) (dv 12)) da_nil))) (dss_one (ds_ret e_bl)) dss_nil)
  (dss_cons (ds_set (i:=14) sc_law.nd rfl (aR rfl) (e_callD d_law_first hr rfl (da_cons (e_ix (dv 6) (dv 12)) (da_cons (e_ix (dv 3) (dv 12)) (da_cons e_non da_nil)))))
  (dss_one (ds_if (PWD.pt (dw_and (dt_eq hr (e_callD d_law_take hr rfl (da_cons (dv 1) (da_cons e_int da_nil))) e_int) (dw_and1 (dt_ne hr (e_meth0 d_KeptSets_has_flower ZKeptSets hr (e_ix (dv 4) (dv 12))) (e_isnt hr (dv 14) e_non))))) (dss_one (ds_ret e_bl)) dss_nil))))))))))))
  (dss_one (ds_if (dt_ne hr (e_comp (N':=["thing", "text"]) (oc:=none) (b:=false) [0,1] [] rfl sc_law.nd (fun _ _ _=>turn_one _ _ _ _ _ _ _ _ _) (.own (.own .nil)) (free_of rfl) (di_sq (dv 7)) (cg_pair (i:=0) (j:=1)) (fun _ _ _ _ _=>pg_tup rfl (pgs_cons (pg_name (i:=0) (nd_ ["thing", "text"]) rfl (aR rfl) (.inr rfl)) (pgs_cons (pg_name (i:=1) (nd_ ["thing", "text"]) rfl (aR rfl) (.inr rfl)) pgs_nil))) (fun _ _ _ _ _=>dts_one (by exact(dt_ne hr (e_repr hr rfl BR (da_cons (dv 0) da_nil)) (dv 1)))) bo_emit (fun _ _ _ _ _ _=>pb_emit rfl (by exact PD.o e_int))) (e_lst (b:=false) da_nil)) (dss_one (ds_ret e_bl)) dss_nil)))))))))
  (dss_one (ds_ret e_bl)))),?_⟩
 ·rintro ds S Q ⟨ns,rfl,_⟩;rfl
 ·rintro ds S Q ⟨ns,rfl,h63,hS,q⟩;refine⟨ns,rfl,h63,fun a c S1 ha hc off1 dk=>⟨⟨by decide,by decide⟩,?_⟩⟩
  refine for_ind (fun i Γ S'=>∃ (x2 x3 x4 x5 x6 x7 x8 x9 x10 x11 x12 x13 x14:Option D),Γ=[some (.lst (ns.map D.int)),some (.ref a),x2,x3,x4,x5,x6,x7,x8,x9,x10,x11,x12,x13,x14]/\DeckC S' a c) ⟨none,none,none,none,none,none,none,none,none,none,none,none,none,rfl,dk⟩ ?_ ?_
  ·rintro i x Γ S2 N hx ⟨x2,x3,x4,x5,x6,x7,x8,x9,x10,x11,x12,x13,x14,rfl,dk2⟩ hN;refine⟨trivial,a,c,5,rfl,dk2,by decide,by decide,fun r0 S3 r00 r01 off3 dk3=>⟨a,c,5,rfl,dk3,by decide,by decide,fun r1 S4 r10 r11 off4 dk4=>⟨z9999 (by show 2<=9999;decide),?_⟩⟩⟩
   obtain⟨M,hM0,hM1,hM⟩:∃ M:Nat->Nat,2 + r0=(M 0:Int)/\2 + r1=(M 1:Int)/\∀ i,i < 2->2<=M i/\M i<=6:=⟨fun i=>if i=0 then (2 + r0).toNat else (2 + r1).toNat,by show _=(((2 + r0).toNat:Nat):Int);omega,by show _=(((2 + r1).toNat:Nat):Int);omega,all2 (by show 2<=(2 + r0).toNat/\(2 + r0).toNat<=6;omega) (by show 2<=(2 + r1).toNat/\(2 + r1).toNat<=6;omega)⟩
   rw[hM0,hM1];refine⟨_,_,rfl,atI_nat (j:=0) rfl,fun p0 hp0=>⟨p0,M 0,rfl,supd_same,rfl,?_⟩⟩;rw[supd_supd];refine⟨_,_,rfl,atI_nat (j:=1) rfl,fun p1 hp1=>⟨p1,M 1,rfl,supd_same,rfl,?_⟩⟩;rw[supd_supd];have n0:=dk4.ne hp0;have dk5:DeckC (supd S4 p0 (keptO K cKeptSets (M 0) [])) a c:=dk4.supd n0.1 n0.2;have n1:=dk5.ne hp1;have p01:p0≠p1:=by rintro rfl;rw[supd_same] at hp1;cases hp1
   have dk6:DeckC (supd (supd S4 p0 (keptO K cKeptSets (M 0) [])) p1 (keptO K cKeptSets (M 1) [])) a c:=dk5.supd n1.1 n1.2;have k0:supd (supd S4 p0 (keptO K cKeptSets (M 0) [])) p1 (keptO K cKeptSets (M 1) []) p0=some (keptO K cKeptSets (M 0) []):=(supd_ne p01).trans supd_same;have k1:supd (supd S4 p0 (keptO K cKeptSets (M 0) [])) p1 (keptO K cKeptSets (M 1) []) p1=some (keptO K cKeptSets (M 1) []):=supd_same;generalize supd (supd S4 p0 (keptO K cKeptSets (M 0) [])) p1 (keptO K cKeptSets (M 1) [])=S6 at dk6 k0 k1;refine⟨z9999 (by show 2<=9999;decide),a,c,14,rfl,dk6,by decide,fun ts S7 hC off7 dk7=>⟨z9999 (by decide),z9999 (by decide),z9999 (by show 2<=9999;decide),fun pt hpt=>⟨z9999 (by decide),fun ph hph=>?_⟩⟩⟩
   have q0:=(off7 p0 n0.1 n0.2).trans k0;have q1:=(off7 p1 n1.1 n1.2).trans k1;have nt:=dk7.ne hpt;have dk8:DeckC (supd S7 pt (.lst [.lst [],.lst []])) a c:=dk7.supd nt.1 nt.2;have nh:=dk8.ne hph;have ht:ph≠pt:=by rintro rfl;rw[supd_same] at hph;cases hph
   have ph7:S7 ph=none:=(supd_ne ht).symm.trans hph;have NE:Ne38 a c pt ph (fun i=>if i=0 then p0 else p1):=⟨nt.1,nt.2,nh.1,nh.2,ht,p01,all2 n0.1 n1.1,all2 n0.2 n1.2,all2 (fun z=>by rw[show p0=pt from z,hpt] at q0;cases q0) (fun z=>by rw[show p1=pt from z,hpt] at q1;cases q1),all2 (fun z=>by rw[show p0=ph from z,ph7] at q0;cases q0) (fun z=>by rw[show p1=ph from z,ph7] at q1;cases q1)⟩
   have kn:Kpt []:=⟨.nil,by decide,(fun _ h=>nomatch h)⟩
   have ST:St38 K cKeptSets (supd (supd S7 pt (.lst [.lst [],.lst []])) ph (.lst [])) a c pt ph (fun i=>if i=0 then p0 else p1) M ts 0 (fun _=>[]) []:=⟨dk8.supd nh.1 nh.2,(supd_ne (aZ ht)).trans supd_same,supd_same,all2 ((supd_ne (NE.ph 0 (by decide))).trans ((supd_ne (NE.pt 0 (by decide))).trans q0)) ((supd_ne (NE.ph 1 (by decide))).trans ((supd_ne (NE.pt 1 (by decide))).trans q1)),fun _ _=>kn,(fun _ _ _ h=>nomatch h),(fun _ h=>nomatch h),ar _⟩
   generalize hP:(fun i=>if i=0 then p0 else p1)=P at NE ST
   have e0:p0=P 0:=by rw[<- hP];rfl
   have e1:p1=P 1:=by rw[<- hP];rfl
   subst e0 e1;clear hP q0 q1 k0 k1 dk8 hph nh nt hpt;generalize supd (supd S7 pt (.lst [.lst [],.lst []])) ph (.lst [])=S8 at ST;refine⟨a,c,21,rfl,ST.dk,by decide,by decide,fun r S9 r0' r1' off9 dk9=>?_⟩
   have ST9:=ST.off NE off9 dk9;refine⟨z9999 (by decide),by show okE 9 (.tup (ts.map tupS)) (.tup [])=true;unfold okE;rw[cH];rfl,?_⟩
   have hr:∀ b:Bool,0<=r * (if b=true then 1 else 0)/\r * (if b=true then 1 else 0)<=20:=fun b=>by
    cases b with
    | true=>rw[if_pos rfl,Int.mul_one];omega
    | false=>rw[if_neg aS,Int.mul_zero];omega
   refine⟨?_,?_⟩
   ·exact .inl ⟨by omega,by omega⟩
   generalize hb:(if true=true then !decide (D.tup (ts.map tupS)=D.tup []) else decide (D.tup (ts.map tupS)=D.tup []))=b
   have tne:b=true->ts≠[]:=fun e h=>by subst h;subst hb;cases e
   have hr:=hr b;refine⟨by omega,for_ind (fun i Γ S'=>∃ (T:Nat->List (List Str)) (hs:List D) (x8 x9 x10 x11 x12 x13 x14:Option D),Γ=[some (.lst (ns.map D.int)),some (.ref a),some x,some (.lst [.int (M 0),.int (M 1)]),some (.lst [.ref (P 0),.ref (P 1)]),some (.tup (ts.map tupS)),some (.ref pt),some (.ref ph),x8,x9,x10,x11,x12,x13,x14]/\St38 K cKeptSets S' a c pt ph P M ts (3 * i) T hs) ⟨_,_,_,_,_,_,_,_,_,rfl,ST9⟩ ?_ ?_⟩
   ·rintro j y Γ S10 N8 hy ⟨T,hs,x8,x9,x10,x11,x12,x13,x14,rfl,st⟩ hN8;obtain⟨hj,rfl⟩:=rng_at hy;have t0:ts≠[]:=by
     refine tne ?_;cases b with
     | true=>rfl
     | false=>rw[if_neg aS,Int.mul_zero] at hj;cases hj
    have tl:0 < ts.length:=eQ.mpr t0;have j20:j < 20:=by omega
    have l14:=hC.len;refine⟨trivial,a,c,2,rfl,st.dk,by decide,by decide,fun at_ S11 at0 at1 off11 dk11=>?_⟩
    obtain⟨u,rfl⟩:∃ u:Nat,at_=u:=⟨at_.toNat,by omega⟩
    have hu:u < 2:=by omega
    have st:=st.off NE off11 dk11;refine⟨_,rfl,a,c,_,rfl,st.dk,by rw[aj];omega,by rw[aj];omega,fun v S12 v0 v1 off12 dk12=>?_⟩
    rw[aj] at v1;have st:=st.off NE off12 dk12;obtain⟨v,rfl⟩:∃ v':Nat,v=v':=⟨v.toNat,by omega⟩
    have hv:v < ts.length:=by omega
    obtain⟨o,ho⟩:∃ o,ts[v]?=some o:=⟨_,ag hv⟩;have om:o∈ts:=bz ho;obtain⟨o1,o6⟩:=hC.each o om;have tsub:=st.sb u hu;have kT:=st.kt u hu;have mu:=hM u hu;refine⟨_,_,rfl,atI_nat (v:=tupS o) (by rw[bv,ho];rfl),_,_,st.th,at2 (fun i=>D.lst ((T i).map tupS)) hu,in_t (neg:=false) (E:=setE) (by decide) rfl (ite2 (fun hm=>?_) fun hm=>?_)⟩
    ·have hm:o∈T u:=of_decide_eq_true hm;refine⟨_,_,rfl,at2 (fun i=>D.ref (P i)) hu,P u,_,rfl,st.kp u hu,rfl,P u,M u,T u,o,rfl,st.kp u hu,kT.len,(fun h=>absurd hm h),fun _=>?_⟩;have t13:supd S12 (P u) (keptO K cKeptSets (M u) (wot (T u) o)) pt=_:=(supd_ne (aZ (NE.pt u hu))).trans st.th;have k13:supd S12 (P u) (keptO K cKeptSets (M u) (wot (T u) o)) (P u)=_:=supd_same;have f13:∀ b,b≠P u->supd S12 (P u) (keptO K cKeptSets (M u) (wot (T u) o)) b=S12 b:=fun b h=>supd_ne h;generalize supd S12 (P u) (keptO K cKeptSets (M u) (wot (T u) o))=S13 at t13 k13 f13;obtain⟨jj,hj1,hj2⟩:=set2 T hu (wot (T u) o);refine⟨_,_,t13,at2 (fun i=>D.lst ((T i).map tupS)) hu,_,rfl,loop_filt (enc:=tupS) (p:=fun x=>!decide (x=o)) (f:=tupS) (xs:=T u) (fun x hx Q' h=>?_) (fun x _ _ Q' h=>h) (z9999 (by have:=kT.len;show 0 + (T u).length<=_;omega)) ⟨_,jj,t13,hj1,?_⟩⟩
     ·show eqD true (setE.e x) (setE.e o) _ fun d S1=>∃ b,d=.bl b/\Q' b S1;exact eq_e (E:=setE) (by decide) ⟨_,rfl,h⟩
     rw[bQ,show [D.lst ((T 0).map tupS),D.lst ((T 1).map tupS)].set jj (D.lst (((T u).filter fun x=>!decide (x=o)).map tupS))=_ from hj2]
     exact tail38_ok ((st.put NE hu (kpt_wot kT) (fun x hx=>tsub x (bP.mp hx).1) supd_same ((supd_ne (NE.pt u hu)).trans k13) fun b h1 h2=>(supd_ne h1).trans (f13 b h2))) NE hC hM (by omega) fun hs _ _ _ S' s=>hN8 _ _ ⟨_,_,_,_,_,_,_,_,_,rfl,s.mono (by omega)⟩
    ·have hm:o∉T u:=fun h=>hm (decide_eq_true h);have l1:(T u).length < 14:=by
      have h1:(o::T u).Nodup:=bX.mpr ⟨hm,kT.srt.nodup⟩;have h2:=h1.length_le_of_subset (l₂:=ts) fun x hx=>by
       rcases aA.mp hx with rfl | hx
       ·exact om
       ·exact tsub x hx
      rw[aE] at h2;omega
     have nd:(T u++[o]).Nodup:=b0.mpr ⟨kT.srt.nodup,cj ..,fun x hx y hy e=>hm (by rw[az.mp hy] at e;exact e ▸ hx)⟩
     obtain⟨jj,hj1,hj2⟩:=set2 T hu (srT (T u++[o]));refine⟨_,_,st.th,at2 (fun i=>D.lst ((T i).map tupS)) hu,z9999 (by show 1<=9999;decide),_,_,rfl,rfl,z9999 (by rw[aj];show(T u).length + 1<=_;omega),.inr (.inr ⟨T u++[o],by show _=_;rw[aN];rfl,nd,by rw[av];show(T u).length + 1 < 64;omega,_,jj,st.th,hj1,?_⟩)⟩
     rw[hj2];have ku:=kpt_put kT hm l1 o1 o6;have su:∀ x∈srT (T u++[o]),x∈ts:=fun x hx=>by
      rcases aU.mp (mem_srT.mp hx) with hx | hx
      ·exact tsub x hx
      ·rw[az.mp hx];exact om
     have k13:supd S12 pt (.lst [D.lst ((upN T u (srT (T u++[o])) 0).map tupS),.lst ((upN T u (srT (T u++[o])) 1).map tupS)]) (P u)=_:=(supd_ne (NE.pt u hu)).trans (st.kp u hu);refine⟨_,_,rfl,at2 (fun i=>D.ref (P i)) hu,P u,_,rfl,k13,rfl,P u,M u,T u,o,rfl,k13,mu.1,mu.2,kT,o1,o6,(fun h=>absurd h hm),fun _=>⟨l1,?_⟩⟩;have st3:=st.put NE hu ku su (S2:=supd (supd S12 pt (.lst [D.lst ((upN T u (srT (T u++[o])) 0).map tupS),.lst ((upN T u (srT (T u++[o])) 1).map tupS)])) (P u) (keptO K cKeptSets (M u) (srT (T u++[o])))) ((supd_ne (aZ (NE.pt u hu))).trans supd_same) supd_same fun b h1 h2=>(supd_ne h2).trans (supd_ne h1);generalize supd (supd S12 pt (.lst [D.lst ((upN T u (srT (T u++[o])) 0).map tupS),.lst ((upN T u (srT (T u++[o])) 1).map tupS)])) (P u) (keptO K cKeptSets (M u) (srT (T u++[o])))=S13 at st3;have okF:=told_okF hC su ku.len (M u) o;refine⟨_,_,st3.th,at2 (fun i=>D.lst ((upN T u (srT (T u++[o])) i).map tupS)) hu,_,_,rfl,at2 (fun i=>D.int (M i)) hu,srT (T u++[o]),M u,o,by rw[upN_same],ku,mu.1,mu.2,o6,?_⟩
     refine⟨⟨_,st3.hd⟩,_,rfl,okF.1,okF.2,z9999 (by show 2<=9999;decide),_,st3.hd,by rw[aj,bu];have:=st3.hl;omega,?_⟩
     exact tail38_ok (st3.add NE okF) NE hC hM (by omega) fun hs _ _ _ S' s=>hN8 _ _ ⟨_,_,_,_,_,_,_,_,_,rfl,s.mono (by omega)⟩
   ·rintro Γ S10 ⟨T,hs,x8,x9,x10,x11,x12,x13,x14,rfl,st⟩;refine⟨trivial,_,st.hd,loop_ind (fun i acc S'=>S'=S10/\acc=[]) ⟨rfl,rfl⟩ ?_ ?_⟩
    ·rintro k y acc S' N9 hy ⟨rfl,rfl⟩ hN9;rw[bv,fb] at hy;obtain⟨d,hd,rfl⟩:=hy;have ok:=st.hok d (bz hd);refine⟨st.hd,rfl,rfl,d,rfl,ok.1,ok.2,rfl,false,tsn_f rfl,hN9 _ _ ⟨rfl,rfl⟩⟩
    ·rintro acc S' ⟨rfl,rfl⟩;exact⟨st.hd,z9999 (by decide),rfl,false,tsn_f rfl,hN _ _ ⟨_,_,_,_,_,_,_,_,_,_,_,_,_,rfl,st.dk⟩⟩
  ·rintro Γ S2 ⟨x2,x3,x4,x5,x6,x7,x8,x9,x10,x11,x12,x13,x14,rfl,dk2⟩;exact⟨trivial,rt_same (q _)⟩
end
end Toy
set_option maxHeartbeats 4000000
namespace Toy
open PySem L2
theorem fin {l:j0} {w:aK} {K:ao} {h:aW} {mg:Str->Option ae} {fa f3:Addr} (X:K.In h) (G:h.Ns aO mg) (hfa:mg "law" = some (.ref fa)) (B:Bs mg) {cNoSet:Addr} (eNoSet:bq K aO "NoSet" = some (some (.ref cNoSet))) {cKeptSets:Addr} (eKeptSets:bq K aO "KeptSets" = some (some (.ref cKeptSets))) {nm_NoSet qn_NoSet:Str} {n_NoSet:Addr} {dd_NoSet:Option Addr} {bs_NoSet bm_NoSet sub_NoSet:List ae} {hd_NoSet ab_NoSet:Bool} {sn_NoSet:List Str} {col_NoSet:Option Bool} {ka_NoSet kb_NoSet kc_NoSet kd_NoSet ke_NoSet:Option ae} (lNoSet:K.lookup cNoSet=some (PySem.excClassObj nm_NoSet qn_NoSet cNoSet n_NoSet bs_NoSet bm_NoSet hd_NoSet sn_NoSet sub_NoSet ab_NoSet col_NoSet dd_NoSet ka_NoSet kb_NoSet kc_NoSet kd_NoSet ke_NoSet "ValueError.__new__")) (qNoSet:kA K cNoSet [.type "ValueError",.type "Exception",.type "BaseException",.type "object"] "ValueError.__new__" = true) (ZKeptSets:Cls K cKeptSets) (AKeptSets_many:NoAttr K cKeptSets "many") (AKeptSets_sets:NoAttr K cKeptSets "sets") (BR:mg "repr" = none) (K1KeptSets:fX K cKeptSets=true) (K2KeptSets:cF K (.ref cKeptSets)=true)
  (T1:Tx K mg "without_names" s_without_names) (T2:Tx K mg "choices_of" s_choices_of) (T3:Tx K mg "core_of" s_core_of) (T4:Tx K mg "names_of_all" s_names_of_all) (T5:Tx K mg "first_flower" s_first_flower) (T6:Tx K mg "flowers_of" s_flowers_of) (T7:TxM K cKeptSets "__init__" "KeptSets.__init__" s_KeptSets_init) (T8:TxM K cKeptSets "put_set" "KeptSets.put_set" s_KeptSets_put_set) (T9:TxM K cKeptSets "take_set" "KeptSets.take_set" s_KeptSets_take_set) (T10:TxM K cKeptSets "sets_now" "KeptSets.sets_now" s_KeptSets_sets_now) (T11:TxM K cKeptSets "has_flower" "KeptSets.has_flower" s_KeptSets_has_flower) (T12:Tx K mg "_law_deck" s_law_deck) (T13:Tx K mg "_law_take" s_law_take) (T14:Tx K mg "_law_names" s_law_names) (T15:Tx K mg "_law_shuffled" s_law_shuffled) (T16:Tx K mg "_law_set" s_law_set) (T17:Tx K mg "_law_planted" s_law_planted) (T18:Tx K mg "_law_collection" s_law_collection) (T19:Tx K mg "_law_joins" s_law_joins) (T20:Tx K mg "_law_first" s_law_first) (T21:Tx K mg "_law_flower_right" s_law_flower_right)
  {od3 an3:Option Addr} {sl3:Array (Option ae)} {oc3 kV3 dc3 pm3 cd3 ct3:ae}
  (a3:bq K aO "law" = some (some (.ref f3))) (l3:K.lookup f3=some ⟨oc3,od3,.func (dU "law" "law" (defArgs s_law) (defBody s_law) (defScope s_law) .none kV3 dc3 pm3 an3 cd3 ct3),sl3⟩) (c3:fE K cd3 "law" = true) (k3:cF K (.ref f3)=true) :
  ∃ fd:cC,(∀ (s:ai) (v:ae),BindsTo s fd ⟨[v],[]⟩ [("script",v)])/\∀ base:aW,K.In base->base.Ns aO mg->FnOk l.prog w K mg base CX0 50 fa fd ["script"] (spU K (spLawD 63)):=by
 have e:=hfa.symm.trans (gU X G a3);cases e;refine⟨dU "law" "law" (defArgs s_law) (defBody s_law) (defScope s_law) .none kV3 dc3 pm3 an3 cd3 ct3,fun s v=>.of_eq rfl,fun base XB GB=>?_⟩;have F3:=fun_mk (st:=s_law) l3 c3 k3;have MNoSet:=gU X G eNoSet;have ONoSet:=own_at XB GB eNoSet lNoSet qNoSet;have MKeptSets:=gU X G eKeptSets;have d_law_deck:=ok_law_deck (P:=l.prog) (w:=w) (base:=base) T12 B;have d_law_take:=ok_law_take (P:=l.prog) (w:=w) (base:=base) T13 B;have d_law_names:=ok_law_names (P:=l.prog) (w:=w) (base:=base) T14 B (d_law_take.mono (by decide))
 have d_law_shuffled:=ok_law_shuffled (P:=l.prog) (w:=w) (base:=base) T15 B (d_law_take.mono (by decide))
 have d_law_planted:=ok_law_planted (P:=l.prog) (w:=w) (base:=base) T17 B (d_law_take.mono (by decide)) (d_law_shuffled.mono (by decide))
 have d_law_set:=ok_law_set (P:=l.prog) (w:=w) (base:=base) T16 B (d_law_take.mono (by decide)) (d_law_shuffled.mono (by decide))
 have d_law_collection:=ok_law_collection (P:=l.prog) (w:=w) (base:=base) T18 B (d_law_take.mono (by decide)) (d_law_names.mono (by decide)) (d_law_planted.mono (by decide)) (d_law_set.mono (by decide)) (d_law_shuffled.mono (by decide))
 have d_law_joins:=ok_law_joins (P:=l.prog) (w:=w) (base:=base) T19 B;have d_law_first:=ok_law_first (P:=l.prog) (w:=w) (base:=base) T20 B (d_law_joins.mono (by decide))
 have d_law_flower_right:=ok_law_flower_right (P:=l.prog) (w:=w) (base:=base) T21 B (d_law_joins.mono (by decide)) (d_law_first.mono (by decide))
 have d_KeptSets_init:=ok_KeptSets_init (P:=l.prog) (w:=w) (base:=base) T7 B ZKeptSets AKeptSets_many AKeptSets_sets;have d_choices_of:=ok_choices_of (P:=l.prog) (w:=w) (base:=base) T2 B;have d_names_of_all:=ok_names_of_all (P:=l.prog) (w:=w) (base:=base) T4 B;have d_without_names:=ok_without_names (P:=l.prog) (w:=w) (base:=base) T1 B;have d_core_of:=ok_core_of (P:=l.prog) (w:=w) (base:=base) T3 B (d_names_of_all.mono (by decide)) (d_without_names.mono (by decide))
 have d_flowers_of:=ok_flowers_of (P:=l.prog) (w:=w) (base:=base) T6 B (d_choices_of.mono (by decide)) (d_core_of.mono (by decide))
 have d_KeptSets_put_set:=ok_KeptSets_put_set (P:=l.prog) (w:=w) (base:=base) T8 B ONoSet ZKeptSets AKeptSets_many AKeptSets_sets (d_flowers_of.mono (by decide))
 have d_KeptSets_take_set:=ok_KeptSets_take_set (P:=l.prog) (w:=w) (base:=base) T9 B ONoSet ZKeptSets AKeptSets_sets;have d_KeptSets_sets_now:=ok_KeptSets_sets_now (P:=l.prog) (w:=w) (base:=base) T10 B ZKeptSets AKeptSets_sets;have d_first_flower:=ok_first_flower (P:=l.prog) (w:=w) (base:=base) T5 B (d_flowers_of.mono (by decide))
 have d_KeptSets_has_flower:=ok_KeptSets_has_flower (P:=l.prog) (w:=w) (base:=base) T11 B ZKeptSets AKeptSets_many AKeptSets_sets (d_first_flower.mono (by decide))
 exact ok_law F3 B BR MKeptSets K1KeptSets K2KeptSets ZKeptSets (d_law_deck.mono (by decide)) (d_law_take.mono (by decide)) (d_law_collection.mono (by decide)) (d_law_first.mono (by decide)) (d_law_flower_right.mono (by decide)) (d_KeptSets_init.mono (by decide)) (d_KeptSets_put_set.mono (by decide)) (d_KeptSets_take_set.mono (by decide)) (d_KeptSets_sets_now.mono (by decide)) (d_KeptSets_has_flower.mono (by decide))
end Toy
namespace PySem.W.Fast
theorem tw13499898017147609290:True:=⟨⟩
theorem tw15251305298783189159:True:=⟨⟩
theorem tw6060308008305787029:True:=⟨⟩
theorem tw1664805142180848649:True:=⟨⟩
theorem tw13982148108354820200:True:=⟨⟩
theorem tw17173608385252298223:True:=⟨⟩
theorem tw6902647849320708229:True:=⟨⟩
theorem tw13603276935230206386:True:=⟨⟩
theorem tw13931638706654270424:True:=⟨⟩
theorem tw1070791958663093096:True:=⟨⟩
theorem tw1344293844204949405:True:=⟨⟩
theorem tw8679186638710272011:True:=⟨⟩
theorem tw2680054083968117190:True:=⟨⟩
theorem tw7367153728092152852:True:=⟨⟩
theorem tw5899014961167664481:True:=⟨⟩
theorem tw124469387936247527:True:=⟨⟩
theorem tw13226869003026310000:True:=⟨⟩
theorem tw4073856885658270919:True:=⟨⟩
theorem tw3463362704632362983:True:=⟨⟩
theorem tw4156350210496251970:True:=⟨⟩
theorem tw8000926877665846909:True:=⟨⟩
theorem tw2751026328456593532:True:=⟨⟩
theorem tw8139392639723607610:True:=⟨⟩
theorem tw87994120045613215:True:=⟨⟩
theorem tw6663790302620535004:True:=⟨⟩
theorem tw10553926944346208942:True:=⟨⟩
theorem tw16555900499237593390:True:=⟨⟩
theorem tw9532403159332944020:True:=⟨⟩
theorem tw16326225618249925074:True:=⟨⟩
theorem tw14970530909627163838:True:=⟨⟩
theorem tw2277312563884676853:True:=⟨⟩
theorem tw5388403547898756513:True:=⟨⟩
theorem tw7509823914726604592:True:=⟨⟩
theorem tw13574069726953209404:True:=⟨⟩
theorem tw16698737201410976794:True:=⟨⟩
theorem tw14566472650337601585:True:=⟨⟩
theorem tw10548081951440910196:True:=⟨⟩
theorem tw13344338033499809356:True:=⟨⟩
theorem tw9248464606741696631:True:=⟨⟩
theorem tw8753308782378206617:True:=⟨⟩
theorem tw789097987825861727:True:=⟨⟩
theorem tw1272649085778658685:True:=⟨⟩
theorem tw1251114399350682138:True:=⟨⟩
theorem tw8558729171645193646:True:=⟨⟩
theorem tw2647537346732288544:True:=⟨⟩
theorem tw10795505171681897974:True:=⟨⟩
theorem tw11898927990412372466:True:=⟨⟩
theorem tw13569664136830375810:True:=⟨⟩
theorem tw11134493451201193157:True:=⟨⟩
theorem tw599183200602954250:True:=⟨⟩
theorem tw2715284311788489901:True:=⟨⟩
theorem tw9588595270664846584:True:=⟨⟩
theorem tw9524736215177902432:True:=⟨⟩
theorem tw3164799716884848682:True:=⟨⟩
theorem tw12885841563898779985:True:=⟨⟩
theorem tw7348944993951854467:True:=⟨⟩
theorem tw448701203675494204:True:=⟨⟩
theorem tw4502454293636304378:True:=⟨⟩
theorem tw12264533644956017030:True:=⟨⟩
end PySem.W.Fast
open PySem PySem.W PyProof.Rows
set_option maxRecDepth 100000 in
set_option maxHeartbeats 0 in
theorem PySem.Challenge.cw_corepetals_k38_kept_sets_held_holds : PySem.Challenge.rw_corepetals_k38_kept_sets_held.Holds := by
 w_on;o_law;k_head;(case hw=>w_witness2)
 k_fill
 refine L2.walkD (l:=PySem.Challenge.rw_corepetals_k38_kept_sets_held) rfl rfl (fun w h Y=>PySem.W.kIn_of Y) ?F
 case F =>
  intro w mg fa h KX G hmg;have B:L2.Bs mg:=by
   refine' L2.bs_mk KX G (L2.bs_all ?z1 ?z2 ?z3 ?z4 ?z5 ?z6 ?z7 ?z8 ?z9 ?z10 ?z11 ?z12 ?z13 ?z14 ?z15 ?z16 ?z17) <;> k_is
  have BR:mg "repr" = none:=by
   refine' PySem.W.mg_none_of KX G ?zrp
   k_is
  have T1:L2.Tx (L2.KOf KX) mg "without_names" Toy.s_without_names:=by
   dsimp only[L2.KOf];exact L2.tx_mk KX G (by k_is) (by k_is) (by k_is) (by k_is)
  have T2:L2.Tx (L2.KOf KX) mg "choices_of" Toy.s_choices_of:=by
   dsimp only[L2.KOf];exact L2.tx_mk KX G (by k_is) (by k_is) (by k_is) (by k_is)
  have T3:L2.Tx (L2.KOf KX) mg "core_of" Toy.s_core_of:=by
   dsimp only[L2.KOf];exact L2.tx_mk KX G (by k_is) (by k_is) (by k_is) (by k_is)
  have T4:L2.Tx (L2.KOf KX) mg "names_of_all" Toy.s_names_of_all:=by
   dsimp only[L2.KOf];exact L2.tx_mk KX G (by k_is) (by k_is) (by k_is) (by k_is)
  have T5:L2.Tx (L2.KOf KX) mg "first_flower" Toy.s_first_flower:=by
   dsimp only[L2.KOf];exact L2.tx_mk KX G (by k_is) (by k_is) (by k_is) (by k_is)
  have T6:L2.Tx (L2.KOf KX) mg "flowers_of" Toy.s_flowers_of:=by
   dsimp only[L2.KOf];exact L2.tx_mk KX G (by k_is) (by k_is) (by k_is) (by k_is)
  have T12:L2.Tx (L2.KOf KX) mg "_law_deck" Toy.s_law_deck:=by
   dsimp only[L2.KOf];exact L2.tx_mk KX G (by k_is) (by k_is) (by k_is) (by k_is)
  have T13:L2.Tx (L2.KOf KX) mg "_law_take" Toy.s_law_take:=by
   dsimp only[L2.KOf];exact L2.tx_mk KX G (by k_is) (by k_is) (by k_is) (by k_is)
  have T14:L2.Tx (L2.KOf KX) mg "_law_names" Toy.s_law_names:=by
   dsimp only[L2.KOf];exact L2.tx_mk KX G (by k_is) (by k_is) (by k_is) (by k_is)
  have T15:L2.Tx (L2.KOf KX) mg "_law_shuffled" Toy.s_law_shuffled:=by
   dsimp only[L2.KOf];exact L2.tx_mk KX G (by k_is) (by k_is) (by k_is) (by k_is)
  have T16:L2.Tx (L2.KOf KX) mg "_law_set" Toy.s_law_set:=by
   dsimp only[L2.KOf];exact L2.tx_mk KX G (by k_is) (by k_is) (by k_is) (by k_is)
  have T17:L2.Tx (L2.KOf KX) mg "_law_planted" Toy.s_law_planted:=by
   dsimp only[L2.KOf];exact L2.tx_mk KX G (by k_is) (by k_is) (by k_is) (by k_is)
  have T18:L2.Tx (L2.KOf KX) mg "_law_collection" Toy.s_law_collection:=by
   dsimp only[L2.KOf];exact L2.tx_mk KX G (by k_is) (by k_is) (by k_is) (by k_is)
  have T19:L2.Tx (L2.KOf KX) mg "_law_joins" Toy.s_law_joins:=by
   dsimp only[L2.KOf];exact L2.tx_mk KX G (by k_is) (by k_is) (by k_is) (by k_is)
  have T20:L2.Tx (L2.KOf KX) mg "_law_first" Toy.s_law_first:=by
   dsimp only[L2.KOf];exact L2.tx_mk KX G (by k_is) (by k_is) (by k_is) (by k_is)
  have T21:L2.Tx (L2.KOf KX) mg "_law_flower_right" Toy.s_law_flower_right:=by
   dsimp only[L2.KOf];exact L2.tx_mk KX G (by k_is) (by k_is) (by k_is) (by k_is)
  refine' Toy.fin KX G hmg B ?eNoSet ?eKeptSets ?lNoSet ?qNoSet ?hZKeptSets ?hAKeptSets_many ?hAKeptSets_sets BR ?hK1KeptSets ?hK2KeptSets T1 T2 T3 T4 T5 T6 ?T7 ?T8 ?T9 ?T10 ?T11 T12 T13 T14 T15 T16 T17 T18 T19 T20 T21 ?a ?l ?c ?k
  (case eNoSet=>k_is)
  (case eKeptSets=>k_is)
  (case lNoSet=>k_is)
  (case qNoSet=>k_exc)
  (case hZKeptSets=>exact⟨by k_is,by k_is,by k_is,by k_is⟩)
  (case hAKeptSets_many=>(unfold L2.NoAttr;k_is))
  (case hAKeptSets_sets=>(unfold L2.NoAttr;k_is))
  (case hK1KeptSets=>k_is)
  (case hK2KeptSets=>k_is)
  (case T7=>exact L2.txm_mk (by k_is) (by k_is) (by k_is) (by k_is) (by k_is))
  (case T8=>exact L2.txm_mk (by k_is) (by k_is) (by k_is) (by k_is) (by k_is))
  (case T9=>exact L2.txm_mk (by k_is) (by k_is) (by k_is) (by k_is) (by k_is))
  (case T10=>exact L2.txm_mk (by k_is) (by k_is) (by k_is) (by k_is) (by k_is))
  (case T11=>exact L2.txm_mk (by k_is) (by k_is) (by k_is) (by k_is) (by k_is))
  (case a=>k_is);(case l=>k_is);(case c=>k_is);(case k=>k_is)
